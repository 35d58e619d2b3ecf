import PyProof.Rows.All
import Wide.All
import OpenK.AllK
import Wide.FinOn
import Lean
import PyProof.EqAt
import PyProof.EqKinds
import PyProof.TupleCall
import KE.KIntText
import KE.KDictList
import KE.KDictOf
import PyProof.AttrMissHeap
import PyProof.DictUpdate
import PyProof.ToksMono
import PyProof.NeKinds
import PyProof.EnumFor
import PyProof.EnumStmt
import PyProof.EnumMake
import KE.KRevIter
import PyProof.StrOps2
import PyProof.ZipIter
import PyProof.SumWalkG
import KE.KMinKey
import PySem.Challenge.RW_poolrules_k36_all_that_stays
set_option Elab.async false
set_option linter.all false
set_option maxRecDepth 100000
theorem Lm9 {α : Type _} {β : Type _} {as : List α} (f : α → β) : (as.map f).length = as.length := List.length_map f
theorem Ge9 {α : Type _} {l : List α} {i : Nat} (h : i < l.length) : l[i]? = some l[i] := List.getElem?_eq_getElem h
theorem Gd9 {α : Type _} {l : List α} {i : Nat} {a : α} : l.getD i a = (l[i]?).getD a := List.getD_eq_getElem?_getD
namespace L2
open PySem PySem.Spec PyProof.Rows
abbrev Key := Sum Int Str
def w9 : Key → Value → Bool
 | .inl k, v => Value.isInt k v
 | .inr x, v => Value.isStrOf x v
def Vi (w : World) : Key → Int
 | .inl k => hashInt k
 | .inr x => hashStr w x
theorem bS : ∀ {k : Key} {v : Value}, w9 k v = true → (∃ i t, k = Sum.inl i ∧ v = Value.int i t) ∨ (∃ x t, k = Sum.inr x ∧ v = Value.str x t)
 | .inl i, v, h => by
  obtain ⟨t, e⟩ := Value.isInt_shape (k := i) (v := v) h
  exact .inl ⟨i, t, rfl, e⟩
 | .inr x, v, h => by
  obtain ⟨t, e⟩ := Value.isStrOf_shape (x := x) (v := v) h
  exact .inr ⟨x, t, rfl, e⟩
theorem Gp (i : Int) (t : Tok) : w9 (.inl i) (.int i t) = true := by simp [w9, Value.isInt]
theorem Gq (x : Str) (t : Tok) : w9 (.inr x) (.str x t) = true := by simp [w9, Value.isStrOf]
theorem NY (a b : Int) : decide ((Sum.inl a : Key) = Sum.inl b) = (a == b) := by
 by_cases e : a = b
 ·subst e; simp
 ·have h : ¬ (Sum.inl a : Key) = Sum.inl b := fun q => e (Sum.inl.inj q)
  rw [decide_eq_false h]
  exact (beq_eq_false_iff_ne.mpr e).symm
theorem NZ (a b : Str) : decide ((Sum.inr a : Key) = Sum.inr b) = decide (a = b) := by
 by_cases e : a = b
 ·subst e; simp
 ·have h : ¬ (Sum.inr a : Key) = Sum.inr b := fun q => e (Sum.inr.inj q)
  rw [decide_eq_false h, decide_eq_false e]
theorem N0 (a : Int) (b : Str) : decide ((Sum.inl a : Key) = Sum.inr b) = false := decide_eq_false (fun q => nomatch q)
theorem N1 (a : Str) (b : Int) : decide ((Sum.inr a : Key) = Sum.inl b) = false := decide_eq_false (fun q => nomatch q)
def bE (prog : Program) (w : World) : PySem.KeyKind prog w Key where
 is := w9
 hash := Vi w
 inj := fun v a b ha hb => by
  rcases bS ha with ⟨i, t, rfl, rfl⟩ | ⟨x, t, rfl, rfl⟩
  ·rcases bS hb with ⟨j, u, rfl, e⟩ | ⟨y, u, rfl, e⟩
   ·injection e with e1 _; rw [e1]
   ·exact nomatch e
  ·rcases bS hb with ⟨j, u, rfl, e⟩ | ⟨y, u, rfl, e⟩
   ·exact nomatch e
   ·injection e with e1 _; rw [e1]
 byValue := fun k v h => by
  rcases bS h with ⟨i, t, rfl, rfl⟩ | ⟨x, t, rfl, rfl⟩ <;> rfl
 pyHash := fun hv h => by
  rcases bS hv with ⟨i, t, rfl, rfl⟩ | ⟨x, t, rfl, rfl⟩
  ·exact wpAny_pyHash_int h
  ·exact wpAny_pyHash_str h
 eqBool := fun hu hv h => by
  rcases bS hu with ⟨i, t, rfl, rfl⟩ | ⟨x, t, rfl, rfl⟩
  ·rcases bS hv with ⟨j, u, rfl, rfl⟩ | ⟨y, u, rfl, rfl⟩
   ·rw [NY] at h; exact wpAny_eqBool_int h
   ·rw [N0] at h; exact SeqAt.EqAt.int_str i t y u _ _ _ _ h
  ·rcases bS hv with ⟨j, u, rfl, rfl⟩ | ⟨y, u, rfl, rfl⟩
   ·rw [N1] at h; exact SeqAt.EqAt.str_int x t j u _ _ _ _ h
   ·rw [NZ] at h; exact wpAny_eqBool_str h
 «strs» := fun k x t v h => by
  rcases bS h with ⟨i, u, rfl, e⟩ | ⟨y, u, rfl, e⟩
  ·exact nomatch e
  ·injection e with e1 _
   subst e1
   cases v <;> rfl
theorem Bf (prog : Program) (w : World) (i : Int) (t : Tok) : (bE prog w).is (.inl i) (.int i t) = true := Gp i t
theorem Bg (prog : Program) (w : World) (x : Str) (t : Tok) : (bE prog w).is (.inr x) (.str x t) = true := Gq x t
end L2
namespace L2
open PySem PySem.Spec PyProof.Rows
inductive V where
 | cL | bl (b : Bool) | int (i : Int) | str (x : Str) | HY (b : Array UInt8) | Qa (b : UInt64) | ref (a : Addr) | ty (n : String)
 deriving DecidableEq
def RelV : V → Value → Prop
 | .cL, u => u = Value.none
 | .bl b, u => u = Value.bool b
 | .int i, u => ∃ t, u = Value.int i t
 | .str x, u => ∃ t, u = Value.str x t
 | .HY b, u => ∃ t, u = Value.bytes b t
 | .Qa b, u => ∃ t, u = Value.float b t
 | .ref a, u => u = Value.ref a
 | .ty n, u => u = Value.type n
abbrev Vals : List V → List Value → Prop := Paired RelV
theorem Vals.length {xs : List V} {us : List Value} (r : Vals xs us) : xs.length = us.length := Paired.length r
theorem Vals.get : ∀ {xs : List V} {us : List Value} {i : Nat} {x : V}, Vals xs us → xs[i]? = some x → ∃ u, us[i]? = some u ∧ RelV x u
 | _, _, _, _, .nil, e => by simp at e
 | _, _, 0, _, .cons r _, e => by simp at e; subst e; exact ⟨_, rfl, r⟩
 | _, _, i + 1, x, .cons _ t, e => by
  obtain ⟨u, h1, h2⟩ := Vals.get (i := i) (x := x) t (by simpa using e)
  exact ⟨u, by simpa using h1, h2⟩
theorem Vals.set {x : V} {u : Value} (r : RelV x u) : ∀ {xs : List V} {us : List Value} (i : Nat), Vals xs us → Vals (xs.set i x) (us.set i u)
 | _, _, _, .nil => .nil
 | _, _, 0, .cons _ t => .cons r t
 | _, _, i + 1, .cons q t => .cons q (Vals.set r i t)
theorem Vals.append : ∀ {xs ys : List V} {us ws : List Value}, Vals xs us → Vals ys ws → Vals (xs ++ ys) (us ++ ws)
 | _, _, _, _, .nil, s => s
 | _, _, _, _, .cons r t, s => .cons r (Vals.append t s)
theorem Vals.take : ∀ {xs : List V} {us : List Value} (n : Nat), Vals xs us → Vals (xs.take n) (us.take n)
 | _, _, 0, _ => .nil
 | _, _, _ + 1, .nil => .nil
 | _, _, n + 1, .cons r t => .cons r (Vals.take n t)
theorem Vals.drop : ∀ {xs : List V} {us : List Value} (n : Nat), Vals xs us → Vals (xs.drop n) (us.drop n)
 | _, _, 0, r => r
 | _, _, _ + 1, .nil => .nil
 | _, _, n + 1, .cons _ t => Vals.drop n t
theorem Vals.none_of : ∀ {xs : List V} {us : List Value} {i : Nat}, Vals xs us → xs[i]? = none → us[i]? = none := fun {xs us i} r e => by
 have h1 := r.length
 have h2 : xs.length ≤ i := List.getElem?_eq_none_iff.mp e
 exact List.getElem?_eq_none_iff.mpr (by omega)
def kJ : Option V → Option Value → Prop
 | some v, some u => RelV v u
 | none, none => True
 | _, _ => False
def KV {κ : Type} : List (κ × V) → List (κ × Value) → Prop := Paired fun (p : κ × V) (q : κ × Value) => p.1 = q.1 ∧ RelV p.2 q.2
def kV : Key → V
 | .inl i => .int i
 | .inr x => .str x
inductive HO where
 | lst (xs : List V)
 | tup (xs : List V)
 | dK (kvs : List (Key × V)) | dT (kvs : List (List Key × V))
 | set (S : Int → Bool) (n : Nat)
 | ins (C dx : Addr) (fs : List (Str × V))
 | own (x : Addr)
 | xd (fs : List (Str × V))
 | met (f x : Addr)
 | Vj (lo hi : Int)
 | vH (o : Obj) (u : HO)
 | N2 (ps : Array Value)
 | ext (φ : Heap → Prop)
abbrev Hp := Addr → Option HO
def upd (H : Hp) (a : Addr) (o : HO) : Hp := fun b => if b = a then some o else H b
theorem ae {H : Hp} {a : Addr} {o : HO} : upd H a o a = some o := by unfold upd; rw [if_pos rfl]
theorem aq {H : Hp} {a b : Addr} {o : HO} (h : b ≠ a) : upd H a o b = H b := by unfold upd; rw [if_neg h]
theorem Bh {H : Hp} {a b : Addr} {o u : HO} (h : H a = some o) (h' : H b = some u) (d : o ≠ u) : a ≠ b := by
 intro e; subst e; rw [h] at h'; exact d (Option.some.inj h')
theorem aH {H : Hp} {a b : Addr} {o : HO} (h : H a = some o) (h' : H b = none) : a ≠ b := by
 intro e; subst e; rw [h] at h'; cases h'
section
variable (P : Program) (w : World)
def cQ (H : Hp) (h : Heap) (a : Addr) : HO → Prop
 | .lst xs => xs.length ≤ sizeLine ∧ ∃ (its : List Value) (n : Nat), Vals xs its ∧ h.get? a = some { cls := .type "list", data := .seq its.toArray n }
 | .tup xs => xs.length ≤ sizeLine ∧ ∃ its : List Value, Vals xs its ∧ IsTup h a its.toArray
 | .dK kvs => kvs.length ≤ sizeLine ∧ (a == sysModules) = false ∧ ∃ vs, KV kvs vs ∧ h.DictOf (bE P w) a vs
 | .dT kvs => kvs.length ≤ sizeLine ∧ (a == sysModules) = false ∧ ∃ xs : List (List Key × Addr × Value),
   Paired (fun (p : List Key × V) (q : List Key × Addr × Value) => p.1 = q.1 ∧ H q.2.1 = some (.tup (p.1.map kV)) ∧ RelV p.2 q.2.2) kvs xs ∧
   ∃ o es ep, h.get? a = some o ∧ o.ExactDict ∧ o.data = .dict es ep ∧ es.toList = xs.map (entryOfKey (tupleKind (bE P w))) ∧ (xs.map (·.1)).Nodup
 | .set S n => h.SetOf (intKind P w) a S n
 | .ins C dx fs => H dx = some (.own a) ∧ fs.length ≤ 1000 ∧ dx ≠ a ∧ h.get? a = some (PySem.W.instObj C dx) ∧
   ∃ mA, h.Ns1 dx mA ∧ (∀ f, kJ (fs.lookup f) (mA f)) ∧ PySem.Within mA (fs.map (·.1))
 | .own _ => ∃ o, h.get? a = some o
 | .xd fs => ∃ mA, h.Ns1 a mA ∧ ∀ f, kJ (fs.lookup f) (mA f)
 | .Vj lo hi => ∃ t u v, h.get? a = some { cls := .type "range", data := .fields #[.int lo t, .int hi u, .int 1 v] }
 | .vH o u => h.get? a = some o ∧ cQ H h a u
 | .N2 ps => h.get? a = some { cls := .none, data := .fields ps }
 | .met f x => h.get? a = some (PySem.W.methodObj (.ref f) (.ref x))
 | .ext φ => φ h ∧ (∃ o, h.get? a = some o) ∧ ∀ h1 h2 : Heap, φ h1 → (∀ o, h1.get? a = some o → h2.get? a = some o) → φ h2
def mY (H : Hp) (h : Heap) : Prop := ∀ a o, H a = some o → cQ P w H h a o
end
section
variable {P : Program} {w : World} {H H' : Hp} {h h' : Heap} {a : Addr} {o : HO}
theorem cQ.lt (x : cQ P w H h a o) : a < h.objs.size := by
 cases o with
 | lst xs => obtain ⟨_, _, _, _, e⟩ := x; exact Heap.lt_size e
 | tup xs => obtain ⟨_, _, _, p⟩ := x; exact p.lt
 | dK kvs => obtain ⟨_, _, _, _, o, _, _, e, _⟩ := x; exact Heap.lt_size e
 | dT kvs => obtain ⟨_, _, _, _, o, _, _, e, _⟩ := x; exact Heap.lt_size e
 | set S n => obtain ⟨o, _, _, _, e, _⟩ := x; exact Heap.lt_size e
 | ins C dx fs => obtain ⟨_, _, _, e, _⟩ := x; exact Heap.lt_size e
 | own y => obtain ⟨_, e⟩ := x; exact Heap.lt_size e
 | xd fs => obtain ⟨_, ⟨_, _, _, e, _⟩, _⟩ := x; exact Heap.lt_size e
 | Vj lo hi => obtain ⟨_, _, _, e⟩ := x; exact Heap.lt_size e
 | vH ob u => obtain ⟨e, _⟩ := x; exact Heap.lt_size e
 | N2 ps => exact Heap.lt_size (show h.get? a = some _ from x)
 | met f y => exact Heap.lt_size (show h.get? a = some _ from x)
 | ext φ => obtain ⟨_, ⟨_, e⟩, _⟩ := x; exact Heap.lt_size e
theorem Paired.bY {α β : Type} {F G : α → β → Prop} : ∀ {l₁ : List α} {l₂ : List β}, Paired F l₁ l₂ → (∀ a b, F a b → G a b) → Paired G l₁ l₂
 | _, _, .nil, _ => .nil
 | _, _, .cons r t, f => .cons (f _ _ r) (Paired.bY t f)
theorem cQ.b7 (x : cQ P w H h a o) (k : ∀ b u, (b = a ∨ H b = some (.own a)) → h.get? b = some u → h'.get? b = some u)
  (ho : ∀ b, H b = some (.own a) → H' b = some (.own a)) (ht : ∀ b xs, H b = some (.tup xs) → H' b = some (.tup xs)) : cQ P w H' h' a o := by
 induction o with
 | lst xs => obtain ⟨z, its, n, r, e⟩ := x; exact ⟨z, its, n, r, k _ _ (.inl rfl) e⟩
 | tup xs => obtain ⟨z, its, r, ob, e, c⟩ := x; exact ⟨z, its, r, ob, k _ _ (.inl rfl) e, c⟩
 | dK kvs => obtain ⟨z, y, vs, r, ob, es, ep, e, c⟩ := x; exact ⟨z, y, vs, r, ob, es, ep, k _ _ (.inl rfl) e, c⟩
 | dT kvs =>
  obtain ⟨z, y, xs, r, ob, es, ep, e, c⟩ := x
  exact ⟨z, y, xs, Paired.bY r fun p q z => ⟨z.1, ht _ _ z.2.1, z.2.2⟩, ob, es, ep, k _ _ (.inl rfl) e, c⟩
 | set S n => obtain ⟨ob, es, ep, t, e, c⟩ := x; exact ⟨ob, es, ep, t, k _ _ (.inl rfl) e, c⟩
 | ins C dx fs =>
  obtain ⟨d, z, ne, e, mA, ⟨od, es, ep, e2, c⟩, r⟩ := x
  exact ⟨ho _ d, z, ne, k _ _ (.inl rfl) e, mA, ⟨od, es, ep, k _ _ (.inr d) e2, c⟩, r⟩
 | own y => obtain ⟨ob, e⟩ := x; exact ⟨ob, k _ _ (.inl rfl) e⟩
 | xd fs => obtain ⟨mA, ⟨od, es, ep, e, c⟩, r⟩ := x; exact ⟨mA, ⟨od, es, ep, k _ _ (.inl rfl) e, c⟩, r⟩
 | Vj lo hi => obtain ⟨t, u, v, e⟩ := x; exact ⟨t, u, v, k _ _ (.inl rfl) e⟩
 | vH ob u ih => obtain ⟨e, q⟩ := x; exact ⟨k _ _ (.inl rfl) e, ih q⟩
 | N2 ps =>
  have e : h.get? a = some { cls := .none, data := .fields ps } := x
  show h'.get? a = some { cls := .none, data := .fields ps }
  exact k a _ (.inl rfl) e
 | met f y =>
  have e : h.get? a = some (PySem.W.methodObj (.ref f) (.ref y)) := x
  show h'.get? a = some (PySem.W.methodObj (.ref f) (.ref y))
  exact k a _ (.inl rfl) e
 | ext φ => obtain ⟨p, ⟨o, e⟩, st⟩ := x; exact ⟨st _ _ p fun o q => k _ _ (.inl rfl) q, ⟨o, k _ _ (.inl rfl) e⟩, st⟩
theorem mY.lt (x : mY P w H h) (e : H a = some o) : a < h.objs.size := (x a o e).lt
theorem mY.fresh (x : mY P w H h) (e : h.objs.size ≤ a) : H a = none := by
 cases q : H a with
 | none => rfl
 | some u => exact absurd (Nat.lt_of_lt_of_le (x.lt q) e) (Nat.lt_irrefl _)
theorem mY.kept (x : mY P w H h) (k : ∀ b u, h.get? b = some u → h'.get? b = some u) : mY P w H h' := fun a o e =>
 (x a o e).b7 (fun b u _ q => k b u q) (fun _ q => q) fun _ _ q => q
theorem mY.laid (x : mY P w H h) (k : ∀ b u, h.get? b = some u → h'.get? b = some u) (hp : h.objs.size ≤ a) (new : cQ P w (upd H a o) h' a o) : mY P w (upd H a o) h' := fun b u e => by
 have hn := x.fresh hp
 by_cases hb : b = a
 ·subst hb; rw [ae] at e; cases e; exact new
 ·rw [aq hb] at e
  exact (x b u e).b7 (fun c v _ q => k c v q) (fun c q => by rw [aq (aH q hn)]; exact q) fun c xs q => by rw [aq (aH q hn)]; exact q
end
def Rd (H : Hp) (a : Addr) (u : HO) : Prop := H a = some u ∨ ∃ o, H a = some (.vH o u)
theorem Rd.ok {P : Program} {w : World} {H : Hp} {h : Heap} {a : Addr} {u : HO} (r : Rd H a u) (x : mY P w H h) : cQ P w H h a u := by
 rcases r with r | ⟨o, r⟩
 ·exact x a u r
 ·obtain ⟨_, q⟩ := x a _ r
  exact q
def QA : Option HO → Prop
 | some (.lst _) => True
 | some (.dK _) => True
 | some (.dT _) => True
 | some (.set _ _) => True
 | some (.ins _ _ _) => True
 | some (.ext _) => True
 | _ => False
section
variable {P : Program} {w : World} {H : Hp} {h h' : Heap} {x e : Addr} {o' : HO}
theorem mY.write (ok : mY P w H h) (mu : QA (H x)) (he : e = x ∨ H e = some (.own x)) (k : ∀ b u, b ≠ e → h.get? b = some u → h'.get? b = some u) (Nd : ∃ u, h'.get? e = some u)
  (new : cQ P w (upd H x o') h' x o') : mY P w (upd H x o') h' := fun b u q => by
 have QB : ∀ c y, H c = some (.own y) → c ≠ x := fun c y r z => by subst z; rw [r] at mu; exact mu
 have Vk : ∀ c xs, H c = some (.tup xs) → c ≠ x := fun c xs r z => by subst z; rw [r] at mu; exact mu
 by_cases hb : b = x
 ·subst hb; rw [ae] at q; cases q; exact new
 ·rw [aq hb] at q
  by_cases N3 : b = e
  ·have q' : H b = some (.own x) := by
    rcases he with z | z
    ·exact absurd (N3.trans z) hb
    ·rw [N3]; exact z
   rw [q] at q'; cases q'
   obtain ⟨v, hv⟩ := Nd
   exact ⟨v, by rw [N3]; exact hv⟩
  ·refine (ok b u q).b7 (fun c v hc r => k c v ?_ r) (fun c r => by rw [aq (QB c b r)]; exact r) fun c xs r => by rw [aq (Vk c xs r)]; exact r
   rcases hc with rfl | hc
   ·exact N3
   ·rintro rfl
    rcases he with z | z
    ·exact QB c b hc z
    ·rw [hc] at z; cases z; exact hb rfl
end
structure Un (fs ex : List Addr) (H H' : Hp) (h h' : Heap) : Prop where
 keep : ∀ b o, h.get? b = some o → H b = none → b ∉ fs → b ∉ ex → h'.get? b = some o
 slot : ∀ b o, h.get? b = some o → H b = none → b ∈ fs → b ∉ ex → ∃ sl, h'.get? b = some { o with slots := sl }
 free : ∀ b o, h.get? b = some o → H b = none → b ∉ ex → H' b = none
 there : ∀ b o, h.get? b = some o → b ∉ ex → ∃ o', h'.get? b = some o'
 sS : ∀ b xs, H b = some (.tup xs) → H' b = some (.tup xs)
 rJ : ∀ b o u, H b = some (.vH o u) → H' b = some (.vH o u)
 sT : ∀ b ps, H b = some (.N2 ps) → ∃ more, H' b = some (.N2 (ps ++ more))
section
variable {fs N4 ex ex' : List Addr} {H H1 H2 : Hp} {h h1 h2 h' : Heap} {a x e : Addr} {o : HO}
theorem Un.any (u : Un fs ex H H1 h h1) {b : Addr} {ob : Obj} (q : h.get? b = some ob) (n : H b = none) (hx : b ∉ ex) : ∃ sl, h1.get? b = some { ob with slots := sl } := by
 by_cases hb : b ∈ fs
 ·exact u.slot b ob q n hb hx
 ·exact ⟨ob.slots, u.keep b ob q n hb hx⟩
theorem Un.trans (a : Un fs ex H H1 h h1) (b : Un fs ex H1 H2 h1 h2) : Un fs ex H H2 h h2 where
 keep := fun c ob q n hc hx => b.keep c ob (a.keep c ob q n hc hx) (a.free c ob q n hx) hc hx
 slot := fun c ob q n hc hx => by
  obtain ⟨sl, e1⟩ := a.slot c ob q n hc hx
  obtain ⟨Vl, e2⟩ := b.slot c _ e1 (a.free c ob q n hx) hc hx
  exact ⟨Vl, e2⟩
 free := fun c ob q n hx => by
  obtain ⟨o', e1⟩ := a.there c ob q hx
  exact b.free c o' e1 (a.free c ob q n hx) hx
 there := fun c ob q hx => by
  obtain ⟨o', e1⟩ := a.there c ob q hx
  exact b.there c o' e1 hx
 sS := fun c xs q => b.sS c xs (a.sS c xs q)
 rJ := fun c ob xs q => b.rJ c ob xs (a.rJ c ob xs q)
 sT := fun c ps q => by
  obtain ⟨m1, e1⟩ := a.sT c ps q
  obtain ⟨m2, e2⟩ := b.sT c _ e1
  exact ⟨m1 ++ m2, by rw [e2, Array.append_assoc]⟩
theorem Un.kept (k : ∀ b u, h.get? b = some u → h'.get? b = some u) : Un fs ex H H h h' :=
 ⟨fun b ob q _ _ _ => k b ob q, fun b ob q _ _ _ => ⟨ob.slots, k b ob q⟩, fun _ _ _ n _ => n, fun b ob q _ => ⟨ob, k b ob q⟩, fun _ _ q => q, fun _ _ _ q => q, fun _ ps q => ⟨#[], by rw [q]; simp⟩⟩
theorem Un.refl : Un fs ex H H h h := Un.kept fun _ _ q => q
theorem Un.laid (k : ∀ b u, h.get? b = some u → h'.get? b = some u) (hp : h.objs.size ≤ a) (hn : H a = none) : Un fs ex H (upd H a o) h h' where
 keep := fun b u q _ _ _ => k b u q
 slot := fun b u q _ _ _ => ⟨u.slots, k b u q⟩
 free := fun b u q n _ => by rw [aq (Nat.ne_of_lt (Nat.lt_of_lt_of_le (Heap.lt_size q) hp))]; exact n
 there := fun b u q _ => ⟨u, k b u q⟩
 sS := fun b xs q => by rw [aq (aH q hn)]; exact q
 rJ := fun b u xs q => by rw [aq (aH q hn)]; exact q
 sT := fun b ps q => ⟨#[], by rw [aq (aH q hn), q]; simp⟩
theorem Un.write (mu : QA (H x)) (he : e = x ∨ H e = some (.own x)) (k : ∀ b u, b ≠ e → h.get? b = some u → h'.get? b = some u) (Nd : ∃ u, h'.get? e = some u) : Un fs ex H (upd H x o) h h' := by
 have hx : ∀ b, H b = none → b ≠ x := fun b n z => by subst z; rw [n] at mu; exact mu
 have hb : ∀ b, H b = none → b ≠ e := fun b n z => by
  subst z
  rcases he with r | r
  ·exact hx b n r
  ·rw [n] at r; cases r
 have hm : ∀ b u, H b = some u → ¬ QA (some u) → b ≠ x := fun b u q nm z => by subst z; rw [q] at mu; exact nm mu
 refine ⟨fun b u q n _ _ => k b u (hb b n) q, fun b u q n _ _ => ⟨u.slots, k b u (hb b n) q⟩, fun b u q n _ => by rw [aq (hx b n)]; exact n, fun b u q _ => ?_,
  fun b xs q => by rw [aq (hm b _ q fun z => z)]; exact q, fun b u xs q => by rw [aq (hm b _ q fun z => z)]; exact q, fun b ps q => ⟨#[], by rw [aq (hm b _ q fun z => z), q]; simp⟩⟩
 by_cases N3 : b = e
 ·subst N3; exact Nd
 ·exact ⟨u, k b u N3 q⟩
end
def UD (h : Heap) (H : Hp) : List Addr := (List.range h.objs.size).filter fun a => (H a).isSome
def yc (h : Heap) (H : Hp) : Heap := PySem.W.hideAll h (UD h H)
theorem Gr (h : Heap) (H : Hp) : (yc h H).objs.size = h.objs.size := PySem.W.hideAll_size _ _
theorem Ii {h : Heap} {H : Hp} {b : Addr} {o : Obj} (e : h.get? b = some o) (n : H b = none) : (yc h H).get? b = some o :=
 PySem.W.hideAll_get _ e fun hm => by
  have q : (H b).isSome = true := (List.mem_filter.mp hm).2
  rw [n] at q; simp at q
theorem LF {h : Heap} {H : Hp} {b : Addr} {o : Obj} (e : (yc h H).get? b = some o) : h.get? b = some o ∧ H b = none := by
 have e' : h.get? b = some o := PySem.W.of_hideAll (UD h H) e
 refine ⟨e', ?_⟩
 cases q : H b with
 | none => rfl
 | some x =>
  have hm : b ∈ UD h H := List.mem_filter.mpr ⟨List.mem_range.mpr (Heap.lt_size e'), by simp [q]⟩
  have z : (yc h H).get? b = none := PySem.W.hideAll_none (UD h H) hm
  rw [z] at e; cases e
def LG (g h : Heap) (L : Addr) : List (Addr × Obj) := (List.range h.objs.size).filterMap fun a => if a = L ∨ (g.get? a).isSome = true then none else (h.get? a).map fun o => (a, o)
def rest (g h : Heap) (L d : Addr) : List (Addr × Obj) := (LG g h L).filter fun p => decide (p.1 ≠ d)
end L2
namespace L2
open PySem PySem.Spec PyProof.Rows
structure Mod (K : PySem.W.Frag) (mg : Str → Option Value) (base : Heap) : Prop where
 QC : K.In base
 glob : base.Ns mainGlobals mg
 blt : ∃ mb, base.Ns builtinsNs mb ∧ ∀ x : Str, x ≠ "__name__" → mb x = bootBuiltins x
 nolimit : base.NoLimit
structure Cx where
 prog : Program
 w : World
 K : PySem.W.Frag
 mg : Str → Option Value
 base : Heap
 A : Around
 N : List Str
 s₀ : Shared
 H₀ : Hp
 env : Env
 outer : List Env
 stack : List Env
 ex : List Addr
 fn : Str → Bool
 calm : Bool
 pn : List (Addr × Obj)
 xe : Value → Shared → Prop
def Bi (l : List Env) : List Addr := l.filterMap (·.frame)
abbrev Cx.fs (X : Cx) : List Addr := Bi X.outer
def UE (sc : Scope) (x : Str) : Prop := sc.names.lookup x = some .local ∨ sc.names.lookup x = some .cell ∨ sc.names.lookup x = some .free
def Loc (sc : Scope) (x : Str) : Prop := sc.names.lookup x = some .local ∨ sc.names.lookup x = some .cell
def Look (env : Env) (h : Heap) (m : Str → Option Value) (x : Str) (u : Value) : Prop :=
 (env.kindOf x = some .local ∧ m x = some u) ∨ ((env.kindOf x = some .cell ∨ env.kindOf x = some .free) ∧ ∃ c, env.cells.lookup x = some c ∧ h.IsCell c (some u))
structure Cx.Ok (X : Cx) : Prop where
 mod : Mod X.K X.mg X.base
 kind : X.env.scope.kind = .function
 glob : X.env.globals = mainGlobals
 blt : X.env.builtins = builtinsNs
 above : X.s₀.heap.objs.size ≤ X.env.locals
 inj : ∀ x y c, X.env.cells.lookup x = some c → X.env.cells.lookup y = some c → x = y
 has : ∀ x, (X.env.kindOf x = some .cell ∨ X.env.kindOf x = some .free) → ∃ c, X.env.cells.lookup x = some c
 QD : ∀ x c, X.fn x = true → X.env.cells.lookup x = some c → X.s₀.heap.objs.size ≤ c
 hd : X.calm = true → X.A.handled = none
 frames : X.A.frames = some X.stack
 UG : X.stack = X.outer ∨ (X.stack = X.env :: X.outer ∧ X.env.frame = some X.env.locals)
 Yk : ∀ b ∈ X.ex, b ≠ X.env.locals ∧ ∀ x c, X.env.cells.lookup x = some c → c ≠ b
 bs : ∀ b o, X.base.get? b = some o → X.s₀.heap.get? b = some o ∧ X.H₀ b = none
 Fd : X.base.objs.size ≤ X.s₀.heap.objs.size
 Dd : ∀ b o, X.base.get? b = some o → b ∉ X.ex
 LH : ∀ b ∈ X.ex, b ∉ X.fs
 pR : X.s₀.heap.FunFrames X.base X.outer
 Nf : ∀ b ∈ X.fs, X.H₀ b = none
structure Inv (X : Cx) (pins : List (Addr × Obj)) (σ : List (Option V)) (H : Hp) (s : Shared) : Prop where
 ok : X.Ok
 os : s.os = X.s₀.os
 bare : AllBare s.gens
 base : Un X.fs X.ex X.H₀ H X.s₀.heap s.heap
 loc : ∃ m, s.heap.Ns X.env.locals m ∧ ∀ (i : Nat) (x : Str) (v : V), X.N[i]? = some x → σ[i]? = some (some v) → UE X.env.scope x → ∃ u, RelV v u ∧ Look X.env s.heap m x u
 cell : ∀ x c, X.env.cells.lookup x = some c → ∃ v, s.heap.IsCell c v
 free : H X.env.locals = none
 kF : ∀ x c, X.env.cells.lookup x = some c → H c = none
 pin : ∀ p ∈ X.pn ++ pins, s.heap.get? p.1 = some p.2 ∧ H p.1 = none ∧ p.1 ≠ X.env.locals ∧ p.1 ∉ X.fs ∧ ∀ v, p.2.data ≠ .cell v
 bB : mY X.prog X.w H s.heap
 len : σ.length = X.N.length
section
variable {X : Cx} {pins : List (Addr × Obj)} {σ : List (Option V)} {H H' : Hp} {s : Shared} {h' : Heap}
theorem Cx.Ok.Vm (ok : X.Ok) {b : Addr} {o : Obj} (e : X.base.get? b = some o) : b ∉ X.fs := fun hb => by
 have := (ok.pR.mem hb).1
 rw [e] at this; cases this
theorem Inv.bs (I : Inv X pins σ H s) : ∀ b o, X.base.get? b = some o → s.heap.get? b = some o ∧ H b = none := fun b o e =>
 ⟨I.base.keep b o (I.ok.bs b o e).1 (I.ok.bs b o e).2 (I.ok.Vm e) (I.ok.Dd b o e), I.base.free b o (I.ok.bs b o e).1 (I.ok.bs b o e).2 (I.ok.Dd b o e)⟩
theorem Inv.bk (I : Inv X pins σ H s) : ∀ b o, X.base.get? b = some o → s.heap.get? b = some o := fun b o e => (I.bs b o e).1
theorem Inv.mod (I : Inv X pins σ H s) : Mod X.K X.mg X.base := I.ok.mod
theorem Inv.De (I : Inv X pins σ H s) : X.K.In s.heap := I.ok.mod.QC.keeps I.bk
theorem Inv.nolimit (I : Inv X pins σ H s) : s.heap.NoLimit := I.ok.mod.nolimit.keeps I.bk
theorem Inv.lt (I : Inv X pins σ H s) : X.env.locals < s.heap.objs.size := let ⟨_, hn, _⟩ := I.loc; hn.lt
theorem Inv.sz (I : Inv X pins σ H s) : X.s₀.heap.objs.size ≤ s.heap.objs.size := Nat.le_trans I.ok.above (Nat.le_of_lt I.lt)
theorem Inv.Vn (I : Inv X pins σ H s) {a : Addr} (h : s.heap.objs.size ≤ a) : a ∉ X.fs := fun hb => by
 obtain ⟨_, o, ho, _⟩ := I.ok.pR.mem hb
 exact absurd (Nat.lt_of_lt_of_le (Heap.lt_size ho) (Nat.le_trans I.sz h)) (Nat.lt_irrefl _)
theorem Inv.Ij (I : Inv X pins σ H s) : ∀ x c, X.env.cells.lookup x = some c → c ≠ X.env.locals := fun x c e z => by
 obtain ⟨v, o, ho, hd⟩ := I.cell x c e
 obtain ⟨m, ⟨o', es, ep, LI, Vo, _⟩, _⟩ := I.loc
 rw [z, LI] at ho; cases ho; rw [Vo] at hd; cases hd
theorem Inv.pR (I : Inv X pins σ H s) : s.heap.FunFrames X.base X.outer := by
 have all : ∀ (l : List Env), (∀ b ∈ Bi l, b ∈ X.fs) → X.s₀.heap.FunFrames X.base l → s.heap.FunFrames X.base l := by
  intro l
  induction l with
  | nil => intro _ _; trivial
  | cons env r ih =>
   intro hs hl
   obtain ⟨hk, ⟨L, o, hf, hn, ho, hd⟩, hr⟩ := hl
   have hL : L ∈ X.fs := hs L (by unfold Bi; rw [List.filterMap_cons, hf]; exact List.mem_cons_self)
   obtain ⟨sl, e⟩ := I.base.slot L o ho (I.ok.Nf L hL) hL fun z => I.ok.LH L z hL
   exact ⟨hk, ⟨L, _, hf, hn, e, hd⟩, ih (fun b hb => hs b (by unfold Bi; rw [List.filterMap_cons, hf]; exact List.mem_cons_of_mem _ hb)) hr⟩
 exact all X.outer (fun _ hb => hb) I.ok.pR
theorem Inv.stack (I : Inv X pins σ H s) : s.heap.FunFrames X.base X.stack := by
 rcases I.ok.UG with e | ⟨e, hf⟩
 ·rw [e]; exact I.pR
 ·rw [e]
  obtain ⟨m, hn, _⟩ := I.loc
  refine .cons (by rw [I.ok.kind]; decide) hf hn ?_ I.pR
  exact Heap.get?_none_of_le (Nat.le_trans I.ok.Fd I.ok.above)
theorem Inv.kP (I : Inv X pins σ H s) : ∀ b ∈ Bi X.stack, b ∈ X.env.locals :: X.fs := fun b hb => by
 rcases I.ok.UG with e | ⟨e, hf⟩
 ·rw [e] at hb; exact List.mem_cons_of_mem _ hb
 ·rw [e] at hb
  unfold Bi at hb
  rw [List.filterMap_cons, hf] at hb
  exact hb
theorem Inv.sk (I : Inv X pins σ H s) : ∀ b ∈ Bi X.stack, H b = none := fun b hb => by
 rcases List.mem_cons.mp (I.kP b hb) with e | hb
 ·rw [e]; exact I.free
 ·obtain ⟨_, o, ho, _⟩ := I.ok.pR.mem hb
  exact I.base.free b o ho (I.ok.Nf b hb) fun z => I.ok.LH b z hb
theorem Inv.step {g' : Array GenState} {t' : Nat} {d' : Drawn} {ch : List Addr} (I : Inv X pins σ H s)
  (Ls : ∀ b ∈ ch, (b ∈ X.ex ∨ X.s₀.heap.objs.size ≤ b) ∧ b ≠ X.env.locals ∧ (∀ x c, X.env.cells.lookup x = some c → c ≠ b) ∧ ∀ p ∈ X.pn ++ pins, p.1 ≠ b)
  (keep : ∀ b o, b ≠ X.env.locals → b ∉ X.fs → b ∉ ch → s.heap.get? b = some o → H b = none → h'.get? b = some o)
  (slot : ∀ b o, b ≠ X.env.locals → b ∈ X.fs → b ∉ ch → s.heap.get? b = some o → H b = none → ∃ sl, h'.get? b = some { o with slots := sl }) (free : ∀ b o, b ∉ ch → s.heap.get? b = some o → H b = none → H' b = none)
  (there : ∀ b o, b ∉ ch → s.heap.get? b = some o → ∃ o', h'.get? b = some o')
  (sS : ∀ b xs, H b = some (.tup xs) → H' b = some (.tup xs)) (rJ : ∀ b o u, H b = some (.vH o u) → H' b = some (.vH o u)) (sT : ∀ b ps, H b = some (.N2 ps) → ∃ more, H' b = some (.N2 (ps ++ more)))
  (ns : ∀ m, s.heap.Ns X.env.locals m → h'.Ns X.env.locals m) (bB : mY X.prog X.w H' h') (hg : AllBare g') :
  Inv X pins σ H' { s with heap := h', gens := g', drawn := d', toks := t' } := by
 have Yl : ∀ b o, X.s₀.heap.get? b = some o → b ≠ X.env.locals := fun b o e => Nat.ne_of_lt (Nat.lt_of_lt_of_le (Heap.lt_size e) I.ok.above)
 have UH : ∀ b o, X.s₀.heap.get? b = some o → b ∉ X.ex → b ∉ ch := fun b o e hx hb => by
  rcases (Ls b hb).1 with z | z
  ·exact hx z
  ·exact absurd (Nat.lt_of_lt_of_le (Heap.lt_size e) z) (Nat.lt_irrefl _)
 have cellK : ∀ x c, X.env.cells.lookup x = some c → ∀ v, s.heap.IsCell c v → h'.IsCell c v := fun x c e v ⟨o, ho, hd⟩ => by
  have QE : c ∉ ch := fun z => (Ls c z).2.2.1 x c e rfl
  by_cases hc : c ∈ X.fs
  ·obtain ⟨sl, q⟩ := slot c o (I.Ij x c e) hc QE ho (I.kF x c e)
   exact ⟨_, q, hd⟩
  ·exact ⟨o, keep c o (I.Ij x c e) hc QE ho (I.kF x c e), hd⟩
 refine ⟨I.ok, I.os, hg, ⟨fun b o e n hb hx => ?_, fun b o e n hb hx => ?_, fun b o e n hx => ?_, fun b o e hx => ?_, fun b xs e => sS b xs (I.base.sS b xs e), fun b o xs e => rJ b o xs (I.base.rJ b o xs e), fun b ps e => ?_⟩, ?_, fun x c e => ?_, ?_, fun x c e => ?_, fun p hp => ?_, bB, I.len⟩
 ·exact keep b o (Yl b o e) hb (UH b o e hx) (I.base.keep b o e n hb hx) (I.base.free b o e n hx)
 ·obtain ⟨sl, e1⟩ := I.base.slot b o e n hb hx
  obtain ⟨Vl, e2⟩ := slot b _ (Yl b o e) hb (UH b o e hx) e1 (I.base.free b o e n hx)
  exact ⟨Vl, e2⟩
 ·obtain ⟨o', e1⟩ := I.base.there b o e hx
  exact free b o' (UH b o e hx) e1 (I.base.free b o e n hx)
 ·obtain ⟨o', e1⟩ := I.base.there b o e hx
  exact there b o' (UH b o e hx) e1
 ·obtain ⟨m1, e1⟩ := I.base.sT b ps e
  obtain ⟨m2, e2⟩ := sT b _ e1
  exact ⟨m1 ++ m2, by rw [e2, Array.append_assoc]⟩
 ·obtain ⟨m, hn, hl⟩ := I.loc
  refine ⟨m, ns m hn, fun i x v e1 e2 e3 => ?_⟩
  obtain ⟨u, r, l⟩ := hl i x v e1 e2 e3
  refine ⟨u, r, ?_⟩
  rcases l with l | ⟨k, c, e, z⟩
  ·exact .inl l
  ·exact .inr ⟨k, c, e, cellK x c e _ z⟩
 ·obtain ⟨v, z⟩ := I.cell x c e
  exact ⟨v, cellK x c e v z⟩
 ·obtain ⟨m, ⟨o, _, _, ho, _⟩, _⟩ := I.loc
  exact free _ o (fun z => (Ls _ z).2.1 rfl) ho I.free
 ·obtain ⟨v, o, ho, hd⟩ := I.cell x c e
  exact free c o (fun z => (Ls c z).2.2.1 x c e rfl) ho (I.kF x c e)
 ·obtain ⟨e, n, ne, nf, d⟩ := I.pin p hp
  have QE : p.1 ∉ ch := fun z => (Ls p.1 z).2.2.2 p hp rfl
  exact ⟨keep p.1 p.2 ne nf QE e n, free p.1 p.2 QE e n, ne, nf, d⟩
theorem Inv.un {t' : Nat} (I : Inv X pins σ H s) (u : Un X.fs [] H H' s.heap h') (bB : mY X.prog X.w H' h') : Inv X pins σ H' { s with heap := h', toks := t' } := by
 obtain ⟨m, ⟨o, es, ep, ho, r⟩, _⟩ := id I.loc
 obtain ⟨sl, hL⟩ := u.any ho I.free (by simp)
 exact I.step (g' := s.gens) (d' := s.drawn) (ch := []) (fun _ z => nomatch z) (fun b o _ hb _ e n => u.keep b o e n hb (by simp)) (fun b o _ hb _ e n => u.slot b o e n hb (by simp)) (fun b o _ e n => u.free b o e n (by simp)) (fun b o _ e => u.there b o e (by simp)) u.sS u.rJ u.sT (fun m' hm => by
  obtain ⟨o', Vp, Vq, LI, r'⟩ := hm
  rw [ho] at LI; cases LI
  exact ⟨_, Vp, Vq, hL, r'⟩) bB I.bare
theorem Inv.call {g' : Array GenState} {t' : Nat} {d' : Drawn} {ch : List Addr} (I : Inv X pins σ H s) (u : Un (Bi X.stack) ch H H' s.heap h') (bB : mY X.prog X.w H' h') (hg : AllBare g')
  (Ls : ∀ b ∈ ch, (b ∈ X.ex ∨ X.s₀.heap.objs.size ≤ b) ∧ b ≠ X.env.locals ∧ (∀ x c, X.env.cells.lookup x = some c → c ≠ b) ∧ ∀ p ∈ X.pn ++ pins, p.1 ≠ b) :
  Inv X pins σ H' { s with heap := h', gens := g', drawn := d', toks := t' } := by
 obtain ⟨m, ⟨o, es, ep, ho, r⟩, _⟩ := id I.loc
 obtain ⟨sl, hL⟩ := u.any ho I.free fun z => (Ls _ z).2.1 rfl
 exact I.step (ch := ch) Ls (fun b o hL hb hc e n => u.keep b o e n (fun z => (List.mem_cons.mp (I.kP b z)).elim hL hb) hc) (fun b o _ _ hc e n => u.any e n hc) (fun b o hc e n => u.free b o e n hc) (fun b o hc e => u.there b o e hc) u.sS u.rJ u.sT (fun m' hm => by
  obtain ⟨o', Vp, Vq, LI, r'⟩ := hm
  rw [ho] at LI; cases LI
  exact ⟨_, Vp, Vq, hL, r'⟩) bB hg
theorem Inv.turned {t' : Nat} {it : Addr} (I : Inv X pins σ H s) (k : ∀ b o, b ≠ it → s.heap.get? b = some o → h'.get? b = some o) (hn : H it = none) (hL : it ≠ X.env.locals)
  (h1 : it ∈ X.ex ∨ X.s₀.heap.objs.size ≤ it) (h2 : ∀ x c, X.env.cells.lookup x = some c → c ≠ it) (h3 : ∀ p ∈ X.pn ++ pins, p.1 ≠ it) : Inv X pins σ H { s with heap := h', toks := t' } := by
 have QF : ∀ b u, H b = some u → b ≠ it := fun b u e z => by rw [z, hn] at e; cases e
 refine I.step (g' := s.gens) (d' := s.drawn) (ch := [it]) (fun b hb => ?_) (fun b o _ _ hc e _ => k b o (fun z => hc (by simp [z])) e) (fun b o _ _ hc e _ => ⟨o.slots, k b o (fun z => hc (by simp [z])) e⟩) (fun _ _ _ _ n => n)
  (fun b o hc e => ⟨o, k b o (fun z => hc (by simp [z])) e⟩) (fun _ _ e => e) (fun _ _ _ e => e) (fun b ps e => ⟨#[], by rw [e]; simp⟩) (fun m hm => ?_) (fun b u e => ?_) I.bare
 ·have e : b = it := by simpa using hb
  subst e
  exact ⟨h1, hL, h2, h3⟩
 ·obtain ⟨o, es, ep, ho, r⟩ := hm
  exact ⟨o, es, ep, k _ o (Ne.symm hL) ho, r⟩
 ·refine (I.bB b u e).b7 (fun c v hc q => k c v ?_ q) (fun _ q => q) fun _ _ q => q
  rcases hc with z | z
  ·rw [z]; exact QF b u e
  ·exact QF c _ z
theorem Inv.tok (I : Inv X pins σ H s) (t : Nat) : Inv X pins σ H { s with toks := t } := I.un (h' := s.heap) (t' := t) Un.refl I.bB
theorem Inv.kept {t' : Nat} (I : Inv X pins σ H s) (k : ∀ b u, s.heap.get? b = some u → h'.get? b = some u) : Inv X pins σ H { s with heap := h', toks := t' } := I.un (Un.kept k) (I.bB.kept k)
theorem Inv.laid {a : Addr} {o : HO} {t' : Nat} (I : Inv X pins σ H s) (k : ∀ b u, s.heap.get? b = some u → h'.get? b = some u) (hp : s.heap.objs.size ≤ a) (new : cQ X.prog X.w (upd H a o) h' a o) :
  Inv X pins σ (upd H a o) { s with heap := h', toks := t' } := I.un (Un.laid k hp (I.bB.fresh hp)) (I.bB.laid k hp new)
theorem Inv.write {x e : Addr} {o : HO} {t' : Nat} (I : Inv X pins σ H s) (mu : QA (H x)) (he : e = x ∨ H e = some (.own x)) (k : ∀ b u, b ≠ e → s.heap.get? b = some u → h'.get? b = some u) (Nd : ∃ u, h'.get? e = some u)
  (new : cQ X.prog X.w (upd H x o) h' x o) : Inv X pins σ (upd H x o) { s with heap := h', toks := t' } := I.un (Un.write mu he k Nd) (I.bB.write mu he k Nd new)
theorem Inv.Fe {Ng : List (Addr × Obj)} (I : Inv X pins σ H s) (h : ∀ p ∈ Ng, s.heap.get? p.1 = some p.2 ∧ H p.1 = none ∧ p.1 ≠ X.env.locals ∧ p.1 ∉ X.fs ∧ ∀ v, p.2.data ≠ .cell v) : Inv X Ng σ H s :=
 ⟨I.ok, I.os, I.bare, I.base, I.loc, I.cell, I.free, I.kF, fun p hp => (List.mem_append.mp hp).elim (fun z => I.pin p (List.mem_append_left _ z)) (h p), I.bB, I.len⟩
theorem Bj {N : List Str} (hN : N.Nodup) {i j : Nat} {x : Str} (a : N[i]? = some x) (b : N[j]? = some x) : i = j := by
 obtain ⟨h1, e1⟩ := List.getElem?_eq_some_iff.mp a
 obtain ⟨h2, e2⟩ := List.getElem?_eq_some_iff.mp b
 exact (List.getElem_inj hN).mp (e1.trans e2.symm)
theorem xa {M : Model} {A : Around} {E : Value → Shared → Prop} {i : Nat} {x : Str} {v : V} {u : Value} {Q : Unit → Shared → Prop} (I : Inv X pins σ H s) (hN : X.N.Nodup) (hi : X.N[i]? = some x) (hx : Loc X.env.scope x) (r : RelV v u)
  (h : ∀ s', Inv X pins (σ.set i (some v)) H s' → (∃ a, Heap.SameBut a s.heap s'.heap ∧ (a = X.env.locals ∨ X.env.cells.lookup x = some a)) → Q () s') (hf : X.fn x = true ∨ X.env.scope.names.lookup x = some .local := by first | exact .inl rfl | exact .inr rfl | assumption) : wpAny M A (storeName X.env x u) Q E s := by
 obtain ⟨m, hn, hl⟩ := id I.loc
 have Vr : (X.env.scope.kind == .class || (X.env.scope.kind == .module && X.env.locals != X.env.globals)) = false := by rw [I.ok.kind]; rfl
 have Ym : i < σ.length := by rw [I.len]; exact (List.getElem?_eq_some_iff.mp hi).1
 have Ij := I.Ij
 have tracked : ∀ {a : Addr} {h' : Heap}, (∃ o, s.heap.get? a = some o ∧ H a = none) → Heap.SameBut a s.heap h' → mY X.prog X.w H h' := fun {a h'} ha hs b ob e => by
  obtain ⟨_, _, q5⟩ := ha
  refine (I.bB b ob e).b7 (fun c w' hc q => (hs.2 c ?_).trans q) (fun _ q => q) fun _ _ q => q
  rintro rfl
  rcases hc with rfl | hc
  ·rw [q5] at e; cases e
  ·rw [q5] at hc; cases hc
 rcases hx with hk | hk
 ·refine wpAny_storeName_local hk hn (fun h' Ik hs => ?_) Vr
  obtain ⟨oL, _, _, Z3, _⟩ := id hn
  refine h _ ⟨I.ok, I.os, I.bare, ⟨fun b o e n hb hx => ?_, fun b o e n hb hx => ?_, I.base.free, fun b o e hx => ?_, I.base.sS, I.base.rJ, I.base.sT⟩, ⟨_, Ik, fun j y v' e1 e2 e3 => ?_⟩, fun y c e => ?_, I.free, I.kF, fun p hp => ?_, tracked ⟨oL, Z3, I.free⟩ hs, by simpa using I.len⟩ ⟨_, hs, .inl rfl⟩
  ·exact (hs.2 b (Nat.ne_of_lt (Nat.lt_of_lt_of_le (Heap.lt_size e) I.ok.above))).trans (I.base.keep b o e n hb hx)
  ·obtain ⟨sl, e1⟩ := I.base.slot b o e n hb hx
   exact ⟨sl, (hs.2 b (Nat.ne_of_lt (Nat.lt_of_lt_of_le (Heap.lt_size e) I.ok.above))).trans e1⟩
  ·obtain ⟨o', e1⟩ := I.base.there b o e hx
   exact ⟨o', (hs.2 b (Nat.ne_of_lt (Nat.lt_of_lt_of_le (Heap.lt_size e) I.ok.above))).trans e1⟩
  ·by_cases hj : j = i
   ·subst hj
    rw [hi] at e1; cases e1
    rw [List.getElem?_set_self Ym] at e2
    cases e2
    exact ⟨u, r, .inl ⟨hk, by simp⟩⟩
   ·rw [List.getElem?_set_ne (Ne.symm hj)] at e2
    obtain ⟨u', r', q⟩ := hl j y v' e1 e2 e3
    refine ⟨u', r', ?_⟩
    rcases q with ⟨k, e⟩ | ⟨k, c, e, z⟩
    ·refine .inl ⟨k, ?_⟩
     have : y ≠ x := fun e => hj (Bj hN e1 (e ▸ hi))
     simp [this, e]
    ·exact .inr ⟨k, c, e, z.sameBut hs (Ij y c e)⟩
  ·obtain ⟨w', z⟩ := I.cell y c e
   exact ⟨w', z.sameBut hs (Ij y c e)⟩
  ·obtain ⟨e, n, ne, nf, d⟩ := I.pin p hp
   exact ⟨(hs.2 p.1 ne).trans e, n, ne, nf, d⟩
 ·have LJ : X.fn x = true := by
   rcases hf with z | z
   ·exact z
   ·rw [z] at hk; cases hk
  obtain ⟨c, hc⟩ := I.ok.has x (.inl hk)
  obtain ⟨w', z⟩ := I.cell x c hc
  refine wpAny_storeName_cell I.ok.kind hk hc z (fun h' UI hs => ?_)
  obtain ⟨oc, N5, Vs⟩ := id z
  refine h { s with heap := h' } ⟨I.ok, I.os, I.bare, ⟨fun b o e n hb hx => ?_, fun b o e n hb hx => ?_, I.base.free, fun b o e hx => ?_, I.base.sS, I.base.rJ, I.base.sT⟩, ⟨m, hn.sameBut hs (Ne.symm (Ij x c hc)), fun j y v' e1 e2 e3 => ?_⟩, fun y c' e => ?_, I.free, I.kF, fun p hp => ?_, tracked ⟨oc, N5, I.kF x c hc⟩ hs, by simpa using I.len⟩ ⟨c, hs, .inr hc⟩
  ·exact (hs.2 b (Nat.ne_of_lt (Nat.lt_of_lt_of_le (Heap.lt_size e) (I.ok.QD x c LJ hc)))).trans (I.base.keep b o e n hb hx)
  ·obtain ⟨sl, e1⟩ := I.base.slot b o e n hb hx
   exact ⟨sl, (hs.2 b (Nat.ne_of_lt (Nat.lt_of_lt_of_le (Heap.lt_size e) (I.ok.QD x c LJ hc)))).trans e1⟩
  ·obtain ⟨o', e1⟩ := I.base.there b o e hx
   exact ⟨o', (hs.2 b (Nat.ne_of_lt (Nat.lt_of_lt_of_le (Heap.lt_size e) (I.ok.QD x c LJ hc)))).trans e1⟩
  ·by_cases hj : j = i
   ·subst hj
    rw [hi] at e1; cases e1
    rw [List.getElem?_set_self Ym] at e2
    cases e2
    exact ⟨u, r, .inr ⟨.inl hk, c, hc, UI⟩⟩
   ·rw [List.getElem?_set_ne (Ne.symm hj)] at e2
    obtain ⟨u', r', q⟩ := hl j y v' e1 e2 e3
    refine ⟨u', r', ?_⟩
    rcases q with q | ⟨k, c', e, z'⟩
    ·exact .inl q
    ·refine .inr ⟨k, c', e, z'.sameBut hs ?_⟩
     rintro rfl
     exact hj (Bj hN e1 (I.ok.inj _ _ _ e hc ▸ hi))
  ·by_cases Yn : c' = c
   ·subst Yn; exact ⟨_, UI⟩
   ·obtain ⟨w2, z2⟩ := I.cell y c' e
    exact ⟨w2, z2.sameBut hs Yn⟩
  ·obtain ⟨e, n, ne, nf, d⟩ := I.pin p hp
   refine ⟨(hs.2 p.1 ?_).trans e, n, ne, nf, d⟩
   intro q
   rw [q, N5] at e
   have q' : oc = p.2 := Option.some.inj e
   exact d w' (by rw [← q']; exact Vs)
theorem sU {M : Model} {A : Around} {E : Value → Shared → Prop} {i : Nat} {x : Str} {v : V} {u : Value} {Q : Unit → Shared → Prop} (I : Inv X pins σ H s) (hN : X.N.Nodup) (hi : X.N[i]? = some x) (hx : Loc X.env.scope x) (r : RelV v u)
  (h : ∀ s', Inv X pins (σ.set i (some v)) H s' → Q () s') (hf : X.fn x = true ∨ X.env.scope.names.lookup x = some .local := by first | exact .inl rfl | exact .inr rfl | assumption) : wpAny M A (storeName X.env x u) Q E s :=
 xa I hN hi hx r (fun s' I' _ => h s' I') hf
theorem Inv.Il {s' : Shared} {ch : List Addr} (I : Inv X pins σ H s) (ho : s'.os = s.os) (u : Un (Bi X.stack) ch H H' s.heap s'.heap) (bB : mY X.prog X.w H' s'.heap) (hg : AllBare s'.gens)
  (Ls : ∀ b ∈ ch, (b ∈ X.ex ∨ X.s₀.heap.objs.size ≤ b) ∧ b ≠ X.env.locals ∧ (∀ x c, X.env.cells.lookup x = some c → c ≠ b) ∧ ∀ p ∈ X.pn ++ pins, p.1 ≠ b) : Inv X pins σ H' s' := by
 obtain ⟨h', g', d', t', o'⟩ := s'
 have e : o' = s.os := ho
 subst e
 exact I.call (g' := g') (t' := t') (d' := d') u bB hg Ls
end
abbrev XK := Value → Option Addr → Hp → Prop
abbrev St := List (Option V)
abbrev VK := V → Hp → Prop
abbrev TE := St → Hp → VK → Prop
abbrev TT := St → Hp → (Bool → Hp → Prop) → Prop
abbrev TA := St → Hp → (List V → Hp → Prop) → Prop
structure Ends where
 nx : St → Hp → Prop
 rt : VK
 bk : St → Hp → Prop := fun _ _ => False
 ct : St → Hp → Prop := fun _ _ => False
abbrev TS := Ends → St → Hp → Prop
def EP (X : Cx) (pins : List (Addr × Obj)) (σ : St) (Q : VK) (u : Value) (s' : Shared) : Prop := ∃ v H', Inv X pins σ H' s' ∧ RelV v u ∧ Q v H'
def TP (X : Cx) (pins : List (Addr × Obj)) (σ : St) (Q : Bool → Hp → Prop) (b : Bool) (s' : Shared) : Prop := ∃ H', Inv X pins σ H' s' ∧ Q b H'
def AP (X : Cx) (pins : List (Addr × Obj)) (σ : St) (Q : List V → Hp → Prop) (us : List Value) (s' : Shared) : Prop := ∃ vs H', Inv X pins σ H' s' ∧ Vals vs us ∧ Q vs H'
def SP (X : Cx) (pins : List (Addr × Obj)) (D : Ends) (f : Flow) (s' : Shared) : Prop :=
 match f with
 | .next => ∃ σ' H', Inv X pins σ' H' s' ∧ D.nx σ' H'
 | .brk => ∃ σ' H', Inv X pins σ' H' s' ∧ D.bk σ' H'
 | .cont => ∃ σ' H', Inv X pins σ' H' s' ∧ D.ct σ' H'
 | .ret u => ∃ v σ' H', Inv X pins σ' H' s' ∧ RelV v u ∧ D.rt v H'
def PE (X : Cx) (e : Expr) (t : TE) : Prop :=
 ∀ (pins : List (Addr × Obj)) (s : Shared) (σ : St) (H : Hp) (Q : VK), Inv X pins σ H s → t σ H Q → wpAny (model X.prog X.w) X.A (eval e X.env) (EP X pins σ Q) X.xe s
def PT (X : Cx) (e : Expr) (t : TT) : Prop :=
 ∀ (pins : List (Addr × Obj)) (s : Shared) (σ : St) (H : Hp) (Q : Bool → Hp → Prop), Inv X pins σ H s → t σ H Q → wpAny (model X.prog X.w) X.A (isTrue e X.env (eval e X.env)) (TP X pins σ Q) X.xe s
def PW (X : Cx) (e : Expr) (t : TT) : Prop :=
 ∀ (whole : Sem Value) (pins : List (Addr × Obj)) (s : Shared) (σ : St) (H : Hp) (Q : Bool → Hp → Prop), Inv X pins σ H s → t σ H Q → wpAny (model X.prog X.w) X.A (isTrue e X.env whole) (TP X pins σ Q) X.xe s
theorem PW.pt {X : Cx} {e : Expr} {t : TT} (h : PW X e t) : PT X e t := h _
def PA (X : Cx) (es : List Expr) (t : TA) : Prop :=
 ∀ (pos : Pos) (pins : List (Addr × Obj)) (s : Shared) (σ : St) (H : Hp) (Q : List V → Hp → Prop), Inv X pins σ H s → t σ H Q → wpAny (model X.prog X.w) X.A (spliced (backTo pos (starEach es X.env))) (AP X pins σ Q) X.xe s
def PS (X : Cx) (st : Stmt) (t : TS) : Prop :=
 ∀ (pins : List (Addr × Obj)) (s : Shared) (σ : St) (H : Hp) (D : Ends), Inv X pins σ H s → t D σ H → wpAny (model X.prog X.w) X.A (exec st X.env) (SP X pins D) X.xe s
def Ff (X : Cx) (st : List Stmt) (t : TS) : Prop :=
 ∀ (pins : List (Addr × Obj)) (s : Shared) (σ : St) (H : Hp) (D : Ends), Inv X pins σ H s → t D σ H → wpAny (model X.prog X.w) X.A (execs st X.env) (SP X pins D) X.xe s
theorem thn {α : Type} {t : Sem α} {Q Q' : α → Shared → Prop} {M : Model} {A : Around} {E : Value → Shared → Prop} {s : Shared} (h : wpAny M A t Q E s) (hQ : ∀ a s, Q a s → Q' a s) : wpAny M A t Q' E s := wpAny_mono h hQ fun _ _ x => x
end L2
namespace L2
open PySem PySem.Spec PyProof.Rows
section
variable {X : Cx}
theorem bin {a b : Expr} {ta tb : TE} (ha : PE X a ta) (hb : PE X b tb) {pins : List (Addr × Obj)} {s : Shared} {σ : St} {H : Hp} {R : V → V → Hp → Prop} (I : Inv X pins σ H s) (h : ta σ H fun x H1 => tb σ H1 fun y H2 => R x y H2)
  {α : Type} {Q : α → Shared → Prop} {f : Value → Value → Sem α}
  (hf : ∀ v u s2 x y H2, Inv X pins σ H2 s2 → RelV x v → RelV y u → R x y H2 → wpAny (model X.prog X.w) X.A (f v u) Q X.xe s2) :
  wpAny (model X.prog X.w) X.A (eval a X.env) (fun v s₁ => wpAny (model X.prog X.w) X.A (eval b X.env) (fun u s₂ => wpAny (model X.prog X.w) X.A (f v u) Q X.xe s₂) X.xe s₁) X.xe s := by
 refine thn (ha pins s σ H _ I h) fun v s1 ⟨x, H1, I1, r1, q1⟩ => ?_
 refine thn (hb pins s1 σ H1 _ I1 q1) fun u s2 ⟨y, H2, I2, r2, q2⟩ => ?_
 exact hf v u s2 x y H2 I2 r1 r2 q2
def QG (i : Nat) : TE := fun σ H Q => ∃ v, σ[i]? = some (some v) ∧ Q v H
def tC (v : V) : TE := fun _ H Q => Q v H
theorem N6 {i : Nat} {x : Str} {pos : Pos} (hN : X.N[i]? = some x) (hv : UE X.env.scope x) (hd : (x == ("__debug__" : Str)) = false := by decide) (Im : (x == ("__classdict__" : Str)) = false := by decide) : PE X (.Name x pos) (QG i) := by
 intro pins s σ H Q I h
 obtain ⟨v, e, h⟩ := h
 obtain ⟨m, hn, hl⟩ := I.loc
 obtain ⟨u, r, l⟩ := hl i x v hN e hv
 have fin : EP X pins σ Q u s := ⟨v, H, I, r, h⟩
 rcases l with ⟨hk, hm⟩ | ⟨hk, c, hc, Fg⟩
 ·exact wpAny_Name (wpAny_loadName_local I.ok.kind hk hn hm fin) hd
 ·rcases hk with hk | hk
  ·exact wpAny_Name (wpAny_loadName_cell I.ok.kind hk hc Fg fin) hd
  ·exact wpAny_Name (wpAny_loadName_free I.ok.kind hk hc Fg fin Im) hd
theorem ai {i j pos} : PE X (.Constant (.int i) j pos) (tC (.int i)) := fun _ _ _ H _ I h => wpAny_Constant_int ⟨.int i, H, I.tok _, ⟨_, rfl⟩, h⟩
theorem xb {b j pos} : PE X (.Constant (.bool b) j pos) (tC (.bl b)) := fun _ _ _ H _ I h => Constant_bool ⟨.bl b, H, I, rfl, h⟩
theorem Io {j pos} : PE X (.Constant .none j pos) (tC .cL) := fun _ _ _ H _ I h => Constant_none ⟨.cL, H, I, rfl, h⟩
theorem aR {x j pos} : PE X (.Constant (.str x) j pos) (tC (.str x)) := fun _ _ _ H _ I h => Calls.Constant_str ⟨.str x, H, I.tok _, ⟨_, rfl⟩, h⟩
def Gl (X : Cx) (x : Str) : Prop := X.env.kindOf x = some .globalImplicit
theorem so {E : Value → Shared → Prop} {pins : List (Addr × Obj)} {s : Shared} {σ : St} {H : Hp} {x : Str} {u : Value} {pos : Pos} {Q : Value → Shared → Prop} (I : Inv X pins σ H s) (hg : Gl X x) (hm : X.mg x = some u) (h : Q u s)
  (hd : (x == ("__debug__" : Str)) = false := by decide) : wpAny (model X.prog X.w) X.A (eval (.Name x pos) X.env) Q E s :=
 Calls.Name_function_global I.ok.kind hg (Calls.loadGlobal_global (by rw [I.ok.glob]; exact I.mod.glob.keeps I.bk) hm h) hd
theorem kQ {E : Value → Shared → Prop} {pins : List (Addr × Obj)} {s : Shared} {σ : St} {H : Hp} {x : Str} {u : Value} {pos : Pos} {Q : Value → Shared → Prop} (I : Inv X pins σ H s) (hg : Gl X x) (hm : X.mg x = none) (hv : bootBuiltins x = some u) (h : Q u s)
  (hn : x ≠ "__name__" := by decide) (hd : (x == ("__debug__" : Str)) = false := by decide) : wpAny (model X.prog X.w) X.A (eval (.Name x pos) X.env) Q E s := by
 obtain ⟨mb, h1, h2⟩ := I.mod.blt
 exact Calls.Name_function_global I.ok.kind hg (Calls.loadGlobal_builtin (by rw [I.ok.glob]; exact I.mod.glob.keeps I.bk) hm (by rw [I.ok.blt]; exact h1.keeps I.bk) ((h2 x hn).trans hv) h) hd
theorem c7 {x : Str} {v : V} {u : Value} {pos : Pos} (hg : Gl X x) (hm : X.mg x = some u) (r : RelV v u) (hd : (x == ("__debug__" : Str)) = false := by decide) : PE X (.Name x pos) (tC v) :=
 fun _ _ _ H _ I h => so I hg hm ⟨v, H, I, r, h⟩ hd
def Z4 (ta tb : TE) (k : Int → Int → Hp → Prop) : St → Hp → Prop := fun σ H => ta σ H fun x H1 => tb σ H1 fun y H2 => ∃ i j, x = .int i ∧ y = .int j ∧ k i j H2
variable {a b : Expr} {ta tb : TE} {pos : Pos}
def PC (X : Cx) (op : CmpOp) (a b : Expr) (t : TE) : Prop :=
 ∀ (pins : List (Addr × Obj)) (s : Shared) (σ : St) (H : Hp) (Q : VK), Inv X pins σ H s → t σ H Q →
  wpAny (model X.prog X.w) X.A (eval a X.env) (fun v s₁ => wpAny (model X.prog X.w) X.A (eval b X.env) (fun u s₂ => wpAny (model X.prog X.w) X.A (compareOp op v u) (EP X pins σ Q) X.xe s₂) X.xe s₁) X.xe s
theorem Ip (b : Expr) {op : CmpOp} (h : op ≠ .In) (h2 : op ≠ .NotIn) : behindInMarks op b = false := by
 have e1 : (op == CmpOp.In) = false := by cases op <;> first | rfl | exact absurd rfl h
 have e2 : (op == CmpOp.NotIn) = false := by cases op <;> first | rfl | exact absurd rfl h2
 cases b <;> simp [behindInMarks, e1, e2]
def Gs (p : Int → Int → Bool) (ta tb : TE) : TE := fun σ H Q => Z4 ta tb (fun i j H2 => Q (.bl (p i j)) H2) σ H
abbrev tLt : TE → TE → TE := Gs fun i j => decide (i < j)
abbrev tLe : TE → TE → TE := Gs fun i j => decide (i ≤ j)
abbrev tGt : TE → TE → TE := Gs fun i j => decide (j < i)
abbrev tGe : TE → TE → TE := Gs fun i j => decide (j ≤ i)
abbrev Z5 : TE → TE → TE := Gs fun i j => decide (i = j)
abbrev Z6 : TE → TE → TE := Gs fun i j => !decide (i = j)
def tB (t : TE) : TT := fun σ H Q => t σ H fun x H1 => ∃ c, x = .bl c ∧ Q c H1
theorem Df {op : CmpOp} {t : TE} (h : PC X op a b t) (h1 : behindInMarks op b = false := by first | exact Ip _ (by decide) (by decide) | rfl) : PT X (.Compare a [op] [b] pos) (tB t) := by
 intro pins s σ H Q I hw
 refine wpAny_isTrue_Compare1 (thn (h pins s σ H _ I hw) fun v s1 h1 => thn h1 fun u s2 h2 => thn h2 fun c s3 ⟨x, H1, I1, r1, q1⟩ => ?_) h1
 obtain ⟨d, rfl, q⟩ := q1
 cases r1
 exact wpAny_truthy_bool ⟨H1, I1, q⟩
theorem dH {e : Expr} {t : TE} (h : PE X e t) (he : ∀ whole, isTrue e X.env whole = (do let v ← whole; standAt e.pos; holding [v] (truthy v)) := by intro _; rfl) : PT X e (tB t) := by
 intro pins s σ H Q I hw
 refine isTrue_plain (thn (h pins s σ H _ I hw) fun v s1 ⟨x, H1, I1, r1, q1⟩ => ?_) (he _)
 obtain ⟨d, rfl, q⟩ := q1
 cases r1
 exact wpAny_truthy_bool ⟨H1, I1, q⟩
variable {tA UJ : TT} {rest : List Expr}
def Vt (t u : TT) : TT := fun σ H Q => t σ H fun c H1 => if c = true then u σ H1 Q else Q false H1
def Z7 (t u : TT) : TT := fun σ H Q => t σ H fun c H1 => if c = true then Q true H1 else u σ H1 Q
def Vu (t : TT) : TT := fun σ H Q => t σ H fun c H1 => Q (!c) H1
theorem jo (ha : PT X a tA) : PW X (.BoolOp .And [a] pos) tA := by
 intro wh pins s σ H Q I h
 refine isTrue_and (thn (ha pins s σ H Q I h) fun c s1 e => ?_)
 cases c with
 | true => exact isTrue_and_nil e
 | false => exact e
theorem yd (ha : PT X a tA) : PW X (.BoolOp .Or [a] pos) tA := by
 intro wh pins s σ H Q I h
 refine isTrue_or (thn (ha pins s σ H Q I h) fun c s1 e => ?_)
 cases c with
 | false => exact isTrue_or_nil e
 | true => exact e
theorem kR (ha : PT X a tA) (hb : PW X (.BoolOp .And (b :: rest) pos) UJ) : PW X (.BoolOp .And (a :: b :: rest) pos) (Vt tA UJ) := by
 intro wh pins s σ H Q I h
 refine isTrue_and (thn (ha pins s σ H _ I h) fun c s1 ⟨H1, I1, q1⟩ => ?_)
 cases c with
 | true => exact hb wh pins s1 σ H1 Q I1 q1
 | false => exact ⟨H1, I1, q1⟩
theorem xc (ha : PT X a tA) (hb : PW X (.BoolOp .Or (b :: rest) pos) UJ) : PW X (.BoolOp .Or (a :: b :: rest) pos) (Z7 tA UJ) := by
 intro wh pins s σ H Q I h
 refine isTrue_or (thn (ha pins s σ H _ I h) fun c s1 ⟨H1, I1, q1⟩ => ?_)
 cases c with
 | true => exact ⟨H1, I1, q1⟩
 | false => exact hb wh pins s1 σ H1 Q I1 q1
theorem kS (ha : PT X a tA) : PT X (.UnaryOp .Not a pos) (Vu tA) := by
 intro pins s σ H Q I h
 exact isTrue_not (ha pins s σ H (fun c H1 => Q (!c) H1) I h)
def QH (ta tb : TE) : TE := fun σ H Q => ta σ H fun x H1 => ∃ c, x = .bl c ∧ if c = true then tb σ H1 Q else Q (.bl false) H1
def Vv (ta tb : TE) : TE := fun σ H Q => ta σ H fun x H1 => ∃ c, x = .bl c ∧ if c = true then Q (.bl true) H1 else tb σ H1 Q
theorem ye {op} {t : TE} (h : PE X a t) : PE X (.BoolOp op [a] pos) t := fun pins s σ H Q I hw => BoolOp_one (h pins s σ H Q I hw)
theorem Dg (ha : PE X a ta) (hb : PE X (.BoolOp .And (b :: rest) pos) tb) : PE X (.BoolOp .And (a :: b :: rest) pos) (QH ta tb) := by
 intro pins s σ H Q I h
 refine BoolOp_and (thn (ha pins s σ H _ I h) fun v s1 ⟨x, H1, I1, r1, q1⟩ => ?_)
 obtain ⟨c, rfl, q1⟩ := q1
 cases r1
 refine wpAny_truthy_bool ?_
 cases c with
 | true => exact hb pins s1 σ H1 Q I1 q1
 | false => exact ⟨.bl false, H1, I1, rfl, q1⟩
theorem Nh (ha : PE X a ta) (hb : PE X (.BoolOp .Or (b :: rest) pos) tb) : PE X (.BoolOp .Or (a :: b :: rest) pos) (Vv ta tb) := by
 intro pins s σ H Q I h
 refine BoolOp_or (thn (ha pins s σ H _ I h) fun v s1 ⟨x, H1, I1, r1, q1⟩ => ?_)
 obtain ⟨c, rfl, q1⟩ := q1
 cases r1
 refine wpAny_truthy_bool ?_
 cases c with
 | false => exact hb pins s1 σ H1 Q I1 q1
 | true => exact ⟨.bl true, H1, I1, rfl, q1⟩
end
end L2
namespace L2
open PySem PySem.Spec PyProof.Rows
def ax (K : PySem.W.Frag) (H : Hp) (a : Addr) (xs : List V) : Prop :=
 Rd H a (.lst xs) ∨
  ∃ (o : Obj) (its : Array Value) (n : Nat), K.lookup a = some o ∧ o.cls = .type "list" ∧ o.dict = none ∧ o.data = .seq its n ∧ its.size ≤ sizeLine ∧ Vals xs its.toList
def cM (K : PySem.W.Frag) (H : Hp) (a : Addr) (xs : List V) : Prop :=
 Rd H a (.tup xs) ∨
  ∃ (o : Obj) (its : Array Value) (n : Nat), K.lookup a = some o ∧ o.cls = .type "tuple" ∧ o.data = .seq its n ∧ its.size ≤ sizeLine ∧ Vals xs its.toList
def Vw : Value → Option V
 | .none => some .cL
 | .bool b => some (.bl b)
 | .int i _ => some (.int i)
 | .str x _ => some (.str x)
 | .bytes b _ => some (.HY b)
 | .float b _ => some (.Qa b)
 | .ref a => some (.ref a)
 | .type n => some (.ty n)
 | _ => none
theorem RelV.abs {x : V} {u : Value} (r : RelV x u) : Vw u = some x := by
 cases x with
 | cL => cases r; rfl
 | bl _ => cases r; rfl
 | int _ => obtain ⟨t, rfl⟩ := r; rfl
 | str _ => obtain ⟨t, rfl⟩ := r; rfl
 | HY _ => obtain ⟨t, rfl⟩ := r; rfl
 | Qa _ => obtain ⟨t, rfl⟩ := r; rfl
 | ref _ => cases r; rfl
 | ty _ => cases r; rfl
theorem RelV.inj {x y : V} {u : Value} (r : RelV x u) (q : RelV y u) : x = y := Option.some.inj (r.abs.symm.trans q.abs)
theorem Vals.inj : ∀ {xs ys : List V} {us : List Value}, Vals xs us → Vals ys us → xs = ys
 | _, _, _, .nil, .nil => rfl
 | _, _, _, .cons r t, .cons r' t' => by rw [r.inj r', Vals.inj t t']
section
variable {X : Cx} {pins : List (Addr × Obj)} {σ : St} {H : Hp} {s : Shared} {a : Addr} {xs ys : List V}
theorem ax.of {K : PySem.W.Frag} (h : H a = some (.lst xs)) : ax K H a xs := .inl (.inl h)
theorem cM.of {K : PySem.W.Frag} (h : H a = some (.tup xs)) : cM K H a xs := .inl (.inl h)
theorem Inv.list (I : Inv X pins σ H s) (h : ax X.K H a xs) : ∃ its : List Value, Vals xs its ∧ PlainL s.heap a its.toArray ∧ xs.length ≤ sizeLine := by
 rcases h with h | ⟨o, its, n, hk, hc, hd, hs, hz, r⟩
 ·obtain ⟨z, its, n, r, e⟩ := h.ok I.bB
  exact ⟨its, r, ⟨_, n, e, rfl, rfl, rfl⟩, z⟩
 ·refine ⟨its.toList, r, ⟨o, n, I.De a o hk, hc, hd, by simpa using hs⟩, ?_⟩
  have e := r.length
  simp only [Array.length_toList] at e
  omega
theorem Inv.tuple (I : Inv X pins σ H s) (h : cM X.K H a xs) : ∃ its : List Value, Vals xs its ∧ IsTup s.heap a its.toArray ∧ xs.length ≤ sizeLine := by
 rcases h with h | ⟨o, its, n, hk, hc, hs, hz, r⟩
 ·obtain ⟨z, its, r, p⟩ := h.ok I.bB
  exact ⟨its, r, p, z⟩
 ·refine ⟨its.toList, r, ⟨o, I.De a o hk, hc, n, by simpa using hs⟩, ?_⟩
  have e := r.length
  simp only [Array.length_toList] at e
  omega
theorem Inv.oE (I : Inv X pins σ H s) (h : ax X.K H a xs) (h' : ax X.K H a ys) : xs = ys := by
 obtain ⟨its, r, ⟨o, n, e, _, _, d⟩, _⟩ := I.list h
 obtain ⟨its', r', ⟨o', n', e', _, _, d'⟩, _⟩ := I.list h'
 rw [e] at e'; cases e'
 rw [d] at d'
 injection d' with d1 _
 have : its = its' := by simpa using congrArg Array.toList d1
 subst this
 exact r.inj r'
theorem Inv.Gu (I : Inv X pins σ H s) (h : cM X.K H a xs) (h' : cM X.K H a ys) : xs = ys := by
 obtain ⟨its, r, ⟨o, e, _, n, d⟩, _⟩ := I.tuple h
 obtain ⟨its', r', ⟨o', e', _, n', d'⟩, _⟩ := I.tuple h'
 rw [e] at e'; cases e'
 rw [d] at d'
 injection d' with d1 _
 have : its = its' := by simpa using congrArg Array.toList d1
 subst this
 exact r.inj r'
end
abbrev Cx.vI (X : Cx) (E : Value → Shared → Prop) : Cx := { X with xe := E }
abbrev Cx.UK (X : Cx) : Cx := X.vI fun _ _ => False
theorem Cx.Ok.vI {X : Cx} (ok : X.Ok) (E : Value → Shared → Prop) : (X.vI E).Ok :=
 ⟨ok.mod, ok.kind, ok.glob, ok.blt, ok.above, ok.inj, ok.has, ok.QD, ok.hd, ok.frames, ok.UG, ok.Yk, ok.bs, ok.Fd, ok.Dd, ok.LH, ok.pR, ok.Nf⟩
theorem Cx.Ok.kT {X : Cx} {E : Value → Shared → Prop} (ok : (X.vI E).Ok) : X.Ok :=
 ⟨ok.mod, ok.kind, ok.glob, ok.blt, ok.above, ok.inj, ok.has, ok.QD, ok.hd, ok.frames, ok.UG, ok.Yk, ok.bs, ok.Fd, ok.Dd, ok.LH, ok.pR, ok.Nf⟩
section
variable {X : Cx} {pins : List (Addr × Obj)} {σ : St} {H : Hp} {s : Shared} {E : Value → Shared → Prop}
theorem Inv.vI (I : Inv X pins σ H s) (E : Value → Shared → Prop) : Inv (X.vI E) pins σ H s := ⟨I.ok.vI E, I.os, I.bare, I.base, I.loc, I.cell, I.free, I.kF, I.pin, I.bB, I.len⟩
theorem Inv.kT (I : Inv (X.vI E) pins σ H s) : Inv X pins σ H s := ⟨I.ok.kT, I.os, I.bare, I.base, I.loc, I.cell, I.free, I.kF, I.pin, I.bB, I.len⟩
theorem SP.kT {D : Ends} {f : Flow} {s' : Shared} (h : SP (X.vI E) pins D f s') : SP X pins D f s' := by
 cases f with
 | next => obtain ⟨σ', H', I, q⟩ := h; exact ⟨σ', H', I.kT, q⟩
 | brk => obtain ⟨σ', H', I, q⟩ := h; exact ⟨σ', H', I.kT, q⟩
 | cont => obtain ⟨σ', H', I, q⟩ := h; exact ⟨σ', H', I.kT, q⟩
 | ret u => obtain ⟨v, σ', H', I, r, q⟩ := h; exact ⟨v, σ', H', I.kT, r, q⟩
theorem Ff.UK {st : List Stmt} {t : TS} (h : Ff X.UK st t) : Ff X st t := fun pins s σ H D I hw =>
 wpAny_mono (h pins s σ H D (I.vI _) hw) (fun _ _ q => q.kT) fun _ _ z => False.elim z
end
section
variable {X : Cx} {st : Stmt} {rest : List Stmt} {t u : TS} {e : Expr} {te : TE} {pos : Pos}
def QI : TS := fun D σ H => D.nx σ H
def Vx (t u : TS) : TS := fun D σ H => t { D with nx := u D } σ H
theorem aG : Ff X [] QI := fun _ _ σ H _ I h => wpAny_execs_nil ⟨σ, H, I, h⟩
theorem ab (h1 : PS X st t) (h2 : Ff X rest u) : Ff X (st :: rest) (Vx t u) := by
 intro pins s σ H D I h
 refine wpAny_execs_cons (thn (h1 pins s σ H { D with nx := u D } I h) fun f s1 q => ?_)
 cases f with
 | next =>
  obtain ⟨σ', H', I', q⟩ := q
  exact h2 pins s1 σ' H' D I' q
 | ret v => exact q
 | brk => exact q
 | cont => exact q
theorem ah (h1 : PS X st t) : Ff X [st] t := by
 intro pins s σ H D I h
 refine wpAny_execs_cons (thn (h1 pins s σ H D I h) fun f s1 q => ?_)
 cases f with
 | next => exact wpAny_execs_nil q
 | ret v => exact q
 | brk => exact q
 | cont => exact q
def QJ : TS := fun D σ H => D.ct σ H
theorem Bl : PS X (.Continue pos) QJ := fun _ _ σ H _ I h => wpAny_Continue ⟨σ, H, I, h⟩
theorem Inv.quiet {pins : List (Addr × Obj)} {σ : St} {H : Hp} {s : Shared} (I : Inv X pins σ H s) : interactive X.env = false := by simp [interactive, I.ok.kind]
def QK (te : TE) : TS := fun D σ H => te σ H fun _ H1 => D.nx σ H1
theorem a8 (he : PE X e te) (hs : swapsWith e none pos.line X.env = pure false := by rfl) : PS X (.Expr e pos) (QK te) := by
 intro pins s σ H D I h
 exact wpAny_Expr_any (thn (he pins s σ H _ I h) fun v s1 ⟨x, H1, I1, r1, q1⟩ => ⟨σ, H1, I1, q1⟩) I.quiet hs
def Vy (te : TE) : TS := fun D σ H => te σ H D.rt
theorem aC (he : PE X e te) : PS X (.Return (some e) pos) (Vy te) := by
 intro pins s σ H D I h
 exact wpAny_Return_some (thn (he pins s σ H _ I h) fun v s1 ⟨x, H1, I1, r1, q1⟩ => ⟨x, σ, H1, I1, r1, q1⟩)
def QL : TS := fun D _ H => D.rt .cL H
theorem LK : PS X (.Return none pos) QL := fun _ _ σ H _ I h => wpAny_Return_none ⟨.cL, σ, H, I, rfl, h⟩
def Vz (c : TT) (t u : TS) : TS := fun D σ H => c σ H fun b H1 => if b = true then t D σ H1 else u D σ H1
theorem aX {c : Expr} {a b : List Stmt} {tc : TT} (hc : PT X c tc) (ha : Ff X a t) (hb : Ff X b u) : PS X (.If c a b pos) (Vz tc t u) := by
 intro pins s σ H D I h
 refine wpAny_If (thn (hc pins s σ H _ I h) fun d s1 ⟨H1, I1, q1⟩ => ?_)
 cases d with
 | true => exact ha pins s1 σ H1 D I1 q1
 | false => exact hb pins s1 σ H1 D I1 q1
def Iq : TS := fun _ _ _ => False
theorem Ir : PS X st Iq := fun _ _ _ _ _ _ h => h.elim
theorem aY {Z8 : List Stmt} : Ff X Z8 Iq := fun _ _ _ _ _ _ h => h.elim
end
abbrev TG := V → St → Hp → (St → Hp → Prop) → Prop
abbrev N7 := List V → St → Hp → (St → Hp → Prop) → Prop
def PG (X : Cx) (target : Expr) (t : TG) : Prop :=
 ∀ (pins : List (Addr × Obj)) (s : Shared) (σ : St) (H : Hp) (v : V) (u : Value) (Q : St → Hp → Prop), Inv X pins σ H s → RelV v u → t v σ H Q →
  wpAny (model X.prog X.w) X.A (assign target X.env u) (fun _ s' => ∃ σ' H', Inv X pins σ' H' s' ∧ Q σ' H') X.xe s
def UL (X : Cx) (ts : List Expr) (t : N7) : Prop :=
 ∀ (pins : List (Addr × Obj)) (s : Shared) (σ : St) (H : Hp) (vs : List V) (us : List Value) (Q : St → Hp → Prop), Inv X pins σ H s → Vals vs us → t vs σ H Q →
  wpAny (model X.prog X.w) X.A (assignInOrder ((assignEach ts X.env).map (·.2)) us) (fun _ s' => ∃ σ' H', Inv X pins σ' H' s' ∧ Q σ' H') X.xe s
abbrev N8 := V → V → V → Hp → (Hp → Prop) → Prop
def QM (X : Cx) (t : N8) : Prop :=
 ∀ (pins : List (Addr × Obj)) (s : Shared) (σ : St) (H : Hp) (o i v : V) (ov iv u : Value) (Q : Hp → Prop), Inv X pins σ H s → RelV o ov → RelV i iv → RelV v u → t o i v H Q →
  wpAny (model X.prog X.w) X.A (setItem ov iv u) (fun _ s' => ∃ H', Inv X pins σ H' s' ∧ Q H') X.xe s
abbrev UM := V → V → Hp → VK → Prop
def Yo (X : Cx) (op : Operator) (t : UM) : Prop :=
 ∀ (pins : List (Addr × Obj)) (s : Shared) (σ : St) (H : Hp) (x y : V) (v u : Value) (Q : VK), Inv X pins σ H s → RelV x v → RelV y u → t x y H Q →
  wpAny (model X.prog X.w) X.A (inplaceOp op v u) (EP X pins σ Q) X.xe s
section
variable {X : Cx} {pos : Pos}
def ra (i : Nat) : TG := fun v σ H Q => Q (σ.set i (some v)) H
theorem aL {i : Nat} {x : Str} (hN : X.N.Nodup) (hi : X.N[i]? = some x) (hx : Loc X.env.scope x) (hf : X.fn x = true ∨ X.env.scope.names.lookup x = some .local := by first | exact .inl rfl | exact .inr rfl | assumption) : PG X (.Name x pos) (ra i) := by
 intro pins s σ H v u Q I r h
 exact wpAny_assign_Name (sU I hN hi hx r (fun s' I' => ⟨_, H, I', h⟩) hf)
def QN : N7 := fun vs σ H Q => vs = [] ∧ Q σ H
def Iu (t : TG) (u : N7) : N7 := fun vs σ H Q => ∃ v r, vs = v :: r ∧ t v σ H fun σ' H' => u r σ' H' Q
theorem jq : UL X [] QN := by
 intro pins s σ H vs us Q I r h
 obtain ⟨e, h⟩ := h
 subst e
 cases r
 exact assignInOrder_nil ⟨σ, H, I, h⟩
theorem bU {e : Expr} {es : List Expr} {t : TG} {u : N7} (h1 : PG X e t) (h2 : UL X es u)
  (hs : (assignEach (e :: es) X.env).map (·.2) = assign e X.env :: (assignEach es X.env).map (·.2) := by rfl) : UL X (e :: es) (Iu t u) := by
 intro pins s σ H vs us Q I r h
 obtain ⟨v, vr, e1, h⟩ := h
 subst e1
 cases r with
 | cons r rr =>
  rw [hs]
  refine assignInOrder_cons (thn (h1 pins s σ H _ _ _ I r h) fun _ s1 ⟨σ1, H1, I1, q1⟩ => ?_)
  exact h2 pins s1 σ1 H1 _ _ Q I1 rr q1
def QO (K : PySem.W.Frag) (n : Nat) (t : N7) : TG := fun v σ H Q => ∃ a xs, v = .ref a ∧ cM K H a xs ∧ xs.length = n ∧ t xs σ H Q
theorem ny {es : List Expr} {k : Nat} {t : N7} {n : Nat} (hc : X.calm = true) (h : UL X es t)
  (hn : (assignEach es X.env).length = n := by rfl) (N9 : (assignEach es X.env).findIdx? (·.1) = none := by rfl) : PG X (.Tuple es k pos) (QO X.K n t) := by
 intro pins s σ H v u Q I r hw
 obtain ⟨a, xs, e1, hq, hl, hw⟩ := hw
 subst e1
 cases r
 obtain ⟨its, rv, ht, hz⟩ := I.tuple hq
 refine assign_Tuple_tuple (I.ok.hd hc) ht (by simp [hn, ← hl, rv.length]) N9 fun h' hx => ?_
 have I1 : Inv X pins σ H { s with heap := h' } := I.kept (t' := s.toks) fun b o e => hx b o (Nat.ne_of_lt (Heap.lt_size e)) e
 exact h pins _ σ H xs _ Q I1 (by simpa using rv) hw
def VA (to ti : TE) (t : N8) : TG := fun v σ H Q => to σ H fun o H1 => ti σ H1 fun i H2 => t o i v H2 fun H3 => Q σ H3
theorem Dh {o i : Expr} {to ti : TE} {t : N8} (ho : PE X o to) (hi : PE X i ti) (hs : QM X t)
  (ha : ∀ v, assign (.Subscript o i pos) X.env v = (do
   let ov ← holding [v] (eval o X.env)
   let iv ← holding [v, ov] (eval i X.env)
   standAt pos
   holding [v, ov, iv] (setItem ov iv v)
   release [v, ov, iv] []) := by intro _; rfl) : PG X (.Subscript o i pos) (VA to ti t) := by
 intro pins s σ H v u Q I r h
 rw [ha]
 refine wpAny_bind (wpAny_holding (thn (ho pins s σ H _ I h) fun ov s1 ⟨x, H1, I1, r1, q1⟩ => ?_))
 refine wpAny_bind (wpAny_holding (thn (hi pins s1 σ H1 _ I1 q1) fun iv s2 ⟨y, H2, I2, r2, q2⟩ => ?_))
 refine wpAny_bind (wpAny_standAt (wpAny_bind (wpAny_holding (thn (hs pins s2 σ H2 x y v ov iv u _ I2 r1 r2 r q2) fun _ s3 ⟨H3, I3, q3⟩ => ?_))))
 exact wpAny_release ⟨σ, H3, I3, q3⟩
def Oa (te : TE) (g : TG) : TS := fun D σ H => te σ H fun x H1 => g x σ H1 D.nx
theorem yf {tg e : Expr} {te : TE} {g : TG} (he : PE X e te) (hg : PG X tg g) (hs : swapsWithSole [tg] e pos.line X.env = pure false := by rfl) (hw : swappedStores [tg] e X.env = pure none := by rfl)
  (h1 : (assignEach [tg] X.env).map (·.2) = [assign tg X.env] := by rfl) : PS X (.Assign [tg] e pos) (Oa te g) := by
 intro pins s σ H D I h
 refine wpAny_Assign_stores (thn (he pins s σ H _ I h) fun v s1 ⟨x, H1, I1, r1, q1⟩ => ?_) hs hw
 rw [h1]
 exact thn (hg pins s1 σ H1 x v _ I1 r1 q1) fun _ s2 q => q
theorem au {i : Nat} {x : Str} {e : Expr} {te : TE} {pos' : Pos} (hN : X.N.Nodup) (hi : X.N[i]? = some x) (hx : Loc X.env.scope x) (he : PE X e te) (hs : swapsWith e (some (.Name x pos')) pos.line X.env = pure false := by rfl) (hf : X.fn x = true ∨ X.env.scope.names.lookup x = some .local := by first | exact .inl rfl | exact .inr rfl | assumption) :
  PS X (.Assign [.Name x pos'] e pos) (Oa te (ra i)) := by
 intro pins s σ H D I h
 refine wpAny_Assign_Name (thn (he pins s σ H _ I h) fun v s1 ⟨y, H1, I1, r1, q1⟩ => ?_) hs
 exact sU I1 hN hi hx r1 (fun s2 I2 => ⟨_, H1, I2, q1⟩) hf
def VB (i : Nat) (te : TE) (ti : UM) : TS := fun D σ H => ∃ x, σ[i]? = some (some x) ∧ te σ H fun y H1 => ti x y H1 fun z H2 => D.nx (σ.set i (some z)) H2
theorem yg {i : Nat} {x : Str} {e : Expr} {te : TE} {op : Operator} {ti : UM} {pos' : Pos} (hN : X.N.Nodup) (hi : X.N[i]? = some x) (hx : Loc X.env.scope x) (he : PE X e te) (ho : Yo X op ti) (hf : X.fn x = true ∨ X.env.scope.names.lookup x = some .local := by first | exact .inl rfl | exact .inr rfl | assumption) :
  PS X (.AugAssign (.Name x pos') op e pos) (VB i te ti) := by
 intro pins s σ H D I h
 obtain ⟨v, e1, h⟩ := h
 obtain ⟨m, hn, hl⟩ := I.loc
 have Z9 : UE X.env.scope x := by rcases hx with k | k; exact .inl k; exact .inr (.inl k)
 obtain ⟨u, r, l⟩ := hl i x v hi e1 Z9
 refine wpAny_AugAssign_Name ?_
 have go : wpAny (model X.prog X.w) X.A (eval e X.env) (fun w s₂ => wpAny (model X.prog X.w) X.A (inplaceOp op u w) (fun r s₃ => wpAny (model X.prog X.w) X.A (storeName X.env x r) (fun _ => SP X pins D .next) X.xe s₃) X.xe s₂) X.xe s := by
  refine thn (he pins s σ H _ I h) fun w s1 ⟨y, H1, I1, r1, q1⟩ => ?_
  refine thn (ho pins s1 σ H1 v y u w _ I1 r r1 q1) fun z s2 ⟨zv, H2, I2, r2, q2⟩ => ?_
  exact sU I2 hN hi hx r2 (fun s3 I3 => ⟨_, H2, I3, q2⟩) hf
 rcases l with ⟨hk, hm⟩ | ⟨hk, c, hc, Fg⟩
 ·exact wpAny_loadName_local I.ok.kind hk hn hm go
 ·rcases hk with hk | hk
  ·exact wpAny_loadName_cell I.ok.kind hk hc Fg go
  ·rcases hx with k | k
   ·have : X.env.scope.names.lookup x = some .free := hk
    rw [k] at this; cases this
   ·have : X.env.scope.names.lookup x = some .free := hk
    rw [k] at this; cases this
def ipI (f : Int → Int → Int) : UM := fun x y H Q => ∃ i j, x = .int i ∧ y = .int j ∧ Q (.int (f i j)) H
theorem yh : Yo X .Add (ipI fun i j => i + j) := by
 intro pins s σ H x y v u Q I r1 r2 h
 obtain ⟨i, j, e1, e2, q⟩ := h
 subst e1; subst e2
 obtain ⟨t, rfl⟩ := r1
 obtain ⟨t', rfl⟩ := r2
 exact iadd_int ⟨.int _, H, I.tok _, ⟨_, rfl⟩, q⟩
end
section
variable {X : Cx} {pos : Pos}
def Iv (c : TT) (tb : TS) : TS := fun D σ H => ∃ W : Nat → St → Hp → Prop, (∃ m, W m σ H) ∧ ∀ m σ H, W m σ H →
 c σ H fun b H1 => if b = true then ∃ N : St → Hp → Prop, (∀ σ' H', N σ' H' → ∃ m', m' < m ∧ W m' σ' H') ∧ tb { D with nx := N, ct := N, bk := D.nx } σ H1 else D.nx σ H1
theorem iZ {c : Expr} {body : List Stmt} {tc : TT} {tb : TS} (hp : PassesOwn (model X.prog X.w) X.A X.env X.xe) (hc : PT X c tc) (hb : Ff X body tb) : PS X (.While c body [] pos) (Iv tc tb) := by
 intro pins s σ H D I h
 obtain ⟨W, ⟨m0, w0⟩, turn⟩ := h
 refine wpAny_While (codeAny_whileLoop (fun n s' => ∃ σ' H', Inv X pins σ' H' s' ∧ W n σ' H') ?_ m0 ⟨σ, H, I, w0⟩)
 rintro n s1 ⟨σ1, H1, I1, w1⟩
 refine wpAny_passesOwn hp (thn (hc pins s1 σ1 H1 _ I1 (turn n σ1 H1 w1)) fun b s2 ⟨H2, I2, q2⟩ => ?_)
 cases b with
 | true =>
  obtain ⟨N, hN, q2⟩ := q2
  rw [if_pos rfl]
  refine wpAny_passesOwn hp (thn (hb pins s2 σ1 H2 _ I2 q2) fun f s3 q3 => ?_)
  cases f with
  | next =>
   obtain ⟨σ3, H3, I3, n3⟩ := q3
   obtain ⟨m', hm, w3⟩ := hN σ3 H3 n3
   exact ⟨m', hm, σ3, H3, I3, w3⟩
  | cont =>
   obtain ⟨σ3, H3, I3, n3⟩ := q3
   obtain ⟨m', hm, w3⟩ := hN σ3 H3 n3
   exact ⟨m', hm, σ3, H3, I3, w3⟩
  | brk => exact q3
  | ret v => exact q3
 | false =>
  rw [if_neg Bool.false_ne_true]
  exact wpAny_execs_nil ⟨σ1, H2, I2, q2⟩
end
structure It where
 go : Nat → Hp → Prop
 LM : Nat → Hp → V → Hp → Prop
 stop : Nat → Hp → Prop
def dS (X : Cx) (pins : List (Addr × Obj)) (H : Hp) (b : Addr) : Prop :=
 H b = none ∧ b ≠ X.env.locals ∧ b ∉ X.fs ∧ (b ∈ X.ex ∨ X.s₀.heap.objs.size ≤ b) ∧ (∀ x c, X.env.cells.lookup x = some c → c ≠ b) ∧ ∀ p ∈ X.pn ++ pins, p.1 ≠ b
theorem Inv.sV {X : Cx} {pins : List (Addr × Obj)} {σ : St} {H H' : Hp} {s : Shared} {b : Addr} (I : Inv X pins σ H s) (hb : s.heap.objs.size ≤ b) (hn : H' b = none) : dS X pins H' b := by
 refine ⟨hn, Nat.ne_of_gt (Nat.lt_of_lt_of_le I.lt hb), I.Vn hb, .inr (Nat.le_trans I.sz hb), fun x c e z => ?_, fun p hp z => ?_⟩
 ·obtain ⟨v, q⟩ := I.cell x c e
  exact absurd (Nat.lt_of_lt_of_le q.lt (by rw [z]; exact hb)) (Nat.lt_irrefl _)
 ·exact absurd (Nat.lt_of_lt_of_le (Heap.lt_size (I.pin p hp).1) (by rw [z]; exact hb)) (Nat.lt_irrefl _)
structure Turn (P : Program) (w : World) (K : PySem.W.Frag) (tg : Expr) (J : It) (fp : List Addr) (it : Addr) (tn : Nat → Heap → Prop) : Prop where
 mem : it ∈ fp
 obj : ∀ i h, tn i h → ∀ b ∈ fp, ∃ o, h.get? b = some o ∧ ∀ v, o.data ≠ .cell v
 keep : ∀ i h h', tn i h → (∀ b ∈ fp, ∀ o, h.get? b = some o → h'.get? b = some o) → tn i h'
 item : ∀ (X : Cx), X.prog = P → X.w = w → X.K = K → X.calm = true → ∀ (i : Nat) (pins : List (Addr × Obj)) (s : Shared) (σ : St) (H : Hp) (E : Value → Shared → Prop), Inv X pins σ H s → (∀ b ∈ fp, dS X pins H b) → tn i s.heap → J.go i H →
  wpAny (model P w) X.A (pyNext (.ref it)) (fun r s1 => ∃ u, r = some u ∧
   wpAny (model P w) X.A (letOwnedTupleGo tg (.ref it) u) (fun _ s2 => ∃ x H', Inv X pins σ H' s2 ∧ RelV x u ∧ J.LM i H x H' ∧ tn (i + 1) s2.heap ∧ ∀ b ∈ fp, H' b = none) E s1) E s
 done : ∀ (X : Cx), X.prog = P → X.w = w → X.K = K → X.calm = true → ∀ (i : Nat) (pins : List (Addr × Obj)) (s : Shared) (σ : St) (H : Hp) (E : Value → Shared → Prop), Inv X pins σ H s → (∀ b ∈ fp, dS X pins H b) → tn i s.heap → J.stop i H →
  wpAny (model P w) X.A (pyNext (.ref it)) (fun r s1 => r = none ∧ Inv X pins σ H s1) E s
 self : ∀ (A : Around) (i : Nat) (s : Shared) (Q : Value → Shared → Prop) (E : Value → Shared → Prop), tn i s.heap → Q (.ref it) s → wpAny (model P w) A (pyIter (.ref it)) Q E s
abbrev TI := St → Hp → (It → Hp → Prop) → Prop
def VC (X : Cx) (pins : List (Addr × Obj)) (σ : St) (tg : Expr) (R : It → Hp → Prop) (QP : Value) (s2 : Shared) : Prop :=
 ∃ (it : Addr) (fp : List Addr) (tn : Nat → Heap → Prop) (J : It) (H' : Hp), QP = .ref it ∧ Inv X pins σ H' s2 ∧ Turn X.prog X.w X.K tg J fp it tn ∧ tn 0 s2.heap ∧ (∀ b ∈ fp, dS X pins H' b) ∧ R J H'
def PI (X : Cx) (tg iter : Expr) (wi : TI) : Prop :=
 ∀ (pins : List (Addr × Obj)) (s : Shared) (σ : St) (H : Hp) (R : It → Hp → Prop), Inv X pins σ H s → wi σ H R →
  wpAny (model X.prog X.w) X.A (eval iter X.env) (fun v s1 => wpAny (model X.prog X.w) X.A (pyIter v) (VC X pins σ tg R) X.xe s1) X.xe s
theorem Fh {M : Model} {A : Around} {E : Value → Shared → Prop} {s : Shared} {tg : Expr} {it : Addr} {u : Value} {o : Obj} {n : String} {vs : Array Value} {Q : Unit → Shared → Prop} (ho : s.heap.get? it = some o) (hc : o.cls = .type n) (hd : o.data = .fields vs)
    (hn : ["enumerate", "zip", "dict_itemiterator", "dict_reverseitemiterator", "odict_iterator", "itertools.zip_longest", "itertools.pairwise"].contains n = false) (hQ : Q () s) : wpAny M A (letOwnedTupleGo tg (.ref it) u) Q E s := by
  unfold letOwnedTupleGo
  cases tg <;> first
    | exact wpAny_pure hQ
    | (cases u <;> first
        | exact wpAny_pure hQ
        | (refine wpAny_bind (wpAny_load ho ?_)
           rw [hc, hd]
           show wpAny M A (if (["enumerate", "zip", "dict_itemiterator", "dict_reverseitemiterator", "odict_iterator", "itertools.zip_longest", "itertools.pairwise"].contains n && vs[0]? == some (rawInt _)) = true then _ else _) Q E s
           rw [if_neg (by intro h; rw [hn, Bool.false_and] at h; cases h)]
           exact wpAny_pure hQ))
def Lu (K : PySem.W.Frag) (a : Addr) : It :=
 ⟨fun i H => ∃ xs x, ax K H a xs ∧ xs[i]? = some x, fun i H x H' => H' = H ∧ ∀ xs, ax K H a xs → xs[i]? = some x, fun i H => ∃ xs, ax K H a xs ∧ xs.length ≤ i⟩
def QR (K : PySem.W.Frag) (a : Addr) : It :=
 ⟨fun i H => ∃ xs x, cM K H a xs ∧ xs[i]? = some x, fun i H x H' => H' = H ∧ ∀ xs, cM K H a xs → xs[i]? = some x, fun i H => ∃ xs, cM K H a xs ∧ xs.length ≤ i⟩
def Ni (lo : Int) (n : Nat) : It := ⟨fun i _ => i < n, fun i H x H' => H' = H ∧ x = .int (lo + i), fun i _ => n ≤ i⟩
theorem Gv {P : Program} {w : World} {K : PySem.W.Frag} {tg : Expr} (a it : Addr) : Turn P w K tg (Lu K a) [it] it (fun i h => h.IsListIter it a i) where
 mem := by simp
 obj := fun i h st b hb => by
  have e : b = it := by simpa using hb
  subst e
  obtain ⟨o, e, c, d⟩ := st
  exact ⟨o, e, fun v z => by rw [d] at z; cases z⟩
 keep := fun i h h' st k => st.at fun o e => k it (by simp) o e
 item := by
  intro X hP hw hK hc i pins s σ H E I hf st hg
  subst hP hw hK
  obtain ⟨xs, x, hq, hx⟩ := hg
  obtain ⟨its, rv, p, hz⟩ := I.list hq
  obtain ⟨u, hu, ru⟩ := rv.get hx
  obtain ⟨f0, f1, f2, f3, f4, f5⟩ := hf it (by simp)
  refine wpAny_pyNext_list_item st p.isList (x := u) (by simpa using hu) fun h' xf sb => ?_
  have I1 : Inv X pins σ H { s with heap := h' } := I.turned (t' := s.toks) (fun b o hb e => (sb.2 b hb).trans e) f0 f1 f3 f4 f5
  obtain ⟨o, e, c, d⟩ := id xf
  exact ⟨u, rfl, Fh (s := { s with heap := h' }) e c d (by decide) ⟨x, H, I1, ru, ⟨rfl, fun ys hy => by rw [I.oE hy hq]; exact hx⟩, xf, fun b hb => (hf b hb).1⟩⟩
 done := by
  intro X hP hw hK hc i pins s σ H E I hf st hg
  subst hP hw hK
  obtain ⟨xs, hq, hx⟩ := hg
  obtain ⟨its, rv, p, hz⟩ := I.list hq
  obtain ⟨f0, f1, f2, f3, f4, f5⟩ := hf it (by simp)
  have hl := rv.length
  exact wpAny_pyNext_list_end (I.ok.hd hc) st p.isList (by simp; omega) fun h' eb => ⟨rfl, I.turned (t' := s.toks) (fun b o hb e => eb b o hb e) f0 f1 f3 f4 f5⟩
 self := fun _ _ _ _ _ st h => wpAny_pyIter_listiter st h
theorem Di {P : Program} {w : World} {K : PySem.W.Frag} {tg : Expr} (a it : Addr) : Turn P w K tg (QR K a) [it] it (fun i h => h.IsTupleIter it a i) where
 mem := by simp
 obj := fun i h st b hb => by
  have e : b = it := by simpa using hb
  subst e
  obtain ⟨o, e, c, d⟩ := st
  exact ⟨o, e, fun v z => by rw [d] at z; cases z⟩
 keep := fun i h h' st k => st.at fun o e => k it (by simp) o e
 item := by
  intro X hP hw hK hc i pins s σ H E I hf st hg
  subst hP hw hK
  obtain ⟨xs, x, hq, hx⟩ := hg
  obtain ⟨its, rv, p, hz⟩ := I.tuple hq
  obtain ⟨u, hu, ru⟩ := rv.get hx
  obtain ⟨f0, f1, f2, f3, f4, f5⟩ := hf it (by simp)
  refine wpAny_pyNext_tuple_item st (show s.heap.IsTuple a its.toArray from p) (x := u) (by simpa using hu) fun h' xf sb => ?_
  have I1 : Inv X pins σ H { s with heap := h' } := I.turned (t' := s.toks) (fun b o hb e => (sb.2 b hb).trans e) f0 f1 f3 f4 f5
  obtain ⟨o, e, c, d⟩ := id xf
  exact ⟨u, rfl, Fh (s := { s with heap := h' }) e c d (by decide) ⟨x, H, I1, ru, ⟨rfl, fun ys hy => by rw [I.Gu hy hq]; exact hx⟩, xf, fun b hb => (hf b hb).1⟩⟩
 done := by
  intro X hP hw hK hc i pins s σ H E I hf st hg
  subst hP hw hK
  obtain ⟨xs, hq, hx⟩ := hg
  obtain ⟨its, rv, p, hz⟩ := I.tuple hq
  obtain ⟨f0, f1, f2, f3, f4, f5⟩ := hf it (by simp)
  have hl := rv.length
  exact wpAny_pyNext_tuple_end (I.ok.hd hc) st (show s.heap.IsTuple a its.toArray from p) (by simp; omega) fun h' eb => ⟨rfl, I.turned (t' := s.toks) (fun b o hb e => eb b o hb e) f0 f1 f3 f4 f5⟩
 self := fun _ _ _ _ _ st h => wpAny_pyIter_tupleiter st h
theorem Dj {P : Program} {w : World} {K : PySem.W.Frag} {tg : Expr} (it : Addr) (lo : Int) (n : Nat) : Turn P w K tg (Ni lo n) [it] it (fun i h => IsRangeIter h it (lo + (i : Nat) * 1) ((n : Int) - (i : Nat)) 1) where
 mem := by simp
 obj := fun i h st b hb => by
  have e : b = it := by simpa using hb
  subst e
  exact ⟨_, st, fun v z => by
   have z' : Data.fields _ = Data.cell v := z
   cases z'⟩
 keep := fun i h h' st k => k it (by simp) _ st
 item := by
  intro X hP hw hK hc i pins s σ H E I hf st hg
  subst hP hw hK
  obtain ⟨f0, f1, f2, f3, f4, f5⟩ := hf it (by simp)
  have W := Walks.range (prog := X.prog) (w := X.w) (I.ok.hd hc) it lo 1 n
  refine W.item i s _ _ hg st fun v h' tk hv xf kk => ?_
  obtain ⟨t, rfl⟩ := hv
  have I1 : Inv X pins σ H { s with heap := h', toks := tk } := I.turned (fun b o hb e => kk b o (by simpa using hb) e) f0 f1 f3 f4 f5
  refine ⟨_, rfl, Fh (s := { s with heap := h', toks := tk }) (n := "range_iterator") xf rfl rfl (by decide) ⟨.int (lo + i), H, I1, ⟨t, ?_⟩, ⟨rfl, rfl⟩, xf, fun b hb => (hf b hb).1⟩⟩
  rw [Int.mul_one]
 done := by
  intro X hP hw hK hc i pins s σ H E I hf st hg
  subst hP hw hK
  obtain ⟨f0, f1, f2, f3, f4, f5⟩ := hf it (by simp)
  exact wpAny_pyNext_range_end (I.ok.hd hc) st (by have : n ≤ i := hg; omega) fun h' eb => ⟨rfl, I.turned (t' := s.toks) (fun b o hb e => eb b o hb e) f0 f1 f3 f4 f5⟩
 self := fun _ _ _ _ _ st h => wpAny_pyIter_rangeiter st h
end L2
namespace L2
open PySem PySem.Spec PyProof.Rows
section
variable {X : Cx} {tg : Expr}
def Nj (K : PySem.W.Frag) (tl : TE) : TI := fun σ H R => tl σ H fun x H1 => ∃ a, x = .ref a ∧ (∃ xs, ax K H1 a xs) ∧ R (Lu K a) H1
def VD (K : PySem.W.Frag) (tl : TE) : TI := fun σ H R => tl σ H fun x H1 => ∃ a, x = .ref a ∧ (∃ xs, cM K H1 a xs) ∧ R (QR K a) H1
theorem aK {l : Expr} {tl : TE} (hl : PE X l tl) : PI X tg l (Nj X.K tl) := by
 intro pins s σ H R I h
 refine thn (hl pins s σ H _ I h) fun v s1 ⟨x, H1, I1, r1, q1⟩ => ?_
 obtain ⟨a, e, ⟨xs, hq⟩, q⟩ := q1
 subst e
 cases r1
 obtain ⟨its, rv, p, hz⟩ := I1.list hq
 refine wpAny_pyIter_list p.isList ?_
 refine ⟨s1.heap.objs.size, [s1.heap.objs.size], _, _, H1, rfl, I1.kept (t' := s1.toks) fun b o e => Heap.get?_push_of_some _ e, Gv a _, ⟨_, Heap.get?_push_size _ rfl, rfl, rfl⟩, fun b hb => ?_, q⟩
 have e : b = s1.heap.objs.size := by simpa using hb
 subst e
 exact I1.sV (Nat.le_refl _) (I1.bB.fresh (Nat.le_refl _))
theorem Ob {l : Expr} {tl : TE} (hl : PE X l tl) : PI X tg l (VD X.K tl) := by
 intro pins s σ H R I h
 refine thn (hl pins s σ H _ I h) fun v s1 ⟨x, H1, I1, r1, q1⟩ => ?_
 obtain ⟨a, e, ⟨xs, hq⟩, q⟩ := q1
 subst e
 cases r1
 obtain ⟨its, rv, p, hz⟩ := I1.tuple hq
 refine wpAny_pyIter_tuple (show s1.heap.IsTuple a its.toArray from p) ?_
 refine ⟨s1.heap.objs.size, [s1.heap.objs.size], _, _, H1, rfl, I1.kept (t' := s1.toks) fun b o e => Heap.get?_push_of_some _ e, Di a _, ⟨_, Heap.get?_push_size _ rfl, rfl, rfl⟩, fun b hb => ?_, q⟩
 have e : b = s1.heap.objs.size := by simpa using hb
 subst e
 exact I1.sV (Nat.le_refl _) (I1.bB.fresh (Nat.le_refl _))
theorem Iw {pins : List (Addr × Obj)} {σ : St} {H : Hp} {s : Shared} {R : It → Hp → Prop} {E : Value → Shared → Prop} {lo hi : Int} {t u v : Tok} {tk : Nat} (I : Inv X pins σ H s) (h1 : -(2 ^ 62) ≤ lo) (h2 : lo < 2 ^ 62) (h3 : -(2 ^ 62) ≤ hi) (h4 : hi < 2 ^ 62)
  (q : R (Ni lo (hi - lo).toNat) H) : wpAny (model X.prog X.w) X.A (pyIter (.ref s.heap.objs.size)) (VC X pins σ tg R) E { s with heap := s.heap.push { cls := .type "range", data := .fields #[.int lo t, .int hi u, .int 1 v] }, toks := tk } := by
 refine wpAny_pyIter_range (IsRange.new ..) (small_one h1 h2 h3 h4) ?_
 have I1 : Inv X pins σ H { s with heap := s.heap.push { cls := .type "range", data := .fields #[.int lo t, .int hi u, .int 1 v] }, toks := tk } := I.kept fun b o e => Heap.get?_push_of_some _ e
 refine ⟨(s.heap.push { cls := .type "range", data := .fields #[.int lo t, .int hi u, .int 1 v] }).objs.size, [(s.heap.push { cls := .type "range", data := .fields #[.int lo t, .int hi u, .int 1 v] }).objs.size], _, _, H, rfl,
  I1.kept (t' := tk) fun b o e => Heap.get?_push_of_some _ e, Dj _ lo (hi - lo).toNat, ?_, fun b hb => ?_, q⟩
 ·have e1 : lo + ((0 : Nat) : Int) * 1 = lo := by simp
  have e2 : (((hi - lo).toNat : Nat) : Int) - ((0 : Nat) : Int) = Builtin.Range.rangeSize lo hi 1 := by rw [rangeSize_one]; split <;> omega
  show IsRangeIter _ _ (lo + ((0 : Nat) : Int) * 1) ((((hi - lo).toNat : Nat) : Int) - ((0 : Nat) : Int)) 1
  rw [e1, e2]
  exact Heap.get?_push_size _ rfl
 ·have e : b = (s.heap.push { cls := .type "range", data := .fields #[.int lo t, .int hi u, .int 1 v] }).objs.size := by simpa using hb
  subst e
  exact I1.sV (Nat.le_refl _) (I1.bB.fresh (Nat.le_refl _))
def QS (ta : TA) : TI := fun σ H R => ta σ H fun vs H1 => ∃ j : Int, vs = [.int j] ∧ -(2 ^ 62) ≤ j ∧ j < 2 ^ 62 ∧ R (Ni 0 j.toNat) H1
theorem dP {a : Expr} {ta : TA} {p pos : Pos} (hg : Gl X "range") (hm : X.mg "range" = none) (ha : PA X [a] ta) (hs : starEach [a] X.env = [(false, eval a X.env)] := by rfl) : PI X tg (.Call (.Name "range" p) [a] [] pos) (QS ta) := by
 intro pins s σ H R I h
 refine Call_ (kQ I hg hm boot_range (PyProof.Rows.callWith_type1 (thn (ha pos pins s σ H _ I h) fun us s1 ⟨vs, H1, I1, r1, q1⟩ => ?_) hs rfl))
 obtain ⟨j, e, q1, q2, q⟩ := q1
 subst e
 cases r1 with
 | cons r rr =>
  cases rr
  obtain ⟨t, rfl⟩ := r
  exact call_range_1 (Iw I1 (by omega) (by omega) q1 q2 (by simpa using q))
def VE (wi : TI) (g : TG) (tb : TS) : TS := fun D σ H => wi σ H fun J H1 => ∃ W : Nat → Nat → St → Hp → Prop, (∃ m, W 0 m σ H1) ∧ ∀ i m σ H, W i m σ H →
 (J.stop i H ∧ D.nx σ H) ∨ (J.go i H ∧ ∃ N : St → Hp → Prop, (∀ σ' H', N σ' H' → ∃ m', m' < m ∧ W (i + 1) m' σ' H') ∧ ∀ x H', J.LM i H x H' → g x σ H' fun σ2 H2 => tb { D with nx := N, ct := N, bk := D.nx } σ2 H2)
def nA (fp : List Addr) (h : Heap) : List (Addr × Obj) := fp.filterMap fun b => (h.get? b).map fun o => (b, o)
theorem bN {fp : List Addr} {h : Heap} {b : Addr} {o : Obj} (hb : b ∈ fp) (e : h.get? b = some o) : (b, o) ∈ nA fp h := List.mem_filterMap.mpr ⟨b, hb, by rw [e]; rfl⟩
theorem Gw {fp : List Addr} {h : Heap} {p : Addr × Obj} (hp : p ∈ nA fp h) : p.1 ∈ fp ∧ h.get? p.1 = some p.2 := by
 obtain ⟨b, hb, e⟩ := List.mem_filterMap.mp hp
 cases q : h.get? b with
 | none => rw [q] at e; cases e
 | some o =>
  rw [q] at e
  have e' : (b, o) = p := Option.some.inj e
  subst e'
  exact ⟨hb, q⟩
theorem Inv.pinned {pins : List (Addr × Obj)} {σ : St} {H : Hp} {s : Shared} {fp : List Addr} (I : Inv X pins σ H s) (hf : ∀ b ∈ fp, dS X pins H b) (ho : ∀ b ∈ fp, ∃ o, s.heap.get? b = some o ∧ ∀ v, o.data ≠ .cell v) : Inv X (pins ++ nA fp s.heap) σ H s :=
 I.Fe fun p hp => (List.mem_append.mp hp).elim (fun z => I.pin p (List.mem_append_right _ z)) fun z => by
  obtain ⟨hb, e⟩ := Gw z
  obtain ⟨f0, f1, f2, _⟩ := hf p.1 hb
  obtain ⟨o, e', d⟩ := ho p.1 hb
  rw [e] at e'; cases e'
  exact ⟨e, f0, f1, f2, d⟩
theorem Inv.fw {pins pl : List (Addr × Obj)} {σ : St} {H : Hp} {s : Shared} (I : Inv X (pins ++ pl) σ H s) : Inv X pins σ H s := I.Fe fun p hp => I.pin p (List.mem_append_right _ (List.mem_append_left _ hp))
theorem bF {iter : Expr} {body : List Stmt} {wi : TI} {g : TG} {tb : TS} {pos : Pos} (hp : PassesOwn (model X.prog X.w) X.A X.env X.xe) (hc : X.calm = true) (hi : PI X tg iter wi) (hg : PG X tg g) (hb : Ff X body tb)
  (hs : ∀ x, foldedSetIterable iter X.env x = pure x := by intro _; rfl) : PS X (.For tg iter body [] pos) (VE wi g tb) := by
 intro pins s σ H D I h
 refine wpAny_For (thn (hi pins s σ H _ I h) fun v s1 h1 => thn h1 fun QP s2 h2 => ?_) hs
 obtain ⟨it, fp, tn, J, H2, e, I2, T, oF, f2, W, ⟨m0, w0⟩, turn⟩ := h2
 subst e
 have nB : ∀ {H' : Hp}, (∀ b ∈ fp, H' b = none) → ∀ b ∈ fp, dS X pins H' b := fun hn b hb => ⟨hn b hb, (f2 b hb).2⟩
 refine codeAny_forLoop_any (fun n s' => ∃ i σ' H', Inv X pins σ' H' s' ∧ tn i s'.heap ∧ (∀ b ∈ fp, H' b = none) ∧ W i n σ' H') ?_ m0 ⟨0, σ, H2, I2, oF, fun b hb => (f2 b hb).1, w0⟩
 rintro n s3 ⟨i, σ3, H3, I3, xg, Yp, w3⟩
 rcases turn i n σ3 H3 w3 with ⟨stop, qn⟩ | ⟨go, N, hN, step⟩
 ·refine wpAny_passesOwn hp (thn (T.done X rfl rfl rfl hc i pins s3 σ3 H3 X.xe I3 (nB Yp) xg stop) fun r s4 ⟨hr, I4⟩ => ?_)
  subst hr
  exact wpAny_execs_nil ⟨σ3, H3, I4, qn⟩
 ·refine wpAny_passesOwn hp (thn (T.item X rfl rfl rfl hc i pins s3 σ3 H3 X.xe I3 (nB Yp) xg go) fun r s4 ⟨u, hr, h4⟩ => ?_)
  subst hr
  refine wpAny_passesOwn hp (thn h4 fun _ s5 ⟨x, H5, I5, r5, y5, sq, Oc⟩ => ?_)
  have I5' := I5.pinned (nB Oc) (T.obj _ _ sq)
  refine wpAny_passesOwn hp (thn (hg _ s5 σ3 H5 x u _ I5' r5 (step x H5 y5)) fun _ s6 ⟨σ6, H6, I6, q6⟩ => ?_)
  refine wpAny_passesOwn hp (thn (hb _ s6 σ6 H6 _ I6 q6) fun f s7 q7 => ?_)
  have again : ∀ {σ7 : St} {H7 : Hp}, Inv X (pins ++ nA fp s5.heap) σ7 H7 s7 → N σ7 H7 → ∃ m, m < n ∧ ∃ i σ' H', Inv X pins σ' H' s7 ∧ tn i s7.heap ∧ (∀ b ∈ fp, H' b = none) ∧ W i m σ' H' := fun {σ7 H7} I7 n7 => by
   obtain ⟨m', hm, w7⟩ := hN σ7 H7 n7
   refine ⟨m', hm, i + 1, σ7, H7, I7.fw, T.keep _ _ _ sq fun b hb o e => (I7.pin (b, o) (List.mem_append_right _ (List.mem_append_right _ (bN hb e)))).1, fun b hb => ?_, w7⟩
   obtain ⟨o, e, d⟩ := T.obj _ _ sq b hb
   exact (I7.pin (b, o) (List.mem_append_right _ (List.mem_append_right _ (bN hb e)))).2.1
  cases f with
  | next => obtain ⟨σ7, H7, I7, n7⟩ := q7; exact again I7 n7
  | cont => obtain ⟨σ7, H7, I7, n7⟩ := q7; exact again I7 n7
  | brk => obtain ⟨σ7, H7, I7, q7⟩ := q7; exact ⟨σ7, H7, I7.fw, q7⟩
  | ret v => obtain ⟨x7, σ7, H7, I7, r7, q7⟩ := q7; exact ⟨x7, σ7, H7, I7.fw, r7, q7⟩
end
theorem bt {K : PySem.W.Frag} {a : Addr} {xs : List V} {g : TG} {tb : TS} {D : Ends} {σ : St} {H : Hp} (Pv : Nat → St → Hp → Prop) (h0 : Pv 0 σ H) (hl : ∀ i σ H, i ≤ xs.length → Pv i σ H → ax K H a xs)
  (hs : ∀ i x σ H, xs[i]? = some x → Pv i σ H → g x σ H fun σ2 H2 => tb { D with nx := Pv (i + 1), ct := Pv (i + 1), bk := D.nx } σ2 H2) (hd : ∀ σ H, Pv xs.length σ H → D.nx σ H) :
  ∃ W : Nat → Nat → St → Hp → Prop, (∃ m, W 0 m σ H) ∧ ∀ i m σ H, W i m σ H →
   ((Lu K a).stop i H ∧ D.nx σ H) ∨ ((Lu K a).go i H ∧ ∃ N : St → Hp → Prop, (∀ σ' H', N σ' H' → ∃ m', m' < m ∧ W (i + 1) m' σ' H') ∧ ∀ x H', (Lu K a).LM i H x H' → g x σ H' fun σ2 H2 => tb { D with nx := N, ct := N, bk := D.nx } σ2 H2) := by
 refine ⟨fun i m σ H => m = xs.length - i ∧ i ≤ xs.length ∧ Pv i σ H, ⟨xs.length, by simp, Nat.zero_le _, h0⟩, ?_⟩
 rintro i m σ H ⟨rfl, hi, p⟩
 have q := hl i σ H hi p
 by_cases fz : i < xs.length
 ·refine .inr ⟨⟨xs, xs[i], q, by simp [fz]⟩, Pv (i + 1), fun σ' H' p' => ⟨xs.length - (i + 1), by omega, rfl, fz, p'⟩, fun x H' y => ?_⟩
  obtain ⟨e, y⟩ := y
  subst e
  exact hs i x σ _ (y xs q) p
 ·have e : i = xs.length := by omega
  subst e
  exact .inl ⟨⟨xs, q, Nat.le_refl _⟩, hd σ H p⟩
theorem LN {K : PySem.W.Frag} {a : Addr} {xs : List V} {g : TG} {tb : TS} {D : Ends} {σ : St} {H : Hp} (Pv : Nat → St → Hp → Prop) (h0 : Pv 0 σ H) (hl : ∀ i σ H, i ≤ xs.length → Pv i σ H → cM K H a xs)
  (hs : ∀ i x σ H, xs[i]? = some x → Pv i σ H → g x σ H fun σ2 H2 => tb { D with nx := Pv (i + 1), ct := Pv (i + 1), bk := D.nx } σ2 H2) (hd : ∀ σ H, Pv xs.length σ H → D.nx σ H) :
  ∃ W : Nat → Nat → St → Hp → Prop, (∃ m, W 0 m σ H) ∧ ∀ i m σ H, W i m σ H →
   ((QR K a).stop i H ∧ D.nx σ H) ∨ ((QR K a).go i H ∧ ∃ N : St → Hp → Prop, (∀ σ' H', N σ' H' → ∃ m', m' < m ∧ W (i + 1) m' σ' H') ∧ ∀ x H', (QR K a).LM i H x H' → g x σ H' fun σ2 H2 => tb { D with nx := N, ct := N, bk := D.nx } σ2 H2) := by
 refine ⟨fun i m σ H => m = xs.length - i ∧ i ≤ xs.length ∧ Pv i σ H, ⟨xs.length, by simp, Nat.zero_le _, h0⟩, ?_⟩
 rintro i m σ H ⟨rfl, hi, p⟩
 have q := hl i σ H hi p
 by_cases fz : i < xs.length
 ·refine .inr ⟨⟨xs, xs[i], q, by simp [fz]⟩, Pv (i + 1), fun σ' H' p' => ⟨xs.length - (i + 1), by omega, rfl, fz, p'⟩, fun x H' y => ?_⟩
  obtain ⟨e, y⟩ := y
  subst e
  exact hs i x σ _ (y xs q) p
 ·have e : i = xs.length := by omega
  subst e
  exact .inl ⟨⟨xs, q, Nat.le_refl _⟩, hd σ H p⟩
theorem xh {lo : Int} {n : Nat} {g : TG} {tb : TS} {D : Ends} {σ : St} {H : Hp} (Pv : Nat → St → Hp → Prop) (h0 : Pv 0 σ H)
  (hs : ∀ i σ H, i < n → Pv i σ H → g (.int (lo + i)) σ H fun σ2 H2 => tb { D with nx := Pv (i + 1), ct := Pv (i + 1), bk := D.nx } σ2 H2) (hd : ∀ σ H, Pv n σ H → D.nx σ H) :
  ∃ W : Nat → Nat → St → Hp → Prop, (∃ m, W 0 m σ H) ∧ ∀ i m σ H, W i m σ H →
   ((Ni lo n).stop i H ∧ D.nx σ H) ∨ ((Ni lo n).go i H ∧ ∃ N : St → Hp → Prop, (∀ σ' H', N σ' H' → ∃ m', m' < m ∧ W (i + 1) m' σ' H') ∧ ∀ x H', (Ni lo n).LM i H x H' → g x σ H' fun σ2 H2 => tb { D with nx := N, ct := N, bk := D.nx } σ2 H2) := by
 refine ⟨fun i m σ H => m = n - i ∧ i ≤ n ∧ Pv i σ H, ⟨n, by simp, Nat.zero_le _, h0⟩, ?_⟩
 rintro i m σ H ⟨rfl, hi, p⟩
 by_cases fz : i < n
 ·refine .inr ⟨fz, Pv (i + 1), fun σ' H' p' => ⟨n - (i + 1), by omega, rfl, fz, p'⟩, fun x H' y => ?_⟩
  obtain ⟨e, y⟩ := y
  subst e y
  exact hs i σ _ fz p
 ·have e : i = n := by omega
  subst e
  exact .inl ⟨Nat.le_refl _, hd σ H p⟩
theorem Bm {c : TT} {tb : TS} {D : Ends} {σ : St} {H : Hp} (Pv : St → Hp → Prop) (μ : St → Hp → Nat) (h0 : Pv σ H)
  (hs : ∀ σ H, Pv σ H → c σ H fun b H1 => if b = true then tb { D with nx := fun σ' H' => Pv σ' H' ∧ μ σ' H' < μ σ H, ct := fun σ' H' => Pv σ' H' ∧ μ σ' H' < μ σ H, bk := D.nx } σ H1 else D.nx σ H1)
  (mono : ∀ σ H Q Q', (∀ b H1, Q b H1 → Q' b H1) → c σ H Q → c σ H Q') : Iv c tb D σ H := by
 refine ⟨fun m σ H => m = μ σ H ∧ Pv σ H, ⟨_, rfl, h0⟩, ?_⟩
 rintro m σ H ⟨rfl, p⟩
 refine mono σ H _ _ (fun b H1 q => ?_) (hs σ H p)
 cases b with
 | true => exact ⟨_, fun σ' H' ⟨p', l⟩ => ⟨_, l, rfl, p'⟩, q⟩
 | false => exact q
end L2
namespace L2
open PySem PySem.Spec PyProof.Rows
abbrev R2 := V → V → Hp → VK → Prop
def oA (X : Cx) (f : Value → Value → Sem Value) (r : R2) : Prop :=
 ∀ (pins : List (Addr × Obj)) (s : Shared) (σ : St) (H : Hp) (x y : V) (v u : Value) (Q : VK), Inv X pins σ H s → RelV x v → RelV y u → r x y H Q →
  wpAny (model X.prog X.w) X.A (f v u) (EP X pins σ Q) X.xe s
def VF (X : Cx) (f : Value → Sem Value) (r : V → Hp → VK → Prop) : Prop :=
 ∀ (pins : List (Addr × Obj)) (s : Shared) (σ : St) (H : Hp) (x : V) (v : Value) (Q : VK), Inv X pins σ H s → RelV x v → r x H Q →
  wpAny (model X.prog X.w) X.A (f v) (EP X pins σ Q) X.xe s
def ib (X : Cx) (f : Value) (r : List V → Hp → VK → Prop) : Prop :=
 ∀ (pins : List (Addr × Obj)) (s : Shared) (σ : St) (H : Hp) (xs : List V) (us : List Value) (Q : VK), Inv X pins σ H s → Vals xs us → r xs H Q →
  wpAny (model X.prog X.w) X.A (call f us) (EP X pins σ Q) X.xe s
def UN (r : R2) (ta tb : TE) : TE := fun σ H Q => ta σ H fun x H1 => tb σ H1 fun y H2 => r x y H2 Q
def tUn (r : V → Hp → VK → Prop) (ta : TE) : TE := fun σ H Q => ta σ H fun x H1 => r x H1 Q
def rI (C : Int → Int → Prop) (g : Int → Int → V) : R2 := fun x y H Q => ∃ i j, x = .int i ∧ y = .int j ∧ C i j ∧ Q (g i j) H
def Od (g : Int → Int → V) : R2 := fun x y H Q => ∃ i j, x = .int i ∧ y = .int j ∧ Q (g i j) H
def rU (g : Int → V) : V → Hp → VK → Prop := fun x H Q => ∃ i, x = .int i ∧ Q (g i) H
section
variable {X : Cx} {a b c : Expr} {ta tb tc : TE} {pos : Pos}
theorem Oe (ha : PE X a ta) (hb : PE X b tb) {pins : List (Addr × Obj)} {s : Shared} {σ : St} {H : Hp} {R : V → V → Hp → Prop} (I : Inv X pins σ H s)
  (h : ta σ H fun x H1 => tb σ H1 fun y H2 => R x y H2) {Q : Value → Shared → Prop} {f : Value → Value → Sem Value}
  (hf : ∀ v u s2 x y H2, Inv X pins σ H2 s2 → RelV x v → RelV y u → R x y H2 → wpAny (model X.prog X.w) X.A (f v u) Q X.xe s2) :
  wpAny (model X.prog X.w) X.A (eval a X.env) (fun v s₁ => wpAny (model X.prog X.w) X.A (eval b X.env) (fun u s₂ => wpAny (model X.prog X.w) X.A (f v u) Q X.xe s₂) X.xe s₁) X.xe s := by
 refine thn (ha pins s σ H _ I h) fun v s1 ⟨x, H1, I1, r1, q1⟩ => ?_
 refine thn (hb pins s1 σ H1 _ I1 q1) fun u s2 ⟨y, H2, I2, r2, q2⟩ => ?_
 exact hf v u s2 x y H2 I2 r1 r2 q2
theorem aB {op : Operator} {r : R2} (ho : oA X (binaryOp op) r) (ha : PE X a ta) (hb : PE X b tb) : PE X (.BinOp a op b pos) (UN r ta tb) := by
 intro pins s σ H Q I h
 exact wpAny_BinOp (Oe ha hb I h fun v u s2 x y H2 I2 rx ry q => ho pins s2 σ H2 x y v u Q I2 rx ry q)
theorem QT {op : UnaryOp} {r : V → Hp → VK → Prop} (ho : VF X (unaryOp op) r) (ha : PE X a ta) : PE X (.UnaryOp op a pos) (tUn r ta) := by
 intro pins s σ H Q I h
 exact UnaryOp_ (thn (ha pins s σ H _ I h) fun v s1 ⟨x, H1, I1, r1, q1⟩ => ho pins s1 σ H1 x v Q I1 r1 q1)
theorem Qb {f : Value → Value → Sem Value} {C : Int → Int → Prop} {g : Int → Int → Int}
  (rule : ∀ (i j : Int) (t u : Tok) (s : Shared) (Q : Value → Shared → Prop) (E : Value → Shared → Prop), C i j → Q (.int (g i j) s.toks) { s with toks := s.toks + 1 } → wpAny (model X.prog X.w) X.A (f (.int i t) (.int j u)) Q E s) :
  oA X f (rI C fun i j => .int (g i j)) := by
 intro pins s σ H x y v u Q I rx ry h
 obtain ⟨i, j, rfl, rfl, hc, q⟩ := h
 obtain ⟨t, rfl⟩ := rx
 obtain ⟨t', rfl⟩ := ry
 exact rule i j t t' s _ _ hc ⟨.int (g i j), H, I.tok _, ⟨_, rfl⟩, q⟩
theorem QU {f : Value → Value → Sem Value} {g : Int → Int → Int}
  (rule : ∀ (i j : Int) (t u : Tok) (s : Shared) (Q : Value → Shared → Prop) (E : Value → Shared → Prop), Q (.int (g i j) s.toks) { s with toks := s.toks + 1 } → wpAny (model X.prog X.w) X.A (f (.int i t) (.int j u)) Q E s) :
  oA X f (Od fun i j => .int (g i j)) := by
 intro pins s σ H x y v u Q I rx ry h
 obtain ⟨i, j, rfl, rfl, q⟩ := h
 obtain ⟨t, rfl⟩ := rx
 obtain ⟨t', rfl⟩ := ry
 exact rule i j t t' s _ _ ⟨.int (g i j), H, I.tok _, ⟨_, rfl⟩, q⟩
theorem Of {f : Value → Value → Sem Value} {g : Int → Int → Bool}
  (rule : ∀ (i j : Int) (t u : Tok) (s : Shared) (Q : Value → Shared → Prop) (E : Value → Shared → Prop), Q (.bool (g i j)) s → wpAny (model X.prog X.w) X.A (f (.int i t) (.int j u)) Q E s) :
  oA X f (Od fun i j => .bl (g i j)) := by
 intro pins s σ H x y v u Q I rx ry h
 obtain ⟨i, j, rfl, rfl, q⟩ := h
 obtain ⟨t, rfl⟩ := rx
 obtain ⟨t', rfl⟩ := ry
 exact rule i j t t' s _ _ ⟨.bl (g i j), H, I, rfl, q⟩
def VG (i j : Int) : Prop := 0 < j ∧ j < 1073741824
def VH (i j : Int) : Prop := 0 ≤ j ∧ j ≤ 1000000 ∧ i.natAbs < 2 ^ 64
def Og (i j : Int) : Prop := (-(2 ^ 64) < i ∧ i < 2 ^ 64) ∨ (-(2 ^ 64) < j ∧ j < 2 ^ 64)
theorem Og.ok {i j : Int} (h : Og i j) : IntMulOk i j := by
 rcases h with ⟨h1, h2⟩ | ⟨h1, h2⟩
 ·exact .of_left (intBits_le_64 h1 h2)
 ·exact .of_right (intBits_le_64 h1 h2)
theorem dI : oA X (binaryOp .Add) (Od fun i j => .int (i + j)) := QU fun _ _ _ _ _ _ _ q => add_int q
theorem fR : oA X (binaryOp .Sub) (Od fun i j => .int (i - j)) := QU fun _ _ _ _ _ _ _ q => sub_int q
theorem Iy : oA X (binaryOp .Mult) (rI Og fun i j => .int (i * j)) := Qb fun _ _ _ _ _ _ _ hc q => mul_int q hc.ok
theorem sr : oA X (binaryOp .FloorDiv) (rI VG fun i j => .int (i / j)) := Qb fun i j _ _ _ _ _ hc q => by
 have h1 : (0 : Int) < j := hc.1
 have h2 : j < 1073741824 := hc.2
 exact floordiv_int (by omega) (by rw [Int.fdiv_eq_ediv_of_nonneg i (by omega)]; exact q) (.inl (PyProof.noPylong_small (by omega)))
theorem dh : oA X (binaryOp .Mod) (rI (fun _ j => 0 < j) fun i j => .int (i % j)) := Qb fun i j _ _ _ _ _ hc q => by
 have h1 : (0 : Int) < j := hc
 exact mod_int' (by omega) (by rw [Int.fmod_eq_emod_of_nonneg i (by omega)]; exact q)
theorem Iz : oA X (binaryOp .Pow) (rI VH fun i j => .int (i ^ j.toNat)) := Qb fun _ _ _ _ _ _ _ hc q => pow_int_small hc.1 hc.2.1 hc.2.2 q
theorem unI {f : Value → Sem Value} {g : Int → Int}
  (rule : ∀ (i : Int) (t : Tok) (s : Shared) (Q : Value → Shared → Prop) (E : Value → Shared → Prop), Q (.int (g i) s.toks) { s with toks := s.toks + 1 } → wpAny (model X.prog X.w) X.A (f (.int i t)) Q E s) :
  VF X f (rU fun i => .int (g i)) := by
 intro pins s σ H x v Q I rx h
 obtain ⟨i, rfl, q⟩ := h
 obtain ⟨t, rfl⟩ := rx
 exact rule i t s _ _ ⟨.int (g i), H, I.tok _, ⟨_, rfl⟩, q⟩
theorem Oh : VF X (unaryOp .USub) (rU fun i => .int (-i)) := unI fun _ _ _ _ _ q => neg_int q
end
def QV : V → V → Bool
 | .cL, .cL => true | .cL, .int _ => true | .int _, .cL => true | .cL, .bl _ => true | .bl _, .cL => true | .cL, .str _ => true | .str _, .cL => true
 | .int _, .int _ => true | .bl _, .bl _ => true | .str _, .str _ => true | .HY _, .HY _ => true
 | .int _, .str _ => true | .str _, .int _ => true | .bl _, .str _ => true | .str _, .bl _ => true
 | _, _ => false
def rEq : R2 := fun x y H Q => QV x y = true ∧ Q (.bl (decide (x = y))) H
def rNe : R2 := fun x y H Q => QV x y = true ∧ Q (.bl (!decide (x = y))) H
theorem Fi {i j : Int} : decide (V.int i = V.int j) = (i == j) := by
 rw [Bool.eq_iff_iff]
 simp
theorem IA {i j : Bool} : decide (V.bl i = V.bl j) = (i == j) := by
 rw [Bool.eq_iff_iff]
 simp
theorem Fj {i j : Str} : decide (V.str i = V.str j) = (i == j) := by
 rw [Bool.eq_iff_iff]
 simp
theorem Fl {i j : Array UInt8} : decide (V.HY i = V.HY j) = (i.toList == j.toList) := by
 rw [Bool.eq_iff_iff]
 cases i
 cases j
 simp
section
variable {X : Cx} {a b c : Expr} {ta tb tc : TE} {pos : Pos}
theorem ba {pins : List (Addr × Obj)} {σ : St} {H : Hp} {s : Shared} {Q : VK} {k k' : Bool} (I : Inv X pins σ H s) (q : Q (.bl k) H) (e : k = k') : EP X pins σ Q (.bool k') s := by
 subst e
 exact ⟨.bl k, H, I, rfl, q⟩
theorem cR : oA X (compareOp .Eq) rEq := by
 intro pins s σ H x y v u Q I rx ry h
 obtain ⟨hs, q⟩ := h
 cases x with
 | cL =>
  cases rx
  cases y with
  | cL => cases ry; exact PySem.EqNone.eq_none_none (ba I q (by simp))
  | bl j => cases ry; exact PySem.EqNone.eq_none_bool (ba I q (by simp))
  | int j => obtain ⟨t', rfl⟩ := ry; exact PySem.EqNone.eq_none_int (ba I q (by simp))
  | str j => obtain ⟨t', rfl⟩ := ry; exact PySem.EqNone.eq_none_str (ba I q (by simp))
  | _ => exact absurd (show false = true from hs) Bool.false_ne_true
 | bl i =>
  cases rx
  cases y with
  | cL => cases ry; exact PySem.EqNone.eq_bool_none (ba I q (by simp))
  | bl j => cases ry; exact eq_bool (ba I q IA)
  | str j => obtain ⟨t', rfl⟩ := ry; exact PySem.EqMixed.eq_bool_str (ba I q (by simp))
  | _ => exact absurd (show false = true from hs) Bool.false_ne_true
 | int i =>
  obtain ⟨t, rfl⟩ := rx
  cases y with
  | cL => cases ry; exact PySem.EqNone.eq_int_none (ba I q (by simp))
  | int j => obtain ⟨t', rfl⟩ := ry; exact eq_int (ba I q Fi)
  | str j => obtain ⟨t', rfl⟩ := ry; exact PySem.EqMixed.eq_int_str (ba I q (by simp))
  | _ => exact absurd (show false = true from hs) Bool.false_ne_true
 | str i =>
  obtain ⟨t, rfl⟩ := rx
  cases y with
  | cL => cases ry; exact PySem.EqNone.eq_str_none (ba I q (by simp))
  | bl j => cases ry; exact PySem.EqMixed.eq_str_bool (ba I q (by simp))
  | int j => obtain ⟨t', rfl⟩ := ry; exact PySem.EqMixed.eq_str_int (ba I q (by simp))
  | str j => obtain ⟨t', rfl⟩ := ry; exact eq_str (ba I q Fj)
  | _ => exact absurd (show false = true from hs) Bool.false_ne_true
 | HY i =>
  obtain ⟨t, rfl⟩ := rx
  cases y with
  | HY j => obtain ⟨t', rfl⟩ := ry; exact PySem.W.eq_bytes (ba I q Fl)
  | _ => exact absurd (show false = true from hs) Bool.false_ne_true
 | _ => cases y <;> exact absurd (show false = true from hs) Bool.false_ne_true
theorem fA : oA X (compareOp .NotEq) rNe := by
 intro pins s σ H x y v u Q I rx ry h
 obtain ⟨hs, q⟩ := h
 cases x with
 | cL =>
  cases rx
  cases y with
  | cL => cases ry; exact PySem.EqNone.ne_none_none (ba I q (by simp))
  | bl j => cases ry; exact PySem.EqNone.ne_none_bool (ba I q (by simp))
  | int j => obtain ⟨t', rfl⟩ := ry; exact PySem.EqNone.ne_none_int (ba I q (by simp))
  | str j => obtain ⟨t', rfl⟩ := ry; exact PySem.EqNone.ne_none_str (ba I q (by simp))
  | _ => exact absurd (show false = true from hs) Bool.false_ne_true
 | bl i =>
  cases rx
  cases y with
  | cL => cases ry; exact PySem.EqNone.ne_bool_none (ba I q (by simp))
  | bl j => cases ry; exact ne_bool (ba I q (congrArg not IA))
  | str j => obtain ⟨t', rfl⟩ := ry; exact PySem.EqMixed.ne_bool_str (ba I q (by simp))
  | _ => exact absurd (show false = true from hs) Bool.false_ne_true
 | int i =>
  obtain ⟨t, rfl⟩ := rx
  cases y with
  | cL => cases ry; exact PySem.EqNone.ne_int_none (ba I q (by simp))
  | int j => obtain ⟨t', rfl⟩ := ry; exact ne_int (ba I q (congrArg not Fi))
  | str j => obtain ⟨t', rfl⟩ := ry; exact PySem.EqMixed.ne_int_str (ba I q (by simp))
  | _ => exact absurd (show false = true from hs) Bool.false_ne_true
 | str i =>
  obtain ⟨t, rfl⟩ := rx
  cases y with
  | cL => cases ry; exact PySem.EqNone.ne_str_none (ba I q (by simp))
  | bl j => cases ry; exact PySem.EqMixed.ne_str_bool (ba I q (by simp))
  | int j => obtain ⟨t', rfl⟩ := ry; exact PySem.EqMixed.ne_str_int (ba I q (by simp))
  | str j => obtain ⟨t', rfl⟩ := ry; exact ne_str (ba I q (congrArg not Fj))
  | _ => exact absurd (show false = true from hs) Bool.false_ne_true
 | HY i =>
  obtain ⟨t, rfl⟩ := rx
  cases y with
  | HY j => obtain ⟨t', rfl⟩ := ry; exact PySem.W.ne_bytes (ba I q (congrArg not Fl))
  | _ => exact absurd (show false = true from hs) Bool.false_ne_true
 | _ => cases y <;> exact absurd (show false = true from hs) Bool.false_ne_true
theorem Bn : oA X (compareOp .Lt) (Od fun i j => .bl (decide (i < j))) := Of fun _ _ _ _ _ _ _ q => lt_int q
theorem Nk : oA X (compareOp .LtE) (Od fun i j => .bl (decide (i ≤ j))) := Of fun _ _ _ _ _ _ _ q => le_int q
theorem m7 : oA X (compareOp .Gt) (Od fun i j => .bl (decide (j < i))) := Of fun _ _ _ _ _ _ _ q => gt_int q
theorem gk : oA X (compareOp .In) (fun x y H Q => ∃ i j, x = .str i ∧ y = .str j ∧ Q (.bl (!(Builtin.Str.occurrences j i 0 j.length 1).isEmpty)) H) := by
 intro pins s σ H x y v u Q I rx ry h
 obtain ⟨i, j, rfl, rfl, q⟩ := h
 obtain ⟨t, rfl⟩ := rx
 obtain ⟨t', rfl⟩ := ry
 exact in_str (ba I q rfl)
theorem LO : oA X (compareOp .IsNot) (fun x y H Q => y = .cL ∧ Q (.bl (!decide (x = .cL))) H) := by
 intro pins s σ H x y v u Q I rx ry h
 obtain ⟨rfl, q⟩ := h
 cases ry
 refine isnot_none_gen (ba I q ?_)
 cases x <;> first
  | (cases rx; rfl)
  | (obtain ⟨t, rfl⟩ := rx; rfl)
theorem aI (b : Expr) {op : CmpOp} (h : op ≠ .In := by decide) (h2 : op ≠ .NotIn := by decide) : behindInMarks op b = false := by
 have e1 : (op == CmpOp.In) = false := by cases op <;> first | rfl | exact absurd rfl h
 have e2 : (op == CmpOp.NotIn) = false := by cases op <;> first | rfl | exact absurd rfl h2
 cases b <;> simp [behindInMarks, e1, e2]
theorem c8 {op : CmpOp} {r : R2} (ho : oA X (compareOp op) r) (ha : PE X a ta) (hb : PE X b tb) (hm : behindInMarks op b = false) : PE X (.Compare a [op] [b] pos) (UN r ta tb) := by
 intro pins s σ H Q I h
 exact wpAny_Compare1 (Oe ha hb I h fun v u s2 x y H2 I2 rx ry q => ho pins s2 σ H2 x y v u Q I2 rx ry q) hm
def QW (t : TE) : TT := fun σ H Q => t σ H fun x H' => ∃ k, x = .bl k ∧ Q k H'
theorem aw {op : CmpOp} {r : R2} (ho : oA X (compareOp op) r) (ha : PE X a ta) (hb : PE X b tb) (hm : behindInMarks op b = false) : PT X (.Compare a [op] [b] pos) (QW (UN r ta tb)) := by
 intro pins s σ H Q I h
 refine wpAny_isTrue_Compare1 (thn (ha pins s σ H _ I h) fun v s1 ⟨x, H1, I1, r1, q1⟩ => thn (hb pins s1 σ H1 _ I1 q1) fun u s2 ⟨y, H2, I2, r2, q2⟩ =>
  thn (ho pins s2 σ H2 x y v u _ I2 r1 r2 q2) fun c s3 ⟨z, H3, I3, r3, k, e, q3⟩ => ?_) hm
 subst e
 cases r3
 exact wpAny_truthy_bool ⟨H3, I3, q3⟩
def Oi (r r' : R2) (ta tb tc : TE) : TE := fun σ H Q => ta σ H fun x H1 => tb σ H1 fun y H2 => r x y H2 fun z H3 => ∃ k, z = .bl k ∧
 (if k = true then tc σ H3 fun w' H4 => r' y w' H4 Q else Q (.bl false) H3)
theorem IB {op VI : CmpOp} {r r' : R2} (ho : oA X (compareOp op) r) (LI : oA X (compareOp VI) r') (ha : PE X a ta) (hb : PE X b tb) (hc : PE X c tc)
  (hm : lastMarks [op, VI] [b, c] = false := by with_unfolding_all rfl) : PE X (.Compare a [op, VI] [b, c] pos) (Oi r r' ta tb tc) := by
 intro pins s σ H Q I h
 refine Compare_chain (thn (ha pins s σ H _ I h) fun v s1 ⟨x, H1, I1, r1, q1⟩ => chain_link (thn (hb pins s1 σ H1 _ I1 q1) fun u s2 ⟨y, H2, I2, r2, q2⟩ =>
  thn (ho pins s2 σ H2 x y v u _ I2 r1 r2 q2) fun d s3 ⟨z, H3, I3, r3, k, e, q3⟩ => ?_)) hm
 subst e
 cases r3
 refine wpAny_truthy_bool ?_
 cases k with
 | false => exact ite_ff ⟨.bl false, H3, I3, rfl, q3⟩
 | true => exact ite_tt (chain_last (thn (hc pins s3 σ H3 _ I3 q3) fun w' s4 ⟨z', H4, I4, r4, q4⟩ => LI pins s4 σ H4 y z' u w' Q I4 r2 r4 q4))
theorem pT : (sizeLine : Nat) < 2 ^ 63 := by rw [sizeLine_eq]; decide
theorem bV : oA X (binaryOp .Add) (fun x y H Q => ∃ i j, x = .str i ∧ y = .str j ∧ i.length + j.length ≤ sizeLine ∧ Q (.str (i ++ j)) H) := by
 intro pins s σ H x y v u Q I rx ry h
 obtain ⟨i, j, rfl, rfl, hz, q⟩ := h
 obtain ⟨t, rfl⟩ := rx
 obtain ⟨t', rfl⟩ := ry
 exact add_str (fun t' tk => ⟨.str (i ++ j), H, I.tok _, ⟨_, rfl⟩, q⟩) hz
theorem vals1 {x : V} {us : List Value} (r : Vals [x] us) : ∃ u, us = [u] ∧ RelV x u := by
 cases r with
 | cons r1 r2 => cases r2; exact ⟨_, rfl, r1⟩
theorem vals2 {x y : V} {us : List Value} (r : Vals [x, y] us) : ∃ u w', us = [u, w'] ∧ RelV x u ∧ RelV y w' := by
 cases r with
 | cons r1 r2 =>
  cases r2 with
  | cons r3 r4 => cases r4; exact ⟨_, _, rfl, r1, r3⟩
theorem IC : ib X (.builtin "abs") (fun xs H Q => ∃ i, xs = [.int i] ∧ Q (.int (if i < 0 then -i else i)) H) := by
 intro pins s σ H xs us Q I r h
 obtain ⟨i, rfl, q⟩ := h
 obtain ⟨u, rfl, t, rfl⟩ := vals1 r
 exact call_abs_int fun u tk => ⟨.int (if i < 0 then -i else i), H, I.tok _, ⟨_, rfl⟩, q⟩
theorem xi : ib X (.type "int") (fun xs H Q => (∃ i, xs = [.int i] ∧ Q (.int i) H) ∨ ∃ k, xs = [.bl k] ∧ Q (.int (if k then 1 else 0)) H) := by
 intro pins s σ H xs us Q I r h
 rcases h with ⟨i, rfl, q⟩ | ⟨k, rfl, q⟩
 ·obtain ⟨u, rfl, t, rfl⟩ := vals1 r
  exact call_int_int ⟨.int i, H, I, ⟨_, rfl⟩, q⟩
 ·obtain ⟨u, rfl, r1⟩ := vals1 r
  cases r1
  exact call_int_bool ⟨.int (if k then 1 else 0), H, I.tok _, ⟨_, rfl⟩, q⟩
theorem yi : ib X (.type "str") (fun xs H Q => ∃ i, xs = [.int i] ∧ i.natAbs.log2 < 1920 ∧ Q (.str (toString i)) H) := by
 intro pins s σ H xs us Q I r h
 obtain ⟨i, rfl, hz, q⟩ := h
 obtain ⟨u, rfl, t, rfl⟩ := vals1 r
 exact PySem.P.str_of_int hz ⟨.str _, H, I.tok _, ⟨_, rfl⟩, q⟩
end
end L2
namespace L2
open PySem PySem.Spec PyProof.Rows
structure Dk (h : Heap) (x dx C : Addr) (mA : Str → Option Value) : Prop where
 obj : h.get? x = some (PySem.W.instObj C dx)
 ns : h.Ns1 dx mA
 ne : dx ≠ x
theorem Gx {h : Heap} {dx : Addr} {mA : Str → Option Value} (n : h.Ns1 dx mA) : ∃ od, h.get? dx = some od ∧ ∀ name, PySem.W.lookIn name od = some (mA name) := by
 obtain ⟨o, es, ep, ho, hd, hk, _, hm⟩ := n
 refine ⟨o, ho, fun name => ?_⟩
 have e := hm name
 unfold nsFind findBy at e
 rw [← Array.find?_toList] at e
 unfold PySem.W.lookIn
 rw [hd]
 dsimp only
 split
 ·rename_i y q
  rw [q] at e
  exact congrArg some e
 ·rename_i q
  rw [q] at e
  have a : es.toList.any (·.refKey) = false := by
   rw [List.any_eq_false]
   intro y hy
   obtain ⟨z, t, VJ⟩ := hk y (Array.mem_toList_iff.mp hy)
   simp [DictEntry.refKey, VJ]
  have a' : ¬ es.toList.any (·.refKey) = true := by rw [a]; exact Bool.false_ne_true
  rw [if_neg a']
  exact congrArg some e
theorem Dk.look {h : Heap} {x dx C : Addr} {mA : Str → Option Value} (I : Dk h x dx C mA) : ∃ od, PySem.W.InstAt h x (PySem.W.instObj C dx) C (some od) ∧ ∀ name, PySem.W.lookIn name od = some (mA name) :=
 let ⟨od, ho, hl⟩ := Gx I.ns
 ⟨od, ⟨I.obj, rfl, rfl, ho⟩, hl⟩
section
variable {prog : Program} {w : World} {A : Around} {E : Value → Shared → Prop} {s : Shared} {K : PySem.W.Frag} {x dx C f : Addr} {mA : Str → Option Value} {name : Str} {v : Value}
theorem get_map {expr : Bool} {Q : Value → Shared → Prop} (X : K.In s.heap) (I : Dk s.heap x dx C mA) (hg : PySem.W.plainGet K C name = true) (hh : PySem.W.hasDictIn K C = true)
  (ha : PySem.W.findIn K (.ref C) name = some none) (hv : mA name = some v) (hv' : PySem.W.handedIn v = true) (h : Q v { s with toks := s.toks + 1 }) :
  wpAny (model prog w) A (getAttr (.ref x) name expr) Q E s := by
 obtain ⟨od, J, hl⟩ := I.look
 exact PySem.W.get_value X J (PySem.W.plainGet_of hg).1 (PySem.W.findObj_own hh ha rfl (by rw [hl, hv])) hv' h
theorem ID {pl : Sem Bool} {Q : Value × List Value → Shared → Prop} (X : K.In s.heap) (I : Dk s.heap x dx C mA) (hg : PySem.W.plainGet K C name = true)
  (hf : PySem.W.findIn K (.ref C) name = some (some (.ref f))) (ht : PySem.W.isFn K (.ref f) = true) (hv : mA name = none) (h : Q (.ref f, [.ref x]) s) :
  wpAny (model prog w) A (getMethod (.ref x) name pl) Q E s := by
 obtain ⟨od, J, hl⟩ := I.look
 exact PySem.W.method_fn X J (PySem.W.plainGet_of hg).1 (PySem.W.plainGet_of hg).2 hf (beq_iff_eq.mp ht) (by show (PySem.W.lookIn name od).map (·.isSome) = some false; rw [hl, hv]; rfl) h
theorem LP {ns : List Str} {Q : Unit → Shared → Prop} (X : K.In s.heap) (I : Dk s.heap x dx C mA)
  (hs : PySem.W.findIn K (.ref C) "__setattr__" = some (some (.builtin "object.__setattr__"))) (hp : PySem.W.plainOver K C = true) (ht : PySem.W.takerIn K C name = some none) (hh : PySem.W.hasDictIn K C = true)
  (hw : PySem.Within mA ns) (hsz : ns.length ≤ sizeLine)
  (h : ∀ h', Dk h' x dx C (fun y => if y = name then some v else mA y) → Heap.SameBut dx s.heap h' → Q () { s with heap := h', toks := s.toks + 2 }) :
  wpAny (model prog w) A (setAttr (.ref x) name v) Q E s := by
 obtain ⟨od, J, hl⟩ := I.look
 refine PySem.W.set_plain X J hs (PySem.W.osa_open (s := { s with toks := s.toks + 1 }) (r := none) X J hp ht fun b => ?_)
 obtain ⟨cd, hc, Vo⟩ := PySem.W.any_some hh
 have hx : s.heap.get? x = some ⟨.ref C, some dx, .plain, #[]⟩ := I.obj
 refine wpAny_bind (wpAny_pure (wpAny_bind (wpAny_bind (wpAny_loadPart hx (wpAny_bind (PySem.W.Looks.here (s := { s with toks := s.toks + 1 }) (PySem.W.looks_clsIn X hc) ?_))))))
 rw [Vo]
 refine wpAny_pure (a := some dx) (wpAny_bind (wpAny_pure (wpAny_bind ?_)))
 refine wpAny_nsSet1 (s := { s with toks := s.toks + 1 }) I.ns fun h' UO sW => ?_
 obtain ⟨oD, esD, epD, hoD, hdD, hcD⟩ := UO.count (PySem.Within.cons name v hw)
 refine wpAny_bind (wpAny_lookBehind hoD (by rw [hdD]; exact pastItsLine_dict (Nat.le_trans hcD (by rw [List.length_cons]; omega))) ?_)
 exact wpAny_pure (h _ ⟨(sW.2 _ (Ne.symm I.ne)).trans I.obj, UO, I.ne⟩ sW)
theorem IE {R : Result → Shared → Prop} {vs : List Value} {kw : List (Str × Value)} (X : K.In s.heap) (hm : PySem.W.makesIn K C = true)
  (hi : PySem.W.findIn K (.ref C) "__init__" = some (some (.ref f))) (hf : PySem.W.typeIn K (.ref f) = some (.type "function"))
  (h : codeAny (model prog w) (A.under (.builtin "type.__call__" ⟨.ref C :: vs, kw⟩)) (.call (.ref f) ⟨.ref (s.heap.objs.size + 1) :: vs, kw⟩) (PySem.W.InitBack (s.heap.objs.size + 1) R)
   { s with heap := (s.heap.push PySem.W.emptyDict).push (PySem.W.instObj C s.heap.objs.size) }) :
  codeAny (model prog w) A (.call (.ref C) ⟨vs, kw⟩) R s := by
 obtain ⟨hh, g, d, t, os⟩ := s
 exact PySem.W.make_core (PySem.W.makes_of X hm) (PySem.W.looks_findIn X hi) (fun self => PySem.W.bind_fn X self hf) (.inl rfl) h
end
def bA (f : Str) (v : V) : List (Str × V) → List (Str × V)
 | [] => [(f, v)]
 | (g, x) :: r => if g = f then (g, v) :: r else (g, x) :: bA f v r
theorem aQ (f g : Str) (v : V) : ∀ fs : List (Str × V), (bA f v fs).lookup g = if g = f then some v else fs.lookup g
 | [] => by
  show List.lookup g [(f, v)] = _
  by_cases h : g = f
  ·have hb : (g == f) = true := beq_iff_eq.mpr h
   simp only [List.lookup, hb, if_pos h]
  ·have hb : (g == f) = false := beq_eq_false_iff_ne.mpr h
   simp only [List.lookup, hb, if_neg h]
 | (k, x) :: r => by
  have ih := aQ f g v r
  rw [show bA f v ((k, x) :: r) = (if k = f then (k, v) :: r else (k, x) :: bA f v r) from rfl]
  by_cases hk : k = f
  ·rw [if_pos hk]
   by_cases h : g = k
   ·have hb : (g == k) = true := beq_iff_eq.mpr h
    simp only [List.lookup, hb, if_pos (h.trans hk)]
   ·have hb : (g == k) = false := beq_eq_false_iff_ne.mpr h
    simp only [List.lookup, hb, if_neg (fun e : g = f => h (e.trans hk.symm))]
  ·rw [if_neg hk]
   by_cases h : g = k
   ·have hb : (g == k) = true := beq_iff_eq.mpr h
    simp only [List.lookup, hb, if_neg (fun e : g = f => hk (h.symm.trans e))]
   ·have hb : (g == k) = false := beq_eq_false_iff_ne.mpr h
    simp only [List.lookup, hb]
    exact ih
theorem pU (f : Str) (v : V) : ∀ fs : List (Str × V), f ∈ (bA f v fs).map (·.1) ∧ ∀ g, g ∈ fs.map (·.1) → g ∈ (bA f v fs).map (·.1)
 | [] => ⟨by simp [bA], fun g h => by simp at h⟩
 | (k, x) :: r => by
  obtain ⟨i1, i2⟩ := pU f v r
  rw [show bA f v ((k, x) :: r) = (if k = f then (k, v) :: r else (k, x) :: bA f v r) from rfl]
  by_cases hk : k = f
  ·rw [if_pos hk]
   subst hk
   exact ⟨by simp, fun g h => by simpa using h⟩
  ·rw [if_neg hk]
   refine ⟨?_, fun g h => ?_⟩
   ·rw [List.map_cons]
    exact List.mem_cons_of_mem _ i1
   ·rw [List.map_cons] at h ⊢
    rcases List.mem_cons.mp h with e | e
    ·exact List.mem_cons.mpr (.inl e)
    ·exact List.mem_cons_of_mem _ (i2 g e)
theorem rb (f : Str) (v : V) : ∀ fs : List (Str × V), (bA f v fs).length ≤ fs.length + 1
 | [] => by simp [bA]
 | (k, x) :: r => by
  have ih := rb f v r
  rw [show bA f v ((k, x) :: r) = (if k = f then (k, v) :: r else (k, x) :: bA f v r) from rfl]
  by_cases hk : k = f
  ·rw [if_pos hk, List.length_cons, List.length_cons]; omega
  ·rw [if_neg hk, List.length_cons, List.length_cons]; omega
theorem kJ.some_of {v : V} {o : Option Value} (r : kJ (some v) o) : ∃ u, o = some u ∧ RelV v u := by
 cases o with
 | none => exact (show False from r).elim
 | some u => exact ⟨u, rfl, r⟩
theorem kJ.none_of {o : Option Value} (r : kJ none o) : o = none := by
 cases o with
 | none => rfl
 | some u => exact (show False from r).elim
theorem Gy {v : V} {u : Value} (r : RelV v u) : PySem.W.handedIn u = true := by
 cases v with
 | cL => cases (show u = Value.none from r); rfl
 | bl b => cases (show u = Value.bool b from r); rfl
 | int i => obtain ⟨t, e⟩ := (show ∃ t, u = Value.int i t from r); cases e; rfl
 | str x => obtain ⟨t, e⟩ := (show ∃ t, u = Value.str x t from r); cases e; rfl
 | HY b => obtain ⟨t, e⟩ := (show ∃ t, u = Value.bytes b t from r); cases e; rfl
 | Qa b => obtain ⟨t, e⟩ := (show ∃ t, u = Value.float b t from r); cases e; rfl
 | ref a => cases (show u = Value.ref a from r); rfl
 | ty n => cases (show u = Value.type n from r); rfl
section
variable {P : Program} {w : World} {H H' : Hp} {h h' : Heap} {a C dx : Addr} {fs N4 : List (Str × V)}
theorem yj (bB : mY P w H h) (e : H a = some (.ins C dx fs)) : ∃ mA, Dk h a dx C mA ∧ (∀ f, kJ (fs.lookup f) (mA f)) ∧ PySem.Within mA (fs.map (·.1)) ∧ fs.length ≤ 1000 ∧ H dx = some (.own a) := by
 obtain ⟨d, z, ne, ob, mA, n, r, q⟩ := (show cQ P w H h a (.ins C dx fs) from bB a _ e)
 exact ⟨mA, ⟨ob, n, ne⟩, r, q, z, d⟩
end
structure C8 (K : PySem.W.Frag) (C : Addr) : Prop where
 pg : PySem.W.plainGet K C Str.empty = true
 hd : PySem.W.hasDictIn K C = true
 po : PySem.W.plainOver K C = true
 sa : PySem.W.findIn K (.ref C) "__setattr__" = some (some (.builtin "object.__setattr__"))
theorem C8.get {K : PySem.W.Frag} {C : Addr} (c : C8 K C) (f : Str) : PySem.W.plainGet K C f = true := c.pg
def cA (K : PySem.W.Frag) (C : Addr) (f : Str) : Prop := PySem.W.findIn K (.ref C) f = some none
theorem cA.QX {K : PySem.W.Frag} {C : Addr} {f : Str} (n : cA K C f) : PySem.W.takerIn K C f = some none := by
 unfold PySem.W.takerIn
 rw [show PySem.W.findIn K (.ref C) f = some none from n]
 rfl
structure Con (K : PySem.W.Frag) (C : Addr) (f : Str) (v : V) (u : Value) : Prop where
 at_ : PySem.W.findIn K (.ref C) f = some (some u)
 rel : RelV v u
 get : PySem.W.specialIn K u "__get__" = some none
 cp : PySem.W.copiedNames.contains f = false
structure Meth (K : PySem.W.Frag) (C : Addr) (m : Str) (f : Addr) : Prop where
 at_ : PySem.W.findIn K (.ref C) m = some (some (.ref f))
 fn : PySem.W.isFn K (.ref f) = true
 kp : PySem.W.keepIn K (.ref f) = true
section
variable {X : Cx} {pins : List (Addr × Obj)} {σ : St} {H : Hp} {s : Shared} {a C dx : Addr} {fs : List (Str × V)} {f : Str} {v : V} {A : Around} {E : Value → Shared → Prop}
theorem getattr_ok {b : Bool} {Q : Value → Shared → Prop} (I : Inv X pins σ H s) (e : H a = some (.ins C dx fs)) (c : C8 X.K C) (n : cA X.K C f) (l : fs.lookup f = some v)
  (h : ∀ u s', Inv X pins σ H s' → RelV v u → Q u s') : wpAny (model X.prog X.w) A (getAttr (.ref a) f b) Q E s := by
 obtain ⟨mA, O, r, _, _, _⟩ := yj I.bB e
 obtain ⟨u, hu, ru⟩ := kJ.some_of (v := v) (o := mA f) (by rw [← l]; exact r f)
 exact get_map I.De O (c.get f) c.hd n hu (Gy ru) (h u _ (I.tok _) ru)
theorem nC {m : Str} {g : Addr} {pl : Sem Bool} {Q : Value × List Value → Shared → Prop} (I : Inv X pins σ H s) (e : H a = some (.ins C dx fs)) (c : C8 X.K C) (k : Meth X.K C m g) (l : fs.lookup m = none)
  (h : Q (.ref g, [.ref a]) s) : wpAny (model X.prog X.w) A (getMethod (.ref a) m pl) Q E s := by
 obtain ⟨mA, O, r, _, _, _⟩ := yj I.bB e
 have hn : mA m = none := kJ.none_of (by rw [← l]; exact r m)
 exact ID I.De O (c.get m) k.at_ k.fn hn h
theorem Dl {y : V} {u : Value} {Q : Unit → Shared → Prop} (I : Inv X pins σ H s) (e : H a = some (.ins C dx fs)) (c : C8 X.K C) (n : cA X.K C f) (hl : fs.length < 1000) (ry : RelV y u)
  (h : ∀ s', Inv X pins σ (upd H a (.ins C dx (bA f y fs))) s' → Q () s') : wpAny (model X.prog X.w) A (setAttr (.ref a) f u) Q E s := by
 obtain ⟨mA, O, r, wi, _, ho⟩ := yj I.bB e
 have hz : (fs.map (·.1)).length ≤ sizeLine := by rw [Lm9, sizeLine_eq]; omega
 refine LP I.De O c.sa c.po n.QX c.hd wi hz fun h' O' sb => h _ ?_
 have hd : ∃ o, h'.get? dx = some o := let ⟨o, _, _, e', _⟩ := O'.ns; ⟨o, e'⟩
 refine I.write (x := a) (e := dx) (by rw [e]; exact True.intro) (.inr ho) (fun b q hb z => (sb.2 b hb).trans z) hd ?_
 refine ⟨by rw [aq O.ne]; exact ho, ?_, O.ne, O'.obj, _, O'.ns, fun g => ?_, fun g hg => ?_⟩
 ·have := rb f y fs; omega
 ·show kJ ((bA f y fs).lookup g) (if g = f then some u else mA g)
  rw [aQ]
  by_cases q : g = f
  ·rw [if_pos q, if_pos q]; exact ry
  ·rw [if_neg q, if_neg q]; exact r g
 ·by_cases q : g = f
  ·rw [q]; exact (pU f y fs).1
  ·refine (pU f y fs).2 g (wi g fun z => hg ?_)
   show (if g = f then some u else mA g) = none
   rw [if_neg q]; exact z
theorem Inv.made (I : Inv X pins σ H s) : Inv X pins σ (upd (upd H s.heap.objs.size (.own (s.heap.objs.size + 1))) (s.heap.objs.size + 1) (.ins C s.heap.objs.size []))
  { s with heap := (s.heap.push PySem.W.emptyDict).push (PySem.W.instObj C s.heap.objs.size) } := by
 have e1 : (s.heap.push PySem.W.emptyDict).get? s.heap.objs.size = some PySem.W.emptyDict := Heap.get?_push_size s.heap rfl
 have e2 : ((s.heap.push PySem.W.emptyDict).push (PySem.W.instObj C s.heap.objs.size)).get? (s.heap.objs.size + 1) = some (PySem.W.instObj C s.heap.objs.size) := by
  have := Heap.get?_push_size (s.heap.push PySem.W.emptyDict) (o := PySem.W.instObj C s.heap.objs.size) rfl
  rwa [Heap.size_push] at this
 have e3 : (s.heap.push PySem.W.emptyDict).Ns s.heap.objs.size (fun _ => none) := ⟨PySem.W.emptyDict, #[], _, e1, rfl, (fun e he => absurd he (by simp)), fun _ => rfl⟩
 have I1 := I.laid (a := s.heap.objs.size) (o := .own (s.heap.objs.size + 1)) (h' := s.heap.push PySem.W.emptyDict) (t' := s.toks) (fun b u q => Heap.get?_push_of_some _ q) (Nat.le_refl _) ⟨_, e1⟩
 refine I1.laid (a := s.heap.objs.size + 1) (o := .ins C s.heap.objs.size []) (t' := s.toks) (fun b u q => Heap.get?_push_of_some _ q) (Nat.le_of_eq (Heap.size_push _ _)) ?_
 have ne : s.heap.objs.size ≠ s.heap.objs.size + 1 := Nat.ne_of_lt (Nat.lt_succ_self _)
 refine ⟨by rw [aq ne, ae], Nat.zero_le _, ne, e2, fun _ => none, (Heap.Ns1.of_empty e3).at fun o q => Heap.get?_push_of_some _ q, fun _ => True.intro, fun y hy => absurd rfl hy⟩
theorem attr_of {prog : Program} {w : World} {env : Env} {e : Expr} {f : Str} {pos : Pos} {s : Shared} {Q : Value → Shared → Prop} (hb : attributeBase e f env (eval e env) = eval e env)
  (h : wpAny (model prog w) A (eval e env) (fun o s₁ => wpAny (model prog w) A (getAttr o f true) Q E s₁) E s) : wpAny (model prog w) A (eval (.Attribute e f pos) env) Q E s :=
 Attribute_any_ h (by rw [arm_eval_Attribute, hb])
end
def tFld (K : PySem.W.Frag) (ta : TE) (f : Str) : TE := fun σ H Q => ta σ H fun x H1 => ∃ a C dx fs v, x = .ref a ∧ H1 a = some (.ins C dx fs) ∧ C8 K C ∧ cA K C f ∧ fs.lookup f = some v ∧ Q v H1
def VL (K : PySem.W.Frag) (ta tv : TE) (f : Str) : TS := fun D σ H => tv σ H fun y H1 => ta σ H1 fun x H2 => ∃ a C dx fs, x = .ref a ∧ H2 a = some (.ins C dx fs) ∧ C8 K C ∧ cA K C f ∧ fs.length < 1000 ∧
 D.nx σ (upd H2 a (.ins C dx (bA f y fs)))
section
variable {X : Cx} {o e value : Expr} {f : Str} {pos pos' IF : Pos} {ta tv : TE}
theorem pe_fld (he : PE X e ta) (hb : attributeBase e f X.env (eval e X.env) = eval e X.env) : PE X (.Attribute e f pos) (tFld X.K ta f) := by
 intro pins s σ H Q I h
 refine attr_of hb (thn (he pins s σ H _ I h) fun u s1 ⟨x, H1, I1, rx, a, C, dx, fs, v, ex, ea, c, n, l, q⟩ => ?_)
 subst ex
 obtain rfl : u = Value.ref a := rx
 exact getattr_ok I1 ea c n l fun u' s2 I2 ru => ⟨v, H1, I2, ru, q⟩
theorem ps_fld (ha : PE X o ta) (hv : PE X value tv) (hs : swapsWith value (some (.Attribute o f pos')) pos.line X.env = pure false) : PS X (.Assign [.Attribute o f pos'] value pos) (VL X.K ta tv f) := by
 intro pins s σ H D I h
 refine plainObj_wpAny_Assign_Attribute (thn (hv pins s σ H _ I h) fun u s1 ⟨y, H1, I1, ry, q⟩ => thn (ha pins s1 σ H1 _ I1 q) fun ov s2 ⟨x, H2, I2, rx, a, C, dx, fs, ex, ea, c, n, l, q2⟩ => ?_) hs
 subst ex
 obtain rfl : ov = Value.ref a := rx
 exact Dl I2 ea c n l ry fun s3 I3 => ⟨σ, _, I3, q2⟩
theorem Nl {pl : Sem Bool} {m : Str} {apos : Pos} {args : List Expr} {pins : List (Addr × Obj)} {s : Shared} {σ : St} {H : Hp} {Q : Value → Shared → Prop} {te : TE} (he : PE X e te) (I : Inv X pins σ H s)
  (h : te σ H fun x H1 => ∃ a C dx fs g, x = .ref a ∧ H1 a = some (.ins C dx fs) ∧ C8 X.K C ∧ Meth X.K C m g ∧ fs.lookup m = none ∧
   ∀ s1, Inv X pins σ H1 s1 → wpAny (model X.prog X.w) X.A (callWith pos (.ref g) [.ref a] (backTo pos (starEach args X.env)) (backToKw pos (keywordEach [] X.env))) Q X.xe s1)
  (ht : eval (.Call (.Attribute e m apos) args [] pos) X.env = (do
   let ov ← eval e X.env
   standAt apos.atName
   let (f, first) ← holding [ov] (getMethod ov m pl)
   callWith pos f first (backTo pos (starEach args X.env)) (backToKw pos (keywordEach [] X.env)))) :
  wpAny (model X.prog X.w) X.A (eval (.Call (.Attribute e m apos) args [] pos) X.env) Q X.xe s := by
 refine PySem.W.methodCall_KW (pl := pl) (thn (he pins s σ H _ I h) fun u s1 ⟨x, H1, I1, rx, a, C, dx, fs, g, ex, ea, c, k, l, q⟩ => ?_) ht
 subst ex
 obtain rfl : u = Value.ref a := rx
 exact nC I1 ea c k l (q s1 I1)
end
section
variable {X : Cx} {pins : List (Addr × Obj)} {σ : St} {H : Hp} {s : Shared} {A : Around} {E : Value → Shared → Prop} {Q : Value → Shared → Prop} {c : Value} {b : Bool}
inductive sX (K : PySem.W.Frag) (H : Hp) : V → Value → Prop where
 | cL : sX K H .cL (.type "NoneType")
 | bl (x : Bool) : sX K H (.bl x) (.type "bool")
 | int (i : Int) : sX K H (.int i) (.type "int")
 | str (x : Str) : sX K H (.str x) (.type "str")
 | Qa (x : UInt64) : sX K H (.Qa x) (.type "float")
 | lst {a : Addr} {xs : List V} (e : H a = some (.lst xs)) : sX K H (.ref a) (.type "list")
 | vH {a : Addr} {o : Obj} {xs : List V} (e : H a = some (.vH o (.lst xs))) : sX K H (.ref a) (.type "list")
 | tup {a : Addr} {xs : List V} (e : H a = some (.tup xs)) : sX K H (.ref a) (.type "tuple")
 | dK {a : Addr} {kvs : List (Key × V)} (e : H a = some (.dK kvs)) : sX K H (.ref a) (.type "dict")
 | dT {a : Addr} {kvs : List (List Key × V)} (e : H a = some (.dT kvs)) : sX K H (.ref a) (.type "dict")
 | ins {a C dx : Addr} {fs : List (Str × V)} (e : H a = some (.ins C dx fs)) (cl : C8 K C) (ha : PySem.W.findIn K (.ref C) "__class__" = some (some (.builtin "object.__class__")))
   (hn : PySem.W.specialIn K (.builtin "object.__class__") "__get__" = some (some (.builtin "getset_descriptor.__get__"))) (VM : PySem.W.takesIn K (.builtin "object.__class__") = some true)
   (hm : PySem.W.mroIn K C (.type "object") = some true) : sX K H (.ref a) (.ref C)
end
end L2
namespace L2
open PySem PySem.Spec PyProof.Rows
structure di (k : Nat) (A : Around) : Prop where
 hd : A.handled = none
 dp : A.depth + 3 * k + 5 < recursionLimit
 un : A.units + 16 * k + 200 < cLine
theorem di.mono {j k : Nat} {A : Around} (r : di k A) (h : j ≤ k) : di j A := ⟨r.hd, by have := r.dp; omega, by have := r.un; omega⟩
theorem di.deeper {k : Nat} {A : Around} (r : di (k + 1) A) (env : Env) : di k (A.deeper env) :=
 ⟨r.hd, by have := r.dp; show A.depth + 1 + 3 * k + 5 < _; omega, by have := r.un; show A.units + 3 + 16 * k + 200 < _; omega⟩
theorem di.in1 {k : Nat} {A : Around} (r : di (k + 1) A) : di k A.in1 :=
 ⟨r.hd, by have := r.dp; show A.depth + 3 * k + 5 < _; omega, by have := r.un; show A.units + 1 + 16 * k + 200 < _; omega⟩
theorem Dm {A : Around} {C : Addr} {us : List Value} {kw : List (Str × Value)} : (A.under (.builtin "type.__call__" ⟨.ref C :: us, kw⟩)).depth = A.depth + 1 := by
 first | rfl | simp [Around.under, Code.weight, Code.isCreation, Code.isGuard, Code.isCaller, Code.frames, Code.isFrame, guardIds]
theorem Dn {A : Around} {C : Addr} {us : List Value} {kw : List (Str × Value)} : (A.under (.builtin "type.__call__" ⟨.ref C :: us, kw⟩)).units = A.units + 1 := by
 first | rfl | simp [Around.under, Code.cUnits, Code.frames, Code.isFrame]
theorem di.make {k : Nat} {A : Around} (r : di (k + 1) A) (C : Addr) (us : List Value) (kw : List (Str × Value)) : di k (A.under (.builtin "type.__call__" ⟨.ref C :: us, kw⟩)) :=
 ⟨r.hd, by have := r.dp; rw [Dm]; omega, by have := r.un; rw [Dn]; omega⟩
theorem di.depth {k : Nat} {A : Around} (r : di k A) : A.depth < recursionLimit := by have := r.dp; omega
theorem di.units {k : Nat} {A : Around} (r : di k A) : A.units + 64 < cLine := by have := r.un; omega
def yk : TA := fun _ H Q => Q [] H
def rf (ta : TE) (tr : TA) : TA := fun σ H Q => ta σ H fun x H1 => tr σ H1 fun xs H2 => Q (x :: xs) H2
section
variable {X : Cx} {e : Expr} {es : List Expr} {te : TE} {t : TA} {pos : Pos}
theorem af : PA X [] yk := fun _ _ _ _ H Q I h => Calls.spliced_nil ⟨[], H, I, .nil, h⟩
theorem aa (ha : PE X e te) (hr : PA X es t) (hs : starEach (e :: es) X.env = (false, eval e X.env) :: starEach es X.env := by rfl) : PA X (e :: es) (rf te t) := by
 intro pos pins s σ H Q I h
 rw [hs]
 show wpAny _ _ (spliced ((false, eval e X.env) :: backTo pos (starEach es X.env))) _ _ s
 refine Calls.spliced_cons (thn (ha pins s σ H _ I h) fun u s1 ⟨x, H1, I1, r1, q1⟩ => ?_)
 exact thn (hr pos pins s1 σ H1 _ I1 q1) fun us s2 ⟨xs, H2, I2, r2, q2⟩ => ⟨x :: xs, H2, I2, .cons r1 r2, q2⟩
def VN (t : TA) : TE := fun σ H Q => t σ H fun xs H1 => xs.length ≤ sizeLine ∧ ∀ p, H1 p = none → Q (.ref p) (upd H1 p (.tup xs))
def VO (t : TA) : TE := fun σ H Q => t σ H fun xs H1 => xs.length ≤ sizeLine ∧ ∀ p, H1 p = none → Q (.ref p) (upd H1 p (.lst xs))
theorem dU {x1} (h : PA X es t) : PE X (.Tuple es x1 pos) (VN t) := by
 intro pins s σ H Q I hq
 refine wpAny_Tuple_spliced (thn (h pos pins s σ H _ I hq) fun us s1 ⟨xs, H1, I1, r, z, q⟩ => ⟨by rw [← r.length]; exact z, ?_⟩)
 have hf : H1 s1.heap.objs.size = none := I1.bB.fresh (Nat.le_refl _)
 refine ⟨.ref s1.heap.objs.size, upd H1 s1.heap.objs.size (.tup xs), I1.laid (t' := s1.toks) (fun b u e => Heap.get?_push_of_some _ e) (Nat.le_refl _) ?_, rfl, q _ hf⟩
 exact ⟨z, us, r, ⟨_, Heap.get?_push_size _ rfl, rfl, _, rfl⟩⟩
theorem bc (h : PA X es t) : PE X (.List es pos) (VO t) := by
 intro pins s σ H Q I hq
 refine wpAny_List_spliced (thn (h pos pins s σ H _ I hq) fun us s1 ⟨xs, H1, I1, r, z, q⟩ => ⟨by rw [← r.length]; exact z, ?_⟩)
 have hf : H1 s1.heap.objs.size = none := I1.bB.fresh (Nat.le_refl _)
 refine ⟨.ref s1.heap.objs.size, upd H1 s1.heap.objs.size (.lst xs), I1.laid (t' := s1.toks) (fun b u e => Heap.get?_push_of_some _ e) (Nat.le_refl _) ?_, rfl, q _ hf⟩
 exact ⟨z, us, 0, r, Heap.get?_push_size _ rfl⟩
end
abbrev Sp := List V → Hp → VK → XK → Prop
abbrev IG := List Env → Hp → Shared → XK → Value → Shared → Prop
structure Dp (P : Program) (w : World) (K : PySem.W.Frag) (mg : Str → Option Value) (base : Heap) (A : Around) (outer : List Env) (s : Shared) (H : Hp) : Prop where
 frames : A.frames = some outer
 mod : Mod K mg base
 bs : ∀ b o, base.get? b = some o → s.heap.get? b = some o ∧ H b = none
 Fd : base.objs.size ≤ s.heap.objs.size
 pR : s.heap.FunFrames base outer
 Nf : ∀ b ∈ Bi outer, H b = none
 bB : mY P w H s.heap
 bare : AllBare s.gens
def CE (outer : List Env) (P : Program) (w : World) (H : Hp) (s : Shared) (Q : VK) (u : Value) (s' : Shared) : Prop :=
 ∃ v H', s'.os = s.os ∧ AllBare s'.gens ∧ Un (Bi outer) [] H H' s.heap s'.heap ∧ mY P w H' s'.heap ∧ RelV v u ∧ Q v H'
def CR (CX : IG) (outer : List Env) (P : Program) (w : World) (H : Hp) (s : Shared) (Q : VK) (E : XK) (r : Result) (s' : Shared) : Prop :=
 match r with
 | .ok (.ret u) => CE outer P w H s Q u s'
 | .ok _ => False
 | .error e => CX outer H s E e s'
structure aW (P : Program) (w : World) (K : PySem.W.Frag) (mg : Str → Option Value) (base : Heap) (CX : IG) (k : Nat) (f : Addr) (fd : FuncData) (ps : List Str) (sp : Sp) : Prop where
 len : ∀ vs H Q E, sp vs H Q E → vs.length = ps.length
 run : ∀ (A : Around) (outer : List Env) (s : Shared) (H : Hp) (args : Args) (us : List Value) (vs : List V) (Q : VK) (E : XK), di k A → Dp P w K mg base A outer s H → BindsTo s fd args (ps.zip us) → Vals vs us → sp vs H Q E →
  codeAny (model P w) A (.call (.ref f) args) (CR CX outer P w H s Q E) s
theorem Dp.make {P : Program} {w : World} {K : PySem.W.Frag} {mg : Str → Option Value} {base : Heap} {A : Around} {outer : List Env} {s : Shared} {H : Hp} (e : Dp P w K mg base A outer s H) (C : Addr) (us : List Value) (kw : List (Str × Value)) :
  Dp P w K mg base (A.under (.builtin "type.__call__" ⟨.ref C :: us, kw⟩)) outer s H := ⟨by first | exact e.frames | (simpa [Around.under, Code.envs, Code.isFrame, pushEnvs] using e.frames), e.mod, e.bs, e.Fd, e.pR, e.Nf, e.bB, e.bare⟩
section
variable {X : Cx} {pins : List (Addr × Obj)} {σ : St} {H : Hp} {s s' : Shared}
theorem Inv.Oj (I : Inv X pins σ H s) : Dp X.prog X.w X.K X.mg X.base X.A X.stack s H :=
 ⟨I.ok.frames, I.ok.mod, I.bs, Nat.le_trans I.ok.Fd I.sz, I.stack, I.sk, I.bB, I.bare⟩
theorem Inv.after {Q : VK} {u : Value} (I : Inv X pins σ H s) (h : CE X.stack X.prog X.w H s Q u s') : EP X pins σ Q u s' := by
 obtain ⟨v, H', os, bare, un, bB, r, q⟩ := h
 obtain ⟨hh, g, d, t, os'⟩ := s'
 obtain rfl : os' = s.os := os
 exact ⟨v, H', I.call (h' := hh) (g' := g) (d' := d) (t' := t) (ch := []) un bB bare (fun b z => absurd z (by simp)), r, q⟩
end
def Nm (sp : Sp) (vJ : List V) (E : XK) (t : TA) : TE := fun σ H Q => t σ H fun vs H1 => sp (vs ++ vJ) H1 Q E
def Fm (C : Addr) (m : Str) (sp : Sp) (vJ : List V) (E : XK) (ta : TE) (t : TA) : TE := fun σ H Q => ta σ H fun x H1 => ∃ a dx fs, x = .ref a ∧ H1 a = some (.ins C dx fs) ∧ fs.lookup m = none ∧
 t σ H1 fun vs H2 => sp (x :: (vs ++ vJ)) H2 Q E
def Nn (C : Addr) (sp : Sp) (vJ : List V) (E : XK) (t : TA) : TE := fun σ H Q => t σ H fun vs H1 => ∀ x dx, H1 x = none → H1 dx = none → dx ≠ x →
 sp (.ref x :: (vs ++ vJ)) (upd (upd H1 dx (.own x)) x (.ins C dx [])) (fun v H2 => v = .cL ∧ Q (.ref x) H2) E
def Binds (K : PySem.W.Frag) (fd : FuncData) (ps : List Str) (ds : List Value) : Prop :=
 ∀ (s : Shared) (us : List Value), K.In s.heap → (us ++ ds).length = ps.length → BindsTo s fd ⟨us, []⟩ (ps.zip (us ++ ds))
theorem Binds.all {K : PySem.W.Frag} {fd : FuncData} {ps : List Str} (h : ∀ us : List Value, us.length = ps.length → bindArgs fd ⟨us, []⟩ = pure (ps.zip us)) : Binds K fd ps [] := fun s us _ hl => by
 rw [List.append_nil] at hl ⊢
 exact .of_eq (h us hl)
def Passes (CX : IG) (X : Cx) (E : XK) : Prop := ∀ (pins : List (Addr × Obj)) (σ : St) (H : Hp) (s : Shared) (e : Value) (s' : Shared), Inv X pins σ H s → CX X.stack H s E e s' → X.xe e s'
section
variable {X : Cx} {CX : IG} {k : Nat} {f C : Addr} {fd : FuncData} {ps : List Str} {sp : Sp} {vJ : List V} {ds : List Value} {E : XK} {x m : Str} {p pos apos : Pos} {e o : Expr} {es : List Expr} {ta : TE} {t : TA}
theorem Dq {pins : List (Addr × Obj)} {σ : St} {H : Hp} {s : Shared} {Q : VK} {us : List Value} {vs : List V} (F : aW X.prog X.w X.K X.mg X.base CX k f fd ps sp) (hr : di k X.A) (hb : Binds X.K fd ps ds) (hd : Vals vJ ds) (hx : Passes CX X E)
  (I : Inv X pins σ H s) (r : Vals vs us) (h : sp (vs ++ vJ) H Q E) : wpAny (model X.prog X.w) X.A (call (.ref f) us) (EP X pins σ Q) X.xe s := by
 have r2 : Vals (vs ++ vJ) (us ++ ds) := r.append hd
 have hl : (us ++ ds).length = ps.length := by rw [← r2.length]; exact F.len _ _ _ _ h
 refine wpAny_call (codeAny_mono (F.run X.A X.stack s H ⟨us, []⟩ (us ++ ds) (vs ++ vJ) Q E hr I.Oj (hb s us I.De hl) r2 h) fun r s' hq => ?_)
 cases r with
 | error e => exact hx pins σ H s e s' I hq
 | ok fl =>
  cases fl with
  | ret u => exact I.after hq
  | next => exact False.elim hq
  | brk => exact False.elim hq
  | cont => exact False.elim hq
theorem LQ (F : aW X.prog X.w X.K X.mg X.base CX k f fd ps sp) (hr : di k X.A) (hg : Gl X x) (hm : X.mg x = some (.ref f)) (hk : PySem.W.keepIn X.K (.ref f) = true) (hb : Binds X.K fd ps ds) (hd : Vals vJ ds) (hx : Passes CX X E)
  (ha : PA X (e :: es) t) (Gz : (x == ("__debug__" : Str)) = false := by decide) (he : starEach (e :: es) X.env = (false, eval e X.env) :: starEach es X.env := by rfl) (C9 : (backTo pos (starEach es X.env)).any (·.1) = false := by rfl) :
  PE X (.Call (.Name x p) (e :: es) [] pos) (Nm sp vJ E t) := by
 intro pins s σ H Q I h
 refine wpAny_Call_Name_kw (so I hg hm ?_ Gz)
 refine PySem.W.callWith_K (h₀ := X.base) I.ok.mod.QC hk (thn (ha pos pins s σ H _ I h) fun us s1 ⟨vs, H1, I1, r, q⟩ => ⟨I1.De, ?_⟩) he C9
 exact Dq F hr hb hd hx I1 r q
theorem LR {pl : Sem Bool} (he : PE X o ta) (c : C8 X.K C) (hm : Meth X.K C m f) (F : aW X.prog X.w X.K X.mg X.base CX k f fd ps sp) (hr : di k X.A) (hb : Binds X.K fd ps ds) (hd : Vals vJ ds) (hx : Passes CX X E) (ha : PA X (e :: es) t)
  (N9 : starEach (e :: es) X.env = (false, eval e X.env) :: starEach es X.env := by rfl) (C9 : (backTo pos (starEach es X.env)).any (·.1) = false := by rfl)
  (ht : eval (.Call (.Attribute o m apos) (e :: es) [] pos) X.env = (do
   let ov ← eval o X.env
   standAt apos.atName
   let (f, first) ← holding [ov] (getMethod ov m pl)
   callWith pos f first (backTo pos (starEach (e :: es) X.env)) (backToKw pos (keywordEach [] X.env))) := by rfl) :
  PE X (.Call (.Attribute o m apos) (e :: es) [] pos) (Fm C m sp vJ E ta t) := by
 intro pins s σ H Q I h
 refine PySem.W.methodCall_KW (pl := pl) (thn (he pins s σ H _ I h) fun u s1 ⟨x, H1, I1, rx, a, dx, fs, ex, ea, l, q⟩ => ?_) ht
 subst ex
 obtain rfl : u = Value.ref a := rx
 refine nC I1 ea c hm l ?_
 refine PySem.W.callWith_K (first := [.ref a]) (h₀ := X.base) I.ok.mod.QC hm.kp (thn (ha pos pins s1 σ H1 _ I1 q) fun us s2 ⟨vs, H2, I2, r, q2⟩ => ⟨I2.De, ?_⟩) N9 C9
 exact Dq (us := .ref a :: us) (vs := .ref a :: vs) F hr hb hd hx I2 (.cons rfl r) q2
theorem IH {pl : Sem Bool} (he : PE X o ta) (c : C8 X.K C) (hm : Meth X.K C m f) (F : aW X.prog X.w X.K X.mg X.base CX k f fd ps sp) (hr : di k X.A) (hb : Binds X.K fd ps ds) (hd : Vals vJ ds) (hx : Passes CX X E)
  (ht : eval (.Call (.Attribute o m apos) [] [] pos) X.env = (do
   let ov ← eval o X.env
   standAt apos.atName
   let (f, first) ← holding [ov] (getMethod ov m pl)
   callWith pos f first (backTo pos (starEach [] X.env)) (backToKw pos (keywordEach [] X.env))) := by rfl) :
  PE X (.Call (.Attribute o m apos) [] [] pos) (Fm C m sp vJ E ta yk) := by
 intro pins s σ H Q I h
 refine PySem.W.methodCall_KW (pl := pl) (thn (he pins s σ H _ I h) fun u s1 ⟨x, H1, I1, rx, a, dx, fs, ex, ea, l, q⟩ => ?_) ht
 subst ex
 obtain rfl : u = Value.ref a := rx
 refine nC I1 ea c hm l ?_
 exact PySem.W.callWith_K0 (first := [.ref a]) I1.De hm.kp (Dq (us := [.ref a]) (vs := [.ref a]) F hr hb hd hx I1 (.cons rfl .nil) q)
structure Mk (K : PySem.W.Frag) (C f : Addr) : Prop where
 makes : PySem.W.makesIn K C = true
 init : PySem.W.findIn K (.ref C) "__init__" = some (some (.ref f))
 fn : PySem.W.isFn K (.ref f) = true
 kp : PySem.W.keepIn K (.ref C) = true
theorem II {pins : List (Addr × Obj)} {σ : St} {H : Hp} {s : Shared} {Q : VK} {us : List Value} {vs : List V} (M : Mk X.K C f) (F : aW X.prog X.w X.K X.mg X.base CX k f fd ps sp) (hr : di (k + 1) X.A) (hb : Binds X.K fd ps ds) (hd : Vals vJ ds)
  (hx : Passes CX X E) (I : Inv X pins σ H s) (r : Vals vs us)
  (h : ∀ x dx, H x = none → H dx = none → dx ≠ x → sp (.ref x :: (vs ++ vJ)) (upd (upd H dx (.own x)) x (.ins C dx [])) (fun v H2 => v = .cL ∧ Q (.ref x) H2) E) :
  wpAny (model X.prog X.w) X.A (call (.ref C) us) (EP X pins σ Q) X.xe s := by
 have hq := h (s.heap.objs.size + 1) s.heap.objs.size (I.bB.fresh (Nat.le_succ _)) (I.bB.fresh (Nat.le_refl _)) (Nat.ne_of_lt (Nat.lt_succ_self _))
 have I2 := Inv.made (C := C) I
 have r2 : Vals (V.ref (s.heap.objs.size + 1) :: (vs ++ vJ)) (Value.ref (s.heap.objs.size + 1) :: (us ++ ds)) := .cons rfl (r.append hd)
 have hl : (Value.ref (s.heap.objs.size + 1) :: us ++ ds).length = ps.length := by
  have e := r2.length
  rw [F.len _ _ _ _ hq] at e
  exact e.symm
 refine wpAny_call (IE (f := f) I.De M.makes M.init (beq_iff_eq.mp M.fn) (codeAny_mono (F.run _ X.stack _ _ ⟨Value.ref (s.heap.objs.size + 1) :: us, []⟩ (Value.ref (s.heap.objs.size + 1) :: (us ++ ds)) _ _ E (hr.make C us [])
  (I2.Oj.make C us []) (hb _ (Value.ref (s.heap.objs.size + 1) :: us) I2.De hl) r2 hq) fun r s' GA => ?_))
 cases r with
 | error e => exact hx pins σ _ _ e s' I2 GA
 | ok fl =>
  cases fl with
  | ret u =>
   obtain ⟨v, H', I3, rv, ev, q3⟩ := I2.after GA
   subst ev
   exact ⟨rv, ⟨V.ref (s.heap.objs.size + 1), H', I3, rfl, q3⟩⟩
  | next => exact False.elim GA
  | brk => exact False.elim GA
  | cont => exact False.elim GA
theorem LS (M : Mk X.K C f) (F : aW X.prog X.w X.K X.mg X.base CX k f fd ps sp) (hr : di (k + 1) X.A) (hg : Gl X x) (hm : X.mg x = some (.ref C)) (hb : Binds X.K fd ps ds) (hd : Vals vJ ds) (hx : Passes CX X E)
  (ha : PA X (e :: es) t) (Gz : (x == ("__debug__" : Str)) = false := by decide) (he : starEach (e :: es) X.env = (false, eval e X.env) :: starEach es X.env := by rfl) (C9 : (backTo pos (starEach es X.env)).any (·.1) = false := by rfl) :
  PE X (.Call (.Name x p) (e :: es) [] pos) (Nn C sp vJ E t) := by
 intro pins s σ H Q I h
 refine wpAny_Call_Name_kw (so I hg hm ?_ Gz)
 refine PySem.W.callWith_K (h₀ := X.base) I.ok.mod.QC M.kp (thn (ha pos pins s σ H _ I h) fun us s1 ⟨vs, H1, I1, r, q⟩ => ⟨I1.De, ?_⟩) he C9
 exact II M F hr hb hd hx I1 r q
end
def PK (X : Cx) (QY : List Keyword) (t : TA) : Prop :=
 ∀ (pos : Pos) (pins : List (Addr × Obj)) (s : Shared) (σ : St) (H : Hp) (Q : List V → Hp → Prop), Inv X pins σ H s → t σ H Q → wpAny (model X.prog X.w) X.A (evalAll ((backToKw pos (keywordEach QY X.env)).map (·.2))) (AP X pins σ Q) X.xe s
section
variable {X : Cx} {CX : IG} {k : Nat} {f C : Addr} {fd : FuncData} {ps ks : List Str} {sp : Sp} {E : XK} {x m : Str} {p pos apos VP : Pos} {e o : Expr} {es : List Expr} {QY : List Keyword} {te ta : TE} {t tk : TA} {nm : Option Str}
theorem Ol : PK X [] yk := fun _ _ _ _ H Q I h => wpAny_evalAll_nil ⟨[], H, I, .nil, h⟩
theorem LU (ha : PE X e te) (hr : PK X QY t) : PK X (⟨nm, e, VP⟩ :: QY) (rf te t) := by
 intro pos pins s σ H Q I h
 show wpAny _ _ (evalAll ((do let v ← eval e X.env; standAt pos; pure v) :: (backToKw pos (keywordEach QY X.env)).map (·.2))) _ _ s
 refine wpAny_evalAll_cons (wpAny_bind (thn (ha pins s σ H _ I h) fun u s1 ⟨x, H1, I1, r1, q1⟩ => wpAny_bind (wpAny_standAt (wpAny_pure ?_))))
 exact thn (hr pos pins s1 σ H1 _ I1 q1) fun us s2 ⟨xs, H2, I2, r2, q2⟩ => ⟨x :: xs, H2, I2, .cons r1 r2, q2⟩
structure VQ (K : PySem.W.Frag) (fd : FuncData) (ps ks : List Str) (g : List Value → List Value → List Value) (gV : List V → List V → List V) : Prop where
 to : ∀ (s : Shared) (us ws : List Value), K.In s.heap → (g us ws).length = ps.length → BindsTo s fd ⟨us, ks.zip ws⟩ (ps.zip (g us ws))
 rel : ∀ {vs : List V} {us : List Value} {zs : List V} {ws : List Value}, Vals vs us → Vals zs ws → Vals (gV vs zs) (g us ws)
variable {g : List Value → List Value → List Value} {gV : List V → List V → List V}
end
structure av (N P : List Str) (sc : Scope) : Prop where
 kind : sc.kind = .function
 co : sc.isCoroutine = false
 gen : sc.isGenerator = false
 nd : N.Nodup
 pre : N.take P.length = P
 par : ∀ x ∈ P, sc.names.lookup x = some .local ∨ sc.names.lookup x = some .cell
 Om : ∀ y ∈ sc.names, y.2 ≠ .free
theorem xj {kindOf : Str → Option NameKind} {x : Str} : ∀ {binds : List (Str × Value)} {m : Str → Option Value}, (∀ v, (x, v) ∉ binds) → bindL kindOf binds m x = m x
 | [], _, _ => rfl
 | (n, v) :: r, m, h => by
  unfold bindL
  rw [xj fun w hw => h w (List.mem_cons_of_mem _ hw)]
  split
  ·have : x ≠ n := by rintro rfl; exact h v List.mem_cons_self
   simp [this]
  ·rfl
theorem xk {kindOf : Str → Option NameKind} {x : Str} : ∀ {binds : List (Str × Value)} {m : Str → Option Value}, (∀ v, (x, v) ∉ binds) → bindC kindOf binds m x = m x
 | [], _, _ => rfl
 | (n, v) :: r, m, h => by
  unfold bindC
  rw [xk fun w hw => h w (List.mem_cons_of_mem _ hw)]
  split
  ·rfl
  ·have : x ≠ n := by rintro rfl; exact h v List.mem_cons_self
   simp [this]
theorem xl {kindOf : Str → Option NameKind} {x : Str} {v : Value} : ∀ {P : List Str} {vs : List Value} {i : Nat} {m : Str → Option Value}, P.Nodup → P[i]? = some x → vs[i]? = some v → kindOf x = some .local →
  bindL kindOf (P.zip vs) m x = some v
 | [], _, _, _, _, h, _, _ => by simp at h
 | _ :: _, [], _, _, _, _, h, _ => by simp at h
 | p :: P, w :: vs, 0, m, nd, h1, h2, hk => by
  simp at h1 h2; subst h1; subst h2
  show bindL kindOf ((p, w) :: P.zip vs) m p = _
  unfold bindL
  rw [xj fun v hv => (List.nodup_cons.mp nd).1 (List.of_mem_zip hv).1, if_pos hk]
  simp
 | p :: P, w :: vs, i + 1, m, nd, h1, h2, hk => by
  show bindL kindOf ((p, w) :: P.zip vs) m x = _
  unfold bindL
  exact xl (i := i) (List.nodup_cons.mp nd).2 (by simpa using h1) (by simpa using h2) hk
theorem xm {kindOf : Str → Option NameKind} {x : Str} {v : Value} : ∀ {P : List Str} {vs : List Value} {i : Nat} {m : Str → Option Value}, P.Nodup → P[i]? = some x → vs[i]? = some v → kindOf x ≠ some .local →
  bindC kindOf (P.zip vs) m x = some v
 | [], _, _, _, _, h, _, _ => by simp at h
 | _ :: _, [], _, _, _, _, h, _ => by simp at h
 | p :: P, w :: vs, 0, m, nd, h1, h2, hk => by
  simp at h1 h2; subst h1; subst h2
  show bindC kindOf ((p, w) :: P.zip vs) m p = _
  unfold bindC
  rw [xk fun v hv => (List.nodup_cons.mp nd).1 (List.of_mem_zip hv).1, if_neg hk]
  simp
 | p :: P, w :: vs, i + 1, m, nd, h1, h2, hk => by
  show bindC kindOf ((p, w) :: P.zip vs) m x = _
  unfold bindC
  exact xm (i := i) (List.nodup_cons.mp nd).2 (by simpa using h1) (by simpa using h2) hk
def start (N : List Str) (vs : List V) : St := vs.map some ++ List.replicate (N.length - vs.length) none
def GB (CX : IG) (P : Program) (w : World) (K : PySem.W.Frag) (mg : Str → Option Value) (base : Heap) (N : List Str) (qual : Str) (scope : Scope) (f : Addr) (cd : Value) (A : Around) (outer : List Env) (s : Shared) (H : Hp) (E : XK) : Cx where
 prog := P
 w := w
 K := K
 mg := mg
 base := base
 A := A.deeper (envOfC qual scope s.heap.objs.size f cd)
 N := N
 s₀ := s
 H₀ := H
 env := envOfC qual scope s.heap.objs.size f cd
 outer := outer
 stack := envOfC qual scope s.heap.objs.size f cd :: outer
 ex := []
 calm := true
 fn := fun _ => true
 pn := []
 xe := fun e s' => wpAny (model P w) (A.deeper (envOfC qual scope s.heap.objs.size f cd)) (leaving (envOfC qual scope s.heap.objs.size f cd) e) (fun _ rK => CX outer H s E e rK) (fun e' rK => CX outer H s E e' rK) s'
theorem Bo {sc : Scope} {n : Nat} {x : Str} (h : sc.names.lookup x = some .cell) : ∃ c, (cellsFrom n sc.names []).lookup x = some c := by
 have q := PySem.W.cellsFrom_some sc.names n [] (.inl h)
 exact Option.isSome_iff_exists.mp q
theorem GC {CX : IG} {P : Program} {w : World} {K : PySem.W.Frag} {mg : Str → Option Value} {base : Heap} {N ps : List Str} {qual : Str} {scope : Scope} {f : Addr} {cd : Value} {A : Around} {outer : List Env} {s s1 : Shared} {H : Hp} {E : XK} {us : List Value} {vs : List V}
  (S : av N ps scope) (hd : A.handled = none) (e0 : Dp P w K mg base A outer s H) (hl : vs.length = ps.length) (r : Vals vs us)
  (x : InCallC s s.heap.objs.size (bindL (envOfC qual scope s.heap.objs.size f cd).kindOf (ps.zip us) fun _ => none) (cellsFrom (s.heap.objs.size + 1) scope.names []) (bindC (envOfC qual scope s.heap.objs.size f cd).kindOf (ps.zip us) fun _ => none) s1) :
  Inv (GB CX P w K mg base N qual scope f cd A outer s H E) [] (start N vs) H s1 := by
 have C9 : ps.length ≤ N.length := by have := congrArg List.length S.pre; rw [List.length_take] at this; omega
 obtain ⟨h1, tk, rfl, hk⟩ := x.done
 have QZ : ∀ b : Addr, b ∉ (GB CX P w K mg base N qual scope f cd A outer s H E).ex := fun b z => absurd (show b ∈ ([] : List Addr) from z) (by simp)
 refine ⟨⟨e0.mod, S.kind, rfl, rfl, Nat.le_refl _, fun y z c h1 h2 => ?_, fun y hy => ?_, fun y c _ h => ?_, fun _ => hd, Around.frames_deeper e0.frames, .inr ⟨rfl, rfl⟩, fun b z => absurd z (QZ b), e0.bs, e0.Fd, fun b _ _ => QZ b, fun b z => absurd z (QZ b), e0.pR, e0.Nf⟩,
  rfl, e0.bare, Un.kept hk, ⟨_, x.toInCall.ns, fun i y v h1 h2 h3 => ?_⟩, fun y c h => ⟨_, x.cell y c h⟩, e0.bB.fresh (Nat.le_refl _), fun y c h => ?_, fun p hp => absurd (show p ∈ ([] : List (Addr × Obj)) from hp) (by simp), e0.bB.kept hk, ?_⟩
 ·exact name_of_addr x.apart (PySem.mem_of_lookup h1) (PySem.mem_of_lookup h2)
 ·have hy : scope.names.lookup y = some .cell ∨ scope.names.lookup y = some .free := hy
  rcases hy with hy | hy
  ·exact Bo hy
  ·exact absurd rfl (S.Om _ (PySem.mem_of_lookup hy))
 ·exact Nat.le_of_lt (x.above y c (PySem.mem_of_lookup h))
 ·have hi : i < vs.length := by
   unfold start at h2
   by_cases hi : i < vs.length
   ·exact hi
   ·rw [List.getElem?_append_right (by simpa using hi)] at h2
    rw [List.getElem?_replicate] at h2
    split at h2 <;> cases h2
  have ha : vs[i]? = some v := by
   unfold start at h2
   rw [List.getElem?_append_left (by simpa using hi), List.getElem?_map] at h2
   cases e : vs[i]? with
   | none => rw [e] at h2; cases h2
   | some a => rw [e] at h2; cases h2; rfl
  obtain ⟨u, hu, rv⟩ := r.get ha
  have hp : ps[i]? = some y := by
   rw [← S.pre, List.getElem?_take_of_lt (by omega)]; exact h1
  have Yq : ps.Nodup := by rw [← S.pre]; exact S.nd.sublist (List.take_sublist _ _)
  refine ⟨u, rv, ?_⟩
  rcases S.par y (List.mem_of_getElem? hp) with k | k
  ·exact .inl ⟨k, xl Yq hp hu k⟩
  ·obtain ⟨c, e⟩ := Bo (n := s.heap.objs.size + 1) k
   refine .inr ⟨.inl k, c, e, ?_⟩
   have q := x.cell y c e
   rw [xm Yq hp hu (by show scope.names.lookup y ≠ _; rw [k]; decide)] at q
   exact q
 ·exact e0.bB.fresh (Nat.le_of_lt (x.above y c (PySem.mem_of_lookup h)))
 ·unfold start
  show _ = N.length
  rw [List.length_append, Lm9, List.length_replicate]
  omega
theorem Q0 {CX : IG} {P : Program} {w : World} {K : PySem.W.Frag} {mg : Str → Option Value} {base : Heap} {k : Nat} {f : Addr} {name qual : Str} {params : Arguments} {body : List Stmt} {scope : Scope} {dV kV doc pm cw ct oc : Value} {an od : Option Addr}
  {Np : Array (Option Value)} {N ps : List Str} {sp : Sp} (lk : K.lookup f = some ⟨oc, od, .func (PySem.W.fnOf name qual params body scope dV kV doc pm an cw ct), Np⟩) (Im : PySem.W.codeIn K cw qual = true) (S : av N ps scope)
  (len : ∀ vs H Q E, sp vs H Q E → vs.length = ps.length)
  (IJ : ∀ (A : Around) (outer : List Env) (s : Shared) (H : Hp) (vs : List V) (Q : VK) (E : XK), di k (A.deeper (envOfC qual scope s.heap.objs.size f cw)) → sp vs H Q E →
   ∃ t, Ff (GB CX P w K mg base N qual scope f cw A outer s H E) body t ∧ t { nx := fun _ H' => Q .cL H', rt := Q } (start N vs) H) :
  aW P w K mg base CX (k + 1) f (PySem.W.fnOf name qual params body scope dV kV doc pm an cw ct) ps sp := by
 refine ⟨len, fun A outer s H args us vs Q E hr e0 hb r Lv => ?_⟩
 have hl := len _ _ _ _ Lv
 have KX : K.In s.heap := e0.mod.QC.keeps fun b o e => (e0.bs b o e).1
 have lim : s.heap.NoLimit := e0.mod.nolimit.keeps fun b o e => (e0.bs b o e).1
 have Q3 : ∀ y ∈ ps.zip us, scope.names.lookup y.1 = some .local ∨ (scope.names.lookup y.1 = some .cell ∧ ((cellsFrom (s.heap.objs.size + 1) scope.names []).lookup y.1).isSome = true) := fun ⟨n, v⟩ hy => by
  rcases S.par n (List.of_mem_zip hy).1 with q | q
  ·exact .inl q
  ·exact .inr ⟨q, PySem.W.cellsFrom_some _ _ _ (.inl q)⟩
 refine codeAny_call_function hr.depth (KX _ _ lk) rfl S.co S.gen rfl (PySem.W.codeRec_of KX Im) (hb _ _ _ _ ?_)
 refine wpAny_newFunctionEnv_cells S.kind Q3 fun env he s1 x => ?_
 subst he
 refine ⟨lim.keeps x.toInCall.keep, codeAny_func ?_⟩
 obtain ⟨t, ht, hq⟩ := IJ A outer s H vs Q E (hr.deeper _) Lv
 have I : Inv (GB CX P w K mg base N qual scope f cw A outer s H E) [] (start N vs) H s1 := GC S hr.hd e0 hl r x
 refine wpAny_mono (ht [] s1 (start N vs) H _ I hq) (fun fl s' hs => ?_) fun e s' hs => hs
 have fin : ∀ {σ' : St} {H' : Hp} {v : V} {u : Value}, Inv (GB CX P w K mg base N qual scope f cw A outer s H E) [] σ' H' s' → RelV v u → Q v H' → CE outer P w H s Q u s' :=
  fun {σ' H' v u} J rv q => ⟨v, H', J.os, J.bare, J.base, J.bB, rv, q⟩
 cases fl with
 | ret u =>
  obtain ⟨v, σ', H', J, rv, q⟩ := hs
  exact fin J rv q
 | next =>
  obtain ⟨σ', H', J, q⟩ := hs
  exact fin (v := V.cL) (u := Value.none) J rfl q
 | brk =>
  obtain ⟨_, _, _, q⟩ := hs
  exact False.elim q
 | cont =>
  obtain ⟨_, _, _, q⟩ := hs
  exact False.elim q
end L2
namespace L2
open PySem PySem.Spec PyProof.Rows
section
variable {X : Cx} {x : Str} {p pos : Pos} {e : Expr} {es : List Expr} {t : TA} {id T : String} {r : List V → Hp → VK → Prop}
def Yr (r : List V → Hp → VK → Prop) (t : TA) : TE := fun σ H Q => t σ H fun vs H1 => r vs H1 Q
theorem aJ (hc : ib X (.builtin id) r) (hg : Gl X x) (hm : X.mg x = none) (hv : bootBuiltins x = some (.builtin id)) (ha : PA X (e :: es) t) (hn : x ≠ "__name__" := by decide) (Gz : (x == ("__debug__" : Str)) = false := by decide)
  (he : starEach (e :: es) X.env = (false, eval e X.env) :: starEach es X.env := by rfl) (C9 : (backTo pos (starEach es X.env)).any (·.1) = false := by rfl) : PE X (.Call (.Name x p) (e :: es) [] pos) (Yr r t) := by
 intro pins s σ H Q I h
 refine wpAny_Call_Name_kw (kQ I hg hm hv ?_ hn Gz)
 exact PyProof.Rows.callWith_builtin1 (thn (ha pos pins s σ H _ I h) fun us s1 ⟨vs, H1, I1, r1, q1⟩ => hc pins s1 σ H1 vs us Q I1 r1 q1) he C9
theorem c9 (hc : ib X (.type T) r) (hg : Gl X x) (hm : X.mg x = none) (hv : bootBuiltins x = some (.type T)) (ha : PA X (e :: es) t) (hn : x ≠ "__name__" := by decide) (Gz : (x == ("__debug__" : Str)) = false := by decide)
  (he : starEach (e :: es) X.env = (false, eval e X.env) :: starEach es X.env := by rfl) (C9 : (backTo pos (starEach es X.env)).any (·.1) = false := by rfl) : PE X (.Call (.Name x p) (e :: es) [] pos) (Yr r t) := by
 intro pins s σ H Q I h
 refine wpAny_Call_Name_kw (kQ I hg hm hv ?_ hn Gz)
 exact PyProof.Rows.callWith_type1 (thn (ha pos pins s σ H _ I h) fun us s1 ⟨vs, H1, I1, r1, q1⟩ => hc pins s1 σ H1 vs us Q I1 r1 q1) he C9
end
end L2
namespace HT
open PySem PyProof.Rows
section
open PySem.SeqAt
open PySem.AutoSeq1 (wpAny_loadPart')
open PySem.MeetsSeq PySem.MeetsSeq2 PySem.MeetsSeq3
end
section
variable {prog : Program} {w : World} {A : Around} {E : Value → Shared → Prop} {s : Shared}
def dj (n d : Nat) : Option Int → Nat
 | none => d
 | some v => if v < 0 then (v + (n : Int)).toNat else min v.toNat n
theorem IK (n d : Nat) : dj n d none = d := rfl
theorem yl (n d k : Nat) : dj n d (some (k : Int)) = min k n := by
 show (if (k : Int) < 0 then ((k : Int) + (n : Int)).toNat else min (k : Int).toNat n) = min k n
 rw [if_neg (by omega), Int.toNat_natCast]
theorem Oo (n d : Nat) (hd : d ≤ n) (o : Option Int) : dj n d o ≤ n := by
 cases o with
 | none => exact hd
 | some v =>
  show (if v < 0 then (v + (n : Int)).toNat else min v.toNat n) ≤ n
  by_cases hv : v < 0
  ·rw [if_pos hv]; omega
  ·rw [if_neg hv]; exact Nat.min_le_right _ _
theorem Fn (v : Int) (n d : Nat) : (if v < 0 then max (v + (n : Int)) 0 else min v (n : Int)) = ((dj n d (some v) : Nat) : Int) := by
 show (if v < 0 then max (v + (n : Int)) 0 else min v (n : Int)) = (((if v < 0 then (v + (n : Int)).toNat else min v.toNat n) : Nat) : Int)
 by_cases hv : v < 0
 ·simp only [if_pos hv]; omega
 ·simp only [if_neg hv]; omega
theorem Dr (lo hi : Option Int) (n : Nat) : Builtin.Slice.sliceAdjust lo hi 1 (n : Int) = (((dj n 0 lo : Nat) : Int), ((dj n n hi : Nat) : Int)) := by
 have h1 : ¬ ((1 : Int) < 0) := by omega
 unfold Builtin.Slice.sliceAdjust
 simp only [h1, if_false]
 refine Prod.ext ?_ ?_
 ·cases lo with
  | none => rfl
  | some v => exact Fn v n 0
 ·cases hi with
  | none => rfl
  | some v => exact Fn v n n
theorem Ds (i j : Nat) : Builtin.Slice.slicePlaces (i : Int) (j : Int) 1 = j - i := by
 unfold Builtin.Slice.slicePlaces
 have h1 : (1 : Int) > 0 := by omega
 simp only [h1, if_true, Int.ediv_one]
 split <;> omega
theorem sY {v : Value} {o : Option Int} {Q : Option Int → Shared → Prop} (p : IsPart v o) (h : Q o s) : wpAny (model prog w) A (Builtin.Slice.slicePartIndex v) Q E s := by
 cases p with
 | none => exact slicePart_none h
 | int i t => exact slicePart_int h
theorem i6 {sl : Addr} {vl vu : Value} {lo hi : Option Int} {n : Nat} {Q : Int × Int × Nat → Shared → Prop} (hs : s.heap.IsSliceOf sl vl vu .none) (pl : IsPart vl lo) (pu : IsPart vu hi)
  (h : Q (((dj n 0 lo : Nat) : Int), 1, dj n n hi - dj n 0 lo) s) : wpAny (model prog w) A (Builtin.Slice.sliceApplied (.ref sl) (pure (n : Int))) Q E s := by
 obtain ⟨os, GD, UP, Q4⟩ := id hs
 unfold Builtin.Slice.sliceApplied Builtin.Slice.sliceFields
 refine wpAny_bind (wpAny_bind (wpAny_field GD Q4 (x := vl) rfl (wpAny_bind (wpAny_field GD Q4 (x := vu) rfl (wpAny_bind (wpAny_field GD Q4 (x := .none) rfl (wpAny_pure ?_)))))))
 refine wpAny_bind (slicePart_none ?_)
 show wpAny _ _ (if ((1 : Int) == 0) = true then _ else _) _ _ s
 rw [if_neg (by decide)]
 refine wpAny_bind (sY pl (wpAny_bind (sY pu (wpAny_bind (wpAny_pure ?_)))))
 show wpAny _ _ (match Builtin.Slice.sliceAdjust lo hi 1 (n : Int) with | (lo, hi) => pure (lo, (1 : Int), Builtin.Slice.slicePlaces lo hi 1)) _ _ s
 rw [Dr lo hi n]
 show wpAny _ _ (pure (((dj n 0 lo : Nat) : Int), (1 : Int), Builtin.Slice.slicePlaces ((dj n 0 lo : Nat) : Int) ((dj n n hi : Nat) : Int) 1)) _ _ s
 rw [Ds]
 exact wpAny_pure h
theorem IL (xs : Array Value) (i k : Nat) : ((List.range k).filterMap fun (m : Nat) => xs[((i : Int) + (m : Int) * 1).toNat]?).toArray = ((xs.toList.drop i).take k).toArray := by
 have e : (fun (m : Nat) => xs[((i : Int) + (m : Int) * 1).toNat]?) = fun m => xs[i + m]? := by
  funext m
  have : ((i : Int) + (m : Int) * 1).toNat = i + m := by omega
  rw [this]
 rw [e]
 have := pick_run xs i k
 rw [List.filterMap_map] at this
 have e2 : ((fun x => xs[x]?) ∘ fun x => i + x) = fun m => xs[i + m]? := rfl
 rw [e2] at this
 rw [this]
theorem oG {t sl : Addr} {items : Array Value} {vl vu : Value} {lo hi : Option Int} {Q : Value → Shared → Prop} (ht : IsTup s.heap t items) (hs : s.heap.IsSliceOf sl vl vu .none) (pl : IsPart vl lo) (pu : IsPart vu hi)
  (hw : ¬ (dj items.size 0 lo = 0 ∧ dj items.size items.size hi = items.size))
  (h : Q (.ref s.heap.objs.size) { s with heap := s.heap.push { cls := .type "tuple", data := .seq ((items.toList.drop (dj items.size 0 lo)).take (dj items.size items.size hi - dj items.size 0 lo)).toArray } })
  (hsz : items.size ≤ sizeLine) : wpAny (model prog w) A (getItem (.ref t) (.ref sl)) Q E s := by
 have Fp : sizeOk (.seq ((items.toList.drop (dj items.size 0 lo)).take (dj items.size items.size hi - dj items.size 0 lo)).toArray) := by
  show ((items.toList.drop (dj items.size 0 lo)).take (dj items.size items.size hi - dj items.size 0 lo)).toArray.size ≤ sizeLine
  rw [List.size_toArray, List.length_take, List.length_drop, Array.length_toList]
  omega
 have hj : dj items.size items.size hi ≤ items.size := Oo _ _ (Nat.le_refl _) hi
 obtain ⟨os, GD, UP, Q4⟩ := id hs
 have VR : s.TypeIs (.ref sl) "slice" := ⟨os, GD, UP⟩
 unfold getItem
 try with_reducible refine wpAny_holding ?_
 first | refine wpAny_bind (wpAny_pure ?_) | skip
 refine wpAny_bind (wpAny_sequenceKey ht.typeIs (by decide) ?_)
 refine wpAny_bind (wpAny_callSpecial?_slot (name := Str.ofString "__getitem__") ht.typeIs PyProof.Rows.slot_tuple_getitem
  (wpAny_call_entry PyProof.Rows.slot_tuple_getitem ht.typeIs entry_tuple_getitem ?_ (args_tuple_getitem _ _)))
 show wpAny _ _ (Builtin.Tuple.tupleItemsOf (.ref t) >>= _) _ _ s
 refine wpAny_bind (tupleItemsOf_ ht ?_)
 refine wpAny_bind (wpAny_typeOf VR ?_)
 rw [if_pos (by decide)]
 refine wpAny_bind (i6 hs pl pu ?_)
 have Oq : ¬ ((((dj items.size 0 lo : Nat) : Int) == 0 && (1 : Int) == 1 && (dj items.size items.size hi - dj items.size 0 lo) == items.size) = true) := by
  intro q
  rw [Bool.and_eq_true, Bool.and_eq_true] at q
  have q1 : ((dj items.size 0 lo : Nat) : Int) = 0 := eq_of_beq q.1.1
  have q2 : dj items.size items.size hi - dj items.size 0 lo = items.size := eq_of_beq q.2
  exact hw ⟨by omega, by omega⟩
 show wpAny _ _ (if (((dj items.size 0 lo : Nat) : Int) == 0 && (1 : Int) == 1 && (dj items.size items.size hi - dj items.size 0 lo) == items.size) = true then _ else _) _ _ s
 rw [if_neg Oq, IL]
 first
  | exact wpAny_bind (m := Builtin.Tuple.tupleExact _) (wpAny_newObj_type (wpAny_pure ⟨_, rfl, wpAny_pure h⟩) Fp)
  | exact wpAny_bind (m := Builtin.Tuple.tupleExact _) (wpAny_newObj_type (wpAny_bind (wpAny_pure (wpAny_pure ⟨_, rfl, wpAny_pure h⟩))) Fp)
  | exact wpAny_bind (wpAny_bind (m := Builtin.Tuple.tupleExact _) (wpAny_newObj_type (wpAny_pure (wpAny_pure ⟨_, rfl, wpAny_pure h⟩)) Fp))
  | exact wpAny_bind (wpAny_bind (m := Builtin.Tuple.tupleExact _) (wpAny_newObj_type (wpAny_pure ⟨_, rfl, wpAny_pure h⟩) Fp))
end
end HT
namespace L2
open PySem PySem.Spec PyProof.Rows
abbrev TO := St → Hp → (Option Int → Hp → Prop) → Prop
def PO (X : Cx) (e : Option Expr) (t : TO) : Prop :=
 ∀ (pins : List (Addr × Obj)) (s : Shared) (σ : St) (H : Hp) (Q : Option Int → Hp → Prop), Inv X pins σ H s → t σ H Q →
  wpAny (model X.prog X.w) X.A (evalPart e X.env) (fun u s' => ∃ o H', Inv X pins σ H' s' ∧ IsPart u o ∧ Q o H') X.xe s
def LV : TO := fun _ H Q => Q none H
def Q5 (t : TE) : TO := fun σ H Q => t σ H fun x H1 => ∃ i, x = .int i ∧ Q (some i) H1
section
variable {X : Cx} {e : Expr} {te : TE} {lo hi : Option Expr} {tl th : TO} {pos p2 : Pos}
theorem mP : PO X none LV := by
 intro pins s σ H Q I h
 rw [evalPart_none]
 exact wpAny_pure ⟨none, H, I, .none, h⟩
theorem dF (h : PE X e te) : PO X (some e) (Q5 te) := by
 intro pins s σ H Q I hw
 rw [evalPart_some]
 refine thn (h pins s σ H _ I hw) fun u s1 ⟨x, H1, I1, r1, q1⟩ => ?_
 obtain ⟨i, rfl, q⟩ := q1
 obtain ⟨t, rfl⟩ := r1
 exact ⟨some i, H1, I1, .int i t, q⟩
def Q6 (X : Cx) (r : V → Option Int → Option Int → Hp → VK → Prop) : Prop :=
 ∀ (pins : List (Addr × Obj)) (s : Shared) (σ : St) (H : Hp) (x : V) (v vl vu : Value) (lo hi : Option Int) (sl : Addr) (Q : VK), Inv X pins σ H s → RelV x v → s.heap.IsSliceOf sl vl vu .none → IsPart vl lo → IsPart vu hi → r x lo hi H Q →
  ∃ T id, typeLookup (.type T) "__getitem__" = pure (some (.builtin id)) ∧ s.TypeIs v T ∧ wpAny (model X.prog X.w) X.A (getItem v (.ref sl)) (EP X pins σ Q) X.xe s
def tSl (r : V → Option Int → Option Int → Hp → VK → Prop) (te : TE) (tl th : TO) : TE := fun σ H Q => te σ H fun x H1 => tl σ H1 fun l H2 => th σ H2 fun u H3 => r x l u H3 Q
theorem dW {r : V → Option Int → Option Int → Hp → VK → Prop} (hr : Q6 X r) (he : PE X e te) (hl : PO X lo tl) (hu : PO X hi th) : PE X (.Subscript e (.Slice lo hi none p2) pos) (tSl r te tl th) := by
 intro pins s σ H Q I h
 refine Subscript_ (thn (he pins s σ H _ I h) fun v s1 ⟨x, H1, I1, r1, q1⟩ => ?_)
 refine wpAny_Slice (thn (hl pins s1 σ H1 _ I1 q1) fun vl s2 ⟨l, H2, I2, pl, q2⟩ => thn (hu pins s2 σ H2 _ I2 q2) fun vu s3 ⟨u, H3, I3, pu, q3⟩ => ?_)
 rw [evalPart_none]
 refine wpAny_pure ?_
 have I4 : Inv X pins σ H3 { s3 with heap := s3.heap.push { cls := .type "slice", data := .fields #[vl, vu, .none] } } := I3.kept (t' := s3.toks) fun b ob q => Heap.get?_push_of_some _ q
 obtain ⟨T, id, hT, ht, hg⟩ := hr pins { s3 with heap := s3.heap.push { cls := .type "slice", data := .fields #[vl, vu, .none] } } σ H3 x v vl vu l u s3.heap.objs.size Q I4 r1 (Heap.IsSliceOf.new ..) pl pu q3
 show wpAny (model X.prog X.w) X.A (subscriptTail e (.Slice lo hi none p2) v (.ref s3.heap.objs.size)) (EP X pins σ Q) X.xe { s3 with heap := s3.heap.push { cls := .type "slice", data := .fields #[vl, vu, .none] } }
 exact tail_any (ops := [.ref s3.heap.objs.size, v]) ht hT hg (by with_unfolding_all rfl)
def hV (xs : List V) (lo hi : Option Int) : List V := (xs.drop (HT.dj xs.length 0 lo)).take (HT.dj xs.length xs.length hi - HT.dj xs.length 0 lo)
theorem kU (xs : List V) (lo hi : Option Int) : (hV xs lo hi).length ≤ xs.length := by
 unfold hV
 rw [List.length_take, List.length_drop]
 omega
def VS (K : PySem.W.Frag) : V → Option Int → Option Int → Hp → VK → Prop := fun x lo hi H Q => ∃ a xs, x = .ref a ∧ cM K H a xs ∧
 ¬ (HT.dj xs.length 0 lo = 0 ∧ HT.dj xs.length xs.length hi = xs.length) ∧ ∀ p, H p = none → Q (.ref p) (upd H p (.tup (hV xs lo hi)))
theorem Ot : Q6 X (VS X.K) := by
 intro pins s σ H x v vl vu lo hi sl Q I rx hs pl pu h
 obtain ⟨a, xs, rfl, hx, hw, q⟩ := h
 cases rx
 obtain ⟨its, r, ht, hz⟩ := I.tuple hx
 have hlen : its.toArray.size = xs.length := by rw [List.size_toArray]; exact r.length.symm
 refine ⟨"tuple", _, PyProof.Rows.slot_tuple_getitem.lookup, ht.typeIs, ?_⟩
 refine HT.oG ht hs pl pu (by rw [hlen]; exact hw) ?_ (by rw [hlen]; exact hz)
 rw [hlen]
 refine ⟨.ref s.heap.objs.size, _, I.laid (t' := s.toks) (o := .tup (hV xs lo hi)) (fun b ob q => Heap.get?_push_of_some _ q) (Nat.le_refl _) ?_, rfl, q _ (I.bB.fresh (Nat.le_refl _))⟩
 exact ⟨Nat.le_trans (kU xs lo hi) hz, _, (r.drop (HT.dj xs.length 0 lo)).take (HT.dj xs.length xs.length hi - HT.dj xs.length 0 lo), IsTup.new _ _⟩
end
end L2
namespace L2
open PySem PySem.Spec PyProof.Rows
def GF (n : Nat) (i : Int) : Option Nat := if 0 ≤ i then (if i < n then some i.toNat else none) else if -(n : Int) ≤ i then some (i + n).toNat else none
def pV {α : Type} (xs : List α) (i : Int) : Option α := (GF xs.length i).bind fun j => xs[j]?
theorem Fq {n : Nat} {i : Int} {j : Nat} (h : GF n i = some j) : seqIndex? i n = some j ∧ j < n ∧ -(n : Int) ≤ i ∧ i < n := by
 unfold GF at h
 by_cases h0 : 0 ≤ i
 ·rw [if_pos h0] at h
  by_cases h1 : i < n
  ·rw [if_pos h1] at h
   have e : i.toNat = j := Option.some.inj h
   exact ⟨by rw [seqIndex_of h0 h1, e], by omega, by omega, h1⟩
  ·rw [if_neg h1] at h; cases h
 ·rw [if_neg h0] at h
  by_cases h1 : -(n : Int) ≤ i
  ·rw [if_pos h1] at h
   have e : (i + n).toNat = j := Option.some.inj h
   exact ⟨by rw [seqIndex_neg (by omega) h1, e], by omega, h1, by omega⟩
  ·rw [if_neg h1] at h; cases h
theorem ym {α : Type} {xs : List α} {i : Int} {v : α} (h : pV xs i = some v) : ∃ j, seqIndex? i xs.length = some j ∧ xs[j]? = some v ∧ j < xs.length ∧ -(xs.length : Int) ≤ i ∧ i < xs.length := by
 unfold pV at h
 cases e : GF xs.length i with
 | none => rw [e] at h; cases h
 | some j =>
  rw [e] at h
  obtain ⟨h1, h2, h3, h4⟩ := Fq e
  exact ⟨j, h1, h, h2, h3, h4⟩
theorem bP {α : Type} {xs : List α} {j : Nat} {v : α} (h : xs[j]? = some v) : pV xs (j : Int) = some v := by
 have hj : j < xs.length := (List.getElem?_eq_some_iff.mp h).1
 have e : GF xs.length (j : Int) = some j := by
  unfold GF
  rw [if_pos (by omega), if_pos (by omega)]; simp
 unfold pV; rw [e]; exact h
def LW (b : Expr) : Prop := ∀ o i, subscripted b false o i = operate [o, i] (getItem o i)
def UQ (X : Cx) (r : R2) : Prop :=
 ∀ (value slice : Expr) (pins : List (Addr × Obj)) (s : Shared) (σ : St) (H : Hp) (x y : V) (v u : Value) (Q : VK), Inv X pins σ H s → RelV x v → RelV y u → r x y H Q →
  subscripted slice false v u = operate [v, u] (getItem v u) → wpAny (model X.prog X.w) X.A (subscriptTail value slice v u) (EP X pins σ Q) X.xe s
def Ou (X : Cx) (id : String) (r : V → List V → Hp → VK → Prop) : Prop :=
 ∀ (pins : List (Addr × Obj)) (s : Shared) (σ : St) (H : Hp) (x : V) (xs : List V) (v : Value) (us : List Value) (Q : VK), Inv X pins σ H s → RelV x v → Vals xs us → r x xs H Q →
  wpAny (model X.prog X.w) X.A (call (.builtin id) (v :: us)) (EP X pins σ Q) X.xe s
section
variable {X : Cx} {a b : Expr} {ta tb : TE} {pos : Pos}
theorem ay {r : R2} (hr : UQ X r) (ha : PE X a ta) (hb : PE X b tb) (hs : LW b) : PE X (.Subscript a b pos) (UN r ta tb) := by
 intro pins s σ H Q I h
 exact Subscript_ (Oe ha hb I h fun v u s2 x y H2 I2 rx ry q => hr a b pins s2 σ H2 x y v u Q I2 rx ry q (hs _ _))
def Bp (K : PySem.W.Frag) : R2 := fun x y H Q => ∃ p xs i v, x = .ref p ∧ y = .int i ∧ ax K H p xs ∧ pV xs i = some v ∧ Q v H
def rL (K : PySem.W.Frag) : R2 := fun x y H Q => ∃ p xs i v, x = .ref p ∧ y = .int i ∧ cM K H p xs ∧ pV xs i = some v ∧ Q v H
def VT : R2 := fun x y H Q => ∃ z i c, x = .str z ∧ y = .int i ∧ z.length ≤ sizeLine ∧ pV z.cps.toList i = some c ∧ Q (.str ⟨#[c]⟩) H
theorem az : UQ X (Bp X.K) := by
 intro value slice pins s σ H x y v u Q I rx ry h hs
 obtain ⟨p, xs, i, z, rfl, rfl, hq, he, q⟩ := h
 cases rx
 obtain ⟨t, rfl⟩ := ry
 obtain ⟨its, r, pl, hz⟩ := I.list hq
 obtain ⟨j, h1, h2, h3, h4, h5⟩ := ym he
 obtain ⟨w, ew, Du⟩ := r.get h2
 have hl := r.length
 have hn := pT
 have fin : EP X pins σ Q w s := ⟨z, H, I, Du, q⟩
 by_cases h0 : 0 ≤ i
 ·have hj : i.toNat = j := by
   rw [seqIndex_of h0 h5] at h1
   exact Option.some.inj h1
  exact item_listR pl.isList h0 (by omega) (by rw [hj]; simpa using ew) fin hs
 ·have hj : (i + (its.toArray.size : Int)).toNat = j := by
   rw [seqIndex_neg (by omega) h4] at h1
   rw [List.size_toArray, ← hl]
   exact Option.some.inj h1
  exact subscriptTail_builtinR (x := w) pl.isList.typeIs slot_list_getitem.lookup
   (wpAny_getItem_list_neg (Q := fun r s' => r = w ∧ EP X pins σ Q r s') pl.isList (by omega) (by rw [List.size_toArray] <;> omega) (by omega) (by rw [hj]; simpa using ew) ⟨rfl, fin⟩) hs
theorem a6 : UQ X (rL X.K) := by
 intro value slice pins s σ H x y v u Q I rx ry h hs
 obtain ⟨p, xs, i, z, rfl, rfl, hq, he, q⟩ := h
 cases rx
 obtain ⟨t, rfl⟩ := ry
 obtain ⟨its, r, pl, hz⟩ := I.tuple hq
 obtain ⟨j, h1, h2, h3, h4, h5⟩ := ym he
 obtain ⟨w, ew, Du⟩ := r.get h2
 have hl := r.length
 have hn := pT
 have fin : EP X pins σ Q w s := ⟨z, H, I, Du, q⟩
 exact subscriptTail_builtinR (x := w) pl.typeIs slot_tuple_getitem.lookup
  (getItem_tuple (j := j) (Q := fun r s' => r = w ∧ EP X pins σ Q r s') pl (by omega) (by omega) (by rw [List.size_toArray, ← hl]; exact h1) (by simpa using ew) ⟨rfl, fin⟩) hs
theorem pW : UQ X VT := by
 intro value slice pins s σ H x y v u Q I rx ry h hs
 obtain ⟨z, i, c, rfl, rfl, hz, he, q⟩ := h
 obtain ⟨t, rfl⟩ := rx
 obtain ⟨t', rfl⟩ := ry
 obtain ⟨j, h1, h2, h3, h4, h5⟩ := ym he
 have hl : z.cps.toList.length = z.length := by simp [Str.length]
 rw [hl] at h1 h4 h5
 have hn := pT
 exact tail_any (typeIs_str s z t) slot_str_getitem.lookup (getItem_str (c := c) (by
  have e1 : decide (i < -(2 ^ 63 : Int)) = false := decide_eq_false (by omega)
  have e2 : decide (i ≥ 2 ^ 63) = false := decide_eq_false (by omega)
  rw [e1, e2, Bool.or_false]) (by rw [h1]; simpa using h2) ⟨.str ⟨#[c]⟩, H, I.tok _, ⟨_, rfl⟩, q⟩) hs
theorem Dv (its : List Value) (n j : Nat) (u : Value) : Obj.mapSeq (·.setIfInBounds j u) { cls := .type "list", data := .seq its.toArray n } = { cls := .type "list", data := .seq (its.set j u).toArray n } := by
 simp [Obj.mapSeq]
theorem Inv.lst {pins : List (Addr × Obj)} {σ : St} {H : Hp} {s : Shared} {p : Addr} {xs : List V} (I : Inv X pins σ H s) (h : H p = some (.lst xs)) :
  ∃ (its : List Value) (n : Nat), Vals xs its ∧ s.heap.get? p = some { cls := .type "list", data := .seq its.toArray n } ∧ xs.length ≤ sizeLine := by
 obtain ⟨z, its, n, r, e⟩ := I.bB p _ h
 exact ⟨its, n, r, e, z⟩
theorem Inv.Ov {pins : List (Addr × Obj)} {σ : St} {H : Hp} {s : Shared} {p : Addr} {xs ys : List V} {its its' : List Value} {n n' : Nat} {f : Obj → Obj} (I : Inv X pins σ H s) (h : H p = some (.lst xs))
  (ho : s.heap.get? p = some { cls := .type "list", data := .seq its.toArray n }) (hf : f { cls := .type "list", data := .seq its.toArray n } = { cls := .type "list", data := .seq its'.toArray n' }) (r : Vals ys its') (hz : ys.length ≤ sizeLine) (t : Nat) :
  Inv X pins σ (upd H p (.lst ys)) { s with heap := s.heap.update p f, toks := t } := by
 have e : (s.heap.update p f).get? p = some { cls := .type "list", data := .seq its'.toArray n' } := by
  rw [Heap.get?_update_self f ho (by rw [hf] <;> rfl), hf]
 refine I.write (x := p) (e := p) (by rw [h]; trivial) (.inl rfl) (fun b u hb q => (Heap.get?_update_other _ _ (Ne.symm hb)).trans q) ⟨_, e⟩ ?_
 exact ⟨hz, its', n', r, e⟩
def Q7 : V → V → V → Hp → (Hp → Prop) → Prop := fun o i v H Q => ∃ p xs k j, o = .ref p ∧ i = .int k ∧ H p = some (.lst xs) ∧ GF xs.length k = some j ∧ Q (upd H p (.lst (xs.set j v)))
theorem set_list : QM X Q7 := by
 intro pins s σ H o i v ov iv u Q I ro ri rv h
 obtain ⟨p, xs, k, j, rfl, rfl, hp, hj, q⟩ := h
 cases ro
 obtain ⟨t, rfl⟩ := ri
 obtain ⟨its, n, r, ho, hz⟩ := I.lst hp
 obtain ⟨h1, h2, h3, h4⟩ := Fq hj
 have hl := r.length
 have hn := pT
 have I' : Inv X pins σ (upd H p (.lst (xs.set j v))) { s with heap := s.heap.update p (Obj.mapSeq (·.setIfInBounds j u)) } :=
  I.Ov hp ho (Dv its n j u) (r.set rv j) (by rw [List.length_set]; exact hz) s.toks
 by_cases h0 : 0 ≤ k
 ·have hk : k.toNat = j := by
   rw [seqIndex_of h0 h4] at h1
   exact Option.some.inj h1
  exact PySem.W.ki_setAt ho h0 (by omega) (by rw [List.size_toArray, ← hl]; exact h4) (by rw [hk]; exact ⟨_, I', q⟩)
 ·have hk : (k + (its.toArray.size : Int)).toNat = j := by
   rw [seqIndex_neg (by omega) h3] at h1
   rw [List.size_toArray, ← hl]
   exact Option.some.inj h1
  exact PySem.W.ki_setBack ho (by omega) (by rw [List.size_toArray, ← hl]; exact h3) (by omega) (by rw [hk]; exact ⟨_, I', q⟩)
theorem yn (lo hi : Option Int) (n : Nat) : (sliceBounds lo hi none n).1 = ((HT.dj n 0 lo : Nat) : Int) ∧ (sliceBounds lo hi none n).2.1 = ((HT.dj n n hi : Nat) : Int) ∧ (sliceBounds lo hi none n).2.2 = 1 := by
 refine ⟨?_, ?_, rfl⟩
 ·cases lo with
  | none => simp [sliceBounds, HT.dj]
  | some i =>
   simp only [sliceBounds, HT.dj, Option.getD_none, show (1 : Int) > 0 by decide, if_true]
   by_cases h : i < 0
   ·simp only [h, if_true] <;> omega
   ·simp only [h, if_false] <;> omega
 ·cases hi with
  | none => simp [sliceBounds, HT.dj]
  | some i =>
   simp only [sliceBounds, HT.dj, Option.getD_none, show (1 : Int) > 0 by decide, if_true]
   by_cases h : i < 0
   ·simp only [h, if_true] <;> omega
   ·simp only [h, if_false] <;> omega
theorem vK (its : List Value) (lo hi : Option Int) : slicePick its.toArray lo hi none = ((its.drop (HT.dj its.length 0 lo)).take (HT.dj its.length its.length hi - HT.dj its.length 0 lo)).toArray := by
 obtain ⟨h1, h2, h3⟩ := yn lo hi its.toArray.size
 unfold slicePick
 rw [h1, h2, h3]
 simp only [sliceRange_one, pick_run, List.size_toArray] <;> rfl
def VU (K : PySem.W.Frag) : V → Option Int → Option Int → Hp → VK → Prop := fun x lo hi H Q => ∃ a xs, x = .ref a ∧ ax K H a xs ∧ ∀ p, H p = none → Q (.ref p) (upd H p (.lst (hV xs lo hi)))
theorem jr : Q6 X (VU X.K) := by
 intro pins s σ H x v vl vu lo hi sl Q I rx hs pl pu h
 obtain ⟨a, xs, rfl, hx, q⟩ := h
 cases rx
 obtain ⟨its, r, ht, hz⟩ := I.list hx
 have hlen := r.length
 refine ⟨"list", _, slot_list_getitem.lookup, ht.isList.typeIs, ?_⟩
 refine wpAny_getItem_list_slice ht.isList hs pl pu .none (by simp) ?_ (by rw [List.size_toArray] <;> omega)
 rw [vK, ← hlen]
 refine ⟨.ref s.heap.objs.size, _, I.laid (t' := s.toks) (o := .lst (hV xs lo hi)) (fun b ob q => Heap.get?_push_of_some _ q) (Nat.le_refl _) ?_, rfl, q _ (I.bB.fresh (Nat.le_refl _))⟩
 exact ⟨Nat.le_trans (kU xs lo hi) hz, _, 0, (r.drop (HT.dj xs.length 0 lo)).take (HT.dj xs.length xs.length hi - HT.dj xs.length 0 lo), Heap.get?_push_size _ rfl⟩
def eU : V → Bool
 | .cL => true
 | .bl _ => true
 | .int _ => true
 | .str _ => true
 | _ => false
def vE : V → V → Bool
 | .cL, .cL => true
 | .bl a, .bl b => a == b
 | .bl a, .int b => (if a then 1 else 0) == b
 | .int a, .bl b => a == (if b then 1 else 0)
 | .int a, .int b => a == b
 | .str a, .str b => a == b
 | _, _ => false
theorem Ow {A : Around} {s : Shared} {y x : V} {u v : Value} (ry : RelV y u) (rx : RelV x v) (fy : eU y = true) (fx : eU x = true) : SeqAt.EqAt A s u v (vE y x) := by
 cases y with
 | cL =>
  cases ry
  cases x with
  | cL => cases rx; exact SeqAt.EqAt.same _
  | bl b => cases rx; exact SeqAt.EqAt.none_bool b
  | int b => obtain ⟨t, rfl⟩ := rx; exact SeqAt.EqAt.none_int b t
  | str b => obtain ⟨t, rfl⟩ := rx; exact SeqAt.EqAt.none_str b t
  | _ => exact absurd (show false = true from fx) Bool.false_ne_true
 | bl a =>
  cases ry
  cases x with
  | cL => cases rx; exact SeqAt.EqAt.bool_none a
  | bl b => cases rx; exact SeqAt.EqAt.bool_bool a b
  | int b => obtain ⟨t, rfl⟩ := rx; exact SeqAt.EqAt.bool_int a b t
  | str b => obtain ⟨t, rfl⟩ := rx; exact SeqAt.EqAt.bool_str a b t
  | _ => exact absurd (show false = true from fx) Bool.false_ne_true
 | int a =>
  obtain ⟨t', rfl⟩ := ry
  cases x with
  | cL => cases rx; exact SeqAt.EqAt.int_none a t'
  | bl b => cases rx; exact SeqAt.EqAt.int_bool a t' b
  | int b => obtain ⟨t, rfl⟩ := rx; exact SeqAt.EqAt.int_int a t' b t
  | str b => obtain ⟨t, rfl⟩ := rx; exact SeqAt.EqAt.int_str a t' b t
  | _ => exact absurd (show false = true from fx) Bool.false_ne_true
 | str a =>
  obtain ⟨t', rfl⟩ := ry
  cases x with
  | cL => cases rx; exact SeqAt.EqAt.str_none a t'
  | bl b => cases rx; exact SeqAt.EqAt.str_bool a t' b
  | int b => obtain ⟨t, rfl⟩ := rx; exact SeqAt.EqAt.str_int a t' b t
  | str b => obtain ⟨t, rfl⟩ := rx; exact SeqAt.EqAt.str_str a t' b t
  | _ => exact absurd (show false = true from fx) Bool.false_ne_true
 | _ => exact absurd (show false = true from fy) Bool.false_ne_true
def yo (x : V) (u : Value) : Bool := match u with
 | .none => vE .cL x
 | .bool b => vE (.bl b) x
 | .int i _ => vE (.int i) x
 | .str z _ => vE (.str z) x
 | _ => false
theorem sZ {x y : V} {u : Value} (r : RelV y u) (f : eU y = true) : yo x u = vE y x := by
 cases y with
 | cL => cases r; rfl
 | bl b => cases r; rfl
 | int i => obtain ⟨t, rfl⟩ := r; rfl
 | str z => obtain ⟨t, rfl⟩ := r; rfl
 | _ => exact absurd (show false = true from f) Bool.false_ne_true
theorem oH {x : V} : ∀ {xs : List V} {us : List Value}, Vals xs us → xs.all eU = true → us.any (yo x) = xs.any fun y => vE y x
 | _, _, .nil, _ => rfl
 | y :: xs, u :: us, .cons r t, f => by
  rw [List.all_cons, Bool.and_eq_true] at f
  rw [List.any_cons, List.any_cons, sZ r f.1, oH t f.2]
theorem gq {A : Around} {s : Shared} {x : V} {v : Value} (rx : RelV x v) (fx : eU x = true) : ∀ {xs : List V} {us : List Value}, Vals xs us → xs.all eU = true → ∀ u ∈ us, SeqAt.EqAt A s u v (yo x u)
 | _, _, .nil, _ => fun u hu => by cases hu
 | y :: xs, u :: us, .cons r t, f => fun u' hu => by
  rw [List.all_cons, Bool.and_eq_true] at f
  rcases List.mem_cons.mp hu with rfl | hu
  ·rw [sZ r f.1]; exact Ow r rx f.1 fx
  ·exact gq rx fx t f.2 u' hu
def GG (x : V) (xs : List V) : Bool := xs.any fun y => vE y x
def VW (K : PySem.W.Frag) (neg : Bool) : R2 := fun x y H Q => ∃ p xs, y = .ref p ∧ (ax K H p xs ∨ cM K H p xs) ∧ eU x = true ∧ xs.all eU = true ∧ Q (.bl (if neg then !GG x xs else GG x xs)) H
theorem pX : oA X (compareOp .In) (VW X.K false) := by
 intro pins s σ H x y v u Q I rx ry h
 obtain ⟨p, xs, rfl, hq, fx, fs, q⟩ := h
 cases ry
 rcases hq with hq | hq
 ·obtain ⟨its, r, pl, hz⟩ := I.list hq
  refine SeqAt.in_listAt (yo x) pl.isList (fun w hw => gq rx fx r fs w (by simpa using hw)) ⟨.bl _, H, I, rfl, ?_⟩
  rw [show its.toArray.any (yo x) = its.any (yo x) by simp, oH r fs]
  exact q
 ·obtain ⟨its, r, pl, hz⟩ := I.tuple hq
  refine SeqAt.in_tupleAt (yo x) pl (fun w hw => gq rx fx r fs w (by simpa using hw)) ⟨.bl _, H, I, rfl, ?_⟩
  rw [show its.toArray.any (yo x) = its.any (yo x) by simp, oH r fs]
  exact q
theorem da : oA X (compareOp .NotIn) (VW X.K true) := by
 intro pins s σ H x y v u Q I rx ry h
 obtain ⟨p, xs, rfl, hq, fx, fs, q⟩ := h
 cases ry
 rcases hq with hq | hq
 ·obtain ⟨its, r, pl, hz⟩ := I.list hq
  refine SeqAt.notIn_listAt (yo x) pl.isList (fun w hw => gq rx fx r fs w (by simpa using hw)) ⟨.bl _, H, I, rfl, ?_⟩
  rw [show its.toArray.any (yo x) = its.any (yo x) by simp, oH r fs]
  exact q
 ·obtain ⟨its, r, pl, hz⟩ := I.tuple hq
  refine SeqAt.notIn_tupleAt (yo x) pl (fun w hw => gq rx fx r fs w (by simpa using hw)) ⟨.bl _, H, I, rfl, ?_⟩
  rw [show its.toArray.any (yo x) = its.any (yo x) by simp, oH r fs]
  exact q
theorem ar : ib X (.builtin "len") (fun xs H Q => ∃ p ys, xs = [.ref p] ∧ (ax X.K H p ys ∨ cM X.K H p ys) ∧ Q (.int ys.length) H) := by
 intro pins s σ H xs us Q I r h
 obtain ⟨p, ys, rfl, hq, q⟩ := h
 obtain ⟨u, rfl, rx⟩ := vals1 r
 cases rx
 have hn := pT
 rcases hq with hq | hq
 ·obtain ⟨its, r', pl, hz⟩ := I.list hq
  have hlen := r'.length
  exact Calls.call_len_list pl.isList (by simp only [List.size_toArray] <;> omega) ⟨.int ys.length, H, I.tok _, ⟨s.toks + 1, by rw [List.size_toArray, hlen]⟩, q⟩
 ·obtain ⟨its, r', pl, hz⟩ := I.tuple hq
  have hlen := r'.length
  exact len_tuple pl (by simp only [List.size_toArray] <;> omega) ⟨.int ys.length, H, I.tok _, ⟨s.toks + 1, by rw [List.size_toArray, hlen]⟩, q⟩
theorem jt : ib X (.builtin "len") (fun xs H Q => ∃ z, xs = [.str z] ∧ z.length ≤ sizeLine ∧ Q (.int z.length) H) := by
 intro pins s σ H xs us Q I r h
 obtain ⟨z, rfl, hz, q⟩ := h
 obtain ⟨u, rfl, t, rfl⟩ := vals1 r
 have hn := pT
 exact len_str (by omega) ⟨.int z.length, H, I.tok _, ⟨_, rfl⟩, q⟩
theorem oI : ib X (.type "list") (fun xs H Q => ∃ p ys, xs = [.ref p] ∧ (ax X.K H p ys ∨ cM X.K H p ys) ∧ ∀ l, H l = none → Q (.ref l) (upd H l (.lst ys))) := by
 intro pins s σ H xs us Q I r h
 obtain ⟨p, ys, rfl, hq, q⟩ := h
 obtain ⟨u, rfl, rx⟩ := vals1 r
 cases rx
 have fin : ∀ (its : List Value), Vals ys its → ys.length ≤ sizeLine → ∀ (h' : Heap) (c' : Nat), (∀ b o', s.heap.get? b = some o' → h'.get? b = some o') →
   h'.get? s.heap.objs.size = some { cls := .type "list", dict := none, data := .seq its.toArray c', slots := #[] } → EP X pins σ Q (.ref s.heap.objs.size) { s with heap := h' } := fun its r' hz h' c' kp e =>
  ⟨.ref s.heap.objs.size, _, I.laid (t' := s.toks) kp (Nat.le_refl _) (show cQ X.prog X.w _ h' _ (.lst ys) from ⟨hz, its, c', r', e⟩), rfl, q _ (I.bB.fresh (Nat.le_refl _))⟩
 rcases hq with hq | hq
 ·obtain ⟨its, r', pl, hz⟩ := I.list hq
  have hlen := r'.length
  obtain ⟨o, ho, hc, n, hd⟩ := pl.isList
  exact call_list_seq p (.inl rfl) ho hc hd (fun h' c' kp e => fin its r' hz h' c' kp e) (by simp only [List.size_toArray] <;> omega)
 ·obtain ⟨its, r', pl, hz⟩ := I.tuple hq
  have hlen := r'.length
  obtain ⟨o, ho, hc, n, hd⟩ := pl
  exact call_list_seq p (.inr rfl) ho hc hd (fun h' c' kp e => fin its r' hz h' c' kp e) (by simp only [List.size_toArray] <;> omega)
theorem vL : ib X (.type "tuple") (fun xs H Q => ∃ p ys, xs = [.ref p] ∧ ((ax X.K H p ys ∧ ∀ l, H l = none → Q (.ref l) (upd H l (.tup ys))) ∨ (cM X.K H p ys ∧ Q (.ref p) H))) := by
 intro pins s σ H xs us Q I r h
 obtain ⟨p, ys, rfl, h⟩ := h
 obtain ⟨u, rfl, rx⟩ := vals1 r
 cases rx
 rcases h with ⟨hq, q⟩ | ⟨hq, q⟩
 ·obtain ⟨its, r', pl, hz⟩ := I.list hq
  have hlen := r'.length
  refine call_tuple_list pl.isList (fun h' kp => ?_) (by simp only [List.size_toArray] <;> omega)
  have I1 : Inv X pins σ H { s with heap := h' } := I.kept (t' := s.toks) kp
  have I2 : Inv X pins σ (upd H h'.objs.size (.tup ys)) { s with heap := h'.push { cls := .type "tuple", data := .seq its.toArray } } :=
   I1.laid (t' := s.toks) (fun b o e => Heap.get?_push_of_some _ e) (Nat.le_refl _) (show cQ X.prog X.w _ _ _ (.tup ys) from ⟨hz, its, r', IsTup.new _ _⟩)
  exact ⟨.ref h'.objs.size, _, I2, rfl, q _ (I1.bB.fresh (Nat.le_refl _))⟩
 ·obtain ⟨its, r', pl, hz⟩ := I.tuple hq
  exact call_tuple_same pl ⟨.ref p, H, I, rfl, q⟩
def Ys (K : PySem.W.Frag) (T : String) (x : V) (H : Hp) : Prop := match x with
 | .str _ => T = "str"
 | .int _ => T = "int"
 | .ref p => (T = "list" ∧ ∃ xs, ax K H p xs) ∨ (T = "tuple" ∧ ∃ o, K.lookup p = some o ∧ o.cls = .type "tuple" ∧ o.dict = none) ∨
   (T = "dict" ∧ ((∃ kvs, H p = some (.dK kvs)) ∨ ∃ kvs, H p = some (.dT kvs))) ∨ (T = "set" ∧ ∃ S n, H p = some (.set S n))
 | _ => False
theorem Ox {pins : List (Addr × Obj)} {σ : St} {H : Hp} {s : Shared} {T : String} {x : V} {v : Value} (I : Inv X pins σ H s) (r : RelV x v) (ty : Ys X.K T x H) :
  s.TypeIs v T ∧ ∀ a, v = .ref a → ∃ ob, s.heap.get? a = some ob ∧ ob.dict = none := by
 cases x with
 | str z =>
  obtain ⟨t, rfl⟩ := r
  cases (show T = "str" from ty)
  exact ⟨typeIs_str s z t, fun _ e => nomatch e⟩
 | int i =>
  obtain ⟨t, rfl⟩ := r
  cases (show T = "int" from ty)
  exact ⟨typeIs_int s i t, fun _ e => nomatch e⟩
 | ref p =>
  cases r
  rcases ty with ⟨rfl, xs, hq⟩ | ⟨rfl, o, hk, hc, hd⟩ | ⟨rfl, hk⟩ | ⟨rfl, S, n, hk⟩
  ·obtain ⟨its, _, pl, _⟩ := I.list hq
   refine ⟨pl.isList.typeIs, fun a e => ?_⟩
   cases e
   obtain ⟨o, n, e, c, hd, _⟩ := pl
   exact ⟨o, e, hd⟩
  ·refine ⟨⟨o, I.De p o hk, hc⟩, fun a e => ?_⟩
   cases e
   exact ⟨o, I.De _ o hk, hd⟩
  ·have z : ∃ o, s.heap.get? p = some o ∧ o.ExactDict := by
    rcases hk with ⟨kvs, hk⟩ | ⟨kvs, hk⟩
    ·obtain ⟨_, _, _, _, o, _, _, e, ex, _⟩ := I.bB p _ hk
     exact ⟨o, e, ex⟩
    ·obtain ⟨_, _, _, _, o, _, _, e, ex, _⟩ := I.bB p _ hk
     exact ⟨o, e, ex⟩
   obtain ⟨o, e, ex⟩ := z
   refine ⟨⟨o, e, ex.1⟩, fun a e2 => ?_⟩
   cases e2
   exact ⟨o, e, ex.2.1⟩
  ·obtain ⟨o, _, _, _, e, ex, _⟩ := I.bB p _ hk
   refine ⟨⟨o, e, ex.1⟩, fun a e2 => ?_⟩
   cases e2
   exact ⟨o, e, ex.2.1⟩
 | _ => exact False.elim ty
def VX (K : PySem.W.Frag) (T : String) (r : V → List V → Hp → VK → Prop) (to : TE) (t : TA) : TE := fun σ H Q => to σ H fun x H1 => Ys K T x H1 ∧ t σ H1 fun xs H2 => r x xs H2 Q
variable {o e : Expr} {es : List Expr} {to : TE} {t : TA} {name : Str} {apos cpos : Pos} {T id : String} {r : V → List V → Hp → VK → Prop}
theorem cq (pa : PlainAttrs T) (slot : Slot T name id) (Nq : typeOf (.builtin id) = pure (.type "method_descriptor")) (hm : Ou X id r) (ho : PE X o to) (ha : PA X (e :: es) t)
  (Q8 : attributeBase o name X.env (eval o X.env) = eval o X.env := by rfl)
  (hfew : ((backTo cpos (starEach (e :: es) X.env)).all (fun x => !x.1) && (backToKw cpos (keywordEach [] X.env)).all (fun x => x.1.isSome)
   && decide ((e :: es).length + ([] : List Keyword).length + (if ([] : List Keyword).isEmpty then 0 else 1) < 30)) = true := by rfl)
  (Q9 : (apos.endLine == cpos.line) = true := by rfl) (hs : starEach (e :: es) X.env = (false, eval e X.env) :: starEach es X.env := by rfl) (Oy : (backTo cpos (starEach es X.env)).any (·.1) = false := by rfl) :
  PE X (.Call (.Attribute o name apos) (e :: es) [] cpos) (VX X.K T r to t) := by
 intro pins s σ H Q I h
 refine wpAny_Call_method_late Q8 hfew Q9 rfl (thn (ho pins s σ H _ I h) fun v s1 ⟨x, H1, I1, r1, ty, q1⟩ => ?_)
 obtain ⟨h1, h2⟩ := Ox I1 r1 ty
 refine ⟨T, id, pa, slot, Nq, h1, h2, ?_⟩
 have hA := ha cpos pins s1 σ H1 _ I1 q1
 rw [hs] at hA ⊢
 refine Calls.callWith_builtin (by show (false || (backTo cpos (starEach es X.env)).any (·.1)) = false; rw [Oy] <;> rfl) (Calls.evalArgs_plain ?_)
 exact thn hA fun us s2 ⟨vs, H2, I2, r2, q2⟩ => hm pins s2 σ H2 x vs v us Q I2 r1 r2 q2
end
end L2
namespace L2
open PySem PySem.Spec PyProof.Rows
def Yt (X : Cx) (id : String) (r : V → List V → Hp → VK → Prop) : Prop :=
 ∀ (pins : List (Addr × Obj)) (s : Shared) (σ : St) (H : Hp) (x : V) (xs : List V) (v : Value) (us : List Value) (Q : VK), Inv X pins σ H s → RelV x v → Vals xs us → r x xs H Q →
  wpAny (model X.prog X.w) X.A (call (.builtin id) (v :: us)) (EP X pins σ Q) X.xe s
theorem Vals.one : ∀ {x : V} {us : List Value}, Vals [x] us → ∃ u, us = [u] ∧ RelV x u
 | _, _, .cons r .nil => ⟨_, rfl, r⟩
theorem Vals.dropLast {xs : List V} {us : List Value} (h : Vals xs us) : Vals xs.dropLast us.dropLast := by
 induction h with
 | nil => exact .nil
 | cons r t ih =>
  cases t with
  | nil => exact .nil
  | cons q t' => exact .cons r ih
theorem Vals.reverse {xs : List V} {us : List Value} (h : Vals xs us) : Vals xs.reverse us.reverse := by
 induction h with
 | nil => exact .nil
 | cons r t ih => rw [List.reverse_cons, List.reverse_cons]; exact Vals.append ih (.cons r .nil)
theorem Vals.rep {xs : List V} {us : List Value} (h : Vals xs us) : ∀ k : Nat, Vals (List.replicate k xs).flatten (List.replicate k us).flatten
 | 0 => .nil
 | k + 1 => by
  rw [List.replicate_succ, List.replicate_succ, List.flatten_cons, List.flatten_cons]
  exact Vals.append h (Vals.rep h k)
theorem foldl_rep (its : List Value) : ∀ (k : Nat) (acc : List Value),
  List.foldl (fun x1 x2 => x1 ++ x2) acc.toArray (List.replicate k its.toArray) = (acc ++ (List.replicate k its).flatten).toArray
 | 0, acc => by simp
 | k + 1, acc => by
  have e : acc.toArray ++ its.toArray = (acc ++ its).toArray := by simp
  have e2 : (acc ++ its) ++ (List.replicate k its).flatten = acc ++ (List.replicate (k + 1) its).flatten := by
   rw [List.replicate_succ, List.flatten_cons, List.append_assoc]
  rw [← e2, ← foldl_rep its k (acc ++ its), ← e, List.replicate_succ, List.foldl_cons]
section
variable {X : Cx} {pins : List (Addr × Obj)} {σ : St} {H : Hp} {s : Shared} {l b : Addr} {xs ys zs : List V}
theorem Inv.Oz {its its' : List Value} {n : Nat} {f : Array Value → Array Value} {t' : Nat} (I : Inv X pins σ H s) (hH : H l = some (.lst xs))
  (e : s.heap.get? l = some { cls := .type "list", data := .seq its.toArray n }) (hf : f its.toArray = its'.toArray) (hv : Vals ys its') (hz : ys.length ≤ sizeLine) :
  Inv X pins σ (upd H l (.lst ys)) { s with heap := s.heap.update l (Obj.mapSeq f), toks := t' } := by
 have q := PySem.IsL.update e f
 rw [hf] at q
 refine I.write (x := l) (e := l) (by rw [hH]; exact trivial) (.inl rfl) (fun b' u hb hu => (Heap.get?_update_other s.heap (Obj.mapSeq f) (Ne.symm hb)).trans hu) ⟨_, q⟩ ?_
 exact ⟨hz, its', _, hv, q⟩
theorem Inv.Ra {its : List Value} {t' : Nat} (I : Inv X pins σ H s) (hv : Vals ys its) (hz : ys.length ≤ sizeLine) :
  Inv X pins σ (upd H s.heap.objs.size (.lst ys)) { s with heap := s.heap.push { cls := .type "list", data := .seq its.toArray }, toks := t' } :=
 I.laid (fun _ _ q => Heap.get?_push_of_some _ q) (Nat.le_refl _) ⟨hz, its, 0, hv, Heap.get?_push_size _ rfl⟩
theorem Inv.fresh (I : Inv X pins σ H s) : H s.heap.objs.size = none := I.bB.fresh (Nat.le_refl _)
theorem Inv.Dw (I : Inv X pins σ H s) (hH : H l = some (.lst xs)) : xs.length ≤ sizeLine ∧ ∃ (its : List Value) (n : Nat), Vals xs its ∧ xs.length = its.length ∧ s.heap.get? l = some { cls := .type "list", data := .seq its.toArray n } := by
 obtain ⟨z, its, n, r, e⟩ := I.bB l _ hH
 exact ⟨z, its, n, r, r.length, e⟩
theorem tf {n : Nat} (h : n ≤ sizeLine) : Builtin.List.listTooLong n = false := by
 unfold Builtin.List.listTooLong
 exact decide_eq_false (by omega)
end
section
variable {X : Cx}
def LX : V → List V → Hp → VK → Prop := fun x vs H Q => ∃ l xs y, x = .ref l ∧ vs = [y] ∧ H l = some (.lst xs) ∧ xs.length < sizeLine ∧ Q .cL (upd H l (.lst (xs ++ [y])))
theorem a9 : Yt X "list.append" LX := by
 intro pins s σ H x vs v us Q I rx rv h
 obtain ⟨l, xs, y, rfl, rfl, hH, hz, q⟩ := h
 cases rx
 obtain ⟨u, rfl, ru⟩ := rv.one
 obtain ⟨z, its, n, r, hl, e⟩ := I.Dw hH
 refine call_meets F.slot_list_append ⟨_, e, rfl⟩ F.entry_list_append (F.args_list_append_2 _ _) (PySem.list_append l its.toArray n u (by rw [List.size_toArray]; omega)) ⟨e, ?_⟩
 refine ⟨.cL, _, I.Oz (its' := its ++ [u]) hH e (by simp) (r.append (.cons ru .nil)) ?_, rfl, q⟩
 rw [List.length_append, List.length_singleton]
 omega
def LY : V → List V → Hp → VK → Prop := fun x vs H Q => ∃ l b xs zs, x = .ref l ∧ vs = [.ref b] ∧ H l = some (.lst xs) ∧ H b = some (.lst zs) ∧ xs.length + zs.length ≤ sizeLine ∧ Q .cL (upd H l (.lst (xs ++ zs)))
theorem xo : Yt X "list.extend" LY := by
 intro pins s σ H x vs v us Q I rx rv h
 obtain ⟨l, b, xs, zs, rfl, rfl, hH, hB, hz, q⟩ := h
 cases rx
 obtain ⟨u, rfl, ru⟩ := rv.one
 cases ru
 obtain ⟨z, its, n, r, hl, e⟩ := I.Dw hH
 obtain ⟨z2, kK, n2, r2, rg, e2⟩ := I.Dw hB
 have hsz : its.toArray.size + kK.toArray.size ≤ sizeLine := by rw [List.size_toArray, List.size_toArray]; omega
 have Bq : ¬ (!its.toArray.isEmpty && Builtin.List.listTooLong (its.toArray.size + kK.toArray.size)) = true := by
  rw [tf hsz, Bool.and_false]
  exact Bool.false_ne_true
 refine call_meets F.slot_list_extend ⟨_, e, rfl⟩ F.entry_list_extend (F.args_list_extend_2 _ _)
  (AutoSeq1.list_extend_list_list_0 l its.toArray n b kK.toArray n2 Bq (by rw [List.size_toArray]; omega) (by omega)) ⟨e, e2, ?_⟩
 refine ⟨.cL, _, I.Oz (its' := its ++ kK) hH e (by simp) (r.append r2) ?_, rfl, q⟩
 rw [List.length_append]
 omega
def VY : R2 := fun x y H Q => ∃ l b xs zs, x = .ref l ∧ y = .ref b ∧ H l = some (.lst xs) ∧ H b = some (.lst zs) ∧ xs.length + zs.length ≤ sizeLine ∧ ∀ p, H p = none → Q (.ref p) (upd H p (.lst (xs ++ zs)))
theorem nD : oA X (binaryOp .Add) VY := by
 intro pins s σ H x y v u Q I rx ry h
 obtain ⟨l, b, xs, zs, rfl, rfl, hH, hB, hz, q⟩ := h
 cases rx
 cases ry
 obtain ⟨z, its, n, r, hl, e⟩ := I.Dw hH
 obtain ⟨z2, kK, n2, r2, rg, e2⟩ := I.Dw hB
 refine PySem.P.add_list e e2 ?_ (by rw [List.size_toArray, List.size_toArray]; omega)
 have ea : its.toArray ++ kK.toArray = (its ++ kK).toArray := by simp
 rw [ea]
 exact ⟨.ref _, _, I.Ra (t' := s.toks) (r.append r2) (by rw [List.length_append]; omega), rfl, q _ I.fresh⟩
def VZ : R2 := fun x y H Q => ∃ l k xs, x = .ref l ∧ y = .int k ∧ H l = some (.lst xs) ∧ -(2 ^ 63) ≤ k ∧ k < 2 ^ 63 ∧ xs.length * k.toNat ≤ sizeLine ∧
 ∀ p, H p = none → Q (.ref p) (upd H p (.lst (List.replicate k.toNat xs).flatten))
theorem len_rep {α : Type} (xs : List α) (k : Nat) : (List.replicate k xs).flatten.length = k * xs.length := by
 induction k with
 | zero => simp
 | succ k ih => rw [List.replicate_succ, List.flatten_cons, List.length_append, ih, Nat.succ_mul, Nat.add_comm]
theorem yp : oA X (binaryOp .Mult) VZ := by
 intro pins s σ H x y v u Q I rx ry h
 obtain ⟨l, k, xs, rfl, rfl, hH, h1, h2, hz, q⟩ := h
 cases rx
 obtain ⟨t, rfl⟩ := ry
 obtain ⟨z, its, n, r, hl, e⟩ := I.Dw hH
 have hlen : its.toArray.size * k.toNat ≤ sizeLine := by rw [List.size_toArray, ← hl]; exact hz
 have V0 : ¬ its.toArray.size * k.toNat > (2 ^ 63 - 1) / 8 := by
  have : (sizeLine : Nat) ≤ (2 ^ 63 - 1) / 8 := by decide
  omega
 have OA : ¬ (!Builtin.List.listFitsIndex k) = true := by
  rw [fitsIndex_both h1 h2]
  exact Bool.false_ne_true
 have Bq : ¬ Builtin.List.listTooLong (its.toArray.size * k.toNat) = true := by
  rw [tf hlen]
  exact Bool.false_ne_true
 have Dx : List.foldl (fun x1 x2 => x1 ++ x2) #[] (List.replicate (if its.toArray.isEmpty = true then 0 else k.toNat) its.toArray) = (List.replicate k.toNat its).flatten.toArray := by
  have f0 : ∀ m : Nat, List.foldl (fun x1 x2 => x1 ++ x2) #[] (List.replicate m its.toArray) = (List.replicate m its).flatten.toArray := fun m => by
   have := foldl_rep its m []
   rw [List.nil_append] at this
   exact this
  rw [f0]
  cases its with
  | nil => simp
  | cons a r' => rw [if_neg (by simp)]
 refine wpAny_binaryOp_repeat_ref (T := "list") (U := "int") (by decide) ⟨_, e, rfl⟩ (fun s' => typeIs_int s' k t) noFill_list_mul F.fills_int_mul F.slot_int_rmul repeat_list F.slot_int_index.lookup
  (call_meets F.slot_int_rmul (typeIs_int s k t) F.entry_int_rmul (F.args_int_rmul_2 _ _) (int___rmul___int_list k t l its.toArray n)
   ⟨e, rfl, ⟨_, e, rfl⟩, call_meets F.slot_list_mul ⟨_, e, rfl⟩ F.entry_list_mul (F.args_list_mul_2 _ _) (AutoListH.list___mul___list_int_3 l its.toArray n k t OA V0 Bq) ⟨e, ?_⟩⟩)
 rw [Dx]
 exact ⟨.ref _, _, I.Ra (t' := s.toks) (r.rep k.toNat) (by rw [len_rep, Nat.mul_comm]; exact hz), rfl, q _ I.fresh⟩
end
section
variable {prog : Program} {w : World} {A : Around} {E : Value → Shared → Prop} {s : Shared}
end
section
variable {X : Cx}
end
end L2
namespace Yu
open PySem PySem.W PySem.Calls PyProof.Rows
theorem rM {P : Params} {h : Heap} : ∀ (ns : List Int) (vs : List Value), WellAll P h vs (ns.map WData.int) → IntsAre vs ns := by
 intro ns
 induction ns with
 | nil =>
  intro vs w
  rw [List.map_nil] at w
  cases w
  exact .nil
 | cons n ns ih =>
  intro vs w
  rw [List.map_cons] at w
  cases w with
  | cons a b =>
   cases a
   exact .cons _ _ (ih _ b)
theorem GH {l : OpenLaw} {n : Nat} (hn : l.most = some n) {P : Params} {h : Heap} {args : List WData} {vals : List Value}
  (LZ : l.row.toRowW.claim.pre args = true) (Qc : WellAll P h vals args) :
  ∃ a vs ns, vals = [Value.ref a] ∧ args = [WData.list (ns.map WData.int)] ∧ h.get? a = some { cls := .type "list", data := .seq vs.toArray } ∧ IntsAre vs ns ∧ ns.length ≤ n := by
 have hsh : WShape.hasAll [] args [.list .int] = true := (pre_splitW LZ).1
 have hc : l.pre.holds [] { args := args } = true := (pre_splitW LZ).2
 obtain ⟨d, r, rfl, h1, h2⟩ := hasAllW_cons hsh
 obtain rfl := hasAllW_nil h2
 obtain ⟨xs, rfl, h3⟩ := hasW_list h1
 obtain ⟨ns, rfl⟩ := items_int h3
 have hlen : ns.length ≤ n := by
  unfold OpenLaw.pre at hc
  have h4 : (WTm.not (.lt (.lit (.int (n : Int))) (.len (.arg 0)))).holds [] { args := [.list (ns.map .int)] } = true := by
   have h4 := (holds_andW hc).1
   rw [hn] at h4
   exact h4
  have h5 := condW_of h4 (w_not (w_lt w_lit (w_len_list (w_arg rfl))))
  rw [Lm9] at h5
  refine Nat.le_of_not_lt fun q => ?_
  have q' : (n : Int) < ((ns.length : Nat) : Int) := by omega
  first
   | (rw [decide_eq_true q'] at h5; exact absurd h5 (by decide))
   | (simp at h5; omega)
 cases Qc with
 | cons w1 w2 =>
  cases w2
  cases w1 with
  | list ho V1 => exact ⟨_, _, ns, rfl, rfl, ho, rM ns _ V1, hlen⟩
theorem GI (l : OpenLaw) (args : List WData) : l.row.toRowW.claim.post args (.bool true) args = true :=
 postW_of (r := l.row.toRowW) (X := (true == true))
  (show WShape.has [] (.bool true) .bool = true by first | rfl | decide | simp [WShape.has, WShape.arms, WShape.armsAll])
  (show (WTm.eq .res (.lit (.bool true))).value [] { args := args, res := some (.bool true), after := args } = some (.bool (true == true)) from w_eq_bool (w_res rfl) w_lit) rfl
theorem Br {l : OpenLaw} {n : Nat} {q : Program} {loose : List Str} {XP : (Str → Option Value) → Heap → Prop} {YP : World → Heap → Prop} {d : DefRec}
  (hn : l.most = some n) (Rb : d.params.defaults = [])
  (call : ∀ (w : World) (s₀ s₁ : Shared) (mg mb : Str → Option Value) (fa : Addr) (o : Obj) (pm cd doc : Value) (a : Addr) (vs : List Value) (ns : List Int),
   Ground q loose [] XP w s₀ mg mb s₁.heap → YP w s₁.heap →
   s₁.heap.get? fa = some o → o.data = .func (docDef d.name d.params d.body d.scope pm cd doc) → s₁.heap.CodeRec cd d.name → mg d.name = some (.ref fa) →
   s₁.heap.get? a = some { cls := .type "list", data := .seq vs.toArray } → IntsAre vs ns → ns.length ≤ n → s₁.gens = #[] →
   codeAny (model l.prog w) callerA (.call (.ref fa) ⟨[.ref a], []⟩) (fun r s' => r = .ok (.ret (.bool true)) ∧ OldK s₁.heap s'.heap ∧ s'.os = s₁.os ∧ AllBare s'.gens) s₁) :
  WalkO q loose XP YP l.row.toRowW d [] (fun f vs => PySem.call f vs) := by
 intro w s₀ s₁ mg mb G Y fa o pm cd doc dV kV ho hd Im hD Rc hg args vals as LZ aao hrd Qc hlo
 obtain rfl : dV = .none := Dflts.none hD Rb
 obtain rfl : kV = .none := Dflts.noKw hD
 obtain ⟨a, vs, ns, rfl, rfl, OB, hints, hlen⟩ := GH hn LZ Qc
 refine enter_call (codeAny_mono (call w s₀ s₁ mg mb fa o pm cd doc a vs ns G Y ho (fd_plain hd) Im Rc OB hints hlen hg) fun r s' hq => ?_)
 obtain ⟨rfl, h2, h3, h4⟩ := hq
 exact ⟨.inl ⟨.bool true, .bool true, [], rfl, fun _ => rfl, .bool true, GI l _, fun _ => ⟨List.Pairwise.nil, fun _ hm => (nomatch hm)⟩⟩, h2, h3, h4⟩
section
variable {prog : Program} {w : World} {A : Around} {E : Value → Shared → Prop} {s : Shared} {K : Frag}
def ledger (h : Heap) (L d : Addr) : List (Addr × Obj) := (List.range h.objs.size).filterMap fun a => if a = L ∨ a = d then none else (h.get? a).map fun o => (a, o)
end
end Yu
namespace L2
open PySem PySem.Spec PyProof.Rows
theorem xq : ∀ {vs : List Value} {ns : List Int}, IntsAre vs ns → Vals (ns.map V.int) vs
 | _, _, .nil => .nil
 | _, _, .cons n t h => .cons ⟨t, rfl⟩ (xq h)
def OC (H : Hp) : Prop := ∀ b, H b = none ∨ ∃ o xs, H b = some (.vH o (.lst xs))
theorem IM {P : Program} {w : World} {K : PySem.W.Frag} {mg mb : Str → Option Value} {CX : IG} {k : Nat} {fa a : Addr} {fd : FuncData} {x : Str} {sp : Sp} {s₁ : Shared} {vs : List Value} {ns : List Int}
  (KX : K.In s₁.heap) (Qd : s₁.heap.Ns mainGlobals mg) (hb : s₁.heap.Ns builtinsNs mb) (hbb : ∀ x : Str, x ≠ "__name__" → mb x = bootBuiltins x) (V2 : s₁.heap.NoLimit) (hg : s₁.gens = #[])
  (ha : s₁.heap.get? a = some { cls := .type "list", data := .seq vs.toArray }) (hi : IntsAre vs ns) (hl : ns.length ≤ sizeLine) (hr : di k callerA)
  (F : ∀ base : Heap, K.In base → base.Ns mainGlobals mg → aW P w K mg base CX k fa fd [x] sp) (Rf : ∀ (s : Shared) (u : Value), BindsTo s fd ⟨[u], []⟩ [(x, u)])
  (Lv : ∀ H : Hp, OC H → ax K H a (ns.map V.int) → sp [.ref a] H (fun v _ => v = .bl true) fun _ _ _ => False)
  (V3 : ∀ H e s', CX [] H s₁ (fun _ _ _ => False) e s' → False) :
  codeAny (model P w) callerA (.call (.ref fa) ⟨[.ref a], []⟩) (fun r s' => r = .ok (.ret (.bool true)) ∧ OldK s₁.heap s'.heap ∧ s'.os = s₁.os ∧ AllBare s'.gens) s₁ := by
 have rv := xq hi
 have V4 := hi.length
 have core : ∀ H : Hp, OC H → ax K H a (ns.map V.int) → mY P w H s₁.heap → (∀ b, H b ≠ none → b = a) → (H a ≠ none → K.lookup a = none) →
   codeAny (model P w) callerA (.call (.ref fa) ⟨[.ref a], []⟩) (fun r s' => r = .ok (.ret (.bool true)) ∧ OldK s₁.heap s'.heap ∧ s'.os = s₁.os ∧ AllBare s'.gens) s₁ := by
  intro H hO hS bB hA hK
  have Fs : ∀ {b : Addr} {o : Obj}, s₁.heap.get? b = some o → H b = none → (yc s₁.heap H).get? b = some o := fun e n => Ii e n
  have QZ : ∀ {b : Addr} {o : Obj} {es : Array DictEntry} {ep : Nat}, s₁.heap.get? b = some o → o.data = .dict es ep → H b = none := fun {b o es ep} e d => by
   cases q : H b with
   | none => rfl
   | some u =>
    have e' : b = a := hA b (by rw [q]; simp)
    subst e'
    rw [ha] at e; cases e
    have d' : Data.seq vs.toArray _ = Data.dict es ep := d
    cases d'
  have UR : ∀ {b : Addr} {m : Str → Option Value}, s₁.heap.Ns b m → (yc s₁.heap H).Ns b m := fun {b m} ⟨o, es, ep, e, d, r⟩ => ⟨o, es, ep, Fs e (QZ e d), d, r⟩
  have Yv : K.In (yc s₁.heap H) := fun b o e => Fs (KX b o e) (by
   cases q : H b with
   | none => rfl
   | some u =>
    have e' : b = a := hA b (by rw [q]; simp)
    subst e'
    rw [hK (by rw [q]; simp)] at e; cases e)
  have hM : Mod K mg (yc s₁.heap H) := ⟨Yv, UR Qd, ⟨mb, UR hb, hbb⟩, let ⟨mc, h1, h2⟩ := V2; ⟨mc, UR h1, h2⟩⟩
  have e0 : Dp P w K mg (yc s₁.heap H) callerA [] s₁ H := ⟨rfl, hM, fun b o e => LF e, Nat.le_of_eq (Gr _ _), trivial, fun b hb => absurd (show b ∈ ([] : List Addr) from hb) (by simp), bB, .of_eq hg⟩
  refine codeAny_mono ((F _ Yv (UR Qd)).run callerA [] s₁ H ⟨[.ref a], []⟩ [.ref a] [.ref a] _ _ hr e0 (Rf s₁ (.ref a)) (.cons rfl .nil) (Lv H hO hS)) fun r s' h => ?_
  cases r with
  | error e => exact (V3 H e s' h).elim
  | ok fl =>
   cases fl with
   | next => exact False.elim h
   | brk => exact False.elim h
   | cont => exact False.elim h
   | ret u =>
    obtain ⟨v, H', os, bare, un, V5, r', q⟩ := h
    have q' : v = .bl true := q
    subst q'
    obtain rfl : u = Value.bool true := r'
    refine ⟨rfl, OldK.of_keep fun b o e => ?_, os, bare⟩
    cases q : H b with
    | none => exact un.keep b o e q (by intro z; exact absurd (show b ∈ ([] : List Addr) from z) (by simp)) (by simp)
    | some u =>
     rcases hO b with z | ⟨ob, xs, z⟩
     ·rw [q] at z; cases z
     ·have z2 := un.rJ b ob _ z
      obtain ⟨e1, _⟩ := bB b _ z
      obtain ⟨e2, _⟩ := V5 b _ z2
      rw [e] at e1; cases e1
      exact e2
 cases hk : K.lookup a with
 | some o =>
  have e := KX a o hk
  rw [ha] at e
  cases e
  refine core (fun _ => none) (fun _ => .inl rfl) (.inr ⟨_, vs.toArray, _, hk, rfl, rfl, rfl, by rw [List.size_toArray, V4]; exact hl, by simpa using rv⟩) (fun b u z => by have z' : (none : Option HO) = some u := z; cases z') (fun b z => absurd rfl z) fun z => absurd rfl z
 | none =>
  refine core (fun b => if b = a then some (.vH { cls := .type "list", data := .seq vs.toArray } (.lst (ns.map V.int))) else none) (fun b => ?_) (.inl (.inr ⟨{ cls := .type "list", data := .seq vs.toArray }, if_pos rfl⟩)) (fun b u z => ?_) (fun b z => ?_) fun _ => hk
  ·by_cases hb : b = a
   ·exact .inr ⟨_, _, if_pos hb⟩
   ·exact .inl (if_neg hb)
  ·by_cases hb : b = a
   ·have z' := (if_pos hb).symm.trans z
    cases z'
    subst hb
    exact ⟨ha, by rw [Lm9]; exact hl, vs, _, rv, ha⟩
   ·have z' := (if_neg hb).symm.trans z
    cases z'
  ·by_cases hb : b = a
   ·exact hb
   ·exact absurd (if_neg hb) z
end L2
namespace L2
open PySem PySem.Spec PyProof.Rows
abbrev KOf {K : PySem.W.Frag} {h : Heap} (_ : K.In h) : PySem.W.Frag := K
theorem L0 {l : PySem.W.OpenLaw} {n k : Nat} {q : Program} {loose : List Str} {XP : (Str → Option Value) → Heap → Prop} {YP : World → Heap → Prop} {d : DefRec} {K : Params → PySem.W.Frag} {CX : World → IG} {sp : World → Sp} {x : Str}
  (hn : l.most = some n) (UO : n ≤ sizeLine) (Rb : d.params.defaults = []) (hr : di k callerA)
  (hY : ∀ (w : World) (h : Heap), YP w h → (K w.params).In h)
  (F : ∀ (w : World) (mg : Str → Option Value) (fa : Addr) (h : Heap), (K w.params).In h → h.Ns mainGlobals mg → mg d.name = some (.ref fa) →
   ∃ fd : FuncData, (∀ (s : Shared) (u : Value), BindsTo s fd ⟨[u], []⟩ [(x, u)]) ∧
    ∀ base : Heap, (K w.params).In base → base.Ns mainGlobals mg → aW l.prog w (K w.params) mg base (CX w) k fa fd [x] (sp w))
  (Lv : ∀ (w : World) (H : Hp) (a : Addr) (ns : List Int), ns.length ≤ n → OC H → ax (K w.params) H a (ns.map V.int) → sp w [.ref a] H (fun v _ => v = .bl true) fun _ _ _ => False)
  (V3 : ∀ (w : World) (H : Hp) (s : Shared) (e : Value) (s' : Shared), CX w [] H s (fun _ _ _ => False) e s' → False) :
  PySem.W.WalkO q loose XP YP l.row.toRowW d [] (fun f vs => PySem.call f vs) := by
 refine Yu.Br hn Rb fun w s₀ s₁ mg mb fa o pm cd doc a vs ns G Y ho hd Im Rc OB hints hlen hg => ?_
 have KX := hY w _ Y
 obtain ⟨fd, hb, hF⟩ := F w mg fa _ KX G.T.g Rc
 exact IM KX G.T.g G.T.b G.T.builtins G.T.nolimit hg OB hints (Nat.le_trans hlen UO) hr hF hb (fun H hO hS => Lv w H a ns hlen hO hS) fun H e s' => V3 w H s₁ e s'
end L2
namespace L2
open PySem PySem.Spec PyProof.Rows
def inClass (s : Stmt) (j : Nat) : Stmt := match s with
 | .ClassDef _ _ _ body _ _ _ _ _ _ _ => body.getD j (.Pass ⟨0, 0, 0, 0⟩)
 | _ => .Pass ⟨0, 0, 0, 0⟩
def mQ (s : Stmt) : Arguments := match s with
 | .FunctionDef _ a _ _ _ _ _ _ _ _ => a
 | _ => { posonlyargs := [], args := [], vararg := none, kwonlyargs := [], kw_defaults := [], kwarg := none, defaults := [] }
def ju (s : Stmt) : List Stmt := match s with
 | .FunctionDef _ _ b _ _ _ _ _ _ _ => b
 | _ => []
def ao (s : Stmt) : Scope := match s with
 | .FunctionDef _ _ _ _ _ _ sc _ _ _ => sc
 | _ => { kind := .function, names := [], isGenerator := false, isCoroutine := false }
abbrev cS : IG := fun _ _ _ _ _ _ => False
abbrev E0 : XK := fun _ _ _ => False
theorem Ft {X : Cx} : Passes cS X E0 := fun _ _ _ _ _ _ _ h => h.elim
structure bz (K : PySem.W.Frag) (x qual : Str) (st : Stmt) (f : Addr) (fd : FuncData) : Prop where
 ex : ∃ (oc : Value) (od : Option Addr) (kV doc pm : Value) (an : Option Addr) (cw ct : Value) (Np : Array (Option Value)),
  fd = PySem.W.fnOf x qual (mQ st) (ju st) (ao st) .none kV doc pm an cw ct ∧ K.lookup f = some ⟨oc, od, .func fd, Np⟩ ∧ PySem.W.codeIn K cw qual = true
 kp : PySem.W.keepIn K (.ref f) = true
section
variable {P : Program} {w : World} {K : PySem.W.Frag} {mg : Str → Option Value} {base : Heap}
theorem bz.ok {x qual : Str} {st : Stmt} {f : Addr} {fd : FuncData} {N ps : List Str} {k : Nat} {sp : Sp} (F : bz K x qual st f fd) (S : av N ps (ao st)) (len : ∀ vs H Q E, sp vs H Q E → vs.length = ps.length)
  (IJ : ∀ (cw : Value) (A : Around) (outer : List Env) (s : Shared) (H : Hp) (vs : List V) (Q : VK) (E : XK), di k (A.deeper (envOfC qual (ao st) s.heap.objs.size f cw)) → sp vs H Q E →
   ∃ t, Ff (GB cS P w K mg base N qual (ao st) f cw A outer s H E).UK (ju st) t ∧ t { nx := fun _ H' => Q .cL H', rt := Q } (start N vs) H) : aW P w K mg base cS (k + 1) f fd ps sp := by
 obtain ⟨oc, od, kV, doc, pm, an, cw, ct, Np, rfl, lk, Im⟩ := F.ex
 refine Q0 lk Im S len fun A outer s H vs Q E hr Lv => ?_
 obtain ⟨t, h, q⟩ := IJ cw A outer s H vs Q E hr Lv
 exact ⟨t, h.UK, q⟩
theorem bz.binds {x qual : Str} {st : Stmt} {f : Addr} {fd : FuncData} {ps : List Str} (F : bz K x qual st f fd)
  (h : ∀ (kV doc pm : Value) (an : Option Addr) (cw ct : Value) (us : List Value), us.length = ps.length → bindArgs (PySem.W.fnOf x qual (mQ st) (ju st) (ao st) .none kV doc pm an cw ct) ⟨us, []⟩ = pure (ps.zip us)) : Binds K fd ps [] := by
 obtain ⟨oc, od, kV, doc, pm, an, cw, ct, Np, rfl, lk, Im⟩ := F.ex
 exact .all (h kV doc pm an cw ct)
theorem aF {x qual : Str} {st : Stmt} {f : Addr} {oc : Value} {od an : Option Addr} {Np : Array (Option Value)} {kV doc pm cw ct : Value} (l : K.lookup f = some ⟨oc, od, .func (PySem.W.fnOf x qual (mQ st) (ju st) (ao st) .none kV doc pm an cw ct), Np⟩)
  (c : PySem.W.codeIn K cw qual = true) (k : PySem.W.keepIn K (.ref f) = true) : bz K x qual st f (PySem.W.fnOf x qual (mQ st) (ju st) (ao st) .none kV doc pm an cw ct) := ⟨⟨oc, od, kV, doc, pm, an, cw, ct, Np, rfl, l, c⟩, k⟩
end
theorem Fu {A : Around} {k : Nat} (hr : di k A) : A.units + 1 < cLine := Nat.lt_of_le_of_lt (Nat.add_le_add_left (by decide : 1 ≤ 64) _) hr.units
section
variable {X : Cx}
theorem pv (i : Nat) {x : Str} {pos : Pos} (hN : X.N[i]? = some x := by rfl) (hv : UE X.env.scope x := by first | exact Or.inl rfl | exact Or.inr (Or.inl rfl) | exact Or.inr (Or.inr rfl)) (hd : (x == ("__debug__" : Str)) = false := by decide)
  (Im : (x == ("__classdict__" : Str)) = false := by decide) : PE X (.Name x pos) (QG i) := N6 hN hv hd Im
end
theorem bO {A B : Prop} (h : B) : if false = true then A else B := by
 rw [if_neg Bool.false_ne_true]
 exact h
theorem nE {A B : Prop} (h : A) : if true = true then A else B := by
 rw [if_pos rfl]
 exact h
theorem cI {c A B : Prop} [Decidable c] (h1 : c → A) (h2 : ¬ c → B) : if c then A else B := by
 by_cases h : c
 ·rw [if_pos h]
  exact h1 h
 ·rw [if_neg h]
  exact h2 h
def ag (H H' : Hp) : Prop := ∀ b o, H b = some o → H' b = some o
theorem ag.refl (H : Hp) : ag H H := fun _ _ h => h
theorem ag.trans {H H1 H2 : Hp} (a : ag H H1) (b : ag H1 H2) : ag H H2 := fun c o h => b c o (a c o h)
theorem ag.free {H H' : Hp} (e : ag H H') {l : Addr} (h : H' l = Option.none) : H l = Option.none := by
 cases q : H l with
 | none => rfl
 | some o =>
  rw [e l o q] at h
  cases h
theorem ag.seq {K : PySem.W.Frag} {H H' : Hp} {a : Addr} {xs : List V} (e : ag H H') (h : ax K H a xs) : ax K H' a xs := by
 rcases h with (h | ⟨o, h⟩) | h
 ·exact .inl (.inl (e _ _ h))
 ·exact .inl (.inr ⟨o, e _ _ h⟩)
 ·exact .inr h
end L2
namespace L2
open PySem PySem.Spec PyProof.Rows
def aM (env : Env) : List (Str × NameKind) → List (Str × Addr) → List (Str × Addr)
 | [], cs => cs
 | (n, k) :: r, cs => if (k == NameKind.free) = true then aM env r ((n, (env.cells.lookup n).getD 0) :: cs) else aM env r cs
theorem ip {env : Env} : ∀ (names : List (Str × NameKind)) (cs : List (Str × Addr)), (∀ y ∈ names, y.2 = .free → (env.cells.lookup y.1).isSome = true) →
  (forIn names cs (fun x (cs : List (Str × Addr)) => (match x with | (name, kind) => if (kind == NameKind.free) = true then (do let a ← cellOf env name; pure (ForInStep.yield ((name, a) :: cs))) else pure (ForInStep.yield cs) : Sem (ForInStep (List (Str × Addr))))) : Sem (List (Str × Addr))) = pure (aM env names cs)
 | [], cs, _ => rfl
 | (n, k) :: r, cs, h => by
  have hr : ∀ y ∈ r, y.2 = .free → (env.cells.lookup y.1).isSome = true := fun y hy => h y (List.mem_cons_of_mem _ hy)
  rw [List.forIn_cons]
  by_cases hk : (k == NameKind.free) = true
  ·have e : k = .free := by simpa using hk
   have hs := h (n, k) List.mem_cons_self e
   obtain ⟨a, ha⟩ := Option.isSome_iff_exists.mp hs
   simp only [hk, if_true, aM, cellOf, ha, Option.getD_some, pure_bind]
   exact ip r _ hr
  ·simp only [hk, aM, pure_bind, Bool.false_eq_true, if_false]
   exact ip r _ hr
theorem nF {env : Env} {scope : Scope} (h : ∀ y ∈ scope.names, y.2 = .free → (env.cells.lookup y.1).isSome = true) : closureFor scope env = pure (aM env scope.names []) := by
 have e := ip (env := env) scope.names [] h
 unfold closureFor
 simp only [bind_pure_comp, map_pure] at e ⊢
 rw [← e]
 simp
theorem fB {env : Env} : ∀ {names : List (Str × NameKind)} {cs : List (Str × Addr)} {y : Str} {c : Addr}, (∀ z ∈ names, z.2 = .free → (env.cells.lookup z.1).isSome = true) → (∀ y c, cs.lookup y = some c → env.cells.lookup y = some c) →
  (aM env names cs).lookup y = some c → env.cells.lookup y = some c
 | [], _, _, _, _, hc, h => hc _ _ h
 | (n, k) :: r, cs, y, c, hn, hc, h => by
  have hr : ∀ z ∈ r, z.2 = .free → (env.cells.lookup z.1).isSome = true := fun z hz => hn z (List.mem_cons_of_mem _ hz)
  unfold aM at h
  by_cases hk : (k == NameKind.free) = true
  ·rw [if_pos hk] at h
   have e : k = .free := by simpa using hk
   obtain ⟨a, ha⟩ := Option.isSome_iff_exists.mp (hn (n, k) List.mem_cons_self e)
   refine fB hr (fun z d q => ?_) h
   rw [List.lookup_cons] at q
   cases hz : z == n with
   | true =>
    have ez : z = n := by simpa using hz
    rw [hz] at q
    simp only [ha, Option.getD_some] at q
    have V6 : env.cells.lookup n = some a := ha
    rw [ez, V6]
    exact q
   | false =>
    rw [hz] at q
    exact hc z d q
  ·rw [if_neg hk] at h
   exact fB hr hc h
theorem fC {env : Env} : ∀ {names : List (Str × NameKind)} {cs : List (Str × Addr)} {y : Str}, ((y, NameKind.free) ∈ names ∨ (cs.lookup y).isSome = true) → ((aM env names cs).lookup y).isSome = true
 | [], _, _, h => by
  rcases h with h | h
  ·cases h
  ·exact h
 | (n, k) :: r, cs, y, h => by
  unfold aM
  have key : ∀ a : Addr, (cs.lookup y).isSome = true → (List.lookup y ((n, a) :: cs)).isSome = true := fun a q => by
   rw [List.lookup_cons]
   cases y == n with
   | true => rfl
   | false => exact q
  by_cases hk : (k == NameKind.free) = true
  ·rw [if_pos hk]
   refine fC ?_
   rcases h with h | h
   ·rcases List.mem_cons.mp h with e | h
    ·cases e
     refine .inr ?_
     rw [List.lookup_cons]
     simp
    ·exact .inl h
   ·exact .inr (key _ h)
  ·rw [if_neg hk]
   refine fC ?_
   rcases h with h | h
   ·rcases List.mem_cons.mp h with e | h
    ·cases e
     exact absurd (by simp) hk
    ·exact .inl h
   ·exact .inr h
def cJ (X : Cx) (scope : Scope) (cl : List (Str × Addr)) (N : List Str) (C : Addr) (s₀ : Shared) (H₀ : Hp) (ex : List Addr) : Cx where
 prog := X.prog
 w := X.w
 K := X.K
 mg := X.mg
 base := X.base
 A := X.A
 N := N
 s₀ := s₀
 H₀ := H₀
 env := compEnvC scope cl C X.env
 outer := X.stack
 stack := X.stack
 ex := ex
 fn := fun _ => false
 calm := X.calm
 pn := []
 xe := fun _ _ => False
def b8 (X : Cx) (x : Str) (aE : List Nat) : List Str := x :: aE.map fun i => X.N.getD i (Str.ofString "")
def bW (σ : St) (o : Option V) (aE : List Nat) : St := o :: aE.map fun i => (σ[i]?).join
def tj (outer scope : Scope) (x : Str) (N : List Str) : Bool :=
 decide (scope.kind = .function) && scope.names.all (fun y => decide (y.2 ≠ .cell)) && scope.names.all (fun y => decide (y.2 = .local → scope.names.lookup y.1 = some .local)) && decide (scope.names.lookup x = some .local) &&
  scope.names.all (fun y => decide (y.2 = .free → (outer.names.lookup y.1 = some .cell ∨ outer.names.lookup y.1 = some .free))) && N.tail.all (fun y => decide (scope.names.lookup y = some .free)) && decide N.Nodup
structure IP (outer scope : Scope) (x : Str) (N : List Str) : Prop where
 kind : scope.kind = .function
 tp : ∀ y ∈ scope.names, y.2 ≠ .cell
 locs : ∀ y ∈ scope.names, y.2 = .local → scope.names.lookup y.1 = some .local
 Rg : scope.names.lookup x = some .local
 frees : ∀ y ∈ scope.names, y.2 = .free → (outer.names.lookup y.1 = some .cell ∨ outer.names.lookup y.1 = some .free)
 aE : ∀ y ∈ N.tail, scope.names.lookup y = some .free
 nd : N.Nodup
theorem GJ {outer scope : Scope} {x : Str} {N : List Str} (h : tj outer scope x N = true) : IP outer scope x N := by
 unfold tj at h
 simp only [Bool.and_eq_true, List.all_eq_true, decide_eq_true_eq] at h
 obtain ⟨⟨⟨⟨⟨⟨h1, h2⟩, h3⟩, h4⟩, h5⟩, h6⟩, h7⟩ := h
 exact ⟨h1, h2, h3, h4, h5, h6, h7⟩
theorem dc {scope : Scope} {env : Env} {y : Str} {k' : NameKind} (h : (relabel scope env).names.lookup y = some k') : ∃ k, scope.names.lookup y = some k ∧ (k' = k ∨ (k = .free ∧ k' = .cell)) := by
 have go : ∀ (names : List (Str × NameKind)), (names.map fun (n, k) => if (k == NameKind.free && env.scope.kind == .function && env.kindOf n == some .cell) then (n, NameKind.cell) else (n, k)).lookup y = some k' →
   ∃ k, names.lookup y = some k ∧ (k' = k ∨ (k = .free ∧ k' = .cell)) := by
  intro names
  induction names with
  | nil => intro h; simp at h
  | cons a r ih =>
   obtain ⟨n, k⟩ := a
   intro h
   rw [List.map_cons] at h
   by_cases hc : (k == NameKind.free && env.scope.kind == .function && env.kindOf n == some .cell) = true
   ·simp only [hc, if_true, List.lookup_cons] at h
    rw [List.lookup_cons]
    cases hy : y == n with
    | true =>
     rw [hy] at h
     have hk : k = .free := by
      simp only [Bool.and_eq_true, beq_iff_eq] at hc
      exact hc.1.1
     exact ⟨k, rfl, .inr ⟨hk, (Option.some.inj h).symm⟩⟩
    | false =>
     rw [hy] at h
     exact ih h
   ·simp only [hc, Bool.false_eq_true, if_false, List.lookup_cons] at h
    rw [List.lookup_cons]
    cases hy : y == n with
    | true =>
     rw [hy] at h
     exact ⟨k, rfl, .inl (Option.some.inj h).symm⟩
    | false =>
     rw [hy] at h
     exact ih h
 exact go scope.names h
theorem jv {scope : Scope} {env : Env} {y : Str} (h : scope.names.lookup y = some .free) : (relabel scope env).names.lookup y = some .cell ∨ (relabel scope env).names.lookup y = some .free := by
 have go : ∀ (names : List (Str × NameKind)), names.lookup y = some .free → (names.map fun (n, k) => if (k == NameKind.free && env.scope.kind == .function && env.kindOf n == some .cell) then (n, NameKind.cell) else (n, k)).lookup y = some .cell ∨
   (names.map fun (n, k) => if (k == NameKind.free && env.scope.kind == .function && env.kindOf n == some .cell) then (n, NameKind.cell) else (n, k)).lookup y = some .free := by
  intro names
  induction names with
  | nil => intro h; simp at h
  | cons a r ih =>
   obtain ⟨n, k⟩ := a
   intro h
   rw [List.map_cons]
   rw [List.lookup_cons] at h
   by_cases hc : (k == NameKind.free && env.scope.kind == .function && env.kindOf n == some .cell) = true
   ·simp only [hc, if_true, List.lookup_cons]
    cases hy : y == n with
    | true => exact .inl rfl
    | false =>
     rw [hy] at h
     exact ih h
   ·simp only [hc, Bool.false_eq_true, if_false, List.lookup_cons]
    cases hy : y == n with
    | true =>
     rw [hy] at h
     have h' : k = .free := Option.some.inj h
     exact .inr (by rw [h'])
    | false =>
     rw [hy] at h
     exact ih h
 exact go scope.names h
def HZ (X : Cx) (ifs : List Expr) (t : TT) : Prop :=
 ∀ (pins : List (Addr × Obj)) (s : Shared) (σ : St) (H : Hp) (Q : Bool → Hp → Prop), Inv X pins σ H s → t σ H Q →
  wpAny (model X.prog X.w) X.A (forIn ifs true fun c r => if r = true then do let ok ← isTrue c X.env (eval c X.env); pure (ForInStep.yield ok) else pure (ForInStep.yield r)) (TP X pins σ Q) X.xe s
def Rh : TT := fun _ H Q => Q true H
theorem bu {X : Cx} : HZ X [] Rh := fun _ _ _ H _ I h => wpAny_tests_nil ⟨H, I, h⟩
theorem jw {X : Cx} {c : Expr} {t : TT} (h : PT X c t) : HZ X [c] t := fun pins s σ H Q I hq => wpAny_tests_one (h pins s σ H Q I hq)
theorem jx {prog : Program} {w : World} {A : Around} {R : Result → Shared → Prop} {s : Shared} {elt target iter : Expr} {ifs : List Expr} {scope : Scope} {pos : Pos} {it acc : Value} {env : Env} (I : Nat → Shared → Prop)
  (turn : ∀ n s, I n s → wpAny (model prog w) A (pyNext it) (fun r s₁ => match r with
   | none => R (.ok .next) s₁
   | some v => wpAny (model prog w) A (letOwnedTupleGo target it v) (fun _ Yw => wpAny (model prog w) A (assign target env v) (fun _ s₂ =>
     wpAny (model prog w) A (forIn ifs true fun c r => if r = true then do let ok ← isTrue c env (eval c env); pure (ForInStep.yield ok) else pure (ForInStep.yield r)) (fun ok s₃ =>
      if ok = true then wpAny (model prog w) A (eval elt env) (fun x s₄ =>
       wpAny (model prog w) A (call (.builtin "list.append") [acc, x]) (fun _ s₅ => ∃ m, m < n ∧ I m s₅) (fun _ _ => False) s₄) (fun _ _ => False) s₃
      else ∃ m, m < n ∧ I m s₃) (fun _ _ => False) s₂) (fun _ _ => False) Yw) (fun _ _ => False) s₁) (fun _ _ => False) s)
  (n : Nat) (h : I n s) : codeAny (model prog w) A (.compLoop (.ListComp elt [⟨target, iter, ifs, 0⟩] scope pos) 0 it acc env) R s := by
 refine codeAny_loop rfl I (fun n s hI => ?_) n h
 show wpAny _ A ((compTurn (.ListComp elt [⟨target, iter, ifs, 0⟩] scope pos) 0 it acc env).onRaise (fun x => do noteFrame x env; theTreesLotGoes x)) _ _ s
 refine wpAny_noted ?_
 rw [compTurn_list]
 refine wpAny_bind (wpAny_standAt (wpAny_bind (wpAny_mono (turn n s hI) (fun r s₁ h₁ => ?_) fun _ _ h' => h'.elim)))
 cases r with
 | none => exact wpAny_pure h₁
 | some v =>
  refine wpAny_bind (wpAny_mono h₁ (fun _ Yw h₁' => ?_) fun _ _ h' => h'.elim)
  refine wpAny_bind (wpAny_mono h₁' (fun _ s₂ h₂ => wpAny_bind (wpAny_mono h₂ (fun ok s₃ h₃ => ?_) fun _ _ h' => h'.elim)) fun _ _ h' => h'.elim)
  cases ok with
  | false => exact wpAny_pure ⟨rfl, h₃⟩
  | true =>
   exact wpAny_bind (wpAny_bind (wpAny_mono h₃ (fun x s₄ h₄ => wpAny_bind (wpAny_mono h₄ (fun _ s₅ h₅ => wpAny_pure (wpAny_pure ⟨rfl, h₅⟩)) fun _ _ h' => h'.elim)) fun _ _ h' => h'.elim))
def rh (tt : TT) (te : TE) (aE : List Nat) (σ : St) (Q : VK) (J : It) (H1 : Hp) (D : Addr) : Prop :=
 ∃ W : Nat → Nat → List V → Hp → Prop, (∃ m, W 0 m [] (upd H1 D (.lst []))) ∧ ∀ i m ys H, W i m ys H →
  H D = some (.lst ys) ∧ ys.length < sizeLine ∧
  ((J.stop i H ∧ Q (.ref D) H) ∨ (J.go i H ∧ ∃ N : List V → Hp → Prop, (∀ zs H', N zs H' → ∃ m', m' < m ∧ W (i + 1) m' zs H') ∧ ∀ x H', J.LM i H x H' → tt (bW σ (some x) aE) H' fun b H2 =>
   if b = true then te (bW σ (some x) aE) H2 fun y H3 => H3 D = some (.lst ys) ∧ N (ys ++ [y]) (upd H3 D (.lst (ys ++ [y])))
   else N ys H2))
def Bs (wi : TI) (tt : TT) (te : TE) (aE : List Nat) : TE := fun σ H Q => wi σ H fun J H1 => ∀ D, H1 D = none → rh tt te aE σ Q J H1 D
section
variable {X : Cx}
theorem Dy {scope : Scope} {x : Str} {aE : List Nat} {pins : List (Addr × Obj)} {σ : St} {H : Hp} {s3 : Shared} {h1 : Heap} {fp : List Addr} {m : Str → Option Value} {tk : Nat} (ok : IP X.env.scope scope x (b8 X x aE)) (I : Inv X pins σ H s3)
  (hf : ∀ b ∈ fp, dS X pins H b) (fz : ∀ b ∈ fp, b < s3.heap.objs.size) (hn : h1.Ns s3.heap.objs.size m) (keep : ∀ b o, s3.heap.get? b = some o → h1.get? b = some o) :
  Inv (cJ X scope (aM X.env scope.names []) (b8 X x aE) s3.heap.objs.size s3 H fp) [] (bW σ none aE) H { s3 with heap := h1, toks := tk } := by
 have ic : ∀ z ∈ scope.names, z.2 = .free → (X.env.cells.lookup z.1).isSome = true := fun z hz rN => by
  obtain ⟨c, e⟩ := I.ok.has z.1 (by
   rcases ok.frees z hz rN with q | q
   ·exact .inl q
   ·exact .inr q)
  rw [e]; rfl
 have sub : ∀ y c, (aM X.env scope.names []).lookup y = some c → X.env.cells.lookup y = some c := fun y c h => fB ic (fun _ _ q => by simp at q) h
 have hC : H s3.heap.objs.size = none := I.bB.fresh (Nat.le_refl _)
 have Ij : ∀ y c, X.env.cells.lookup y = some c → c < s3.heap.objs.size := fun y c e => by
  obtain ⟨v, z⟩ := I.cell y c e
  exact z.lt
 refine ⟨⟨I.ok.mod, ?_, I.ok.glob, I.ok.blt, Nat.le_refl _, fun y z c e1 e2 => I.ok.inj y z c (sub _ _ e1) (sub _ _ e2), fun y hy => ?_, fun y c LJ _ => ?_, I.ok.hd, I.ok.frames, .inl rfl, fun b hb => ⟨Nat.ne_of_lt (fz b hb), fun y c e => (hf b hb).2.2.2.2.1 y c (sub _ _ e)⟩,
   I.bs, Nat.le_trans I.ok.Fd I.sz, fun b o e hb => ?_, fun b hb IQ => ?_, I.stack, I.sk⟩,
  rfl, I.bare, Un.kept keep, ⟨m, hn, fun i y v e1 e2 e3 => ?_⟩, fun y c e => ?_, hC, fun y c e => I.kF y c (sub _ _ e), fun p hp => absurd (show p ∈ ([] : List (Addr × Obj)) from hp) (by simp), I.bB.kept keep, by simp [cJ, b8, bW]⟩
 ·show (relabel scope X.env).kind = .function
  exact ok.kind
 ·have Ri : (relabel scope X.env).names.lookup y = some .cell ∨ (relabel scope X.env).names.lookup y = some .free := hy
  have fr : scope.names.lookup y = some .free := by
   rcases Ri with q | q
   ·obtain ⟨k, e, z⟩ := dc q
    rcases z with z | ⟨z, _⟩
    ·exact absurd z.symm (ok.tp _ (PySem.mem_of_lookup e))
    ·rw [e, z]
   ·obtain ⟨k, e, z⟩ := dc q
    rcases z with z | ⟨_, z⟩
    ·rw [e, z]
    ·cases z
  exact Option.isSome_iff_exists.mp (fC (.inl (PySem.mem_of_lookup fr)))
 ·exact absurd (show (fun _ => false) y = true from LJ) (by simp)
 ·rcases (hf b hb).2.2.2.1 with z | z
  ·exact I.ok.Dd b o e z
  ·exact absurd (Nat.lt_of_lt_of_le (Heap.lt_size e) (Nat.le_trans I.ok.Fd z)) (Nat.lt_irrefl _)
 ·rcases List.mem_cons.mp (I.kP b IQ) with z | z
  ·exact (hf b hb).2.1 z
  ·exact (hf b hb).2.2.1 z
 ·have vM : (b8 X x aE)[i]? = some y := e1
  cases i with
  | zero => simp [bW] at e2
  | succ i =>
   simp only [b8, List.getElem?_cons_succ, List.getElem?_map] at vM
   simp only [bW, List.getElem?_cons_succ, List.getElem?_map] at e2
   cases hj : aE[i]? with
   | none => rw [hj] at e2; cases e2
   | some j =>
    rw [hj] at vM e2
    simp only [Option.map_some, Option.some.injEq] at vM e2
    cases hσ : σ[j]? with
    | none => rw [hσ] at e2; cases e2
    | some o =>
     rw [hσ] at e2
     have OD : o = some v := e2
     subst OD
     have Nr : j < X.N.length := by rw [← I.len]; exact (List.getElem?_eq_some_iff.mp hσ).1
     have eN : X.N[j]? = some y := by
      rw [Ge9 Nr]
      rw [Gd9, Ge9 Nr] at vM
      exact congrArg some vM
     have hy : scope.names.lookup y = some .free := ok.aE y (by
      show y ∈ aE.map fun i => X.N.getD i (Str.ofString "")
      exact List.mem_map.mpr ⟨j, List.mem_of_getElem? hj, vM⟩)
     have hk := ok.frees (y, .free) (PySem.mem_of_lookup hy) rfl
     obtain ⟨m', _, hl⟩ := I.loc
     obtain ⟨u, r, q⟩ := hl j y v eN hσ (.inr hk)
     refine ⟨u, r, .inr ⟨jv hy, ?_⟩⟩
     rcases q with ⟨k, _⟩ | ⟨_, c, e, z⟩
     ·have k' : X.env.scope.names.lookup y = some .local := k
      rw [k'] at hk
      rcases hk with hk | hk <;> cases hk
     ·obtain ⟨c', e'⟩ := Option.isSome_iff_exists.mp (fC (env := X.env) (cs := []) (.inl (PySem.mem_of_lookup hy)))
      have ec := sub _ _ e'
      rw [e] at ec
      cases ec
      obtain ⟨o, ho, hd⟩ := z
      exact ⟨c, e', o, keep c o ho, hd⟩
 ·obtain ⟨v, o, ho, hd⟩ := I.cell y c (sub _ _ e)
  exact ⟨v, o, keep c o ho, hd⟩
theorem xr {x : Str} {px pos p : Pos} {iter elt : Expr} {ifs : List Expr} {scope : Scope} {wi : TI} {tt : TT} {te : TE} {aE : List Nat} {use : Option (Value → Sem Unit)} {QQ : Value → Shared → Prop}
  (hc : X.calm = true) (ho : tj X.env.scope scope x (b8 X x aE) = true) (hi : PI X (.Name x px) iter wi)
  (ht : ∀ cl C s₀ H₀ ex, HZ (cJ X scope cl (b8 X x aE) C s₀ H₀ ex) ifs tt) (he : ∀ cl C s₀ H₀ ex, PE (cJ X scope cl (b8 X x aE) C s₀ H₀ ex) elt te)
  (hs : ∀ x, foldedSetIterable iter X.env x = pure x) {pins : List (Addr × Obj)} {s : Shared} {σ : St} {H : Hp} {Q : VK} (I : Inv X pins σ H s) (h : Bs wi tt te aE σ H Q)
  (fin : ∀ (D C : Addr) (H' : Hp) (s' : Shared) (m : Str → Option Value), Inv X pins σ H' s' → Q (.ref D) H' → s'.heap.Ns C m → dS X pins H' C → compPost (model X.prog X.w) X.A X.xe use QQ (.ref D) C (.ok .next) s') :
  wpAny (model X.prog X.w) X.A (comprehension (.ListComp elt [⟨.Name x px, iter, ifs, 0⟩] scope pos) scope X.env p (newList []) false (eval iter X.env) use) QQ X.xe s := by
 have ok := GJ ho
 have ic : ∀ z ∈ scope.names, z.2 = .free → (X.env.cells.lookup z.1).isSome = true := fun z hz rN => by
  obtain ⟨c, e⟩ := I.ok.has z.1 (by
   rcases ok.frees z hz rN with q | q
   ·exact .inl q
   ·exact .inr q)
  rw [e]; rfl
 refine wpAny_comprehension_free (cl := aM X.env scope.names []) (use := use) rfl hs (nF ic) ok.kind ok.locs (thn (hi pins s σ H _ I h) fun v s1 h1 => thn h1 fun QP s2 h2 => ?_)
 obtain ⟨it, fp, tn, J, H2, e, I2, T, oF, f2, rd⟩ := h2
 subst e
 refine wpAny_newObj_type (wpAny_newFunctionEnv ok.tp (by intro y hy; simp at hy) (fun h₁ tq Dz => ?_) ok.kind)
 dsimp only at tq Dz ⊢
 have vF : H2 s2.heap.objs.size = none := I2.bB.fresh (Nat.le_refl _)
 obtain ⟨W, ⟨m0, w0⟩, turn⟩ := rd s2.heap.objs.size vF
 have Bt : ∀ b ∈ fp, b < s2.heap.objs.size := fun b hb => by
  obtain ⟨o, e, _⟩ := T.obj 0 _ oF b hb
  exact Heap.lt_size e
 have hsz : (s2.heap.push { cls := .type "list", dict := none, data := .seq ([] : List Value).toArray }).objs.size = s2.heap.objs.size + 1 := Heap.size_push ..
 have I3 : Inv X pins σ (upd H2 s2.heap.objs.size (.lst [])) { s2 with heap := s2.heap.push { cls := .type "list", dict := none, data := .seq ([] : List Value).toArray } } :=
  I2.laid (t' := s2.toks) (fun b u e => Heap.get?_push_of_some _ e) (Nat.le_refl _) ⟨by simp, [], 0, .nil, Heap.get?_push_size _ rfl⟩
 have xg : tn 0 (s2.heap.push { cls := .type "list", dict := none, data := .seq ([] : List Value).toArray }) := T.keep _ _ _ oF fun b _ o e => Heap.get?_push_of_some _ e
 generalize V7 : s2.heap.push { cls := .type "list", dict := none, data := .seq ([] : List Value).toArray } = h3 at tq Dz hsz I3 xg ⊢
 generalize Rj : upd H2 s2.heap.objs.size (.lst []) = H3 at I3 w0
 have yq : ∀ b ∈ fp, b < h3.objs.size := fun b hb => by rw [hsz]; exact Nat.lt_succ_of_lt (Bt b hb)
 have f3 : ∀ b ∈ fp, dS X pins H3 b := fun b hb => ⟨by rw [← Rj, aq (Nat.ne_of_lt (Bt b hb))]; exact (f2 b hb).1, (f2 b hb).2⟩
 have keep : ∀ b o, h3.get? b = some o → h₁.get? b = some o := fun b o e => Dz.extBut b o (Nat.ne_of_lt (Heap.lt_size e)) (Heap.get?_push_of_some _ e)
 have I4 := Dy (s3 := { s2 with heap := h3 }) (tk := s2.toks + ([] : List (Str × Value)).length) ok I3 f3 yq tq keep
 have Bu : tn 0 h₁ := T.keep _ _ _ xg fun b _ o e => keep b o e
 generalize gm : cJ X scope (aM X.env scope.names []) (b8 X x aE) ({ s2 with heap := h3 } : Shared).heap.objs.size { s2 with heap := h3 } H3 fp = X' at I4
 have eA : X'.A = X.A := by rw [← gm] <;> rfl
 have eP : X'.prog = X.prog := by rw [← gm] <;> rfl
 have ew : X'.w = X.w := by rw [← gm] <;> rfl
 have eK : X'.K = X.K := by rw [← gm] <;> rfl
 have ee : X'.env = compEnvC scope (aM X.env scope.names []) h3.objs.size X.env := by rw [← gm] <;> rfl
 have ex : X'.xe = fun _ _ => False := by rw [← gm] <;> rfl
 have eN : X'.N = b8 X x aE := by rw [← gm] <;> rfl
 have ec : X'.calm = true := by rw [← gm]; exact hc
 have Rk : X'.fs = Bi X.stack := by rw [← gm] <;> rfl
 have Rm : HZ X' ifs tt := by rw [← gm]; exact ht _ _ _ _ _
 have Rn : PE X' elt te := by rw [← gm]; exact he _ _ _ _ _
 have leave : ∀ {σ' : St} {H' : Hp} {s' : Shared}, Inv X' [] σ' H' s' → Q (.ref s2.heap.objs.size) H' → compPost (model X.prog X.w) X.A X.xe use QQ (.ref s2.heap.objs.size) h3.objs.size (.ok .next) s' := fun {σ' H' s'} J q => by
  have un : Un (Bi X.stack) fp H3 H' h3 s'.heap := by have z := J.base; rw [← gm] at z; exact z
  have GD : s'.os = s2.os := by have z := J.os; rw [← gm] at z; exact z
  have hk : mY X.prog X.w H' s'.heap := by have z := J.bB; rw [eP, ew] at z; exact z
  have Jx := I3.Il (s' := s') (ch := fp) GD un hk J.bare fun b hb => ⟨(f3 b hb).2.2.2.1, (f3 b hb).2.1, (f3 b hb).2.2.2.2.1, (f3 b hb).2.2.2.2.2⟩
  obtain ⟨m, hn, _⟩ := J.loc
  have Ik : s'.heap.Ns h3.objs.size m := by rw [ee] at hn; exact hn
  have rN : H' h3.objs.size = none := by have z := J.free; rw [ee] at z; exact z
  exact fin _ _ H' s' m Jx q Ik (I3.sV (Nat.le_refl _) rN)
 have nB : ∀ {H' : Hp}, (∀ b ∈ fp, H' b = none) → ∀ b ∈ fp, dS X' [] H' b := fun {H'} hn b hb => by
  refine ⟨hn b hb, ?_, ?_, .inl ?_, fun y c e => ?_, fun p hp => ?_⟩
  ·rw [ee]; exact Nat.ne_of_lt (yq b hb)
  ·rw [Rk]
   intro z
   rcases List.mem_cons.mp (I3.kP b z) with z | z
   ·exact (f3 b hb).2.1 z
   ·exact (f3 b hb).2.2.1 z
  ·rw [← gm]; exact hb
  ·have e' : (aM X.env scope.names []).lookup y = some c := by rw [ee] at e; exact e
   exact (f3 b hb).2.2.2.2.1 y c (fB ic (fun _ _ q => by simp at q) e')
  ·rw [← gm] at hp
   exact absurd (show p ∈ ([] : List (Addr × Obj)) from hp) (by simp)
 have loop : ∀ s₃ : Shared, s₃ = { s2 with heap := h₁, toks := s2.toks + ([] : List (Str × Value)).length } →
   codeAny (model X.prog X.w) X.A (.compLoop (.ListComp elt [⟨.Name x px, iter, ifs, 0⟩] scope pos) 0 (.ref it) (.ref s2.heap.objs.size) (compEnvC scope (aM X.env scope.names []) h3.objs.size X.env))
    (compPost (model X.prog X.w) X.A X.xe use QQ (.ref s2.heap.objs.size) h3.objs.size) s₃ := by
  rintro s₃ rfl
  refine jx (fun n s' => ∃ i o H' ys, Inv X' [] (bW σ o aE) H' s' ∧ tn i s'.heap ∧ (∀ b ∈ fp, H' b = none) ∧ W i n ys H') ?_ m0 ⟨0, none, H3, [], I4, Bu, fun b hb => (f3 b hb).1, w0⟩
  rintro n s' ⟨i, o, H', ys, J, xf, Nt, w'⟩
  obtain ⟨Yx, hlen, alt⟩ := turn i n ys H' w'
  rcases alt with ⟨stop, q⟩ | ⟨go, N, hN, step⟩
  ·have z := T.done X' eP ew eK ec i [] s' _ H' (fun _ _ => False) J (nB Nt) xf stop
   rw [eA] at z
   refine thn z fun r s4 ⟨hr, J4⟩ => ?_
   subst hr
   exact leave J4 q
  ·have z := T.item X' eP ew eK ec i [] s' _ H' (fun _ _ => False) J (nB Nt) xf go
   rw [eA] at z
   refine thn z fun r s4 ⟨u, hr, h4⟩ => ?_
   subst hr
   refine thn h4 fun _ s5 ⟨xv, H5, J5, r5, y5, sq, Oc⟩ => ?_
   have Ro := J5.pinned (nB Oc) (T.obj _ _ sq)
   have lx : (relabel scope X.env).names.lookup x = some .local := lookup_relabel_local ok.Rg
   have hg : PG X' (.Name x px) (ra 0) := aL (by rw [eN]; exact ok.nd) (by rw [eN] <;> rfl) (by rw [ee]; exact .inl lx) (by rw [ee]; exact .inr lx)
   have zg := hg _ s5 _ H5 xv u (fun σ6 H6 => σ6 = bW σ (some xv) aE ∧ H6 = H5) Ro r5 ⟨rfl, rfl⟩
   rw [eP, ew, eA, ee, ex] at zg
   refine thn zg fun _ s6 ⟨σ6, H6, J6, q6⟩ => ?_
   obtain ⟨e6, V8⟩ := q6
   subst e6 V8
   have zt := Rm _ s6 _ _ _ J6 (step xv _ y5)
   rw [eP, ew, eA, ee, ex] at zt
   refine thn zt fun b s7 ⟨H7, J7, q7⟩ => ?_
   have again : ∀ {H8 : Hp} {s8 : Shared} {Fv : List V}, Inv X' ([] ++ nA fp s5.heap) (bW σ (some xv) aE) H8 s8 → N Fv H8 → ∃ m, m < n ∧ ∃ i o H' ys, Inv X' [] (bW σ o aE) H' s8 ∧ tn i s8.heap ∧ (∀ b ∈ fp, H' b = none) ∧ W i m ys H' := fun {H8 s8 Fv} J8 n8 => by
    obtain ⟨m', hm, w8⟩ := hN Fv H8 n8
    refine ⟨m', hm, i + 1, some xv, H8, Fv, J8.fw, T.keep _ _ _ sq fun b hb o e => (J8.pin (b, o) (List.mem_append_right _ (List.mem_append_right _ (bN hb e)))).1, fun b hb => ?_, w8⟩
    obtain ⟨o, e, d⟩ := T.obj _ _ sq b hb
    exact (J8.pin (b, o) (List.mem_append_right _ (List.mem_append_right _ (bN hb e)))).2.1
   cases b with
   | false => exact again J7 q7
   | true =>
    have ze := Rn _ s7 _ H7 _ J7 q7
    rw [eP, ew, eA, ee, ex] at ze
    refine thn ze fun yv s8 ⟨y, H8, J8, r8, Rp, q8⟩ => ?_
    have za := a9 (X := X') _ s8 _ H8 (.ref s2.heap.objs.size) [y] (.ref s2.heap.objs.size) [yv] (fun _ H9 => H9 = upd H8 s2.heap.objs.size (.lst (ys ++ [y]))) J8 rfl (.cons r8 .nil) ⟨_, ys, y, rfl, rfl, Rp, hlen, rfl⟩
    rw [eP, ew, eA, ex] at za
    refine thn za fun _ s9 ⟨_, H9, J9, _, q9⟩ => ?_
    subst q9
    exact again J9 q8
 exact codeAny_compStart_list (loop _ rfl) (T.self _ 0 _ _ _ Bu (loop _ rfl))
theorem bK {x : Str} {px pos : Pos} {iter elt : Expr} {ifs : List Expr} {scope : Scope} {wi : TI} {tt : TT} {te : TE} (aE : List Nat)
  (hc : X.calm = true) (ho : tj X.env.scope scope x (b8 X x aE) = true) (hi : PI X (.Name x px) iter wi)
  (ht : ∀ cl C s₀ H₀ ex, HZ (cJ X scope cl (b8 X x aE) C s₀ H₀ ex) ifs tt) (he : ∀ cl C s₀ H₀ ex, PE (cJ X scope cl (b8 X x aE) C s₀ H₀ ex) elt te)
  (hs : ∀ x, foldedSetIterable iter X.env x = pure x := by intro _; rfl) : PE X (.ListComp elt [⟨.Name x px, iter, ifs, 0⟩] scope pos) (Bs wi tt te aE) := by
 intro pins s σ H Q I h
 rw [eval_ListComp]
 refine xr (use := none) hc ho hi ht he hs I h fun D C H' s' m J q hn hf => ?_
 exact ⟨m, hn, fun h' sb => ⟨.ref D, H', J.turned (t' := s'.toks) (fun b o hb e => (sb.2 b hb).trans e) hf.1 hf.2.1 hf.2.2.2.1 hf.2.2.2.2.1 hf.2.2.2.2.2, rfl, q⟩⟩
theorem f7 {i : Nat} {x y : Str} {px py pos Rq : Pos} {iter elt : Expr} {ifs : List Expr} {scope : Scope} {wi : TI} {tt : TT} {te : TE} (aE : List Nat)
  (hN : X.N.Nodup) (Nu : X.N[i]? = some y) (hy : Loc X.env.scope y)
  (hc : X.calm = true) (ho : tj X.env.scope scope x (b8 X x aE) = true) (hi : PI X (.Name x px) iter wi)
  (ht : ∀ cl C s₀ H₀ ex, HZ (cJ X scope cl (b8 X x aE) C s₀ H₀ ex) ifs tt) (he : ∀ cl C s₀ H₀ ex, PE (cJ X scope cl (b8 X x aE) C s₀ H₀ ex) elt te)
  (hsw : swapsWith (.ListComp elt [⟨.Name x px, iter, ifs, 0⟩] scope pos) (some (.Name y py)) Rq.line X.env = pure true := by rfl)
  (hs : ∀ x, foldedSetIterable iter X.env x = pure x := by intro _; rfl) (hf : X.fn y = true ∨ X.env.scope.names.lookup y = some .local := by first | exact .inl rfl | exact .inr rfl | assumption) :
  PS X (.Assign [.Name y py] (.ListComp elt [⟨.Name x px, iter, ifs, 0⟩] scope pos) Rq) (Oa (Bs wi tt te aE) (ra i)) := by
 intro pins s σ H D I h
 rw [exec_Assign_Name_used _ _ _ _ hsw]
 refine wpAny_bind (wpAny_standAt (wpAny_bind ?_))
 show wpAny _ X.A (do let _ ← comprehension (.ListComp elt [⟨.Name x px, iter, ifs, 0⟩] scope pos) scope X.env _ (newList []) false (eval iter X.env) (some (assign (.Name y py) X.env))) _ _ s
 refine wpAny_bind (wpAny_mono (xr (QQ := fun _ s' => SP X pins D .next s') (use := some (assign (.Name y py) X.env)) hc ho hi ht he hs I h fun D' C H' s' m J q hn L1 => ?_) (fun _ s' hq => wpAny_pure (wpAny_pure hq)) fun _ _ e => e)
 refine wpAny_assign_Name (xa (v := .ref D') J hN Nu hy rfl (fun s2 I2 OE => ?_) hf)
 obtain ⟨a, sb, ha⟩ := OE
 have mZ : C ≠ a := by
  rcases ha with rfl | e
  ·exact L1.2.1
  ·exact fun z => L1.2.2.2.2.1 y a e z.symm
 exact ⟨m, hn.sameBut sb mZ, fun h'' sb2 => ⟨_, H', I2.turned (t' := s2.toks) (fun b o hb e => (sb2.2 b hb).trans e) L1.1 L1.2.1 L1.2.2.2.1 L1.2.2.2.2.1 L1.2.2.2.2.2, q⟩⟩
end
section
variable {tt : TT} {te : TE} {aE : List Nat} {σ : St} {H1 : Hp} {Q : VK}
theorem yr {J : It} {D : Addr} (n : Nat) (hn : n < sizeLine) (at_ : Nat → V) (Pv : Nat → List V → Hp → Prop) (h0 : Pv 0 [] (upd H1 D (.lst [])))
  (N9 : ∀ ys H, Pv n ys H → J.stop n H) (hgo : ∀ i ys H, Pv i ys H → i < n → J.go i H) (hy : ∀ i ys H x H', Pv i ys H → i < n → J.LM i H x H' → H' = H ∧ x = at_ i)
  (hD : ∀ i ys H, Pv i ys H → H D = some (.lst ys) ∧ ys.length ≤ i)
  (hs : ∀ i ys H, i < n → Pv i ys H → tt (bW σ (some (at_ i)) aE) H fun b H2 =>
   if b = true then te (bW σ (some (at_ i)) aE) H2 fun y H3 => H3 D = some (.lst ys) ∧ Pv (i + 1) (ys ++ [y]) (upd H3 D (.lst (ys ++ [y])))
   else Pv (i + 1) ys H2)
  (hd : ∀ ys H, Pv n ys H → Q (.ref D) H) : rh tt te aE σ Q J H1 D := by
 refine ⟨fun i m ys H => m = n - i ∧ i ≤ n ∧ Pv i ys H, ⟨n, by simp, Nat.zero_le _, h0⟩, ?_⟩
 rintro i m ys H ⟨rfl, hi, p⟩
 obtain ⟨hU, hl⟩ := hD i ys H p
 refine ⟨hU, by omega, ?_⟩
 by_cases fz : i < n
 ·refine .inr ⟨hgo i ys H p fz, Pv (i + 1), fun zs H' q => ⟨n - (i + 1), by omega, rfl, fz, q⟩, fun x H' y => ?_⟩
  obtain ⟨e, e'⟩ := hy i ys H x H' p fz y
  subst e e'
  exact hs i ys _ fz p
 ·have e : i = n := by omega
  subst e
  exact .inl ⟨N9 ys H p, hd ys H p⟩
theorem eV {lo : Int} {n : Nat} {D : Addr} (hn : n < sizeLine) (Pv : Nat → List V → Hp → Prop) (h0 : Pv 0 [] (upd H1 D (.lst [])))
  (hD : ∀ i ys H, Pv i ys H → H D = some (.lst ys) ∧ ys.length ≤ i)
  (hs : ∀ i ys H, i < n → Pv i ys H → tt (bW σ (some (.int (lo + i))) aE) H fun b H2 =>
   if b = true then te (bW σ (some (.int (lo + i))) aE) H2 fun y H3 => H3 D = some (.lst ys) ∧ Pv (i + 1) (ys ++ [y]) (upd H3 D (.lst (ys ++ [y])))
   else Pv (i + 1) ys H2)
  (hd : ∀ ys H, Pv n ys H → Q (.ref D) H) : rh tt te aE σ Q (Ni lo n) H1 D :=
 yr (J := Ni lo n) (Q := Q) (D := D) (H1 := H1) n hn (fun i => .int (lo + i)) Pv h0 (fun _ _ _ => Nat.le_refl _) (fun _ _ _ _ h => h) (fun _ _ _ _ _ _ _ y => y) hD hs hd
theorem pY {K : PySem.W.Frag} {a : Addr} {xs : List V} {D : Addr} (hn : xs.length < sizeLine) (Pv : Nat → List V → Hp → Prop) (h0 : Pv 0 [] (upd H1 D (.lst [])))
  (hl : ∀ i ys H, Pv i ys H → ax K H a xs) (hD : ∀ i ys H, Pv i ys H → H D = some (.lst ys) ∧ ys.length ≤ i)
  (hs : ∀ i ys H, i < xs.length → Pv i ys H → tt (bW σ (some (xs.getD i .cL)) aE) H fun b H2 =>
   if b = true then te (bW σ (some (xs.getD i .cL)) aE) H2 fun y H3 => H3 D = some (.lst ys) ∧ Pv (i + 1) (ys ++ [y]) (upd H3 D (.lst (ys ++ [y])))
   else Pv (i + 1) ys H2)
  (hd : ∀ ys H, Pv xs.length ys H → Q (.ref D) H) : rh tt te aE σ Q (Lu K a) H1 D :=
 yr (J := Lu K a) (Q := Q) (D := D) (H1 := H1) xs.length hn (fun i => xs.getD i .cL) Pv h0 (fun ys H p => ⟨xs, hl _ ys H p, Nat.le_refl _⟩)
  (fun i ys H p h => ⟨xs, xs[i], hl i ys H p, by simp [h]⟩) (fun i ys H x H' p h y => ⟨y.1, by
   have z := y.2 xs (hl i ys H p)
   rw [Gd9, z] <;> rfl⟩) hD hs hd
end
def US (x : Str) : It := ⟨fun i _ => i < x.cps.size, fun i H v H' => H' = H ∧ ∃ c, x.cps[i]? = some c ∧ v = .str ⟨#[c]⟩, fun i _ => i = x.cps.size⟩
theorem IS {P : Program} {w : World} {K : PySem.W.Frag} {tg : Expr} (ty : String) (Nq : ty = "str_ascii_iterator" ∨ ty = "str_iterator") (it : Addr) (x : Str) (t : Tok) :
  Turn P w K tg (US x) [it] it (fun i h => h.IsStrIter it ty x t i) where
 mem := by simp
 obj := fun i h st b hb => by
  have e : b = it := by simpa using hb
  subst e
  obtain ⟨o, e, c, d⟩ := st
  exact ⟨o, e, fun v z => by rw [d] at z; cases z⟩
 keep := fun i h h' st k => by
  obtain ⟨o, e, r⟩ := st
  exact ⟨o, k it (by simp) o e, r⟩
 item := by
  intro X hP hw hK hc i pins s σ H E I hf st hg
  subst hP hw hK
  obtain ⟨f0, f1, f2, f3, f4, f5⟩ := hf it (by simp)
  have wk : Walks X.prog X.w X.A it [it] [it] x.cps.size (SignAt x) (fun i h => h.IsStrIter it ty x t i) := by
   rcases Nq with e | e
   ·subst e; exact Walks.strAscii (I.ok.hd hc) it x t
   ·subst e; exact Walks.strWide (I.ok.hd hc) it x t
  have hn : ["enumerate", "zip", "dict_itemiterator", "dict_reverseitemiterator", "odict_iterator", "itertools.zip_longest", "itertools.pairwise"].contains ty = false := by
   rcases Nq with e | e
   ·subst e; decide
   ·subst e; decide
  refine wk.item i s _ E hg st fun v h' tk hv xf kk => ?_
  obtain ⟨c, u, UI, rfl⟩ := hv
  have I1 : Inv X pins σ H { s with heap := h', toks := tk } := I.turned (fun b o hb e => kk b o (by simpa using hb) e) f0 f1 f3 f4 f5
  obtain ⟨o, e, ec, d⟩ := id xf
  exact ⟨_, rfl, Fh (s := { s with heap := h', toks := tk }) e ec d hn ⟨.str ⟨#[c]⟩, H, I1, ⟨u, rfl⟩, ⟨rfl, c, UI, rfl⟩, xf, fun b hb => (hf b hb).1⟩⟩
 done := by
  intro X hP hw hK hc i pins s σ H E I hf st hg
  subst hP hw hK
  obtain ⟨f0, f1, f2, f3, f4, f5⟩ := hf it (by simp)
  have wk : Walks X.prog X.w X.A it [it] [it] x.cps.size (SignAt x) (fun i h => h.IsStrIter it ty x t i) := by
   rcases Nq with e | e
   ·subst e; exact Walks.strAscii (I.ok.hd hc) it x t
   ·subst e; exact Walks.strWide (I.ok.hd hc) it x t
  have hi : i = x.cps.size := hg
  subst hi
  exact wk.done s _ E st fun h' tk kk => ⟨rfl, I.turned (fun b o hb e => kk b o (by simpa using hb) e) f0 f1 f3 f4 f5⟩
 self := fun A i s Q E st h => by
  rcases Nq with e | e
  ·subst e; exact wpAny_pyIter_striter_ascii st h
  ·subst e; exact wpAny_pyIter_striter_wide st h
def V9 (tl : TE) : TI := fun σ H R => tl σ H fun x H1 => ∃ z, x = .str z ∧ R (US z) H1
section
variable {X : Cx} {tg : Expr}
theorem OG {l : Expr} {tl : TE} (hl : PE X l tl) : PI X tg l (V9 tl) := by
 intro pins s σ H R I h
 refine thn (hl pins s σ H _ I h) fun v s1 ⟨x, H1, I1, r1, q1⟩ => ?_
 obtain ⟨z, e, q⟩ := q1
 subst e
 obtain ⟨t, rfl⟩ := r1
 have fin : ∀ ty, (ty = "str_ascii_iterator" ∨ ty = "str_iterator") → VC X pins σ tg R (.ref s1.heap.objs.size) { s1 with heap := s1.heap.push { cls := .type ty, data := .fields #[.str z t, .int 0 0] } } := fun ty Nq => by
  refine ⟨s1.heap.objs.size, [s1.heap.objs.size], _, _, H1, rfl, I1.kept (t' := s1.toks) fun b o e => Heap.get?_push_of_some _ e, IS ty Nq _ z t, ⟨_, Heap.get?_push_size _ rfl, rfl, rfl⟩, fun b hb => ?_, q⟩
  have e : b = s1.heap.objs.size := by simpa using hb
  subst e
  exact I1.sV (Nat.le_refl _) (I1.bB.fresh (Nat.le_refl _))
 cases ha : z.cps.all (· < 128)
 ·exact wpAny_pyIter_wide ha (fin _ (.inr rfl))
 ·exact wpAny_pyIter_ascii ha (fin _ (.inl rfl))
end
theorem IT {tt : TT} {te : TE} {aE : List Nat} {σ : St} {H1 : Hp} {Q : VK} {x : Str} {D : Addr} (hn : x.cps.size < sizeLine) (Pv : Nat → List V → Hp → Prop) (h0 : Pv 0 [] (upd H1 D (.lst [])))
  (hD : ∀ i ys H, Pv i ys H → H D = some (.lst ys) ∧ ys.length ≤ i)
  (hs : ∀ i ys H, i < x.cps.size → Pv i ys H → tt (bW σ (some (.str ⟨#[x.cps.getD i 0]⟩)) aE) H fun b H2 =>
   if b = true then te (bW σ (some (.str ⟨#[x.cps.getD i 0]⟩)) aE) H2 fun y H3 => H3 D = some (.lst ys) ∧ Pv (i + 1) (ys ++ [y]) (upd H3 D (.lst (ys ++ [y])))
   else Pv (i + 1) ys H2)
  (hd : ∀ ys H, Pv x.cps.size ys H → Q (.ref D) H) : rh tt te aE σ Q (US x) H1 D :=
 yr (J := US x) (Q := Q) (D := D) (H1 := H1) x.cps.size hn (fun i => .str ⟨#[x.cps.getD i 0]⟩) Pv h0 (fun _ _ _ => rfl) (fun _ _ _ _ h => h)
  (fun i ys H v H' p h y => ⟨y.1, by
   obtain ⟨c, e, rfl⟩ := y.2
   rw [Array.getD_eq_getD_getElem?, e] <;> rfl⟩) hD hs hd
section
variable {X : Cx}
theorem tu {zs : List Str} : ∀ {us : List Value}, Vals (zs.map V.str) us → StrsAre us zs := by
 induction zs with
 | nil => intro us r; rw [List.map_nil] at r; cases r; exact .nil
 | cons z zs ih =>
  intro us r
  rw [List.map_cons] at r
  cases r with
  | cons r1 r2 =>
   obtain ⟨t, e⟩ := r1
   subst e
   exact .cons z t (ih r2)
def rJoin (K : PySem.W.Frag) : V → List V → Hp → VK → Prop := fun x vs H Q => ∃ sep l zs, x = .str sep ∧ vs = [.ref l] ∧ (ax K H l (zs.map V.str) ∨ cM K H l (zs.map V.str)) ∧ (zs.map (·.length)).sum + zs.length * sep.length ≤ 16777216 ∧ Q (.str (Txt.join sep zs)) H
theorem su : Ou X "str.join" (rJoin X.K) := by
 intro pins s σ H x vs v us Q I rx rv h
 obtain ⟨sep, l, zs, rfl, rfl, hq, hz, q⟩ := h
 obtain ⟨t, rfl⟩ := rx
 obtain ⟨u, rfl, ru⟩ := vals1 rv
 cases ru
 rcases hq with hq | hq
 ·obtain ⟨its, r', pl, _⟩ := I.list hq
  exact join_list (items := its.toArray) pl.isList (tu r') hz fun t' k => ⟨.str _, H, I.tok _, ⟨t', rfl⟩, q⟩
 ·obtain ⟨its, r', pl, _⟩ := I.tuple hq
  exact join_tuple (items := its.toArray) pl (tu r') hz fun t' k => ⟨.str _, H, I.tok _, ⟨t', rfl⟩, q⟩
theorem Bv {bs : List Bool} : ∀ {us : List Value}, Vals (bs.map V.bl) us → us = bs.map Value.bool := by
 induction bs with
 | nil => intro us r; rw [List.map_nil] at r; cases r; rfl
 | cons z zs ih =>
  intro us r
  rw [List.map_cons] at r
  cases r with
  | cons r1 r2 =>
   have e : _ = Value.bool z := r1
   rw [e, ih r2]
   rfl
theorem all_range (bs : List Bool) : ((List.range bs.length).all fun i => (bs[i]?).getD true) = bs.all id := by
 rw [Bool.eq_iff_iff, List.all_eq_true, List.all_eq_true]
 constructor
 ·intro h b hb
  obtain ⟨i, hi, rfl⟩ := List.getElem_of_mem hb
  have z := h i (List.mem_range.mpr hi)
  simpa [hi] using z
 ·intro h i hi
  have Nv := List.mem_range.mp hi
  have z := h _ (List.getElem_mem Nv)
  simpa [Nv] using z
theorem IU : ib X (.builtin "all") (fun xs H Q => ∃ (p : Addr) (bs : List Bool), xs = [.ref p] ∧ X.calm = true ∧ ax X.K H p (bs.map V.bl) ∧ Q (.bl (bs.all id)) H) := by
 intro pins s σ H xs us Q I r h
 obtain ⟨p, bs, rfl, hc, hq, q⟩ := h
 obtain ⟨u, rfl, rx⟩ := vals1 r
 cases rx
 obtain ⟨its, r', pl, hz⟩ := I.list hq
 have ei := Bv r'
 have fz : p < s.heap.objs.size := by
  obtain ⟨_, e, _⟩ := pl.isList
  exact Heap.lt_size e
 refine call_all_walk (wpAny_pyIter_list pl.isList ?_)
 refine ⟨s.heap.objs.size, [s.heap.objs.size, p], [s.heap.objs.size], its.toArray.size, _, _, fun i => (bs[i]?).getD true, rfl, Walks.list (A := X.A.in1) (I.ok.hd hc) _ p (Nat.ne_of_lt fz) its.toArray,
  ⟨⟨_, Heap.get?_push_size _ rfl, rfl, rfl⟩, pl.isList.push _⟩, fun i v s' Q' E' hP hQ => ?_, fun h' tk hk => ?_⟩
 ·have L3 : its[i]? = some v := by simpa using hP
  rw [ei, List.getElem?_map] at L3
  cases hb : bs[i]? with
  | none => rw [hb] at L3; cases L3
  | some b =>
   rw [hb] at L3
   have ev : Value.bool b = v := Option.some.inj L3
   subst ev
   simp only [hb, Option.getD_some] at hQ
   exact wpAny_truthy_bool hQ
 ·have el : its.toArray.size = bs.length := by rw [List.size_toArray, ei, Lm9]
  rw [el, all_range]
  refine ⟨.bl (bs.all id), H, I.kept (t' := tk) fun b o e => hk b o (fun hm => ?_) (Heap.get?_push_of_some _ e), rfl, q⟩
  rw [List.mem_singleton.mp hm] at e
  exact Nat.lt_irrefl _ (Heap.lt_size e)
end
end L2
namespace L2
open PySem PySem.Spec PyProof.Rows
section
variable {X : Cx}
def Wa : V → Option Int → Option Int → Hp → VK → Prop := fun x lo hi H Q => ∃ z, x = .str z ∧ z.length ≤ sizeLine ∧ Q (.str (Txt.slice z lo hi)) H
theorem part_of {v : Value} {o : Option Int} (p : IsPart v o) : ∃ q : Option (Int × Tok), v = partValue q ∧ q.map (·.1) = o := by
 cases p with
 | none => exact ⟨none, rfl, rfl⟩
 | int i t => exact ⟨some (i, t), rfl, rfl⟩
theorem OH : Q6 X Wa := by
 intro pins s σ H x v vl vu lo hi sl Q I rx hs pl pu h
 obtain ⟨z, rfl, hz, q⟩ := h
 obtain ⟨t, rfl⟩ := rx
 obtain ⟨ql, rfl, el⟩ := part_of pl
 obtain ⟨qu, rfl, eu⟩ := part_of pu
 refine ⟨"str", _, F.slot_str_getitem.lookup, typeIs_str _ _ _, wpAny_getItem_str_slice (l := ql) (u := qu) (st := none) hs rfl ?_⟩
 have e : sliceMade z t ql qu none = if ((1 : Int) == 1 && (Builtin.Str.strSliceIndices lo hi 1 z.length).length == z.length) = true then .val (.str z t) else .str ⟨((Builtin.Str.strSliceIndices lo hi 1 z.length).filterMap (z.cps[·]?)).toArray⟩ := by
  unfold sliceMade slicePicked
  rw [el, eu]
  rfl
 rw [e]
 exact post_val_or_str ⟨Nat.le_trans (Txt.slice_le z lo hi) hz, fun t' k => ⟨.str (Txt.slice z lo hi), H, I.tok _, ⟨t', rfl⟩, q⟩⟩
theorem GK {z : Str} {i j : Int} (h0 : 0 ≤ i) (h1 : i ≤ j) (h2 : j ≤ z.length) : (Txt.slice z (some i) (some j)).cps.toList = (z.cps.toList.drop i.toNat).take (j - i).toNat := by
 have e := eq_of_beq (slice_closesL (x := z) h0 h1 h2)
 rw [e]
end
inductive Dt where
 | cL | bl (b : Bool) | int (i : Int) | str (x : Str) | tup (ds : List Dt)
 deriving Inhabited
inductive Qe (K : PySem.W.Frag) (H : Hp) : Dt → V → Prop
 | cL : Qe K H .cL .cL
 | bl (b : Bool) : Qe K H (.bl b) (.bl b)
 | int (i : Int) : Qe K H (.int i) (.int i)
 | str (x : Str) : Qe K H (.str x) (.str x)
 | tup {ds : List Dt} {xs : List V} {a : Addr} (h : cM K H a xs) (l : ds.length = xs.length) (r : ∀ (i : Nat) (h1 : i < ds.length) (h2 : i < xs.length), Qe K H ds[i] xs[i]) : Qe K H (.tup ds) (.ref a)
theorem cM.same {K : PySem.W.Frag} {H H' : Hp} (e : ag H H') {a : Addr} {xs : List V} (h : cM K H a xs) : cM K H' a xs := by
 rcases h with (h | ⟨o, h⟩) | h
 ·exact .inl (.inl (e _ _ h))
 ·exact .inl (.inr ⟨o, e _ _ h⟩)
 ·exact .inr h
end L2
namespace L2
open PySem PySem.Spec PyProof.Rows
def bf (P : Program) (w : World) (K : PySem.W.Frag) (mg : Str → Option Value) (base : Heap) (x : Str) (k : Nat) (ps : List Str) (sp : Sp) : Prop :=
 ∃ f fd, aW P w K mg base cS k f fd ps sp ∧ Binds K fd ps [] ∧ PySem.W.keepIn K (.ref f) = true ∧ mg x = some (.ref f)
def L4 (P : Program) (w : World) (K : PySem.W.Frag) (mg : Str → Option Value) (base : Heap) (x : Str) (C : Addr) (k : Nat) (ps : List Str) (sp : Sp) : Prop :=
 ∃ f fd, Mk K C f ∧ aW P w K mg base cS k f fd ps sp ∧ Binds K fd ps [] ∧ mg x = some (.ref C)
def Met (P : Program) (w : World) (K : PySem.W.Frag) (mg : Str → Option Value) (base : Heap) (C : Addr) (m : Str) (k : Nat) (ps : List Str) (sp : Sp) : Prop :=
 ∃ f fd, C8 K C ∧ Meth K C m f ∧ aW P w K mg base cS k f fd ps sp ∧ Binds K fd ps []
section
variable {X : Cx} {k : Nat} {C : Addr} {ps : List Str} {sp : Sp} {x m : Str} {p pos apos : Pos} {e o : Expr} {es : List Expr} {ta : TE} {t : TA}
theorem ak (c : bf X.prog X.w X.K X.mg X.base x k ps sp) (hr : di k X.A) (hg : Gl X x) (ha : PA X (e :: es) t) (Gz : (x == ("__debug__" : Str)) = false := by decide) (he : starEach (e :: es) X.env = (false, eval e X.env) :: starEach es X.env := by rfl) (C9 : (backTo pos (starEach es X.env)).any (·.1) = false := by rfl) :
  PE X (.Call (.Name x p) (e :: es) [] pos) (Nm sp [] E0 t) := by
 obtain ⟨f, fd, F, b, kp, mg⟩ := c
 exact LQ F hr hg mg kp b .nil Ft ha Gz he C9
theorem oJ (c : L4 X.prog X.w X.K X.mg X.base x C k ps sp) (hr : di (k + 1) X.A) (hg : Gl X x) (ha : PA X (e :: es) t) (Gz : (x == ("__debug__" : Str)) = false := by decide) (he : starEach (e :: es) X.env = (false, eval e X.env) :: starEach es X.env := by rfl) (C9 : (backTo pos (starEach es X.env)).any (·.1) = false := by rfl) :
  PE X (.Call (.Name x p) (e :: es) [] pos) (Nn C sp [] E0 t) := by
 obtain ⟨f, fd, M, F, b, mg⟩ := c
 exact LS M F hr hg mg b .nil Ft ha Gz he C9
theorem Rt {pl : Sem Bool} (he : PE X o ta) (c : Met X.prog X.w X.K X.mg X.base C m k ps sp) (hr : di k X.A) (ha : PA X (e :: es) t)
  (N9 : starEach (e :: es) X.env = (false, eval e X.env) :: starEach es X.env := by rfl) (C9 : (backTo pos (starEach es X.env)).any (·.1) = false := by rfl)
  (ht : eval (.Call (.Attribute o m apos) (e :: es) [] pos) X.env = (do
   let ov ← eval o X.env
   standAt apos.atName
   let (f, first) ← holding [ov] (getMethod ov m pl)
   callWith pos f first (backTo pos (starEach (e :: es) X.env)) (backToKw pos (keywordEach [] X.env))) := by rfl) :
  PE X (.Call (.Attribute o m apos) (e :: es) [] pos) (Fm C m sp [] E0 ta t) := by
 obtain ⟨f, fd, cl, M, F, b⟩ := c
 exact LR he cl M F hr b .nil Ft ha N9 C9 ht
theorem GL {pl : Sem Bool} (he : PE X o ta) (c : Met X.prog X.w X.K X.mg X.base C m k ps sp) (hr : di k X.A)
  (ht : eval (.Call (.Attribute o m apos) [] [] pos) X.env = (do
   let ov ← eval o X.env
   standAt apos.atName
   let (f, first) ← holding [ov] (getMethod ov m pl)
   callWith pos f first (backTo pos (starEach [] X.env)) (backToKw pos (keywordEach [] X.env))) := by rfl) :
  PE X (.Call (.Attribute o m apos) [] [] pos) (Fm C m sp [] E0 ta yk) := by
 obtain ⟨f, fd, cl, M, F, b⟩ := c
 exact IH he cl M F hr b .nil Ft ht
end
end L2
namespace L2
open PySem PySem.Spec PyProof.Rows
section
variable {X : Cx}
theorem xt : ∀ {l : List (Str × Tok)} {zs : List Str}, l.map (·.1) = zs → Vals (zs.map V.str) (strValues l)
 | [], _, e => by subst e; exact .nil
 | p :: r, _, e => by
  subst e
  exact .cons ⟨p.2, rfl⟩ (xt rfl)
def OI : V → List V → Hp → VK → Prop := fun x vs H Q => ∃ z y, x = .str z ∧ vs = [.str y] ∧ (y.length == 0) = false ∧ z.length ≤ sizeLine ∧ (Txt.split z y).length ≤ sizeLine ∧ ∀ l, H l = none → Q (.ref l) (upd H l (.lst ((Txt.split z y).map V.str)))
open Builtin Builtin.Str in
theorem IV {prog : Program} {w : World} {A : Around} {E : Value → Shared → Prop} {s : Shared} {x y : Str} {t u : Tok} {Q : Value → Shared → Prop} (hy : (y.length == 0) = false) (hsz : x.length ≤ sizeLine) (L5 : (Txt.split x y).length ≤ sizeLine)
  (h : ∀ l k, l.map (·.1) = Txt.split x y → Q (.ref s.heap.objs.size) { s with heap := s.heap.push { cls := .type "list", data := .seq (strValues l).toArray }, toks := k }) :
  wpAny (model prog w) A (call (.builtin "str.split") [.str x t, .str y u]) Q E s := by
 unfold Txt.split at L5 h
 cases h1 : (decide (x.length < y.length) || decide (strKind x < strKind y))
 ·rw [if_neg (ne_true_of_eq_false h1)] at L5 h
  cases hf : (occurrences x y 0 x.length (x.length + 1)).isEmpty
  ·rw [if_neg (ne_true_of_eq_false hf)] at L5 h
   refine call_meets PySem.F.slot_str_split (typeIs_str _ _ _) PySem.F.entry_str_split (PySem.F.args_str_split_2 _ _) (meets_str_split_sep x y t u h1 hy hf hsz L5) ?_
   show wants Q E _ { s with toks := _, heap := s.heap.push { cls := .type "list", data := .seq (strsFrom s.toks (partsBetween x (occurrences x y 0 x.length (x.length + 1)) y.length)).toArray } }
   rw [strsFrom_eq]
   exact h (numbered s.toks _) _ (numbered_texts _ _)
  ·rw [if_pos hf] at h
   exact call_meets PySem.F.slot_str_split (typeIs_str _ _ _) PySem.F.entry_str_split (PySem.F.args_str_split_2 _ _) (meets_str_split_not_found x y t u h1 hy hf) (h [(x, t)] s.toks rfl)
 ·rw [if_pos h1] at h
  exact call_meets PySem.F.slot_str_split (typeIs_str _ _ _) PySem.F.entry_str_split (PySem.F.args_str_split_2 _ _) (meets_str_split_cannot_occur x y t u h1) (h [(x, t)] s.toks rfl)
theorem IW : Ou X "str.split" OI := by
 intro pins s σ H x vs v us Q I rx rv h
 obtain ⟨z, y, rfl, rfl, hy, h1, h2, q⟩ := h
 obtain ⟨t, rfl⟩ := rx
 obtain ⟨u, rfl, t', rfl⟩ := vals1 rv
 refine IV hy h1 h2 fun l k e => ?_
 have hf : H s.heap.objs.size = none := I.bB.fresh (Nat.le_refl _)
 refine ⟨.ref s.heap.objs.size, upd H s.heap.objs.size (.lst ((Txt.split z y).map V.str)), I.laid (t' := k) (fun b u e => Heap.get?_push_of_some _ e) (Nat.le_refl _) ?_, rfl, q _ hf⟩
 exact ⟨by rw [Lm9]; exact h2, strValues l, 0, xt e, Heap.get?_push_size _ rfl⟩
def OJ : V → List V → Hp → VK → Prop := fun x vs H Q => ∃ z y, x = .str z ∧ vs = [.str y] ∧ z.length ≤ sizeLine ∧ Q (.str (Txt.stripChars z y)) H
theorem IX : Ou X "str.strip" OJ := by
 intro pins s σ H x vs v us Q I rx rv h
 obtain ⟨z, y, rfl, rfl, h1, q⟩ := h
 obtain ⟨t, rfl⟩ := rx
 obtain ⟨u, rfl, t', rfl⟩ := vals1 rv
 exact SC.stripChars (fun t2 k => ⟨.str _, H, I.tok _, ⟨t2, rfl⟩, q⟩) h1
theorem vN : ib X (.type "int") (fun xs H Q => ∃ z n, xs = [.str z] ∧ PySem.intText? z = some n ∧ z.length ≤ 640 ∧ Q (.int n) H) := by
 intro pins s σ H xs us Q I r h
 obtain ⟨z, n, rfl, hn, hl, q⟩ := h
 obtain ⟨u, rfl, t, rfl⟩ := vals1 r
 exact PySem.W.KIN.call_text hn hl ⟨.int n, H, I.tok _, ⟨_, rfl⟩, q⟩
end
end L2
namespace L2
open PySem PySem.Spec PyProof.Rows
theorem pZ {M : Model} {A : Around} {E : Value → Shared → Prop} {s : Shared} {β : Type} {n : Nat} (f : Nat → β → Sem (ForInStep β)) (I : Nat → β → Shared → Prop) (Q : β → Shared → Prop) {b : β}
  (turn : ∀ i b s', i < n → I i b s' → wpAny M A (f i b) (fun r rK => match r with | .done b' => Q b' rK | .yield b' => I (i + 1) b' rK) E s')
  (fin : ∀ b s', I n b s' → Q b s') (h : I 0 b s) : wpAny M A (forIn [0:n] b f) Q E s := by
 rw [Std.Legacy.Range.forIn_eq_forIn_range']
 have hsz : ([0:n] : Std.Legacy.Range).size = n := by simp [Std.Legacy.Range.size]
 show wpAny M A (forIn (List.range' 0 ([0:n] : Std.Legacy.Range).size 1) b f) Q E s
 rw [hsz]
 refine wpAny_forIn_list f (fun rest b s' => ∃ i, i ≤ n ∧ rest = List.range' i (n - i) 1 ∧ I i b s') Q ?_ ?_ _ _ ⟨0, Nat.zero_le _, by simp, h⟩
 ·rintro x rest b s' ⟨i, hi, er, hI⟩
  have fz : i < n := by
   cases e : n - i with
   | zero => rw [e] at er; cases er
   | succ m => omega
  have e2 : n - i = (n - (i + 1)) + 1 := by omega
  rw [e2, List.range'_succ] at er
  injection er with e3 e4
  subst e3
  refine wpAny_mono (turn x b s' fz hI) (fun r rK q => ?_) fun _ _ q => q
  cases r with
  | done b' => exact q
  | yield b' => exact ⟨x + 1, fz, e4, q⟩
 ·rintro b s' ⟨i, hi, er, hI⟩
  have : i = n := by
   cases e : n - i with
   | zero => omega
   | succ m => rw [e, List.range'_succ] at er; cases er
  subst this
  exact fin b s' hI
open SeqAt in
theorem vO (l : Addr) (items : Array Value) (n : Nat) (dd : Option Addr) (sl : Array (Option Value)) (x : Value) (e : Value → Bool) (j : Nat) (hj : j < items.size) (hit : e items[j] = true) (Oq : ∀ m (hm : m < items.size), m < j → e items[m] = false) :
  Meets (Builtin.«tuple.index» ⟨[.ref l, x], []⟩)
   (fun A R s => s.heap.get? l = some { cls := .type "tuple", dict := dd, data := .seq items n, slots := sl } ∧ (∀ y, y ∈ items → EqAt A.in1 s y x (e y)) ∧ R (.ok (.ret (.int (j : Nat) s.toks))) { s with toks := s.toks + 1 }) :=
 .of_wp fun prog w A R s h => by
  obtain ⟨hp, g, d, tk, os⟩ := s; obtain ⟨hl, he, h⟩ := h
  wp_walk using wpAny_loadPart' hl, pZ _ (fun i b s' => b.1 = none ∧ s' = ⟨hp, g, d, tk, os⟩ ∧ i ≤ j) _
  case turn =>
   rintro i b s' hi ⟨hb, rfl, Wb⟩
   have Nv : i < items.size := by omega
   rw [Array.getElem?_eq_getElem Nv]
   refine wpAny_bind (he items[i] (Array.getElem_mem Nv) prog w _ _ ?_)
   by_cases hy : i = j
   ·subst hy
    rw [hit]
    wp_walk
    exact ⟨_, rfl, h⟩
   ·rw [Oq i Nv (by omega)]
    wp_walk
    exact ⟨rfl, rfl, by omega⟩
  case fin =>
   rintro ⟨b1, b2⟩ s' ⟨hb, rfl, Wb⟩
   omega
  case h =>
   exact ⟨rfl, rfl, Nat.zero_le _⟩
end L2
namespace L2
open PySem PySem.Spec PyProof.Rows
theorem L6 {tt : TT} {te : TE} {aE : List Nat} {σ : St} {H1 : Hp} {Q : VK} {K : PySem.W.Frag} {a : Addr} {xs : List V} {D : Addr} (hn : xs.length < sizeLine) (vF : H1 D = none) (hl : ax K H1 a xs) (kp : V → Bool) (f : V → V)
  (ht : ∀ x H' R, x ∈ xs → ag H1 H' → (∀ m8, ag H' m8 → R (kp x) m8) → tt (bW σ (some x) aE) H' R)
  (he : ∀ x H' R, x ∈ xs → kp x = true → ag H1 H' → (∀ m8, ag H' m8 → R (f x) m8) → te (bW σ (some x) aE) H' R)
  (hd : ∀ H', ag H1 H' → H' D = some (.lst ((xs.filter kp).map f)) → Q (.ref D) H') : rh tt te aE σ Q (Lu K a) H1 D := by
 refine pY (K := K) (a := a) (xs := xs) hn (fun i ys H' => ag H1 H' ∧ H' D = some (.lst ys) ∧ ys = ((xs.take i).filter kp).map f) ⟨fun b o e => by rw [aq (aH e vF)]; exact e, ae, rfl⟩
  (fun i ys H' p => p.1.seq hl) (fun i ys H' p => ⟨p.2.1, ?_⟩) (fun i ys H' hi p => ?_) (fun ys H' p => ?_)
 ·rw [p.2.2, Lm9]
  refine Nat.le_trans (List.length_filter_le _ _) ?_
  rw [List.length_take]
  omega
 ·have hx : xs.getD i .cL = xs[i] := by rw [Gd9, Ge9 hi]; rfl
  rw [hx]
  have hm : xs[i] ∈ xs := List.getElem_mem hi
  have step : ∀ b, kp xs[i] = b → ((xs.take (i + 1)).filter kp).map f = ((xs.take i).filter kp).map f ++ (if b = true then [f xs[i]] else []) := fun b hb => by
   rw [List.take_succ_eq_append_getElem hi, List.filter_append, List.map_append]
   cases b with
   | true => rw [if_pos rfl]; simp [hb]
   | false => rw [if_neg (by decide)]; simp [hb]
  refine ht _ _ _ hm p.1 fun H2 s2 => ?_
  cases hb : kp xs[i] with
  | true =>
   refine nE ?_
   refine he _ _ _ hm hb (ag.trans p.1 s2) fun H3 s3 => ?_
   refine ⟨s3 _ _ (s2 _ _ p.2.1), fun b o e => ?_, ae, ?_⟩
   ·rw [aq (aH e vF)]
    exact s3 _ _ (s2 _ _ (p.1 _ _ e))
   ·rw [step true hb, if_pos rfl, p.2.2]
  | false =>
   refine bO ⟨ag.trans p.1 s2, s2 _ _ p.2.1, ?_⟩
   rw [step false hb, if_neg (by decide), List.append_nil]
   exact p.2.2
 ·rw [p.2.2, List.take_length] at p
  exact hd H' p.1 p.2.1
end L2
namespace HT
open PySem PySem.Spec PyProof.Rows
section
variable {prog : Program} {w : World} {A : Around} {E : Value → Shared → Prop} {s : Shared}
theorem oK {t sl : Addr} {items : Array Value} {vl vu : Value} {lo hi : Option Int} {Q : Value → Shared → Prop} (ht : IsTup s.heap t items) (hs : s.heap.IsSliceOf sl vl vu .none) (pl : IsPart vl lo) (pu : IsPart vu hi)
  (hw : dj items.size 0 lo = 0 ∧ dj items.size items.size hi = items.size) (h : Q (.ref t) s) : wpAny (model prog w) A (getItem (.ref t) (.ref sl)) Q E s := by
 obtain ⟨os, GD, UP, Q4⟩ := id hs
 have VR : s.TypeIs (.ref sl) "slice" := ⟨os, GD, UP⟩
 unfold getItem
 try with_reducible refine wpAny_holding ?_
 first | refine wpAny_bind (wpAny_pure ?_) | skip
 refine wpAny_bind (wpAny_sequenceKey ht.typeIs (by decide) ?_)
 refine wpAny_bind (wpAny_callSpecial?_slot (name := Str.ofString "__getitem__") ht.typeIs PyProof.Rows.slot_tuple_getitem
  (wpAny_call_entry PyProof.Rows.slot_tuple_getitem ht.typeIs entry_tuple_getitem ?_ (args_tuple_getitem _ _)))
 show wpAny _ _ (Builtin.Tuple.tupleItemsOf (.ref t) >>= _) _ _ s
 refine wpAny_bind (tupleItemsOf_ ht ?_)
 refine wpAny_bind (wpAny_typeOf VR ?_)
 rw [if_pos (by decide)]
 refine wpAny_bind (i6 hs pl pu ?_)
 have Wc : (((dj items.size 0 lo : Nat) : Int) == 0 && (1 : Int) == 1 && (dj items.size items.size hi - dj items.size 0 lo) == items.size) = true := by
  rw [hw.1, hw.2]
  simp
 show wpAny _ _ (if (((dj items.size 0 lo : Nat) : Int) == 0 && (1 : Int) == 1 && (dj items.size items.size hi - dj items.size 0 lo) == items.size) = true then _ else _) _ _ s
 rw [if_pos Wc]
 unfold Builtin.Tuple.tupleIsExact
 refine wpAny_bind (wpAny_bind (wpAny_typeOf ht.typeIs (wpAny_pure ?_)))
 rw [if_pos (by decide)]
 refine wpAny_bind (wpAny_rule ?_)
 first
  | exact wpAny_pure ⟨_, rfl, wpAny_pure h⟩
  | exact wpAny_bind (wpAny_pure (wpAny_pure ⟨_, rfl, wpAny_pure h⟩))
end
end HT
namespace L2
open PySem PySem.Spec PyProof.Rows
section
variable {X : Cx}
def Wd (K : PySem.W.Frag) : V → Option Int → Option Int → Hp → VK → Prop := fun x lo hi H Q => ∃ a xs, x = .ref a ∧ cM K H a xs ∧ ∀ p H', ag H H' → cM K H' p (hV xs lo hi) → Q (.ref p) H'
theorem L7 : Q6 X (Wd X.K) := by
 intro pins s σ H x v vl vu lo hi sl Q I rx hs pl pu h
 obtain ⟨a, xs, rfl, hx, q⟩ := h
 by_cases hw : HT.dj xs.length 0 lo = 0 ∧ HT.dj xs.length xs.length hi = xs.length
 ·cases rx
  obtain ⟨its, r, ht, hz⟩ := I.tuple hx
  have hlen : its.toArray.size = xs.length := by rw [List.size_toArray]; exact r.length.symm
  refine ⟨"tuple", _, PyProof.Rows.slot_tuple_getitem.lookup, ht.typeIs, ?_⟩
  refine HT.oK ht hs pl pu (by rw [hlen]; exact hw) ⟨.ref a, H, I, rfl, q a H (ag.refl H) ?_⟩
  unfold hV
  rw [hw.1, hw.2, List.drop_zero, Nat.sub_zero, List.take_length]
  exact hx
 ·exact Ot pins s σ H (.ref a) v vl vu lo hi sl Q I rx hs pl pu ⟨a, xs, rfl, hx, hw, fun p hp => q p _ (fun b o e => by rw [aq (aH e hp)]; exact e) (cM.of ae)⟩
theorem tw {xs : List V} {k : Nat} (h : k ≤ xs.length) : hV xs (some (k : Int)) none = xs.drop k := by
 unfold hV
 rw [HT.yl, HT.IK, Nat.min_eq_left h, List.take_of_length_le]
 rw [List.length_drop]
 omega
end
end L2
namespace L2
open PySem PySem.Spec PyProof.Rows
theorem tD (l : Addr) (xs : Array Value) (n : Nat) (b : Addr) (ys : Array Value) (k : Nat) (dd : Option Addr) (sl : Array (Option Value)) (few : ¬(!xs.isEmpty && Builtin.List.listTooLong (xs.size + ys.size)) = true) (h1 : xs.size ≤ sizeLine) (h2 : xs.size + ys.size ≤ sizeLine + 1) :
  Meets (Builtin.«list.extend» ⟨[.ref l, .ref b], []⟩)
   (fun _ R st => st.heap.get? l = some { cls := .type "list", dict := none, data := .seq xs n, slots := #[] } ∧ st.heap.get? b = some { cls := .type "tuple", dict := dd, data := .seq ys k, slots := sl } ∧
    R (.ok (.ret Value.none)) { st with heap := st.heap.update l (Obj.mapSeq fun x => x ++ ys), toks := st.toks }) :=
 .of_wp fun prog w A R st h => by
  obtain ⟨hp, gs, dr, tk, os⟩ := st
  obtain ⟨gl, gb, hR⟩ := h
  have i1 := AutoSeq1.idx_int
  have i2 := AutoSeq1.sub_tuple_tuple
  have i3 := AutoSeq1.sub_list_list
  have i4 := AutoSeq1.sub_tuple_list
  have i5 := AutoSeq1.sub_list_tuple
  have both : (xs ++ ys).size ≤ sizeLine + 1 := by rw [Array.size_append]; exact h2
  wp_walk using (wpAny_updateSeq gl rfl (hz := h1) (_hz' := both)), AutoSeq1.wpAny_loadPart' gl, AutoSeq1.wpAny_loadPart' gb
  exact ⟨_, rfl, hR⟩
section
variable {X : Cx}
def IY (K : PySem.W.Frag) : V → List V → Hp → VK → Prop := fun x vs H Q => ∃ l b xs zs, x = .ref l ∧ vs = [.ref b] ∧ H l = some (.lst xs) ∧ cM K H b zs ∧ xs.length + zs.length ≤ sizeLine ∧ Q .cL (upd H l (.lst (xs ++ zs)))
theorem tE : Ou X "list.extend" (IY X.K) := by
 intro pins s σ H x vs v us Q I rx rv h
 obtain ⟨l, b, xs, zs, rfl, rfl, hH, hB, hz, q⟩ := h
 cases (show v = Value.ref l from rx)
 obtain ⟨u, rfl, ru⟩ := vals1 rv
 cases (show u = Value.ref b from ru)
 obtain ⟨z, its, n, r, hl, e⟩ := I.Dw hH
 obtain ⟨kK, r2, pl, z2⟩ := I.tuple hB
 obtain ⟨⟨oc, od, dat, sl⟩, e2, hc, n2, hd⟩ := id pl
 simp only at hc hd
 subst hc hd
 have rg := r2.length
 have hsz : its.toArray.size + kK.toArray.size ≤ sizeLine := by rw [List.size_toArray, List.size_toArray]; omega
 have Bq : ¬ (!its.toArray.isEmpty && Builtin.List.listTooLong (its.toArray.size + kK.toArray.size)) = true := by
  rw [tf hsz, Bool.and_false]
  exact Bool.false_ne_true
 refine call_meets PySem.F.slot_list_extend ⟨_, e, rfl⟩ PySem.F.entry_list_extend (PySem.F.args_list_extend_2 _ _)
  (tD l its.toArray n b kK.toArray n2 od sl Bq (by rw [List.size_toArray]; omega) (by omega)) ⟨e, e2, ?_⟩
 refine ⟨.cL, _, I.Oz (its' := its ++ kK) hH e (by simp) (r.append r2) ?_, rfl, q⟩
 rw [List.length_append]
 omega
end
end L2
namespace L2
open PySem PySem.Spec PyProof.Rows
section
variable {X : Cx} {K : PySem.W.Frag} {o e : Expr} {f : Str} {pos : Pos} {ta : TE}
theorem L8 (hK : X.K = K) (he : PE X e ta) (hb : attributeBase e f X.env (eval e X.env) = eval e X.env) : PE X (.Attribute e f pos) (tFld K ta f) := by
 subst hK
 exact pe_fld he hb
end
end L2
namespace L2
open PySem PySem.Spec PyProof.Rows
section
variable {κ : Type} [DecidableEq κ]
def bG (kvs : List (κ × V)) (k : κ) : Option V := (kvs.find? fun kv => decide (kv.1 = k)).map (·.2)
def putK (kvs : List (κ × V)) (k : κ) (v : V) : List (κ × V) :=
 if (kvs.any fun kv => decide (kv.1 = k)) = true then kvs.map (fun kv => if kv.1 = k then (kv.1, v) else kv) else kvs ++ [(k, v)]
theorem kW {p : κ × V} {r : List (κ × V)} {k : κ} (e : p.1 = k) : bG (p :: r) k = some p.2 := by simp [bG, List.find?_cons, e]
theorem kX {p : κ × V} {r : List (κ × V)} {k : κ} (e : ¬ p.1 = k) : bG (p :: r) k = bG r k := by simp [bG, List.find?_cons, e]
theorem i7 (k : κ) : ∀ kvs : List (κ × V), (kvs.any fun kv => decide (kv.1 = k)) = (bG kvs k).isSome
 | [] => rfl
 | p :: r => by
  rw [List.any_cons]
  by_cases e : p.1 = k
  ·simp only [kW e, decide_eq_true e, Bool.true_or, Option.isSome_some]
  ·rw [kX e, decide_eq_false e, Bool.false_or]; exact i7 k r
theorem kY (kvs : List (κ × V)) (k : κ) (v : V) : (putK kvs k v).length ≤ kvs.length + 1 := by
 unfold putK
 split
 ·rw [Lm9]; omega
 ·rw [List.length_append, List.length_cons, List.length_nil]; omega
theorem Bw {kvs : List (κ × V)} {k : κ} (v : V) (h : bG kvs k = none) : putK kvs k v = kvs ++ [(k, v)] := by
 unfold putK
 rw [i7, h]
 exact if_neg (by decide)
theorem kJ.p0 {o : Option V} {u : Option Value} (r : kJ o u) : o.isSome = u.isSome := by
 cases o with
 | none => cases u with
  | none => rfl
  | some _ => exact (show False from r).elim
 | some _ => cases u with
  | none => exact (show False from r).elim
  | some _ => rfl
theorem kJ.getD {o : Option V} {u : Option Value} {d : V} {d' : Value} (r : kJ o u) (rd : RelV d d') : RelV (o.getD d) (u.getD d') := by
 cases o with
 | none => cases u with
  | none => exact rd
  | some _ => exact (show False from r).elim
 | some _ => cases u with
  | none => exact (show False from r).elim
  | some _ => exact r
theorem KV.val {kvs : List (κ × V)} {vs : List (κ × Value)} (r : KV kvs vs) (k : κ) : kJ (bG kvs k) (valueAt vs k) := by
 unfold KV at r
 induction r with
 | nil => exact True.intro
 | @cons p q ps qs h t ih =>
  obtain ⟨h1, h2⟩ := h
  by_cases e : p.1 = k
  ·have e' : q.1 = k := h1.symm.trans e
   have b : valueAt (q :: qs) k = some q.2 := by simp [valueAt, List.find?_cons, e']
   rw [kW e, b]; exact h2
  ·have e' : ¬ q.1 = k := fun z => e (h1.trans z)
   have b : valueAt (q :: qs) k = valueAt qs k := by simp [valueAt, List.find?_cons, e']
   rw [kX e, b]; exact ih
theorem KV.any {kvs : List (κ × V)} {vs : List (κ × Value)} (r : KV kvs vs) (k : κ) : (kvs.any fun kv => decide (kv.1 = k)) = vs.any fun kv => decide (kv.1 = k) := by
 unfold KV at r
 induction r with
 | nil => rfl
 | cons h t ih => rw [List.any_cons, List.any_cons, ih, h.1]
theorem KV.OK {kvs : List (κ × V)} {vs : List (κ × Value)} (r : KV kvs vs) (k : κ) {y : V} {u : Value} (ry : RelV y u) :
  KV (kvs.map fun kv => if kv.1 = k then (kv.1, y) else kv) (vs.map fun kv => if kv.1 = k then (kv.1, u) else kv) := by
 unfold KV at r ⊢
 induction r with
 | nil => exact .nil
 | @cons p q ps qs h t ih =>
  rw [List.map_cons, List.map_cons]
  refine .cons ?_ ih
  obtain ⟨h1, h2⟩ := h
  by_cases e : p.1 = k
  ·rw [if_pos e, if_pos (h1.symm.trans e)]; exact ⟨h1, ry⟩
  ·rw [if_neg e, if_neg (fun z => e (h1.trans z))]; exact ⟨h1, h2⟩
theorem KV.put {kvs : List (κ × V)} {vs : List (κ × Value)} (r : KV kvs vs) (k : κ) {y : V} {u : Value} (ry : RelV y u) : KV (putK kvs k y) (stored vs k u) := by
 unfold putK stored
 rw [r.any k]
 by_cases e : (vs.any fun kv => decide (kv.1 = k)) = true
 ·rw [if_pos e, if_pos e]; exact r.OK k ry
 ·rw [if_neg e, if_neg e]; exact Paired.snoc r ⟨rfl, ry⟩
theorem KV.keys {kvs : List (κ × V)} {vs : List (κ × Value)} (r : KV kvs vs) : kvs.map (·.1) = vs.map (·.1) := by
 unfold KV at r
 induction r with
 | nil => rfl
 | cons h t ih => rw [List.map_cons, List.map_cons, ih, h.1]
theorem KV.length {kvs : List (κ × V)} {vs : List (κ × Value)} (r : KV kvs vs) : kvs.length = vs.length := Paired.length r
end
theorem xu {P : Program} {w : World} {k : Key} {u : Value} (r : RelV (kV k) u) : (bE P w).is k u = true := by
 cases k with
 | inl i => obtain ⟨t, e⟩ := (show ∃ t, u = Value.int i t from r); subst e; exact Bf P w i t
 | inr x => obtain ⟨t, e⟩ := (show ∃ t, u = Value.str x t from r); subst e; exact Bg P w x t
theorem xw {P : Program} {w : World} : ∀ {ks : List Key} {us : List Value}, Vals (ks.map kV) us → ItemsAre (bE P w) ks us
 | [], _, r => by rw [List.map_nil] at r; cases r; exact .nil
 | k :: ks, _, r => by
  rw [List.map_cons] at r
  cases r with
  | cons h t => exact .cons (xu h) (xw t)
abbrev KT (H : Hp) : List (List Key × V) → List (List Key × Addr × Value) → Prop := Paired fun p q => p.1 = q.1 ∧ H q.2.1 = some (.tup (p.1.map kV)) ∧ RelV p.2 q.2.2
theorem KT.val {H : Hp} {kvs : List (List Key × V)} {xs : List (List Key × Addr × Value)} (r : KT H kvs xs) (k : List Key) : kJ (bG kvs k) ((atKey xs k).map (·.2)) := by
 induction r with
 | nil => exact True.intro
 | @cons p q ps qs h t ih =>
  obtain ⟨h1, _, h2⟩ := h
  by_cases e : p.1 = k
  ·have e' : q.1 = k := h1.symm.trans e
   have b : atKey (q :: qs) k = some q.2 := by simp [atKey, List.find?_cons, e']
   rw [kW e, b]; exact h2
  ·have e' : ¬ q.1 = k := fun z => e (h1.trans z)
   have b : atKey (q :: qs) k = atKey qs k := by simp [atKey, List.find?_cons, e']
   rw [kX e, b]; exact ih
theorem KT.OK {H : Hp} {kvs : List (List Key × V)} {xs : List (List Key × Addr × Value)} (r : KT H kvs xs) (k : List Key) {y : V} {u : Value} (ry : RelV y u) :
  KT H (kvs.map fun kv => if kv.1 = k then (kv.1, y) else kv) (xs.map (putAt k u)) := by
 induction r with
 | nil => exact .nil
 | @cons p q ps qs h t ih =>
  rw [List.map_cons, List.map_cons]
  refine .cons ?_ ih
  obtain ⟨h1, h2, h3⟩ := h
  unfold putAt
  by_cases e : p.1 = k
  ·rw [if_pos e, if_pos (h1.symm.trans e)]; exact ⟨h1, h2, ry⟩
  ·rw [if_neg e, if_neg (fun z => e (h1.trans z))]; exact ⟨h1, h2, h3⟩
theorem KT.put {H : Hp} {kvs : List (List Key × V)} {xs : List (List Key × Addr × Value)} (r : KT H kvs xs) (k : List Key) {b : Addr} {y : V} {u : Value} (hb : H b = some (.tup (k.map kV))) (ry : RelV y u) :
  KT H (putK kvs k y) (storedH xs k b u) := by
 have e : (kvs.any fun kv => decide (kv.1 = k)) = (atKey xs k).isSome := by
  rw [i7, (r.val k).p0, Option.isSome_map]
 unfold putK storedH
 rw [e]
 by_cases q : (atKey xs k).isSome = true
 ·rw [if_pos q, if_pos q]; exact r.OK k ry
 ·rw [if_neg q, if_neg q]; exact Paired.snoc r ⟨rfl, hb, ry⟩
theorem KT.keeps {H H' : Hp} {kvs : List (List Key × V)} {xs : List (List Key × Addr × Value)} (r : KT H kvs xs) (ht : ∀ b ys, H b = some (.tup ys) → H' b = some (.tup ys)) : KT H' kvs xs :=
 Paired.bY r fun _ _ z => ⟨z.1, ht _ _ z.2.1, z.2.2⟩
section
variable {P : Program} {w : World} {H : Hp} {h : Heap} {a : Addr}
theorem Nw {u : HO} (ok : mY P w H h) (e : Rd H a u) : cQ P w H h a u := e.ok ok
theorem xx {kvs : List (Key × V)} (ok : mY P w H h) (e : Rd H a (.dK kvs)) : kvs.length ≤ sizeLine ∧ (a == sysModules) = false ∧ ∃ vs, KV kvs vs ∧ h.DictOf (bE P w) a vs :=
 show cQ P w H h a (.dK kvs) from Nw ok e
theorem Nx {kvs : List (Key × V)} (ok : mY P w H h) (e : H a = some (.dK kvs)) : kvs.length ≤ sizeLine ∧ (a == sysModules) = false ∧ ∃ vs, KV kvs vs ∧ h.DictOf (bE P w) a vs := xx ok (.inl e)
theorem tF {ks : List Key} (ok : mY P w H h) (e : H a = some (.tup (ks.map kV))) : (tupleKind (bE P w)).is h ks a := by
 obtain ⟨_, its, r, o, h1, h2, n, h3⟩ := (show cQ P w H h a (.tup (ks.map kV)) from ok a _ e)
 exact ⟨o, its.toArray, n, h1, h2, h3, by simpa using xw r⟩
theorem xy {kvs : List (List Key × V)} (ok : mY P w H h) (e : Rd H a (.dT kvs)) : kvs.length ≤ sizeLine ∧ (a == sysModules) = false ∧
  ∃ xs, KT H kvs xs ∧ h.DictOfH (tupleKind (bE P w)) a xs := by
 obtain ⟨z, y, xs, r, o, es, ep, h1, h2, h3, h4, h5⟩ := (show cQ P w H h a (.dT kvs) from Nw ok e)
 refine ⟨z, y, xs, r, o, es, ep, h1, h2, h3, h4, fun x hx => ?_, h5⟩
 have all : ∀ {l : List (List Key × V)} {m : List (List Key × Addr × Value)}, KT H l m → ∀ x ∈ m, (tupleKind (bE P w)).is h x.1 x.2.1 := by
  intro l m q
  induction q with
  | nil => intro x hx; exact nomatch hx
  | @cons p q ps qs hq t ih =>
   intro x hx
   rcases List.mem_cons.mp hx with e | hx
   ·subst e
    exact tF ok (by rw [← hq.1]; exact hq.2.1)
   ·exact ih x hx
 exact all r x hx
theorem Ru {kvs : List (List Key × V)} (ok : mY P w H h) (e : H a = some (.dT kvs)) : kvs.length ≤ sizeLine ∧ (a == sysModules) = false ∧
  ∃ xs, KT H kvs xs ∧ h.DictOfH (tupleKind (bE P w)) a xs := xy ok (.inl e)
end
def jy (H : Hp) (a : Addr) (y : V) (r : Option V) : Prop :=
 (∃ kvs k, Rd H a (.dK kvs) ∧ y = kV k ∧ r = bG kvs k) ∨ ∃ kvs k b, Rd H a (.dT kvs) ∧ y = .ref b ∧ H b = some (.tup (k.map kV)) ∧ r = bG kvs k
def GN (H : Hp) (a : Addr) (y v : V) (H' : Hp) : Prop :=
 (∃ kvs k, H a = some (.dK kvs) ∧ y = kV k ∧ kvs.length < sizeLine ∧ H' = upd H a (.dK (putK kvs k v))) ∨
 ∃ kvs k b, H a = some (.dT kvs) ∧ y = .ref b ∧ H b = some (.tup (k.map kV)) ∧ kvs.length < sizeLine ∧ H' = upd H a (.dT (putK kvs k v))
theorem jy.k {H : Hp} {a : Addr} {kvs : List (Key × V)} {k : Key} (e : H a = some (.dK kvs)) : jy H a (kV k) (bG kvs k) := .inl ⟨kvs, k, .inl e, rfl, rfl⟩
theorem GN.k {H : Hp} {a : Addr} {kvs : List (Key × V)} {k : Key} {v : V} (e : H a = some (.dK kvs)) (hl : kvs.length < sizeLine) : GN H a (kV k) v (upd H a (.dK (putK kvs k v))) := .inl ⟨kvs, k, e, rfl, hl, rfl⟩
section
variable {X : Cx} {pins : List (Addr × Obj)} {σ : St} {H : Hp} {s : Shared} {a : Addr} {y v : V} {u r : Value} {o : Option V} {A : Around} {E : Value → Shared → Prop}
theorem Inv.big (I : Inv X pins σ H s) : sysModules < s.heap.objs.size := by
 have h : mainGlobals < s.heap.objs.size := (I.mod.glob.keeps I.bk).lt
 exact Nat.lt_trans (by decide) h
theorem GO {Q : Value → Shared → Prop} (hu : A.units + 1 < cLine) (I : Inv X pins σ H s) (g : jy H a y (some v)) (ry : RelV y u) (h : ∀ w' s', Inv X pins σ H s' → RelV v w' → Q w' s') :
  wpAny (model X.prog X.w) A (getItem (.ref a) u) Q E s := by
 rcases g with ⟨kvs, k, e, ey, l⟩ | ⟨kvs, k, b, e, ey, eb, l⟩
 ·subst ey
  obtain ⟨z, hd, vs, rel, dd⟩ := xx I.bB e
  obtain ⟨w', hw, Du⟩ := kJ.some_of (v := v) (o := valueAt vs k) (by rw [l]; exact rel.val k)
  exact wpAny_getItem_of (xu ry) dd.mapOf hw (h w' _ (I.tok _) Du)
 ·subst ey
  cases (show u = Value.ref b from ry)
  obtain ⟨z, hd, xs, rel, dd⟩ := xy I.bB e
  obtain ⟨w', hw, Du⟩ := kJ.some_of (v := v) (o := (atKey xs k).map (·.2)) (by rw [l]; exact rel.val k)
  obtain ⟨p, hp, Fw⟩ := Option.map_eq_some_iff.mp hw
  refine wpAny_getItem_heap (tupleKind_room_in1 hu) (tF I.bB eb) dd hp ?_
  rw [Fw]
  exact h w' _ (I.tok _) Du
theorem L9 {Q : Value → Shared → Prop} (hu : A.units + 1 < cLine) (I : Inv X pins σ H s) (g : jy H a y o) (ry : RelV y u) (h : ∀ s', Inv X pins σ H s' → Q (.bool (!o.isSome)) s') :
  wpAny (model X.prog X.w) A (compareOp .NotIn u (.ref a)) Q E s := by
 rcases g with ⟨kvs, k, e, ey, l⟩ | ⟨kvs, k, b, e, ey, eb, l⟩
 ·subst ey
  obtain ⟨z, hd, vs, rel, dd⟩ := xx I.bB e
  refine wpAny_notIn_of (xu ry) hd dd.mapOf ?_
  rw [← (rel.val k).p0, ← l]
  exact h _ (I.tok _)
 ·subst ey
  cases (show u = Value.ref b from ry)
  obtain ⟨z, hd, xs, rel, dd⟩ := xy I.bB e
  refine wpAny_notIn_heap (tupleKind_room_in1 hu) (tF I.bB eb) hd dd ?_
  have q := (rel.val k).p0
  rw [Option.isSome_map] at q
  rw [← q, ← l]
  exact h _ (I.tok _)
theorem Fx {h' : Heap} {t' : Nat} {ob : HO} (I : Inv X pins σ H s) (mu : QA (H a)) (hs : Heap.SameBut a s.heap h') (he : ∃ q, h'.get? a = some q) (new : cQ X.prog X.w (upd H a ob) h' a ob) :
  Inv X pins σ (upd H a ob) { s with heap := h', toks := t' } :=
 I.write (x := a) (e := a) mu (.inl rfl) (fun b q hb z => (hs.2 b hb).trans z) he new
theorem OL {P : Program} {w : World} {H' : Hp} {h' : Heap} {kvs : List (Key × V)} {vs : List (Key × Value)} (z : kvs.length ≤ sizeLine) (hd : (a == sysModules) = false) (rel : KV kvs vs) (dd : h'.DictOf (bE P w) a vs) :
  cQ P w H' h' a (.dK kvs) := ⟨z, hd, vs, rel, dd⟩
theorem GP {H' : Hp} {Q : Unit → Shared → Prop} (hu : A.units + 1 < cLine) (I : Inv X pins σ H s) (g : GN H a y v H') (ry : RelV y u) (rv : RelV v r) (h : ∀ s', Inv X pins σ H' s' → Q () s') :
  wpAny (model X.prog X.w) A (setItem (.ref a) u r) Q E s := by
 rcases g with ⟨kvs, k, e, ey, l, eH⟩ | ⟨kvs, k, b, e, ey, eb, l, eH⟩
 ·subst ey eH
  obtain ⟨z, hd, vs, rel, dd⟩ := Nx I.bB e
  have hz : vs.length ≤ sizeLine := by rw [← rel.length]; exact z
  have hl : (putK kvs k v).length ≤ sizeLine := by have := kY kvs k v; omega
  refine wpAny_setItem_pairs (hsz := hz) (xu ry) dd fun h' UT hs => h _ ?_
  have he : ∃ q, h'.get? a = some q := let ⟨q, _, _, hq, _⟩ := UT; ⟨q, hq⟩
  exact Fx I (by rw [e]; exact True.intro) hs he (OL hl hd (rel.put k rv) UT)
 ·subst ey eH
  cases (show u = Value.ref b from ry)
  obtain ⟨z, hd, xs, rel, dd⟩ := Ru I.bB e
  have hz : xs.length ≤ sizeLine := by rw [← Paired.length rel]; exact z
  have hl : (putK kvs k v).length ≤ sizeLine := by have := kY kvs k v; omega
  refine wpAny_setItem_heap (hsz := hz) (tupleKind_room_in1 hu) (tF I.bB eb) dd fun h' UT hs => h _ ?_
  obtain ⟨q, es, ep, hq, h2, h3, h4, _, h5⟩ := UT
  refine Fx I (by rw [e]; exact True.intro) hs ⟨q, hq⟩ ⟨hl, hd, _, (rel.put k eb rv).keeps fun c ys ec => ?_, q, es, ep, hq, h2, h3, h4, h5⟩
  rw [aq (Bh ec e (fun z => nomatch z))]
  exact ec
end
section
variable {X : Cx} {pins : List (Addr × Obj)} {σ : St} {H : Hp} {s : Shared} {a : Addr} {kvs : List (Key × V)} {k : Key} {u : Value} {A : Around} {E : Value → Shared → Prop}
end
def Rv (i : Expr) : Prop := ∀ ov iv, subscripted i false ov iv = operate [ov, iv] (getItem ov iv)
theorem Ma {prog : Program} {w : World} {A : Around} {E : Value → Shared → Prop} {s : Shared} {env : Env} {value slice : Expr} {pos : Pos} {T id : String} {Q : Value → Shared → Prop}
  (hl : typeLookup (.type T) "__getitem__" = pure (some (.builtin id))) (hs : Rv slice)
  (h : wpAny (model prog w) A (eval value env) (fun o s₁ => wpAny (model prog w) A (eval slice env) (fun i s₂ => s₂.TypeIs o T ∧ wpAny (model prog w) A (getItem o i) Q E s₂) E s₁) E s) :
  wpAny (model prog w) A (eval (.Subscript value slice pos) env) Q E s := by
 refine Subscript_ (wpAny_mono h (fun o s₁ h₁ => wpAny_mono h₁ (fun i s₂ h₂ => ?_) fun _ _ x => x) fun _ _ x => x)
 obtain ⟨hT, h₂⟩ := h₂
 unfold subscriptTail
 refine wpAny_bind ?_
 rw [getitemInPython_of_ne hT.not_modules]
 refine wpAny_bind (wpAny_specialOf hT hl ?_)
 have fin : wpAny (model prog w) A (subscripted slice false o i) (fun r s₃ => wpAny (model prog w) A (letTemporaryGo value o r >>= fun _ => pure r) Q E s₃) E s₂ := by
  rw [hs o i]
  exact wpAny_operating (wpAny_mono h₂ (fun r s₃ h₃ => wpAny_bind (wpAny_letTemporaryGo (wpAny_pure h₃))) fun _ _ x => x)
 first
  | exact wpAny_pure (wpAny_bind fin)
  | exact wpAny_bind (wpAny_pure (wpAny_bind fin))
  | exact wpAny_bind fin
theorem Bx {X : Cx} {pins : List (Addr × Obj)} {σ : St} {H : Hp} {s : Shared} {a : Addr} {y : V} {o : Option V} (I : Inv X pins σ H s) (g : jy H a y o) : s.TypeIs (.ref a) "dict" := by
 rcases g with ⟨kvs, k, e, _, _⟩ | ⟨kvs, k, b, e, _, _, _⟩
 ·obtain ⟨_, _, vs, _, dd⟩ := xx I.bB e
  exact dd.typeIs
 ·obtain ⟨_, _, xs, _, dd⟩ := xy I.bB e
  exact dd.typeIs
def Rw (td ty : TE) : TE := fun σ H Q => td σ H fun x H1 => ty σ H1 fun y H2 => ∃ a v, x = .ref a ∧ jy H2 a y (some v) ∧ Q v H2
def Mb (ty td : TE) : TE := fun σ H Q => ty σ H fun y H1 => td σ H1 fun x H2 => ∃ a o, x = .ref a ∧ jy H2 a y o ∧ Q (.bl (!o.isSome)) H2
def Rx (td ty tv : TE) : TS := fun D σ H => tv σ H fun v H1 => td σ H1 fun x H2 => ty σ H2 fun y H3 => ∃ a H4, x = .ref a ∧ GN H3 a y v H4 ∧ D.nx σ H4
section
variable {X : Cx} {o i e value : Expr} {pos pos' IF : Pos} {td ty tv : TE}
theorem Mc (hu : X.A.units + 1 < cLine) (ho : PE X o td) (hi : PE X i ty) (hs : Rv i) : PE X (.Subscript o i pos) (Rw td ty) := by
 intro pins s σ H Q I h
 refine Ma PySem.F.slot_dict_getitem.lookup hs (thn (ho pins s σ H _ I h) fun u s1 ⟨x, H1, I1, rx, q1⟩ => thn (hi pins s1 σ H1 _ I1 q1) fun iv s2 ⟨y, H2, I2, ry, a, v, ex, g, q2⟩ => ?_)
 subst ex
 obtain rfl : u = Value.ref a := rx
 exact ⟨Bx I2 g, GO hu I2 g ry fun w' s3 I3 Du => ⟨v, H2, I3, Du, q2⟩⟩
theorem p8 (hu : X.A.units + 1 < cLine) (hi : PE X i ty) (ho : PE X o td) : PC X .NotIn i o (Mb ty td) := by
 intro pins s σ H Q I h
 refine thn (hi pins s σ H _ I h) fun iv s1 ⟨y, H1, I1, ry, q1⟩ => thn (ho pins s1 σ H1 _ I1 q1) fun u s2 ⟨x, H2, I2, rx, a, ov, ex, g, q2⟩ => ?_
 subst ex
 obtain rfl : u = Value.ref a := rx
 exact L9 hu I2 g ry fun s3 I3 => ⟨.bl (!ov.isSome), H2, I3, rfl, q2⟩
theorem Fy (hu : X.A.units + 1 < cLine) (ho : PE X o td) (hi : PE X i ty) (hv : PE X value tv) (hs : swapsWith value (some (.Subscript o i pos')) pos.line X.env = pure false) :
  PS X (.Assign [.Subscript o i pos'] value pos) (Rx td ty tv) := by
 intro pins s σ H D I h
 refine wpAny_Assign_Subscript (thn (hv pins s σ H _ I h) fun r s1 ⟨v, H1, I1, rv, q1⟩ => thn (ho pins s1 σ H1 _ I1 q1) fun u s2 ⟨x, H2, I2, rx, q2⟩ => thn (hi pins s2 σ H2 _ I2 q2) fun iv s3 ⟨y, H3, I3, ry, a, H4, ex, g, q3⟩ => ?_) hs
 subst ex
 obtain rfl : u = Value.ref a := rx
 exact GP hu I3 g ry rv fun s4 I4 => ⟨σ, H4, I4, q3⟩
end
theorem IZ {P : Program} {w : World} {H : Hp} (h : Heap) (hb : sysModules < h.objs.size) : cQ P w H (h.push { cls := .type "dict", data := .dict #[] }) h.objs.size (.dK []) :=
 ⟨Nat.zero_le _, beq_eq_false_iff_ne.mpr (Ne.symm (Nat.ne_of_lt hb)), [], .nil, Heap.DictOf.new h⟩
def OM : TE := fun _ H Q => ∀ p, H p = none → Q (.ref p) (upd H p (.dK []))
section
variable {X : Cx} {pos : Pos}
theorem By : PE X (.Dict [] [] pos) OM := fun pins s σ H Q I h =>
 wpAny_Dict_empty ⟨.ref s.heap.objs.size, _, I.laid (a := s.heap.objs.size) (o := .dK []) (t' := s.toks) (fun _ _ q => Heap.get?_push_of_some _ q) (Nat.le_refl _) (IZ s.heap I.big), rfl, h _ (I.bB.fresh (Nat.le_refl _))⟩
end
abbrev VV : List (V × V) → List (Value × Value) → Prop := Paired fun p q => RelV p.1 q.1 ∧ RelV p.2 q.2
def iq (kvs more : List (Key × V)) : List (Key × V) := more.foldl (fun acc kv => putK acc kv.1 kv.2) kvs
structure M1 (X : Cx) (o : Expr) (m : Str) (apos : Pos) (e : Expr) (cpos : Pos) : Prop where
 base : attributeBase o m X.env (eval o X.env) = eval o X.env
 few : ((backTo cpos (starEach [e] X.env)).all (fun x => !x.1) && (backToKw cpos (keywordEach [] X.env)).all (fun x => x.1.isSome)
  && decide (([e] : List Expr).length + ([] : List Keyword).length + (if ([] : List Keyword).isEmpty then 0 else 1) < 30)) = true
 line : (apos.endLine == cpos.line) = true
 trees : backTo cpos (starEach [e] X.env) = [(false, eval e X.env)]
structure M2 (X : Cx) (o : Expr) (m : Str) (apos : Pos) (e f : Expr) (cpos : Pos) : Prop where
 base : attributeBase o m X.env (eval o X.env) = eval o X.env
 few : ((backTo cpos (starEach [e, f] X.env)).all (fun x => !x.1) && (backToKw cpos (keywordEach [] X.env)).all (fun x => x.1.isSome)
  && decide (([e, f] : List Expr).length + ([] : List Keyword).length + (if ([] : List Keyword).isEmpty then 0 else 1) < 30)) = true
 line : (apos.endLine == cpos.line) = true
 trees : backTo cpos (starEach [e, f] X.env) = [(false, eval e X.env), (false, eval f X.env)]
def Ry (H : Hp) (a : Addr) : Prop := (∃ kvs, Rd H a (.dK kvs)) ∨ ∃ kvs, Rd H a (.dT kvs)
theorem Md {X : Cx} {pins : List (Addr × Obj)} {σ : St} {H : Hp} {s : Shared} {a : Addr} (I : Inv X pins σ H s) (d : Ry H a) :
  s.TypeIs (.ref a) "dict" ∧ (∀ b, Value.ref a = .ref b → ∃ ob, s.heap.get? b = some ob ∧ ob.dict = none) ∧ (a == sysModules) = false := by
 rcases d with ⟨kvs, e⟩ | ⟨kvs, e⟩
 ·obtain ⟨_, hd, vs, _, dd⟩ := xx I.bB e
  refine ⟨dd.typeIs, fun b q => ?_, hd⟩
  cases q
  obtain ⟨ob, _, _, h1, h2, _⟩ := dd
  exact ⟨ob, h1, h2.2.1⟩
 ·obtain ⟨_, hd, xs, _, dd⟩ := xy I.bB e
  refine ⟨dd.typeIs, fun b q => ?_, hd⟩
  cases q
  obtain ⟨ob, _, _, h1, h2, _⟩ := dd
  exact ⟨ob, h1, h2.2.1⟩
section
variable {X : Cx} {pins : List (Addr × Obj)} {σ : St} {H : Hp} {s : Shared} {a : Addr} {y d : V} {u r : Value} {o : Option V} {A : Around} {E : Value → Shared → Prop}
theorem ON {Q : Value → Shared → Prop} (hu : A.units + 1 < cLine) (I : Inv X pins σ H s) (g : jy H a y o) (ry : RelV y u) (rd : RelV d r) (h : ∀ w' s', Inv X pins σ H s' → RelV (o.getD d) w' → Q w' s') :
  wpAny (model X.prog X.w) A (call (.builtin "dict.get") [.ref a, u, r]) Q E s := by
 rcases g with ⟨kvs, k, e, ey, l⟩ | ⟨kvs, k, b, e, ey, eb, l⟩
 ·subst ey
  obtain ⟨z, hd, vs, rel, dd⟩ := xx I.bB e
  refine call_meetsIn PySem.F.slot_dict_get dd.typeIs PySem.F.entry_dict_get (PySem.F.args_dict_get_3 _ _ _) (meets_dict_get_default (bE X.prog X.w) a (xu ry) hd r) ⟨_, dd.mapOf, h _ _ (I.tok _) ?_⟩
  rw [l]
  exact (rel.val k).getD rd
 ·subst ey
  cases (show u = Value.ref b from ry)
  obtain ⟨z, hd, xs, rel, dd⟩ := xy I.bB e
  refine call_meetsIn PySem.F.slot_dict_get dd.typeIs PySem.F.entry_dict_get (PySem.F.args_dict_get_3 _ _ _) (meetsH_dict_get_default (tupleKind (bE X.prog X.w)) a b hd r) ⟨tupleKind_room_in1 hu, k, xs, tF I.bB eb, dd, h _ _ (I.tok _) ?_⟩
  rw [l]
  exact (rel.val k).getD rd
end
def OO (td ty tx : TE) : TE := fun σ H Q => td σ H fun x H1 => ∃ a, x = .ref a ∧ Ry H1 a ∧ ty σ H1 fun y H2 => tx σ H2 fun z H3 => ∃ o, jy H3 a y o ∧ Q (o.getD z) H3
section
variable {X : Cx} {o e f : Expr} {apos cpos : Pos} {td ty tx : TE}
theorem kZ (hu : X.A.units + 1 < cLine) (ho : PE X o td) (he : PE X e ty) (hf : PE X f tx) (m : M2 X o "get" apos e f cpos) : PE X (.Call (.Attribute o "get" apos) [e, f] [] cpos) (OO td ty tx) := by
 intro pins s σ H Q I h
 refine wpAny_Call_method m.base m.few m.line PySem.F.plainAttrs_dict PySem.F.slot_dict_get PySem.F.type_dict_get (thn (ho pins s σ H _ I h) fun u s1 ⟨x, H1, I1, rx, a, ex, d, q1⟩ => ?_)
 subst ex
 obtain rfl : u = Value.ref a := rx
 obtain ⟨t1, t2, _⟩ := Md I1 d
 refine ⟨t1, t2, ?_⟩
 rw [m.trees]
 refine Calls.callWith_builtin rfl (Calls.evalArgs_plain (Calls.spliced_cons (thn (he pins s1 σ H1 _ I1 q1) fun iv s2 ⟨y, H2, I2, ry, q2⟩ =>
  Calls.spliced_cons (thn (hf pins s2 σ H2 _ I2 q2) fun fv s3 ⟨z, H3, I3, rz, ov, g, q3⟩ => Calls.spliced_nil ?_))))
 exact ON hu I3 g ry rz fun w' s4 I4 Du => ⟨_, H3, I4, Du, q3⟩
end
section
variable {X : Cx} {pins : List (Addr × Obj)} {σ : St} {H : Hp} {s : Shared} {a : Addr} {kvs : List (Key × V)} {A : Around} {E : Value → Shared → Prop}
end
section
variable {X : Cx} {pins : List (Addr × Obj)} {σ : St} {H : Hp} {s : Shared} {a : Addr} {y : V} {u : Value} {A : Around} {E : Value → Shared → Prop}
end
end L2
namespace L2
open PySem PySem.Spec PyProof.Rows
section
variable {X : Cx}
end
section
variable {κ : Type} [DecidableEq κ]
theorem Me {kvs : List (κ × V)} {k : κ} {v : V} (h : bG kvs k = some v) : k ∈ kvs.map (·.1) := by
 have q : (kvs.any fun kv => decide (kv.1 = k)) = true := by
  rw [i7, h]
  all_goals rfl
 obtain ⟨p, hp, e⟩ := List.any_eq_true.mp q
 exact List.mem_map.mpr ⟨p, hp, of_decide_eq_true e⟩
end
end L2
namespace L2
open PySem PySem.Spec PyProof.Rows
theorem OP {prog : Program} {w : World} {A : Around} {E : Value → Shared → Prop} {s : Shared} {a : Addr} {o : Obj} {xs : Array Value} {k : Nat} {Q : Option Value → Shared → Prop}
  (hx : s.heap.get? a = some o) (hc : o.cls = .type "list") (Rz : o.data = .seq xs k) (hd : o.dict = none) (hA : A.handled = none)
  (h : ∀ h' tk e, Heap.NewExcOf s.heap h' e "AttributeError" → Q none { s with heap := h', toks := tk }) :
  wpAny (model prog w) A (getAttr? (.ref a) "keys") Q E s := by
 obtain ⟨c, dct, dat, sl⟩ := o
 simp only at hc Rz hd
 subst hc Rz hd
 obtain ⟨hp, g, d, tk, os⟩ := s
 have hT : ∀ tk', (⟨hp, g, d, tk', os⟩ : Shared).TypeIs (.ref a) "list" := fun _ => ⟨_, hx, rfl⟩
 have f1 := sub_AttributeError
 have f3 := PySem.F.slot_list_getattribute.lookup
 have f4 := PySem.F.slot_list_getattribute.bind (.ref a)
 have f5 := am_list_getattr_none
 have hmiss : typeLookup (.type "list") "keys" = pure none := by rw [typeLookup_type, builtinLookup_eq_fast]; kernel_rfl
 unfold getAttr? getAttrBy? getAttrBy
 repeat (any_goals (first | assumption | exact hT _ | ((with_reducible show wpAny _ _ (call (Value.builtin "list.__getattribute__") _ _) _ _ _); refine call_meets PySem.F.slot_list_getattribute (hT _) am_entry_list_getattribute (PySem.F.args_list_getattribute_2 _ _) (meets_getattribute_miss_list a xs k sl "keys" _ hmiss (by decide +kernel) (by decide)) ⟨hx, hA, fun h' tk' e hx' => ?_⟩) | wp_step))
 obtain ⟨t', u', he⟩ := hx'.there
 show wpAny _ _ (getattributeRaised _ _ _ _ _ _ _) _ _ _
 unfold getattributeRaised
 repeat (any_goals (first | assumption | wp_step))
 exact h _ _ _ hx'.of
end L2
namespace L2
open PySem PySem.Spec PyProof.Rows
theorem entry_dul : entryFor table "dict.update.loop" = some Builtin.«dict.update.loop» := entryFor_of_tree (by kernel_rfl)
theorem plain_dul : plainId "dict.update.loop" = true := by decide +kernel
theorem paired_at {α β : Type} {F : α → β → Prop} : ∀ {l1 : List α} {l2 : List β}, Paired F l1 l2 → ∀ i (h1 : i < l1.length) (h2 : i < l2.length), F l1[i] l2[i]
 | _, _, .cons h _, 0, _, _ => h
 | _, _, .cons _ t, i + 1, h1, h2 => paired_at t i (by simpa using h1) (by simpa using h2)
theorem tG : ∀ (ps : List (Key × V)), (iq [] ps).length ≤ ps.length := by
 have key : ∀ (ps acc : List (Key × V)), (iq acc ps).length ≤ acc.length + ps.length := by
  intro ps
  induction ps with
  | nil => intro acc; exact Nat.le_refl _
  | cons p r ih =>
   intro acc
   have z := ih (putK acc p.1 p.2)
   have z2 : (putK acc p.1 p.2).length ≤ acc.length + 1 := kY acc p.1 p.2
   show (iq (putK acc p.1 p.2) r).length ≤ _
   rw [List.length_cons]
   omega
 intro ps
 have z := key ps []
 simpa using z
section
variable {X : Cx} {pins : List (Addr × Obj)} {σ : St} {H : Hp} {s : Shared} {a it l : Addr} {ys : List V} {its : List Value} {ps : List (Key × V)}
def Fz (K : PySem.W.Frag) (H : Hp) (ps : List (Key × V)) (ys : List V) : Prop := Paired (fun (p : Key × V) (y : V) => ∃ t, y = .ref t ∧ cM K H t [kV p.1, p.2]) ps ys
theorem Mf {A : Around} {R : Result → Shared → Prop} (I : Inv X pins σ H s) (hh : A.handled = none) (hl : s.heap.IsList l its.toArray) (rv : Vals ys its) (hP : Fz X.K H ps ys) (hlen : ps.length ≤ 100000)
  (ha : s.heap.objs.size ≤ a) (We : s.heap.objs.size ≤ it) (mZ : a ≠ it)
  (fin : ∀ h' tk vs, (∀ b o, s.heap.get? b = some o → h'.get? b = some o) → h'.DictOf (bE X.prog X.w) a vs → KV (iq [] ps) vs → R (.ok (.ret .none)) { s with heap := h', toks := tk }) :
  ∀ (k i : Nat) (h' : Heap) (tk : Nat) (vs : List (Key × Value)), its.length - i = k → i ≤ its.length → (∀ b o, s.heap.get? b = some o → h'.get? b = some o) → h'.IsListIter it l i → h'.DictOf (bE X.prog X.w) a vs → KV (iq [] (ps.take i)) vs →
   wpAny (model X.prog X.w) A.in1 (Builtin.«dict.update.loop» ⟨[.ref a, .ref it, rawInt (i : Int), .none], []⟩) (fun fin s' => match fin with | .done f => R (.ok f) s' | .again c' => c'.quiet = true ∧ codeAny (model X.prog X.w) A c' R s') (fun e s' => R (.error e) s') { s with heap := h', toks := tk } := by
 have RA := rv.length
 have rg := Paired.length hP
 have lt : ∀ b o, s.heap.get? b = some o → b ≠ a ∧ b ≠ it := fun b o q => by
  exact ⟨Nat.ne_of_lt (Nat.lt_of_lt_of_le (Heap.lt_size q) ha), Nat.ne_of_lt (Nat.lt_of_lt_of_le (Heap.lt_size q) We)⟩
 obtain ⟨ol, UU, tH⟩ := id hl
 intro k
 induction k with
 | zero =>
  intro i h' tk vs hk hi kp hit hD hK
  obtain rfl : i = its.length := by omega
  unfold Builtin.«dict.update.loop»
  dsimp only [rawInt]
  refine wpAny_bind (wpAny_pyNext_list_end (s := { s with heap := h', toks := tk }) (A := A.in1) hh hit (show h'.IsList l its.toArray from ⟨ol, kp _ _ UU, tH⟩) (by simp) fun h2 RB => ?_)
  dsimp only
  have k0 : h2.DictOf (bE X.prog X.w) a vs := hD.extBut RB mZ
  show wpAny _ _ (Builtin.Dict.addKeywords a [] >>= _) _ _ _
  refine wpAny_bind (wpAny_pure (wpAny_pure ?_))
  exact fin h2 tk vs (fun b o q => RB b o (lt b o q).2 (kp b o q)) k0 (by rw [← RA, ← rg, List.take_length] at hK; exact hK)
 | succ k ih =>
  intro i h' tk vs hk hi kp hit hD hK
  have RC : i < its.length := by omega
  have Yy : i < ps.length := by omega
  unfold Builtin.«dict.update.loop»
  dsimp only [rawInt]
  refine wpAny_bind (wpAny_pyNext_list_item (s := { s with heap := h', toks := tk }) (x := its[i]) hit (show h'.IsList l its.toArray from ⟨ol, kp _ _ UU, tH⟩) (by simp [RC]) fun h1 RD OE => ?_)
  dsimp only
  have Qf : ∀ b o, s.heap.get? b = some o → h1.get? b = some o := fun b o q => (OE.2 b (lt b o q).2).trans (kp b o q)
  have I1 : Inv X pins σ H { s with heap := h1, toks := tk } := I.kept Qf
  have UW : h1.DictOf (bE X.prog X.w) a vs := hD.sameBut OE mZ
  obtain ⟨u1, f1, q1⟩ := rv.get (i := i) (x := ys[i]'(by omega)) (by simp)
  have eu : its[i] = u1 := (List.getElem?_eq_some_iff.mp f1).2
  obtain ⟨t, et, hq⟩ : ∃ t, ys[i]'(by omega) = .ref t ∧ cM X.K H t [kV (ps[i]).1, (ps[i]).2] := by
   have z := hP
   unfold Fz at z
   exact paired_at z i Yy (by omega)
  rw [et] at q1
  have eu2 : its[i] = .ref t := by rw [eu]; exact q1
  rw [eu2]
  obtain ⟨itt, rt, pl, _⟩ := I1.tuple hq
  obtain ⟨uk, uv, rfl, rk, rvv⟩ := vals2 rt
  obtain ⟨ot, Yz, hct, n, hdt⟩ := id pl
  have hTt : Shared.TypeIs { s with heap := h1, toks := tk } (.ref t) "tuple" := ⟨ot, Yz, hct⟩
  refine wpAny_bind (wpAny_holding (wpAny_bind ?_))
  have hpi : ∀ {E' : Value → Shared → Prop} {Q' : List Value → Shared → Prop}, Q' [uk, uv] { s with heap := h1, toks := tk } → wpAny (model X.prog X.w) A.in1 (Builtin.Dict.pairItems (.ref t)) Q' E' { s with heap := h1, toks := tk } := fun {E' Q'} GA => by
   unfold Builtin.Dict.pairItems
   refine wpAny_bind (wpAny_typeOf hTt ?_)
   rw [if_pos (by decide)]
   refine wpAny_bind (wpAny_seqItems Yz hdt (wpAny_pure ?_))
   exact GA
  refine wpAny_tryCatch (hpi ?_)
  dsimp only
  have hsz : vs.length ≤ sizeLine := by
   have z := hK.length
   have z2 := tG (ps.take i)
   rw [List.length_take] at z2
   exact Nat.le_trans (show vs.length ≤ 100000 by omega) (show 100000 ≤ sizeLine by rw [sizeLine_eq]; decide)
  refine wpAny_holding (wpAny_dictSet_pairs (hsz := hsz) (xu rk) UW fun h2 k0 RE => ?_)
  have Ny : ∀ b o, s.heap.get? b = some o → h2.get? b = some o := fun b o q => (RE.2 b (lt b o q).1).trans (Qf b o q)
  have OQ : h2.IsListIter it l (i + 1) := by
   obtain ⟨o, ho, r⟩ := RD
   exact ⟨o, (RE.2 it (Ne.symm mZ)).trans ho, r⟩
  refine wpAny_pure ?_
  refine ⟨plainId_quiet plain_dul _, codeAny_builtin entry_dul ?_⟩
  rw [Around.under_plainId plain_dul _]
  refine ih (i + 1) h2 (tk + 1) _ (by omega) (by omega) Ny OQ k0 ?_
  rw [List.take_succ_eq_append_getElem Yy]
  unfold iq
  rw [List.foldl_append]
  exact hK.put _ rvv
theorem rO (hc : X.calm = true) : ib X (.type "dict") (fun xs H Q => ∃ (l : Addr) (ys : List V) (ps : List (Key × V)), xs = [.ref l] ∧ H l = some (.lst ys) ∧ Fz X.K H ps ys ∧ ps.length ≤ 100000 ∧ ∀ d, H d = none → Q (.ref d) (upd H d (.dK (iq [] ps)))) := by
 intro pins s σ H xs us Q I r h
 obtain ⟨l, ys, ps, rfl, hl, hP, hlen, q⟩ := h
 obtain ⟨u, rfl, ru⟩ := vals1 r
 cases (show u = Value.ref l from ru)
 have hh := I.ok.hd hc
 obtain ⟨hz, its, n, rv, hg⟩ := (show cQ X.prog X.w H s.heap l (.lst ys) from I.bB l _ hl)
 have hf : H s.heap.objs.size = none := I.bB.fresh (Nat.le_refl _)
 refine callType_codes (Q₁ := fun obj s₁ => obj = .ref s.heap.objs.size ∧ s₁ = { s with heap := s.heap.push { cls := .type "dict", data := .dict #[] } }) PySem.F.kt_called_dict (PySem.F.kt_typeCall_dict_1 _) PySem.F.entry_dict_init (kt_code_dict_new _ ⟨rfl, rfl⟩) ?_
 rintro obj s₁ ⟨rfl, rfl⟩
 have Dx : (s.heap.push { cls := .type "dict", data := .dict #[] }).DictOf (bE X.prog X.w) s.heap.objs.size [] := Heap.DictOf.new s.heap
 refine ⟨Dx.typeIs, PySem.F.args_dict_init_2 _ _, ?_⟩
 unfold Builtin.«dict.__init__»
 refine wpAny_bind ?_
 unfold Builtin.Dict.selfAndRest
 refine wpAny_bind (wpAny_notOrdered_dict Dx.typeIs ?_)
 show wpAny _ _ (pure (s.heap.objs.size, [Value.ref l])) _ _ _
 refine wpAny_pure ?_
 show wpAny _ _ (Builtin.Dict.updateFrom "dict.__init__" s.heap.objs.size (.ref l) [] .none) _ _ _
 unfold Builtin.Dict.updateFrom
 have Wf : (s.heap.push { cls := .type "dict", data := .dict #[] }).get? l = some { cls := .type "list", data := .seq its.toArray n } := Heap.get?_push_of_some _ hg
 refine wpAny_bind (wpAny_typeOf (T := "list") ⟨_, Wf, rfl⟩ ?_)
 rw [if_pos (by decide)]
 refine wpAny_bind (OP Wf rfl rfl rfl hh fun h1 YA e hx => ?_)
 rw [if_pos (show (none : Option Value).isNone = true from rfl)]
 refine wpAny_bind (wpAny_rule ?_)
 have hg2 := hx.keeps _ _ Wf
 have hd2 : h1.DictOf (bE X.prog X.w) s.heap.objs.size [] := by
  obtain ⟨o, es, ep, ho, r⟩ := Dx
  exact ⟨o, es, ep, hx.keeps _ _ ho, r⟩
 have RG : s.heap.objs.size < h1.objs.size := by
  obtain ⟨o, es, ep, ho, r⟩ := hd2
  exact Heap.lt_size ho
 have rP : h1.IsList l its.toArray := ⟨_, hg2, rfl, n, rfl⟩
 refine wpAny_bind (wpAny_pyIter_list (s := { s with heap := h1, toks := YA }) rP ?_)
 refine wpAny_pure ⟨plainId_quiet plain_dul _, codeAny_builtin entry_dul ?_⟩
 rw [Around.under_plainId plain_dul _]
 have kp0 : ∀ b o, s.heap.get? b = some o → (h1.push { cls := .type "list_iterator", data := .fields #[.ref l, .int 0 0] }).get? b = some o := fun b o q => Heap.get?_push_of_some _ (hx.keeps _ _ (Heap.get?_push_of_some _ q))
 refine Mf (A := X.A.in1) (its := its) (a := s.heap.objs.size) (it := h1.objs.size) I hh ⟨_, hg, rfl, n, rfl⟩ rv hP hlen (Nat.le_refl _) (Nat.le_of_lt RG) (Nat.ne_of_lt RG) (fun h' tk vs kp hD hK => ?_)
  its.length 0 (h1.push { cls := .type "list_iterator", data := .fields #[.ref l, .int 0 0] }) YA [] (by omega) (Nat.zero_le _) kp0 ⟨_, Heap.get?_push_size _ rfl, rfl, rfl⟩ (hd2.push _) .nil
 refine ⟨rfl, .ref s.heap.objs.size, upd H s.heap.objs.size (.dK (iq [] ps)), I.laid (t' := tk) kp (Nat.le_refl _) ?_, rfl, q _ hf⟩
 refine ⟨Nat.le_trans (tG ps) (Nat.le_trans hlen (by rw [sizeLine_eq]; decide)), ?_, vs, hK, hD⟩
 exact beq_eq_false_iff_ne.mpr (Nat.ne_of_gt I.big)
end
end L2
namespace L2
open PySem PySem.Spec PyProof.Rows
section
variable {X : Cx}
theorem RH {P : Program} {w : World} {k : Key} {u : Value} (r : (bE P w).is k u = true) : RelV (kV k) u := by
 rcases bS (k := k) (v := u) r with ⟨i, t, rfl, rfl⟩ | ⟨x, t, rfl, rfl⟩
 ·exact ⟨t, rfl⟩
 ·exact ⟨t, rfl⟩
theorem yt : ∀ {xs : List V} {us : List Value}, us.length = xs.length → (∀ (j : Nat) (v : Value), us[j]? = some v → ∃ x, xs[j]? = some x ∧ RelV x v) → Vals xs us
 | [], [], _, _ => .nil
 | x :: xs, u :: us, hl, h => by
  obtain ⟨y, e, r⟩ := h 0 u rfl
  cases e
  exact .cons r (yt (by simpa using hl) fun j v e => h (j + 1) v (by simpa using e))
theorem tI (hc : X.calm = true) : ib X (.type "list") (fun xs H Q => ∃ (d : Addr) (kvs : List (Key × V)), xs = [.ref d] ∧ H d = some (.dK kvs) ∧ ∀ l, H l = none → Q (.ref l) (upd H l (.lst (kvs.map fun p => kV p.1)))) := by
 intro pins s σ H xs us Q I r h
 obtain ⟨d, kvs, rfl, hd, q⟩ := h
 obtain ⟨u, rfl, ru⟩ := vals1 r
 cases (show u = Value.ref d from ru)
 obtain ⟨hz, lo, vs, hK, hD⟩ := Nx I.bB hd
 obtain ⟨o, es, ep, ho, rr⟩ := hD
 have hf : H s.heap.objs.size = none := I.bB.fresh (Nat.le_refl _)
 have hl := hK.length
 refine PySem.W.kdl_call (PySem.W.kdl_dict (knd := bE X.prog X.w) (kvs := vs) (ep := ep) lo) (I.ok.hd hc) ⟨o, es, ho, rr⟩ (by omega) fun h' tk acc c' kp hg tJ => ?_
 refine ⟨.ref s.heap.objs.size, upd H s.heap.objs.size (.lst (kvs.map fun p => kV p.1)), I.laid (t' := tk) kp (Nat.le_refl _) ?_, rfl, q _ hf⟩
 refine ⟨by rw [Lm9]; exact hz, acc.toList, c', yt ?_ fun j v e => ?_, by simpa using hg⟩
 ·rw [Lm9, Array.length_toList, tJ.1, hl]
 ·obtain ⟨k, x, e1, e2⟩ := tJ.2 j v (by rw [← Array.getElem?_toList]; exact e)
  have ek : (kvs.map (·.1))[j]? = some k := by
   rw [hK.keys, List.getElem?_map, e1]
   rfl
  rw [List.getElem?_map] at ek
  cases e3 : kvs[j]? with
  | none => rw [e3] at ek; cases ek
  | some p =>
   rw [e3] at ek
   have e4 : p.1 = k := Option.some.inj ek
   exact ⟨kV p.1, by rw [List.getElem?_map, e3]; rfl, by rw [e4]; exact RH e2⟩
def Mg (K : PySem.W.Frag) : V → List V → Hp → VK → Prop := fun x vs H Q => ∃ (p : Addr) (xs : List V) (y : V) (j : Nat), x = .ref p ∧ vs = [y] ∧ cM K H p xs ∧ eU y = true ∧ xs.all eU = true ∧ (∃ z, xs[j]? = some z ∧ vE z y = true) ∧ (∀ m z, m < j → xs[m]? = some z → vE z y = false) ∧ Q (.int j) H
theorem I0 : Ou X "tuple.index" (Mg X.K) := by
 intro pins s σ H x vs v us Q I rx rv h
 obtain ⟨p, xs, y, j, rfl, rfl, hq, fy, fx, ⟨z, ez, hz⟩, Oq, q⟩ := h
 cases (show v = Value.ref p from rx)
 obtain ⟨u, rfl, ru⟩ := vals1 rv
 obtain ⟨its, r, pl, _⟩ := I.tuple hq
 obtain ⟨⟨oc, od, dat, sl⟩, ho, hc, n, hd⟩ := id pl
 simp only at hc hd
 subst hc hd
 have hl := r.length
 have hj : j < its.toArray.size := by
  have := (List.getElem?_eq_some_iff.mp ez).1
  simp
  omega
 have at_ : ∀ m z, xs[m]? = some z → ∃ w, its[m]? = some w ∧ RelV z w := fun m z e => r.get e
 have flat : ∀ z ∈ xs, eU z = true := List.all_eq_true.mp fx
 refine call_meets PySem.F.slot_tuple_index pl.typeIs PySem.F.entry_tuple_index (PySem.F.args_tuple_index_2 _ _) (vO p its.toArray n od sl u (yo y) j hj ?_ ?_) ⟨ho, fun w hw => gq ru fy r fx w (by simpa using hw), ⟨.int j, H, I.tok _, ⟨_, rfl⟩, q⟩⟩
 ·obtain ⟨w, ew, Du⟩ := at_ j z ez
  have e : its.toArray[j] = w := by
   have := (List.getElem?_eq_some_iff.mp ew).2
   simpa using this
  rw [e, sZ Du (flat z (List.mem_of_getElem? ez))]
  exact hz
 ·intro m hm hmj
  have Wg : m < xs.length := by simp at hm; omega
  obtain ⟨w, ew, Du⟩ := at_ m xs[m] (Ge9 Wg)
  have e : its.toArray[m] = w := by
   have := (List.getElem?_eq_some_iff.mp ew).2
   simpa using this
  rw [e, sZ Du (flat _ (List.getElem_mem Wg))]
  exact Oq m _ hmj (Ge9 Wg)
end
end L2
namespace f9
open PySem
abbrev ir : Str := "abcdefghijklmnopqrstuvwxyz"
abbrev qa : Str := "ABCDEFGHIJKLMNOPQRSTUVWXYZ"
abbrev Mh : Str := "0123456789"
def bp (c : Nat) : Bool := decide (c ∈ ir.cps.toList) || (decide (c ∈ qa.cps.toList) || decide (c ∈ Mh.cps.toList))
def I8 (c : Nat) : Bool := c == 40 || (c == 41 || c == 44)
def shut (cur : List Nat) (r : List (List Nat)) : List (List Nat) := if cur = [] then r else cur :: r
def dt : List Nat → List Nat → List (List Nat)
 | [], cur => shut cur []
 | c :: r, cur => if bp c = true then dt r (cur ++ [c]) else shut cur (if c = 32 then dt r [] else [c] :: dt r [])
def toks (l : List Nat) : List (List Nat) := dt l []
theorem tK : ∀ (n r cur : List Nat), n.all bp = true → dt (n ++ r) cur = dt r (cur ++ n)
 | [], r, cur, _ => by simp
 | c :: n, r, cur, h => by
  rw [List.all_cons, Bool.and_eq_true] at h
  rw [List.cons_append]
  show (if bp c = true then dt (n ++ r) (cur ++ [c]) else _) = _
  rw [if_pos h.1, tK n r _ h.2, List.append_assoc]
  rfl
def kG : List Nat → Prop
 | [] => True
 | c :: _ => bp c = false
theorem DA {r cur : List Nat} (hs : kG r) (hc : cur ≠ []) : dt r cur = cur :: toks r := by
 cases r with
 | nil =>
  show shut cur [] = cur :: shut [] []
  unfold shut
  rw [if_neg hc, if_pos rfl]
 | cons c r =>
  have Mi : bp c = false := hs
  show (if bp c = true then _ else shut cur _) = cur :: (if bp c = true then _ else shut [] _)
  rw [Mi, if_neg Bool.false_ne_true, if_neg Bool.false_ne_true]
  unfold shut
  rw [if_neg hc, if_pos rfl]
theorem de {n r : List Nat} (hn : n.all bp = true) (h0 : n ≠ []) (hs : kG r) : toks (n ++ r) = n :: toks r := by
 unfold toks
 rw [tK n r [] hn, List.nil_append, DA hs h0]
 rfl
theorem k4 : bp 32 = false := by decide +kernel
theorem Mj : bp 40 = false := by decide +kernel
theorem Ml : bp 41 = false := by decide +kernel
theorem Bz : bp 44 = false := by decide +kernel
theorem dJ (r : List Nat) : toks (32 :: r) = toks r := by
 show (if bp 32 = true then dt r ([] ++ [32]) else shut [] (if (32 : Nat) = 32 then dt r [] else [32] :: dt r [])) = dt r []
 rw [k4, if_neg Bool.false_ne_true, if_pos rfl]
 rfl
theorem GQ {c : Nat} (hc : I8 c = true) (r : List Nat) : toks (c :: r) = [c] :: toks r := by
 have e : c = 40 ∨ c = 41 ∨ c = 44 := by
  unfold I8 at hc
  simpa using hc
 have ha : bp c = false := by
  rcases e with e | e | e <;> rw [e]
  ·exact Mj
  ·exact Ml
  ·exact Bz
 have hb : c ≠ 32 := by omega
 show (if bp c = true then _ else shut [] (if c = 32 then dt r [] else [c] :: dt r [])) = _
 rw [ha, if_neg Bool.false_ne_true, if_neg hb]
 rfl
theorem fD : ∀ (k : Nat) (r : List Nat), toks (List.replicate k 32 ++ r) = toks r
 | 0, r => rfl
 | k + 1, r => by
  rw [List.replicate_succ, List.cons_append, dJ, fD k r]
theorem yu (k : Nat) {r : List Nat} (h : kG r) : kG (List.replicate k 32 ++ r) := by
 cases k with
 | zero => exact h
 | succ k => exact k4
def bw (l : List Nat) : Nat := (l.takeWhile bp).length
theorem tL {l : List Nat} (h : bw l ≠ 0) : toks l = l.take (bw l) :: toks (l.drop (bw l)) := by
 have e : l = l.takeWhile bp ++ l.dropWhile bp := (List.takeWhile_append_dropWhile).symm
 have et : l.take (bw l) = l.takeWhile bp := by
  unfold bw
  conv => lhs; arg 2; rw [e]
  rw [List.take_left']
  rfl
 have ed : l.drop (bw l) = l.dropWhile bp := by
  unfold bw
  conv => lhs; arg 2; rw [e]
  rw [List.drop_left']
  rfl
 rw [et, ed]
 conv => lhs; rw [e]
 refine de ?_ ?_ ?_
 ·exact List.all_takeWhile
 ·intro z
  unfold bw at h
  rw [z] at h
  exact h rfl
 ·cases q : l.dropWhile bp with
  | nil => trivial
  | cons c r =>
   have z := List.head_dropWhile_not (p := bp) (l := l) (by rw [q]; simp)
   simp only [q, List.head_cons] at z
   exact z
theorem yw {c : Nat} {r : List Nat} (h : bw (c :: r) = 0) : bp c = false := by
 unfold bw at h
 rw [List.takeWhile_cons] at h
 cases q : bp c with
 | false => rfl
 | true => rw [q] at h; simp at h
def bh (p : List Nat) : Bool := decide (1 ≤ p.length) && (decide (p.length ≤ 12) && p.all bp)
def fZ : List (List Nat) → Option (List (List Nat) × Nat)
 | n :: m :: r => if bh n = true then (if m = [41] then some ([n], 2) else if m = [44] then (fZ r).map fun q => (n :: q.1, q.2 + 2) else none) else none
 | _ => none
def between : List (List Nat) → List (List Nat)
 | [] => []
 | [a] => [a, [41]]
 | a :: r => a :: [44] :: between r
theorem m9 : ∀ (as : List (List Nat)), as ≠ [] → (∀ a ∈ as, bh a = true) → fZ (between as) = some (as, (between as).length)
 | [], h, _ => absurd rfl h
 | [a], _, hn => by
  show (if bh a = true then (if ([41] : List Nat) = [41] then some ([a], 2) else _) else none) = _
  rw [if_pos (hn a (by simp)), if_pos rfl]
  rfl
 | a :: b :: r, _, hn => by
  have ih := m9 (b :: r) (by simp) fun x hx => hn x (List.mem_cons_of_mem _ hx)
  show (if bh a = true then (if ([44] : List Nat) = [41] then _ else if ([44] : List Nat) = [44] then (fZ (between (b :: r))).map (fun q => (a :: q.1, q.2 + 2)) else none) else none) = _
  rw [if_pos (hn a (by simp)), if_neg (by decide), if_pos rfl, ih]
  rfl
end f9
namespace Bk
open PySem L2 f9
abbrev Cs := List Nat
abbrev S (p : Cs) : Str := ⟨p.toArray⟩
abbrev tx (p : Cs) : V := .str (S p)
theorem cv (p : Cs) : (S p).cps.toList = p := by simp
theorem GR (x : Str) : S x.cps.toList = x := by cases x; simp
theorem aZ (p : Cs) : (S p).length = p.length := by simp [Str.length]
theorem yx (x : Str) : x.cps.toList.length = x.length := by simp [Str.length]
theorem xA {a b : Cs} (h : S a = S b) : a = b := by
 have e := congrArg (fun s : Str => s.cps.toList) h
 simpa using e
theorem I9 {a b : Cs} (h : tx a = tx b) : a = b := by
 have z : S a = S b := by injection h
 exact xA z
theorem yy (a b : Cs) : decide (tx a = tx b) = decide (a = b) := by
 rw [decide_eq_decide]
 exact ⟨I9, fun e => by rw [e]⟩
structure Fc where
 k : Cs
 as : List Cs
structure Kd where
 n : Cs
 c : Nat
 l : Bool
structure Lk where
 same : Bool
 l : Cs
 r : Cs
structure Rl where
 title : Cs
 take : List Fc
 keep : List Fc
 dX : List Lk
 put : List Fc
 tell : List (Cs × Cs)
structure Kp (H0 H H' : Hp) : Prop where
 new : ∀ b o, H0 b = none → H b = some o → H' b = some o
 tup : ∀ b xs, H b = some (.tup xs) → H' b = some (.tup xs)
 vH : ∀ b o u, H b = some (.vH o u) → H' b = some (.vH o u)
 tM : ∀ b, H' b = none → H b = none
theorem Kp.trans {H0 H H1 H2 : Hp} (a : Kp H0 H H1) (b : Kp H0 H1 H2) : Kp H0 H H2 :=
 ⟨fun c o n h => b.new c o n (a.new c o n h), fun c xs h => b.tup c xs (a.tup c xs h), fun c o u h => b.vH c o u (a.vH c o u h), fun c h => a.tM c (b.tM c h)⟩
theorem Kp.same {H0 H H' : Hp} (s : ag H H') : Kp H0 H H' := ⟨fun b o _ h => s b o h, fun b xs h => s b _ h, fun b o u h => s b _ h, fun b h => by
 cases e : H b with
 | none => rfl
 | some o => rw [s b o e] at h; cases h⟩
theorem Kp.upd {H0 H : Hp} {l : Addr} {o o' u0 : HO} (h0 : H0 l = some u0) (h : H l = some o) (nt : ∀ xs, o ≠ .tup xs) (nf : ∀ ob u, o ≠ .vH ob u) : Kp H0 H (upd H l o') := by
 refine ⟨fun b u n e => ?_, fun b xs e => ?_, fun b ob u e => ?_, fun b e => ?_⟩
 ·rw [aq (fun z => by rw [z, h0] at n; cases n)]; exact e
 ·rw [aq (fun z => by rw [z, h] at e; exact nt xs (Option.some.inj e))]; exact e
 ·rw [aq (fun z => by rw [z, h] at e; exact nf ob u (Option.some.inj e))]; exact e
 ·by_cases z : b = l
  ·rw [z, ae] at e; cases e
  ·rw [aq z] at e; exact e
theorem Kp.bj {H0 H1 H H' : Hp} (k : Kp H0 H H') (d : ∀ b, H1 b = none → H0 b = none) : Kp H1 H H' := ⟨fun b o n h => k.new b o (d b n) h, k.tup, k.vH, k.tM⟩
theorem cM.keep {K : PySem.W.Frag} {H0 H H' : Hp} (k : Kp H0 H H') {a : Addr} {xs : List V} (h : cM K H a xs) : cM K H' a xs := by
 rcases h with (h | ⟨o, h⟩) | h
 ·exact .inl (.inl (k.tup _ _ h))
 ·exact .inl (.inr ⟨o, k.vH _ _ _ h⟩)
 ·exact .inr h
def Fact (K : PySem.W.Frag) (H : Hp) (f : Fc) (v : V) : Prop := ∃ t t2, v = .ref t ∧ cM K H t [tx f.k, .ref t2] ∧ cM K H t2 (f.as.map tx)
def Kind (K : PySem.W.Frag) (H : Hp) (k : Kd) (v : V) : Prop := ∃ t, v = .ref t ∧ cM K H t [tx k.n, .int k.c, .bl k.l]
def Pair (K : PySem.W.Frag) (H : Hp) (p : Cs × Cs) (v : V) : Prop := ∃ t, v = .ref t ∧ cM K H t [tx p.1, tx p.2]
theorem Fact.keep {K : PySem.W.Frag} {H0 H H' : Hp} {f : Fc} {v : V} (k : Kp H0 H H') (h : Fact K H f v) : Fact K H' f v := by
 obtain ⟨t, t2, e, h1, h2⟩ := h
 exact ⟨t, t2, e, cM.keep k h1, cM.keep k h2⟩
theorem Kind.keep {K : PySem.W.Frag} {H0 H H' : Hp} {f : Kd} {v : V} (k : Kp H0 H H') (h : Kind K H f v) : Kind K H' f v := by
 obtain ⟨t, e, h1⟩ := h
 exact ⟨t, e, cM.keep k h1⟩
theorem Pair.keep {K : PySem.W.Frag} {H0 H H' : Hp} {p : Cs × Cs} {v : V} (k : Kp H0 H H') (h : Pair K H p v) : Pair K H' p v := by
 obtain ⟨t, e, h1⟩ := h
 exact ⟨t, e, cM.keep k h1⟩
def vG (α : Type) (R : Hp → α → V → Prop) (H0 H : Hp) (v : V) (xs : List α) : Prop := ∃ l vs, v = .ref l ∧ H0 l = none ∧ H l = some (.lst vs) ∧ Paired (R H) xs vs
theorem vG.keep {α : Type} {R : Hp → α → V → Prop} {H0 H H' : Hp} {v : V} {xs : List α} (k : Kp H0 H H') (hR : ∀ a u, R H a u → R H' a u) (h : vG α R H0 H v xs) : vG α R H0 H' v xs := by
 obtain ⟨l, vs, e, n, h1, h2⟩ := h
 exact ⟨l, vs, e, n, k.new _ _ n h1, L2.Paired.bY h2 hR⟩
theorem vG.bj {α : Type} {R : Hp → α → V → Prop} {H0 H1 H : Hp} {v : V} {xs : List α} (d : ∀ b, H1 b = none → H0 b = none) (h : vG α R H1 H v xs) : vG α R H0 H v xs := by
 obtain ⟨l, vs, e, n, h1, h2⟩ := h
 exact ⟨l, vs, e, d l n, h1, h2⟩
def Wh (C : Addr) (H0 H : Hp) (v : V) (F : List (Str × V) → Prop) : Prop := ∃ a dx fs, v = .ref a ∧ H0 a = none ∧ H a = some (.ins C dx fs) ∧ F fs
structure Cl where
 same : Addr
 unlike : Addr
 rule : Addr
 book : Addr
def Cl.look (c : Cl) (b : Bool) : Addr := if b = true then c.same else c.unlike
def oM (c : Cl) (H0 H : Hp) (k : Lk) (v : V) : Prop := Wh (c.look k.same) H0 H v fun fs => fs.lookup ("left" : Str) = some (tx k.l) ∧ fs.lookup ("right" : Str) = some (tx k.r) ∧ fs.lookup ("holds" : Str) = none ∧ fs.lookup ("word" : Str) = none
theorem oM.keep {c : Cl} {H0 H H' : Hp} {x : Lk} {v : V} (k : Kp H0 H H') (h : oM c H0 H x v) : oM c H0 H' x v := by
 obtain ⟨a, dx, fs, e, n, h1, h2⟩ := h
 exact ⟨a, dx, fs, e, n, k.new _ _ n h1, h2⟩
def great (x : Cs) : Bool := decide (x.headD 0 ∈ qa.cps.toList)
def once : List Cs → List Cs → List Cs
 | [], acc => acc
 | x :: r, acc => once r (if x ∈ acc then acc else acc ++ [x])
def opens (fs : List Fc) : List Cs := once ((fs.flatMap (·.as)).filter great) []
def Facts (K : PySem.W.Frag) := vG Fc (Fact K)
def Pairs (K : PySem.W.Frag) := vG (Cs × Cs) (Pair K)
def Kinds (K : PySem.W.Frag) := vG Kd (Kind K)
def oN (H0 H : Hp) (v : V) (xs : List Cs) : Prop := ∃ l, v = .ref l ∧ H0 l = none ∧ H l = some (.lst (xs.map tx))
def Looks (c : Cl) (H0 H : Hp) (v : V) (xs : List Lk) : Prop := ∃ l vs, v = .ref l ∧ H0 l = none ∧ H l = some (.lst vs) ∧ Paired (oM c H0 H) xs vs
structure oO (K : PySem.W.Frag) (c : Cl) (H0 H : Hp) (r : Rl) (fs : List (Str × V)) : Prop where
 title : fs.lookup ("title" : Str) = some (tx r.title)
 taken : ∃ v, fs.lookup ("taken" : Str) = some v ∧ Facts K H0 H v r.take
 kept : ∃ v, fs.lookup ("kept" : Str) = some v ∧ Facts K H0 H v r.keep
 dX : ∃ v, fs.lookup ("looks" : Str) = some v ∧ Looks c H0 H v r.dX
 given : ∃ v, fs.lookup ("given" : Str) = some v ∧ Facts K H0 H v r.put
 told : ∃ v, fs.lookup ("told" : Str) = some v ∧ Pairs K H0 H v r.tell
 names : ∃ v, fs.lookup ("names" : Str) = some v ∧ oN H0 H v (opens (r.take ++ r.keep))
 calls : fs.lookup ("calls" : Str) = none
def ie (K : PySem.W.Frag) (c : Cl) (H0 H : Hp) (r : Rl) (v : V) : Prop := Wh c.rule H0 H v (oO K c H0 H r)
theorem oN.keep {H0 H H' : Hp} {v : V} {xs : List Cs} (k : Kp H0 H H') (h : oN H0 H v xs) : oN H0 H' v xs := by
 obtain ⟨l, e, n, h1⟩ := h
 exact ⟨l, e, n, k.new _ _ n h1⟩
theorem Looks.keep {c : Cl} {H0 H H' : Hp} {v : V} {xs : List Lk} (k : Kp H0 H H') (h : Looks c H0 H v xs) : Looks c H0 H' v xs := by
 obtain ⟨l, vs, e, n, h1, h2⟩ := h
 exact ⟨l, vs, e, n, k.new _ _ n h1, L2.Paired.bY h2 fun _ _ z => z.keep k⟩
theorem Facts.keep {K : PySem.W.Frag} {H0 H H' : Hp} {v : V} {xs : List Fc} (k : Kp H0 H H') (h : Facts K H0 H v xs) : Facts K H0 H' v xs := vG.keep k (fun _ _ z => z.keep k) h
theorem Pairs.keep {K : PySem.W.Frag} {H0 H H' : Hp} {v : V} {xs : List (Cs × Cs)} (k : Kp H0 H H') (h : Pairs K H0 H v xs) : Pairs K H0 H' v xs := vG.keep k (fun _ _ z => z.keep k) h
theorem Kinds.keep {K : PySem.W.Frag} {H0 H H' : Hp} {v : V} {xs : List Kd} (k : Kp H0 H H') (h : Kinds K H0 H v xs) : Kinds K H0 H' v xs := vG.keep k (fun _ _ z => z.keep k) h
theorem oO.keep {K : PySem.W.Frag} {c : Cl} {H0 H H' : Hp} {r : Rl} {fs : List (Str × V)} (k : Kp H0 H H') (h : oO K c H0 H r fs) : oO K c H0 H' r fs := by
 obtain ⟨h1, ⟨v2, e2, h2⟩, ⟨v3, e3, h3⟩, ⟨v4, e4, h4⟩, ⟨v5, e5, h5⟩, ⟨v6, e6, h6⟩, ⟨v7, e7, h7⟩, h8⟩ := h
 exact ⟨h1, ⟨v2, e2, h2.keep k⟩, ⟨v3, e3, h3.keep k⟩, ⟨v4, e4, h4.keep k⟩, ⟨v5, e5, h5.keep k⟩, ⟨v6, e6, h6.keep k⟩, ⟨v7, e7, h7.keep k⟩, h8⟩
theorem ie.keep {K : PySem.W.Frag} {c : Cl} {H0 H H' : Hp} {r : Rl} {v : V} (k : Kp H0 H H') (h : ie K c H0 H r v) : ie K c H0 H' r v := by
 obtain ⟨a, dx, fs, e, n, h1, h2⟩ := h
 exact ⟨a, dx, fs, e, n, k.new _ _ n h1, h2.keep k⟩
def Rules (K : PySem.W.Frag) (c : Cl) (H0 H : Hp) (v : V) (xs : List Rl) : Prop := ∃ l vs, v = .ref l ∧ H0 l = none ∧ H l = some (.lst vs) ∧ Paired (ie K c H0 H) xs vs
structure RJ (K : PySem.W.Frag) (c : Cl) (H0 H : Hp) (ks : List Kd) (rs : List Rl) (fs : List (Str × V)) : Prop where
 kinds : ∃ v, fs.lookup ("kinds" : Str) = some v ∧ Kinds K H0 H v ks
 rules : ∃ v, fs.lookup ("rules" : Str) = some v ∧ Rules K c H0 H v rs
def tN (K : PySem.W.Frag) (c : Cl) (H0 H : Hp) (ks : List Kd) (rs : List Rl) (v : V) : Prop := Wh c.book H0 H v (RJ K c H0 H ks rs)
theorem Rules.keep {K : PySem.W.Frag} {c : Cl} {H0 H H' : Hp} {v : V} {xs : List Rl} (k : Kp H0 H H') (h : Rules K c H0 H v xs) : Rules K c H0 H' v xs := by
 obtain ⟨l, vs, e, n, h1, h2⟩ := h
 exact ⟨l, vs, e, n, k.new _ _ n h1, L2.Paired.bY h2 fun _ _ z => z.keep k⟩
theorem tN.keep {K : PySem.W.Frag} {c : Cl} {H0 H H' : Hp} {ks : List Kd} {rs : List Rl} {v : V} (k : Kp H0 H H') (h : tN K c H0 H ks rs v) : tN K c H0 H' ks rs v := by
 obtain ⟨a, dx, fs, e, n, h1, ⟨v2, e2, h2⟩, ⟨v3, e3, h3⟩⟩ := h
 exact ⟨a, dx, fs, e, n, k.new _ _ n h1, ⟨v2, e2, h2.keep k⟩, ⟨v3, e3, h3.keep k⟩⟩
def aN (p : Cs) : Bool := bh p && decide (p.headD 0 ∈ ir.cps.toList)
inductive oP : List Cs → Fc → Prop
 | bare {k : Cs} (hk : aN k = true) : oP [k] ⟨k, []⟩
 | empty {k : Cs} (hk : aN k = true) : oP [k, [40], [41]] ⟨k, []⟩
 | args {k : Cs} {as : List Cs} (hk : aN k = true) (h0 : as ≠ []) (h : ∀ a ∈ as, bh a = true) : oP (k :: [40] :: between as) ⟨k, as⟩
inductive rQ : List Cs → List Fc → Prop
 | one {ps : List Cs} {f : Fc} (h : oP ps f) : rQ ps [f]
 | more {ps r : List Cs} {f : Fc} {fs : List Fc} (h : oP ps f) (t : rQ r fs) : rQ (ps ++ [44] :: r) (f :: fs)
def bQ (m : Cs) : List Cs → List (List Cs) → List (List Cs)
 | [], rows => rows
 | p :: r, rows => bQ m r (if p = m then rows ++ [[]] else rows.dropLast ++ [rows.getLastD [] ++ [p]])
def glue (m : Cs) : List (List Cs) → List Cs
 | [] => []
 | [q] => q
 | q :: r => q ++ m :: glue m r
theorem k5 {m : Cs} : ∀ (q rest : List Cs) (done : List (List Cs)) (cur : List Cs), m ∉ q → bQ m (q ++ rest) (done ++ [cur]) = bQ m rest (done ++ [cur ++ q])
 | [], rest, done, cur, _ => by rw [List.nil_append, List.append_nil]
 | p :: q, rest, done, cur, h => by
  have hp : p ≠ m := fun e => h (by rw [e]; exact List.mem_cons_self)
  have hq : m ∉ q := fun z => h (List.mem_cons_of_mem _ z)
  show bQ m (q ++ rest) (if p = m then _ else (done ++ [cur]).dropLast ++ [(done ++ [cur]).getLastD [] ++ [p]]) = _
  rw [if_neg hp, List.dropLast_concat, show (done ++ [cur]).getLastD [] = cur by simp, k5 q rest done (cur ++ [p]) hq, List.append_assoc, List.singleton_append]
theorem gc {m : Cs} : ∀ (qs : List (List Cs)) (done : List (List Cs)), qs ≠ [] → (∀ q ∈ qs, m ∉ q) → bQ m (glue m qs) (done ++ [[]]) = done ++ qs
 | [], _, h, _ => absurd rfl h
 | [q], done, _, h => by
  have e := k5 q [] done [] (h q (by simp))
  rw [List.append_nil] at e
  show bQ m q _ = _
  rw [e]
  rfl
 | q :: q2 :: r, done, _, h => by
  have e := k5 q (m :: glue m (q2 :: r)) done [] (h q (by simp))
  show bQ m (q ++ m :: glue m (q2 :: r)) _ = _
  rw [e]
  show bQ m (glue m (q2 :: r)) (if m = m then (done ++ [[] ++ q]) ++ [[]] else _) = _
  rw [if_pos rfl, gc (q2 :: r) (done ++ [[] ++ q]) (by simp) fun x hx => h x (List.mem_cons_of_mem _ hx), List.nil_append, List.append_assoc, List.singleton_append]
end Bk
namespace Bk
open PySem L2 f9
def fE (x : Str) : Bool := decide ((1 : Int) ≤ x.length) && (decide ((x.length : Int) ≤ 12) && x.cps.toList.all bp)
theorem oQ (p : List Nat) : fE (S p) = bh p := by
 unfold fE bh
 rw [aZ, cv]
 have e1 : decide ((1 : Int) ≤ (p.length : Int)) = decide (1 ≤ p.length) := by
  rw [decide_eq_decide]; omega
 have e2 : decide ((p.length : Int) ≤ 12) = decide (p.length ≤ 12) := by
  rw [decide_eq_decide]; omega
 rw [e1, e2]
theorem FA {x : Str} (h : 1 ≤ x.length) : pV x.cps.toList (0 : Int) = some (x.cps.toList.headD 0) := by
 have e := yx x
 cases q : x.cps.toList with
 | nil => rw [q] at e; simp at e; omega
 | cons a r => exact bP (j := 0) rfl
theorem Ja {x : Str} (h : fE x = true) : 1 ≤ x.length := by
 unfold fE at h
 simp only [Bool.and_eq_true, decide_eq_true_eq] at h
 omega
theorem sz {n : Nat} (h : n ≤ 100000) : n ≤ sizeLine := by rw [sizeLine_eq]; omega
theorem f6 {n : Nat} (h : n ≤ 100000) : n < sizeLine := by rw [sizeLine_eq]; omega
theorem aj {H : Hp} {p : Addr} (h : H p = none) (o : HO) : ag H (upd H p o) := fun b u q => by rw [aq (aH q h)]; exact q
theorem ag.aS {H H' : Hp} {p : Addr} (e : ag H H') (h : H p = none) (o : HO) : ag H (upd H' p o) := fun b u q => by
 rw [aq (aH q h)]
 exact e b u q
theorem mid {a b : Int} (h : 0 < b) : 0 ≤ a % b ∧ a % b < b := ⟨Int.emod_nonneg a (by omega), Int.emod_lt_of_pos a h⟩
theorem getD_get {l : List Nat} {i : Nat} (h : i < l.length) : l[i]? = some (l.getD i 0) := by
 rw [Gd9, Ge9 h]
 rfl
theorem BA {l : List Nat} {i : Nat} (h : i < l.length) : l.drop i = l.getD i 0 :: l.drop (i + 1) := by
 rw [List.drop_eq_getElem_cons h, Gd9, Ge9 h]
 rfl
theorem Jb {x : Str} {i : Int} (h0 : 0 ≤ i) (h1 : i < x.length) : pV x.cps.toList i = some (x.cps.toList.getD i.toNat 0) := by
 have hl := yx x
 have hk : i.toNat < x.cps.toList.length := by omega
 have z := bP (xs := x.cps.toList) (j := i.toNat) (v := x.cps.toList.getD i.toNat 0) (getD_get hk)
 rw [show ((i.toNat : Nat) : Int) = i by omega] at z
 exact z
def iu (x : Str) : Bool := fE x && decide (x.cps.toList.headD 0 ∈ ir.cps.toList)
theorem BB (p : List Nat) : iu (S p) = aN p := by
 unfold iu aN
 rw [oQ, cv]
def yz : Sp := fun vs H Q _ => ∃ c, vs = [.str ⟨#[c]⟩] ∧ Q (.bl (bp c)) H
def vP (f : Str → Bool) : Sp := fun vs H Q _ => ∃ x, vs = [.str x] ∧ x.length ≤ 20000 ∧ ∀ H', ag H H' → Q (.bl (f x)) H'
def sv : Sp := fun vs H Q _ => ∃ p : Cs, vs = [tx p] ∧ p ≠ [] ∧ p.length ≤ 1000 ∧ Q (.bl (great p)) H
def Jc : Sp := fun vs H Q _ => ∃ (x : Str) (p : Nat), vs = [.str x, .int p] ∧ x.length ≤ 20000 ∧ p ≤ x.length ∧ Q (.int ((p + bw (x.cps.toList.drop p) : Nat) : Int)) H
def Nz (m : Str) (c : Nat) : Bool := bp c || (decide (c ∈ m.cps.toList) || c == 32)
def tO : Sp := fun vs H Q _ => ∃ x m, vs = [.str x, .str m] ∧ x.length ≤ 20000 ∧ 32 ∉ m.cps.toList ∧ x.cps.toList.all (Nz m) = true ∧ ∀ (l : Addr) (H' : Hp), ag H H' → H l = none → H' l = some (.lst ((toks x.cps.toList).map tx)) → Q (.ref l) H'
def oR : Sp := fun vs H Q _ => ∃ (l : Addr) (ps : List Cs) (p : Nat), vs = [.ref l, .int p] ∧ H l = some (.lst (ps.map tx)) ∧ ps.length ≤ 20000 ∧ Q (tx (ps.getD p [])) H
def DB : Sp := fun vs H Q _ => ∃ (l : Addr) (ps : List Cs) (p n : Nat) (as : List Cs), vs = [.ref l, .int p] ∧ H l = some (.lst (ps.map tx)) ∧ ps.length ≤ 20000 ∧
 ((as = [] ∧ n = 1 ∧ ps.getD p [] = [41]) ∨ (ps.getD p [] ≠ [41] ∧ fZ (ps.drop p) = some (as, n))) ∧
 ∀ (t t2 : Addr) (H' : Hp), ag H H' → H' t = some (.tup [.ref t2, .int ((p + n : Nat) : Int)]) → H' t2 = some (.tup (as.map tx)) → Q (.ref t) H'
inductive k6 : List Cs → Cs → List Cs → Nat → Prop
 | bare {k : Cs} {r : List Cs} (hk : aN k = true) (h : r.getD 0 [] ≠ [40]) : k6 (k :: r) k [] 1
 | empty {k : Cs} {r : List Cs} (hk : aN k = true) : k6 (k :: [40] :: [41] :: r) k [] 3
 | args {k : Cs} {r as : List Cs} {n : Nat} (hk : aN k = true) (h0 : r.getD 0 [] ≠ [41]) (h : fZ r = some (as, n)) : k6 (k :: [40] :: r) k as (n + 2)
def tP : Sp := fun vs H Q _ => ∃ (l : Addr) (ps : List Cs) (p n : Nat) (k : Cs) (as : List Cs), vs = [.ref l, .int p] ∧ H l = some (.lst (ps.map tx)) ∧ ps.length ≤ 20000 ∧ k6 (ps.drop p) k as n ∧
 ∀ (t t1 t2 : Addr) (H' : Hp), ag H H' → H' t = some (.tup [.ref t1, .int ((p + n : Nat) : Int)]) → H' t1 = some (.tup [tx k, .ref t2]) → H' t2 = some (.tup (as.map tx)) → Q (.ref t) H'
theorem DC (l : List Nat) : bw l ≤ l.length := by
 unfold bw
 exact (List.takeWhile_sublist bp).length_le
theorem yA (c : Nat) (r : List Nat) : bw (c :: r) = if bp c = true then bw r + 1 else 0 := by
 unfold bw
 rw [List.takeWhile_cons]
 split <;> simp
theorem qb : ∀ (l cur : List Nat), (dt l cur).length ≤ l.length + (if cur = [] then 0 else 1)
 | [], cur => by
  show (shut cur []).length ≤ _
  unfold shut
  by_cases h : cur = [] <;> simp [h]
 | c :: r, cur => by
  show (if bp c = true then dt r (cur ++ [c]) else shut cur (if c = 32 then dt r [] else [c] :: dt r [])).length ≤ _
  have e1 := qb r (cur ++ [c])
  have e2 := qb r []
  rw [if_neg (by simp)] at e1
  rw [if_pos rfl] at e2
  by_cases ha : bp c = true
  ·rw [if_pos ha, List.length_cons]
   omega
  ·rw [if_neg ha, List.length_cons]
   unfold shut
   by_cases h : cur = [] <;> by_cases h2 : c = 32 <;> simp [h, h2] <;> omega
theorem BC (l : List Nat) : (toks l).length ≤ l.length := by
 have e := qb l []
 rw [if_pos rfl] at e
 exact e
theorem nG {c : Nat} (ha : bp c = false) (hb : c ≠ 32) (r : List Nat) : toks (c :: r) = [c] :: toks r := by
 show (if bp c = true then dt r ([] ++ [c]) else shut [] (if c = 32 then dt r [] else [c] :: dt r [])) = _
 rw [ha, if_neg (by simp), if_neg hb]
 rfl
theorem Mm {x : Str} {p n : Nat} (h : p + n ≤ x.length) : Txt.slice x (some (p : Int)) (some ((p + n : Nat) : Int)) = S ((x.cps.toList.drop p).take n) := by
 have e := GK (z := x) (i := p) (j := ((p + n : Nat) : Int)) (by omega) (by omega) (by omega)
 rw [← GR (Txt.slice x (some (p : Int)) (some ((p + n : Nat) : Int))), e, show ((p : Int)).toNat = p by omega, show (((p + n : Nat) : Int) - (p : Int)).toNat = n by omega]
theorem gn {l : List Cs} {p i : Nat} : (l.drop p).getD i [] = l.getD (p + i) [] := by
 rw [Gd9, Gd9, List.getElem?_drop]
theorem GS {l as : List Cs} {n : Nat} (h : fZ l = some (as, n)) : ∃ nm mk r, l = nm :: mk :: r ∧ bh nm = true ∧ ((mk = [41] ∧ as = [nm] ∧ n = 2) ∨ (mk = [44] ∧ ∃ Lw n', fZ r = some (Lw, n') ∧ as = nm :: Lw ∧ n = n' + 2)) := by
 match l, h with
 | nm :: mk :: r, h =>
  refine ⟨nm, mk, r, rfl, ?_⟩
  have h' : (if bh nm = true then (if mk = [41] then some ([nm], 2) else if mk = [44] then (fZ r).map (fun q => (nm :: q.1, q.2 + 2)) else none) else none) = some (as, n) := h
  by_cases hn : bh nm = true
  ·rw [if_pos hn] at h'
   refine ⟨hn, ?_⟩
   by_cases h1 : mk = [41]
   ·rw [if_pos h1] at h'
    injection h' with h'
    injection h' with a b
    exact .inl ⟨h1, a.symm, b.symm⟩
   ·rw [if_neg h1] at h'
    by_cases h2 : mk = [44]
    ·rw [if_pos h2] at h'
     cases q : fZ r with
     | none => rw [q] at h'; cases h'
     | some z =>
      rw [q] at h'
      injection h' with h'
      injection h' with a b
      exact .inr ⟨h2, z.1, z.2, rfl, a.symm, b.symm⟩
    ·rw [if_neg h2] at h'
     cases h'
  ·rw [if_neg hn] at h'
   cases h'
 | [_], h => exact nomatch h
 | [], h => exact nomatch h
theorem Jd {a b : Cs} (h : a ≠ b) : decide (tx a = tx b) = false := decide_eq_false fun z => h (I9 z)
def FC (x m : Str) (l : Addr) (H : Hp) (n : Nat) (σ : St) (H' : Hp) : Prop := ∃ (p : Nat) (done : List Cs) (o3 o4 : Option V), n = x.length - p ∧ σ = [some (.str x), some (.str m), some (.ref l), some (.int p), o3, o4] ∧ p ≤ x.length ∧ ag H H' ∧ H' l = some (.lst (done.map tx)) ∧ done ++ toks (x.cps.toList.drop p) = toks x.cps.toList
def NA (l ln : Addr) (ps as : List Cs) (e : Nat) (H : Hp) (m : Nat) (σ : St) (H' : Hp) : Prop := ∃ (p n : Nat) (done Lw : List Cs) (o3 o4 : Option V), m = (ps.drop p).length ∧ σ = [some (.ref l), some (.int p), some (.ref ln), o3, o4] ∧ ag H H' ∧ H' l = some (.lst (ps.map tx)) ∧ H' ln = some (.lst (done.map tx)) ∧ fZ (ps.drop p) = some (Lw, n) ∧ done ++ Lw = as ∧ p + n = e ∧ done.length + (ps.drop p).length ≤ 20000
theorem i8 {p : Cs} (h : bh p = true) : 1 ≤ p.length ∧ p.length ≤ 12 := by
 unfold bh at h
 simp only [Bool.and_eq_true, decide_eq_true_eq] at h
 exact ⟨h.1, h.2.1⟩
theorem ck {p : Cs} (h : aN p = true) : 1 ≤ p.length ∧ p.length ≤ 12 := by
 unfold aN at h
 simp only [Bool.and_eq_true] at h
 exact i8 h.1
theorem oP.at {ps : List Cs} {f : Fc} (h : oP ps f) {r : List Cs} (hr : r.getD 0 [] ≠ [40]) : k6 (ps ++ r) f.k f.as ps.length := by
 cases h with
 | bare hk => exact .bare hk hr
 | empty hk => exact .empty hk
 | @args k as hk h0 h =>
  have e := m9 as h0 h
  have e2 : ∀ (as : List Cs) (r : List Cs), as ≠ [] → (∀ a ∈ as, bh a = true) → fZ (between as ++ r) = some (as, (between as).length) := by
   intro as
   induction as with
   | nil => intro r z; exact absurd rfl z
   | cons a t ih =>
    intro r _ ha
    cases t with
    | nil =>
     show fZ (a :: [41] :: r) = some ([a], 2)
     show (if bh a = true then (if ([41] : Cs) = [41] then some ([a], 2) else _) else none) = _
     rw [if_pos (ha a (by simp)), if_pos rfl]
    | cons b t =>
     have Wi := ih r (by simp) fun x hx => ha x (List.mem_cons_of_mem _ hx)
     show fZ (a :: [44] :: (between (b :: t) ++ r)) = some (a :: b :: t, (between (b :: t)).length + 2)
     show (if bh a = true then (if ([44] : Cs) = [41] then some ([a], 2) else if ([44] : Cs) = [44] then (fZ (between (b :: t) ++ r)).map (fun q => (a :: q.1, q.2 + 2)) else none) else none) = _
     rw [if_pos (ha a (by simp)), if_neg (by decide), if_pos rfl, Wi]
     rfl
  have e3 := e2 as r h0 h
  have n41 : (between as ++ r).getD 0 [] ≠ [41] := by
   cases as with
   | nil => exact absurd rfl h0
   | cons a t =>
    have ha := h a (by simp)
    have hh : (between (a :: t) ++ r).getD 0 [] = a := by cases t <;> rfl
    rw [hh]
    intro z
    rw [z] at ha
    exact absurd ha (by decide +kernel)
  have z := k6.args hk n41 e3
  show k6 (k :: [40] :: (between as ++ r)) k as ((between as).length + 2)
  exact z
theorem oP.pos {ps : List Cs} {f : Fc} (h : oP ps f) : 1 ≤ ps.length := by
 cases h <;> simp
theorem rQ.pos {ps : List Cs} {fs : List Fc} (h : rQ ps fs) : 1 ≤ ps.length := by
 cases h with
 | one h => exact h.pos
 | more h t => rw [List.length_append]; have := h.pos; omega
theorem rQ.head {ps : List Cs} {fs : List Fc} (h : rQ ps fs) : ∃ (f : Fc) (n : Nat) (N4 : List Fc), fs = f :: N4 ∧ k6 ps f.k f.as n ∧ ((n = ps.length ∧ N4 = []) ∨ (n < ps.length ∧ ps.getD n [] = [44] ∧ rQ (ps.drop (n + 1)) N4)) := by
 cases h with
 | @one _ f h =>
  have z := h.at (r := []) (by simp)
  rw [List.append_nil] at z
  exact ⟨f, ps.length, [], rfl, z, .inl ⟨rfl, rfl⟩⟩
 | @more ps r f fs h t =>
  refine ⟨f, ps.length, fs, rfl, h.at (by simp), .inr ⟨by simp, ?_, ?_⟩⟩
  ·rw [Gd9, List.getElem?_append_right (Nat.le_refl _)]
   simp
  ·have e : (ps ++ [44] :: r).drop (ps.length + 1) = r := by
    rw [← List.drop_drop, List.drop_left]
    rfl
   rw [e]
   exact t
def Je (K : PySem.W.Frag) : Sp := fun vs H Q _ => ∃ (l : Addr) (ps : List Cs) (fs : List Fc), vs = [.ref l] ∧ H l = some (.lst (ps.map tx)) ∧ ps.length ≤ 20000 ∧ rQ ps fs ∧ ∀ v H', ag H H' → Facts K H H' v fs → Q v H'
def RK (K : PySem.W.Frag) (l lf : Addr) (ps : List Cs) (fs : List Fc) (H : Hp) (m : Nat) (σ : St) (H' : Hp) : Prop := ∃ (p : Nat) (done rest : List Fc) (vs : List V) (o3 : Option V), m = (ps.drop p).length ∧ σ = [some (.ref l), some (.ref lf), some (.int p), o3] ∧ ag H H' ∧ H' l = some (.lst (ps.map tx)) ∧ H' lf = some (.lst vs) ∧ Paired (Fact K H') done vs ∧ rQ (ps.drop p) rest ∧ done ++ rest = fs ∧ done.length + (ps.drop p).length ≤ 20000
end Bk
namespace Bk
open PySem L2 f9
def cu : List Cs → Cs
 | [] => []
 | [a] => a
 | a :: r => a ++ 10 :: cu r
def m3 : Cs → List Cs
 | [] => [[]]
 | c :: r => if c = 10 then [] :: m3 r else match m3 r with
  | [] => [[c]]
  | q :: qs => (c :: q) :: qs
theorem UX : ∀ p, m3 p ≠ []
 | [] => by simp [m3]
 | c :: r => by
  unfold m3
  split
  ·simp
  ·split <;> simp
theorem BD : ∀ (a r : Cs), 10 ∉ a → m3 (a ++ 10 :: r) = a :: m3 r
 | [], r, _ => by
  show (if 10 = 10 then [] :: m3 r else _) = _
  rw [if_pos rfl]
 | c :: a, r, h => by
  have hc : c ≠ 10 := fun e => h (by rw [e]; exact List.mem_cons_self)
  have ih := BD a r fun z => h (List.mem_cons_of_mem _ z)
  show (if c = 10 then [] :: m3 (a ++ 10 :: r) else match m3 (a ++ 10 :: r) with | [] => [[c]] | q :: qs => (c :: q) :: qs) = _
  rw [if_neg hc, ih]
theorem BE : ∀ (a : Cs), 10 ∉ a → m3 a = [a]
 | [], _ => rfl
 | c :: a, h => by
  have hc : c ≠ 10 := fun e => h (by rw [e]; exact List.mem_cons_self)
  have ih := BE a fun z => h (List.mem_cons_of_mem _ z)
  show (if c = 10 then [] :: m3 a else match m3 a with | [] => [[c]] | q :: qs => (c :: q) :: qs) = _
  rw [if_neg hc, ih]
theorem qc : ∀ (ls : List Cs), ls ≠ [] → (∀ l ∈ ls, 10 ∉ l) → m3 (cu ls) = ls
 | [], h, _ => absurd rfl h
 | [a], _, h => BE a (h a (by simp))
 | a :: b :: r, _, h => by
  show m3 (a ++ 10 :: cu (b :: r)) = _
  rw [BD a _ (h a (by simp)), qc (b :: r) (by simp) fun l hl => h l (List.mem_cons_of_mem _ hl)]
theorem BF : ∀ (ls : List Str), (Str.join ⟨#[10]⟩ ls).cps.toList = cu (ls.map fun s => s.cps.toList)
 | [] => rfl
 | [a] => rfl
 | a :: b :: r => by
  have ih := BF (b :: r)
  show ((a ++ (⟨#[10]⟩ : Str)) ++ Str.join ⟨#[10]⟩ (b :: r)).cps.toList = _
  rw [PySem.W.KT.app_list, PySem.W.KT.app_list, ih]
  show (a.cps.toList ++ [10]) ++ _ = a.cps.toList ++ 10 :: _
  simp
theorem Jf (x : Str) : Txt.split x ⟨#[10]⟩ ≠ [] := by
 unfold Txt.split
 split
 ·simp
 ·split
  ·simp
  ·intro h
   have e := congrArg List.length h
   rw [PyProof.Rows.len_partsBetween] at e
   simp at e
theorem BG {ls : List Cs} (h0 : ls ≠ []) (h : ∀ l ∈ ls, 10 ∉ l) : Txt.split (S (cu ls)) (Str.ofString "\n") = ls.map S := by
 have e0 : (Str.ofString "\n") = ⟨#[10]⟩ := by decide +kernel
 rw [e0]
 have e1 := StrLaws.join_split (S (cu ls)) ⟨#[10]⟩
 have hf := StrLaws.split_free (S (cu ls)) 10
 have hn := Jf (S (cu ls))
 generalize Txt.split (S (cu ls)) ⟨#[10]⟩ = ts at e1 hf hn
 have e2 : cu (ts.map fun s => s.cps.toList) = cu ls := by
  rw [← BF, e1]
 have e3 := congrArg m3 e2
 rw [qc ls h0 h, qc _ (by simpa using hn) (by
  intro l hl
  obtain ⟨t, ht, rfl⟩ := List.mem_map.mp hl
  exact hf t ht)] at e3
 rw [← e3, List.map_map]
 have e4 : (S ∘ fun s : Str => s.cps.toList) = id := by
  funext s
  exact GR s
 rw [e4, List.map_id]
def told (p : Cs) : Bool := match p.dropWhile (· == 32) with
 | [] => false
 | c :: _ => !(c == 35)
theorem FD (f : Nat → Bool) : ∀ (l : Cs), l.drop (l.takeWhile f).length = l.dropWhile f
 | [] => rfl
 | a :: r => by
  rw [List.takeWhile_cons, List.dropWhile_cons]
  by_cases h : f a = true
  ·rw [if_pos h, if_pos h]
   exact FD f r
  ·rw [if_neg h, if_neg h]
   rfl
theorem Jg (p : Cs) : ∃ q : Cs, Txt.stripChars (S p) (Str.ofString " ") = S q ∧ q.length ≤ p.length ∧ q.head? = (p.dropWhile (· == 32)).head? := by
 have e0 : (Str.ofString " ").cps.contains = fun c => c == 32 := by
  funext c
  have e : (Str.ofString " ").cps = #[32] := by decide +kernel
  rw [e]
  simp [Bool.beq_eq_decide_eq]
 unfold Txt.stripChars
 rw [e0, PyProof.Rows.stripBy_eq]
 obtain ⟨a1, a2, a3⟩ := PyProof.Rows.lo_facts (fun c => c == 32) (S p)
 obtain ⟨b1, b2, b3, b4⟩ := PyProof.Rows.hi_facts (fun c => c == 32) (S p) _ a1
 have YB : stripLo (fun c => c == 32) true (S p) = (p.takeWhile (· == 32)).length := by
  simp [stripLo]
 rw [aZ] at a1 a3 b2 b3
 generalize hlo : stripLo (fun c => c == 32) true (S p) = lo at a1 a2 a3 b1 b2 b3 b4 YB
 generalize hhi : stripHi (fun c => c == 32) true (S p) lo = hi at b1 b2 b3 b4
 refine ⟨(p.drop lo).take (hi - lo), ?_, ?_, ?_⟩
 ·rw [← GR (Builtin.Str.strSub (S p) lo hi), StrLaws.strSub_toList, cv]
 ·rw [List.length_take, List.length_drop]
  omega
 ·rw [← FD, ← YB]
  by_cases hx : lo = p.length
  ·rw [hx, List.drop_length, List.take_nil]
  ·have hl : lo < p.length := by omega
   have fz : lo < hi := by
    refine Nat.lt_of_not_le fun z => ?_
    have z1 := b3 lo z hl
    rcases a3 with a3 | a3
    ·exact hx a3
    ·rw [z1] at a3; cases a3
   rw [List.head?_take]
   rw [if_neg (by omega)]
def DD : Sp := fun vs H Q _ => ∃ p : Cs, vs = [tx p] ∧ p.length ≤ 20000 ∧ Q (.bl (told p)) H
def yB : Sp := fun vs H Q _ => ∃ ls : List Cs, vs = [tx (cu ls)] ∧ ls ≠ [] ∧ (∀ l ∈ ls, 10 ∉ l) ∧ (cu ls).length ≤ 20000 ∧ ∀ v H', ag H H' → oN H H' v (ls.filter told) → Q v H'
theorem xB : ∀ (ls : List Cs), ls.length ≤ (cu ls).length + 1
 | [] => by simp [cu]
 | [a] => by simp [cu]
 | a :: b :: r => by
  have ih := xB (b :: r)
  show (a :: b :: r).length ≤ (a ++ 10 :: cu (b :: r)).length + 1
  rw [List.length_append, List.length_cons, List.length_cons (a := 10)]
  omega
theorem qd : ∀ (ls : List Cs) (l : Cs), l ∈ ls → l.length ≤ (cu ls).length
 | [a], l, h => by rw [List.mem_singleton.mp h]; exact Nat.le_refl _
 | a :: b :: r, l, h => by
  have ih := qd (b :: r)
  show l.length ≤ (a ++ 10 :: cu (b :: r)).length
  rw [List.length_append, List.length_cons]
  rcases List.mem_cons.mp h with e | h
  ·rw [e]; omega
  ·have := ih l h; omega
abbrev BH : Str := "(),:;="
def DE : Sp := fun vs H Q _ => ∃ p : Cs, vs = [tx p] ∧ p.length ≤ 20000 ∧ p.all (Nz BH) = true ∧ ∀ v H', ag H H' → oN H H' v (toks p) → Q v H'
abbrev cs (s : Str) : Cs := s.cps.toList
abbrev bT : Cs := [112, 97, 115, 115, 105, 110, 103]
abbrev bZ : Cs := [108, 97, 115, 116, 105, 110, 103]
abbrev gr : Cs := [114, 117, 108, 101]
abbrev Jh : Cs := [116, 97, 107, 101]
abbrev Ji : Cs := [107, 101, 101, 112]
abbrev Jj : Cs := [108, 111, 111, 107]
abbrev NB : Cs := [112, 117, 116]
abbrev tQ : Cs := [116, 101, 108, 108]
def xC (k : Kd) : List Cs := [if k.l = true then bZ else bT, k.n, [48 + k.c]]
def DF (K : PySem.W.Frag) : Sp := fun vs H Q _ => ∃ (l : Addr) (k : Kd), vs = [.ref l] ∧ H l = some (.lst ((xC k).map tx)) ∧ aN k.n = true ∧ k.c ≤ 4 ∧ ∀ v H', ag H H' → Kind K H' k v → Q v H'
end Bk
namespace Bk
open PySem L2 f9
theorem bI {tt : TE} {aE : List Nat} {σ : St} {H1 : Hp} {Q : VK} {K : PySem.W.Frag} {a : Addr} {xs : List V} {D : Addr} {β : Type} (bs : List β) (Out : Hp → Hp → β → V → Prop)
  (keep : ∀ H0 H H' b y, Kp H0 H H' → Out H0 H b y → Out H0 H' b y) (bj : ∀ H0 H2 H b y, (∀ c, H2 c = none → H0 c = none) → Out H2 H b y → Out H0 H b y)
  (hn : xs.length < sizeLine) (vF : H1 D = none) (hl : ax K H1 a xs) (hb : bs.length = xs.length)
  (he : ∀ (i : Nat) x b H' R, xs[i]? = some x → bs[i]? = some b → ag H1 H' → (∀ y m8, ag H' m8 → Out H' m8 b y → R y m8) → tt (bW σ (some x) aE) H' R)
  (hd : ∀ H' ys, ag H1 H' → H' D = some (.lst ys) → Paired (Out H1 H') bs ys → Q (.ref D) H') : rh Rh tt aE σ Q (Lu K a) H1 D := by
 have s0 : ag H1 (upd H1 D (.lst [])) := aj vF _
 have OR : ∀ c, upd H1 D (.lst []) c = none → H1 c = none := fun c h => s0.free h
 refine pY (K := K) (a := a) (xs := xs) hn (fun i ys H' => ag H1 H' ∧ H' D = some (.lst ys) ∧ (∀ c, H' c = none → upd H1 D (.lst []) c = none) ∧ Paired (Out (upd H1 D (.lst [])) H') (bs.take i) ys) ⟨s0, ae, fun _ h => h, .nil⟩
  (fun i ys H' p => p.1.seq hl) (fun i ys H' p => ⟨p.2.1, ?_⟩) (fun i ys H' hi p => ?_) (fun ys H' p => ?_)
 ·have z := Paired.length p.2.2.2
  rw [List.length_take] at z
  omega
 ·have hx : xs.getD i .cL = xs[i] := by rw [Gd9, Ge9 hi]; rfl
  rw [hx]
  have dq : i < bs.length := by omega
  refine he i xs[i] bs[i] H' _ (Ge9 hi) (Ge9 dq) p.1 fun y H2 s2 ho => ?_
  have k0 := s2 _ _ p.2.1
  have kp : Kp (upd H1 D (.lst [])) H2 (upd H2 D (.lst (ys ++ [y]))) := Kp.upd ae k0 (by intro xs z; cases z) (by intro o u z; cases z)
  refine ⟨k0, ag.aS (ag.trans p.1 s2) vF _, ae, fun c h => ?_, ?_⟩
  ·have h2 := kp.tM c h
   exact p.2.2.1 c (s2.free h2)
  ·rw [List.take_succ_eq_append_getElem dq]
   refine (L2.Paired.bY p.2.2.2 fun b v z => keep _ _ _ _ _ kp (keep _ _ _ _ _ (Kp.same s2) z)).snoc ?_
   exact keep _ _ _ _ _ kp (bj _ _ _ _ _ p.2.2.1 ho)
 ·have z := p.2.2.2
  rw [List.take_of_length_le (by omega)] at z
  exact hd H' ys p.1 p.2.1 (L2.Paired.bY z fun b v h => bj _ _ _ _ _ (fun c h => by
   by_cases e : c = D
   ·rw [e]; exact vF
   ·exact OR c h) h)
def i9 (m p : Cs) (rows : List (List Cs)) : List (List Cs) := if p = m then rows ++ [[]] else rows.dropLast ++ [rows.getLastD [] ++ [p]]
theorem oS (m p : Cs) : ∀ (ps : List Cs) (rows : List (List Cs)), bQ m (ps ++ [p]) rows = i9 m p (bQ m ps rows)
 | [], rows => rfl
 | q :: r, rows => oS m p r _
theorem Jk {m p : Cs} {rows : List (List Cs)} : i9 m p rows ≠ [] := by
 unfold i9
 split <;> simp
theorem tR (m : Cs) : ∀ (ps : List Cs) (rows : List (List Cs)), rows ≠ [] → bQ m ps rows ≠ []
 | [], rows, h => h
 | q :: r, rows, h => tR m r _ (show i9 m q rows ≠ [] from Jk)
theorem rj {α β : Type} {R : α → β → Prop} : ∀ {l1 : List α} {l2 : List β}, Paired R l1 l2 → l1 ≠ [] → ∃ a1 x b1 y, l1 = a1 ++ [x] ∧ l2 = b1 ++ [y] ∧ Paired R a1 b1 ∧ R x y
 | _, _, .nil, h => absurd rfl h
 | _, _, .cons (a := a) (b := b) (l₁ := l1) (l₂ := l2) r t, _ => by
  cases t with
  | nil => exact ⟨[], a, [], b, rfl, rfl, .nil, r⟩
  | cons r2 t2 =>
   obtain ⟨a1, x, b1, y, e1, e2, h1, h2⟩ := rj (.cons r2 t2) (by simp)
   exact ⟨a :: a1, x, b :: b1, y, by rw [e1]; rfl, by rw [e2]; rfl, .cons r h1, h2⟩
theorem jz {α β : Type} {R : α → β → Prop} : ∀ {l1 : List α} {l2 : List β}, Paired R l1 l2 → ∀ {y : β}, y ∈ l2 → ∃ x, x ∈ l1 ∧ R x y
 | _, _, .nil, _, h => nomatch h
 | _, _, .cons r t, y, h => by
  rcases List.mem_cons.mp h with e | h
  ·subst e; exact ⟨_, List.mem_cons_self, r⟩
  ·obtain ⟨x, hx, hr⟩ := jz t h
   exact ⟨x, List.mem_cons_of_mem _ hx, hr⟩
theorem k7 {α β : Type} {R R' : α → β → Prop} : ∀ {l1 : List α} {l2 : List β}, Paired R l1 l2 → (∀ a b, b ∈ l2 → R a b → R' a b) → Paired R' l1 l2
 | _, _, .nil, _ => .nil
 | _, _, .cons r t, h => .cons (h _ _ List.mem_cons_self r) (k7 t fun a b hb => h a b (List.mem_cons_of_mem _ hb))
theorem rl {α β γ : Type} {g : β → γ} {R : α → γ → Prop} : ∀ {l1 : List α} {l2 : List β}, Paired (fun a b => R a (g b)) l1 l2 → Paired R l1 (l2.map g)
 | _, _, .nil => .nil
 | _, _, .cons r t => .cons r (rl t)
def NC (H0 H : Hp) (row : List Cs) (v : V) : Prop := ∃ b, v = .ref b ∧ H0 b = none ∧ H b = some (.lst (row.map tx))
def Rows (H0 H : Hp) (v : V) (rows : List (List Cs)) : Prop := ∃ l vs, v = .ref l ∧ H0 l = none ∧ H l = some (.lst vs) ∧ Paired (NC H0 H) rows vs
def k8 : Sp := fun vs H Q _ => ∃ (l : Addr) (ps : List Cs) (m : Cs), vs = [.ref l, tx m] ∧ H l = some (.lst (ps.map tx)) ∧ ps.length ≤ 20000 ∧ ∀ v H', ag H H' → Rows H H' v (bQ m ps [[]]) → Q v H'
theorem rm (m : Cs) : ∀ (ps : List Cs) (rows : List (List Cs)), (bQ m ps rows).length ≤ rows.length + ps.length + 1
 | [], rows => by show rows.length ≤ _; omega
 | p :: r, rows => by
  have ih := rm m r (i9 m p rows)
  have : (i9 m p rows).length ≤ rows.length + 1 := by
   unfold i9
   split
   ·simp
   ·rw [List.length_append, List.length_dropLast, List.length_singleton]; omega
  show (bQ m r (i9 m p rows)).length ≤ _
  rw [List.length_cons]
  omega
theorem tS (m : Cs) : ∀ (ps : List Cs) (rows : List (List Cs)) (B : Nat), (∀ r ∈ rows, r.length ≤ B) → ∀ r ∈ bQ m ps rows, r.length ≤ B + ps.length
 | [], rows, B, h, r, hr => by have := h r hr; show r.length ≤ B + 0; omega
 | p :: q, rows, B, h, r, hr => by
  have ih := tS m q (i9 m p rows) (B + 1) (by
   intro x hx
   unfold i9 at hx
   split at hx
   ·rcases List.mem_append.mp hx with hx | hx
    ·have := h x hx; omega
    ·rw [List.mem_singleton.mp hx]; simp
   ·rcases List.mem_append.mp hx with hx | hx
    ·have := h x ((List.dropLast_sublist rows).subset hx); omega
    ·rw [List.mem_singleton.mp hx, List.length_append]
     have : (rows.getLastD []).length ≤ B := by
      cases rows with
      | nil => exact Nat.zero_le _
      | cons a t => exact h _ (List.getLast_mem (by simp : a :: t ≠ []))
     rw [List.length_singleton]
     omega) r hr
  rw [List.length_cons]
  omega
abbrev tT : Cs := [115, 97, 109, 101]
abbrev k9 : Cs := [117, 110, 108, 105, 107, 101]
def tU (k : Lk) : List Cs := [k.l, if k.same = true then tT else k9, k.r]
def tV (p : Cs × Cs) : List Cs := [p.1, [61], p.2]
def FE : Sp := fun vs H Q _ => ∃ (l : Addr) (a m b : Cs), vs = [.ref l] ∧ H l = some (.lst [tx a, tx m, tx b]) ∧ bh a = true ∧ bh b = true ∧ ∀ H', ag H H' → Q .cL H'
structure BI (K : PySem.W.Frag) (C : Addr) : Prop where
 cl : C8 K C
 nL : cA K C "left"
 nR : cA K C "right"
def jA (K : PySem.W.Frag) : Sp := fun vs H Q _ => ∃ (C p dx : Addr) (l r : V), vs = [.ref p, l, r] ∧ BI K C ∧ H p = some (.ins C dx []) ∧ ∀ H' fs, H' p = some (.ins C dx fs) → fs.lookup ("left" : Str) = some l → fs.lookup ("right" : Str) = some r → fs.lookup ("holds" : Str) = none → fs.lookup ("word" : Str) = none → (∀ b o, H b = some o → b ≠ p → H' b = some o) → Q .cL H'
def DG (c : Cl) : Sp := fun vs H Q _ => ∃ (l : Addr) (k : Lk), vs = [.ref l] ∧ H l = some (.lst ((tU k).map tx)) ∧ bh k.l = true ∧ bh k.r = true ∧ ∀ v H', ag H H' → oM c H H' k v → Q v H'
def DH (K : PySem.W.Frag) : Sp := fun vs H Q _ => ∃ (l : Addr) (p : Cs × Cs), vs = [.ref l] ∧ H l = some (.lst ((tV p).map tx)) ∧ bh p.1 = true ∧ bh p.2 = true ∧ ∀ v H', ag H H' → Pair K H' p v → Q v H'
def yC (c : Cl) : Sp := fun vs H Q _ => ∃ (l : Addr) (ks : List Lk), vs = [.ref l] ∧ H l = some (.lst ((glue [44] (ks.map tU)).map tx)) ∧ ks ≠ [] ∧ ks.length ≤ 1000 ∧ (∀ k ∈ ks, bh k.l = true ∧ bh k.r = true) ∧ ∀ v H', ag H H' → Looks c H H' v ks → Q v H'
def yD (K : PySem.W.Frag) : Sp := fun vs H Q _ => ∃ (l : Addr) (ps : List (Cs × Cs)), vs = [.ref l] ∧ H l = some (.lst ((glue [44] (ps.map tV)).map tx)) ∧ ps ≠ [] ∧ ps.length ≤ 1000 ∧ (∀ k ∈ ps, bh k.1 = true ∧ bh k.2 = true) ∧ ∀ v H', ag H H' → Pairs K H H' v ps → Q v H'
theorem mS {p : Cs} (h : bh p = true) : p ≠ [44] := by
 intro e
 rw [e] at h
 exact absurd h (by decide +kernel)
theorem tW {m : Cs} : ∀ (qs : List (List Cs)) (B : Nat), (∀ q ∈ qs, q.length ≤ B) → (glue m qs).length ≤ qs.length * (B + 1)
 | [], _, _ => by simp [glue]
 | [q], B, h => by
  show q.length ≤ _
  have := h q (by simp)
  simp
  omega
 | q :: q2 :: r, B, h => by
  have ih := tW (m := m) (q2 :: r) B fun x hx => h x (List.mem_cons_of_mem _ hx)
  have hq := h q (by simp)
  show (q ++ m :: glue m (q2 :: r)).length ≤ _
  rw [List.length_append, List.length_cons, List.length_cons, Nat.add_mul]
  omega
end Bk
namespace Bk
open PySem L2 f9
inductive Pt where
 | fs (l : List Fc)
 | lk (l : List Lk)
 | pr (l : List (Cs × Cs))
def cB (K : PySem.W.Frag) (c : Cl) (H0 H : Hp) (v : V) : Pt → Prop
 | .fs l => Facts K H0 H v l
 | .lk l => Looks c H0 H v l
 | .pr l => Pairs K H0 H v l
theorem cB.keep {K : PySem.W.Frag} {c : Cl} {H0 H H' : Hp} {v : V} (k : Kp H0 H H') : ∀ {p : Pt}, cB K c H0 H v p → cB K c H0 H' v p
 | .fs _, h => Facts.keep k h
 | .lk _, h => Looks.keep k h
 | .pr _, h => Pairs.keep k h
theorem oM.bj {c : Cl} {H0 H1 H : Hp} {x : Lk} {v : V} (d : ∀ b, H1 b = none → H0 b = none) (h : oM c H1 H x v) : oM c H0 H x v := by
 obtain ⟨a, dx, fs, e, n, r⟩ := h
 exact ⟨a, dx, fs, e, d a n, r⟩
theorem Looks.bj {c : Cl} {H0 H1 H : Hp} {xs : List Lk} {v : V} (d : ∀ b, H1 b = none → H0 b = none) (h : Looks c H1 H v xs) : Looks c H0 H v xs := by
 obtain ⟨l, vs, e, n, h1, h2⟩ := h
 exact ⟨l, vs, e, d l n, h1, L2.Paired.bY h2 fun _ _ z => z.bj d⟩
theorem cB.bj {K : PySem.W.Frag} {c : Cl} {H0 H1 H : Hp} {v : V} (d : ∀ b, H1 b = none → H0 b = none) : ∀ {p : Pt}, cB K c H1 H v p → cB K c H0 H v p
 | .fs _, h => vG.bj d h
 | .lk _, h => Looks.bj d h
 | .pr _, h => vG.bj d h
def wordAt : Nat → Cs
 | 0 => Jh
 | 1 => Ji
 | 2 => Jj
 | 3 => NB
 | _ => tQ
theorem tX {i j : Nat} (hi : i < 5) (hj : j < 5) (h : wordAt i = wordAt j) : i = j := by
 rcases (by omega : i = 0 ∨ i = 1 ∨ i = 2 ∨ i = 3 ∨ i = 4) with e | e | e | e | e <;> subst e <;>
 rcases (by omega : j = 0 ∨ j = 1 ∨ j = 2 ∨ j = 3 ∨ j = 4) with e | e | e | e | e <;> subst e <;> first | rfl | exact absurd h (by decide)
inductive oT : Nat → List Cs → Pt → Prop
 | fs {n : Nat} {ps : List Cs} {l : List Fc} (hn : n = 0 ∨ n = 1 ∨ n = 3) (h : rQ ps l) : oT n ps (.fs l)
 | lk {l : List Lk} (h0 : l ≠ []) (hl : l.length ≤ 1000) (h : ∀ k ∈ l, bh k.l = true ∧ bh k.r = true) : oT 2 (glue [44] (l.map tU)) (.lk l)
 | pr {l : List (Cs × Cs)} (h0 : l ≠ []) (hl : l.length ≤ 1000) (h : ∀ k ∈ l, bh k.1 = true ∧ bh k.2 = true) : oT 4 (glue [44] (l.map tV)) (.pr l)
def DI (K : PySem.W.Frag) (c : Cl) : Sp := fun vs H Q _ => ∃ (l : Addr) (n : Nat) (ps : List Cs) (p : Pt), vs = [tx (wordAt n), .ref l] ∧ H l = some (.lst (ps.map tx)) ∧ ps.length ≤ 20000 ∧ oT n ps p ∧ ∀ v H', ag H H' → cB K c H H' v p → Q v H'
structure Pr where
 n : Nat
 ps : List Cs
 p : Pt
def OS : Nat → List Pr → Prop
 | _, [] => True
 | m, x :: r => m ≤ x.n ∧ x.n < 5 ∧ OS (x.n + 1) r
structure FF (title : Cs) (L : List Pr) : Prop where
 tt : aN title = true
 ne : L ≠ []
 inc : OS 0 L
 ok : ∀ x ∈ L, oT x.n x.ps x.p
 hd : ∃ x ∈ L, x.n = 0 ∨ x.n = 1
 no : ∀ x ∈ L, [59] ∉ x.ps
def iw (title : Cs) (L : List Pr) : List Cs := gr :: title :: [58] :: glue [59] (L.map fun x => wordAt x.n :: x.ps)
def cC (K : PySem.W.Frag) (c : Cl) (H0 H : Hp) (L : List Pr) (kvs : List (Key × V)) : Prop := Paired (fun (x : Pr) (kv : Key × V) => kv.1 = Sum.inr (S (wordAt x.n)) ∧ cB K c H0 H kv.2 x.p) L kvs
theorem cC.keep {K : PySem.W.Frag} {c : Cl} {H0 H H' : Hp} {L : List Pr} {kvs : List (Key × V)} (k : Kp H0 H H') (h : cC K c H0 H L kvs) : cC K c H0 H' L kvs := L2.Paired.bY h fun _ _ z => ⟨z.1, z.2.keep k⟩
def DJ (K : PySem.W.Frag) (c : Cl) : Sp := fun vs H Q _ => ∃ (l : Addr) (title : Cs) (L : List Pr), vs = [.ref l] ∧ H l = some (.lst ((iw title L).map tx)) ∧ (iw title L).length ≤ 20000 ∧ FF title L ∧
 ∀ (t d : Addr) (kvs : List (Key × V)) (H' : Hp), ag H H' → H' t = some (.tup [tx title, .ref d]) → H d = none → H' d = some (.dK kvs) → cC K c H H' L kvs → Q (.ref t) H'
theorem xD {kvs : List (Key × V)} {k : Key} (h : ∀ p ∈ kvs, p.1 ≠ k) : bG kvs k = none := by
 cases e : bG kvs k with
 | none => rfl
 | some v =>
  obtain ⟨p, hp, hk⟩ := List.mem_map.mp (Me e)
  exact absurd hk (h p hp)
theorem qe : ∀ {L : List Pr} {m : Nat}, OS m L → ∀ x ∈ L, m ≤ x.n ∧ x.n < 5
 | [], _, _, _, h => nomatch h
 | y :: r, m, hi, x, h => by
  rcases List.mem_cons.mp h with e | h
  ·subst e; exact ⟨hi.1, hi.2.1⟩
  ·have z := qe hi.2.2 x h
   have := hi.1
   exact ⟨by omega, z.2⟩
theorem Jl : ∀ {L : List Pr} {m : Nat}, OS m L → ∀ i (h : i < L.length), (∀ x ∈ L.take i, x.n < L[i].n) ∧ L[i].n < 5
 | y :: r, m, hi, 0, _ => ⟨(fun _ z => by cases z), hi.2.1⟩
 | y :: r, m, hi, i + 1, h => by
  have ih := Jl hi.2.2 i (by simpa using h)
  refine ⟨fun x hx => ?_, ih.2⟩
  rw [List.take_succ_cons] at hx
  rcases List.mem_cons.mp hx with e | hx
  ·subst e
   have := qe hi.2.2 (r[i]'(by simpa using h)) (List.getElem_mem _)
   show x.n < (r[i]'(by simpa using h)).n
   omega
  ·exact ih.1 x hx
theorem xE : ∀ {L : List Pr} {m : Nat}, OS m L → ∀ i (h : i < L.length), ∀ x ∈ L.drop (i + 1), L[i].n + 1 ≤ x.n
 | y :: r, m, hi, 0, _, x, hx => (qe hi.2.2 x hx).1
 | y :: r, m, hi, i + 1, h, x, hx => xE hi.2.2 i (by simpa using h) x hx
theorem FG : ∀ {L : List Pr} {m : Nat}, OS m L → m ≤ 5 → L.length ≤ 5 - m
 | [], _, _, _ => Nat.zero_le _
 | y :: r, m, hi, hm => by
  have ih := FG hi.2.2 (by have := hi.2.1; omega)
  have := hi.1
  have := hi.2.1
  rw [List.length_cons]
  omega
theorem BJ {m : Cs} : ∀ (qs : List (List Cs)) (q : List Cs), q ∈ qs → q.length ≤ (glue m qs).length
 | [a], q, h => by rw [List.mem_singleton.mp h]; exact Nat.le_refl _
 | a :: b :: r, q, h => by
  have ih := BJ (m := m) (b :: r)
  show q.length ≤ (a ++ m :: glue m (b :: r)).length
  rw [List.length_append, List.length_cons]
  rcases List.mem_cons.mp h with e | h
  ·rw [e]; omega
  ·have := ih q h; omega
theorem xF {K : PySem.W.Frag} {c : Cl} {H0 H : Hp} : ∀ {L : List Pr} {kvs : List (Key × V)}, cC K c H0 H L kvs → ∀ {x : Pr}, x ∈ L → (bG kvs (Sum.inr (S (wordAt x.n)) : Key)).isSome = true
 | _, _, .nil, _, h => nomatch h
 | _, _, .cons (a := a) (b := b) (l₁ := l1) (l₂ := l2) r t, x, h => by
  rw [← i7, List.any_cons]
  rcases List.mem_cons.mp h with e | h
  ·subst e
   rw [decide_eq_true r.1]
   rfl
  ·have ih := xF t h
   rw [← i7] at ih
   rw [ih, Bool.or_true]
end Bk
namespace Bk
open PySem L2 f9
def Jm (f : Fc) : Prop := aN f.k = true ∧ f.as.length ≤ 20000 ∧ ∀ a ∈ f.as, bh a = true
def nc (x : Cs) (acc : List Cs) : List Cs := if great x = true then (if x ∈ acc then acc else acc ++ [x]) else acc
def dY (l : List Cs) (acc : List Cs) : List Cs := l.foldl (fun acc x => nc x acc) acc
theorem la : ∀ (l acc : List Cs), once (l.filter great) acc = dY l acc
 | [], acc => rfl
 | x :: r, acc => by
  rw [List.filter_cons]
  by_cases h : great x = true
  ·rw [if_pos h]
   show once (r.filter great) (if x ∈ acc then acc else acc ++ [x]) = dY r (nc x acc)
   rw [la r]
   unfold nc
   rw [if_pos h]
  ·rw [if_neg h, la r]
   show _ = dY r (nc x acc)
   unfold nc
   rw [if_neg h]
theorem Jn (fs : List Fc) : opens fs = dY (fs.flatMap (·.as)) [] := la _ _
theorem qf (a b acc : List Cs) : dY (a ++ b) acc = dY b (dY a acc) := List.foldl_append ..
def vQ (a : Cs) : Key × V := (Sum.inr (S a), .bl true)
theorem Jo (x : Cs) (acc : List Cs) : putK (acc.map vQ) (Sum.inr (S x) : Key) (.bl true) = (if x ∈ acc then acc else acc ++ [x]).map vQ := by
 unfold putK
 have e : ((acc.map vQ).any fun kv => decide (kv.1 = (Sum.inr (S x) : Key))) = decide (x ∈ acc) := by
  rw [Bool.eq_iff_iff, List.any_eq_true, decide_eq_true_eq]
  constructor
  ·rintro ⟨kv, hm, hk⟩
   obtain ⟨a, ha, rfl⟩ := List.mem_map.mp hm
   have := of_decide_eq_true hk
   rw [xA (Sum.inr.inj this)] at ha
   exact ha
  ·intro h
   exact ⟨vQ x, List.mem_map.mpr ⟨x, h, rfl⟩, decide_eq_true rfl⟩
 rw [e]
 by_cases h : x ∈ acc
 ·rw [decide_eq_true h, if_pos rfl, if_pos h]
  rw [List.map_map]
  refine List.map_congr_left fun a _ => ?_
  show (if (vQ a).1 = _ then ((vQ a).1, V.bl true) else vQ a) = vQ a
  split <;> rfl
 ·rw [decide_eq_false h, if_neg (by decide), if_neg h, List.map_append]
  rfl
theorem GU (x : Cs) (acc : List Cs) : (nc x acc).length ≤ acc.length + 1 := by
 unfold nc
 split
 ·split <;> simp
 ·omega
def yE (K : PySem.W.Frag) : Sp := fun vs H Q _ => ∃ (l : Addr) (us : List V) (fs : List Fc), vs = [.ref l] ∧ H l = some (.lst us) ∧ Paired (Fact K H) fs us ∧ fs.length ≤ 20000 ∧ (∀ f ∈ fs, Jm f) ∧ (fs.flatMap (·.as)).length ≤ 20000 ∧ ∀ v H', ag H H' → oN H H' v (opens fs) → Q v H'
def kH (n : Nat) (L : List Pr) : Option Pr := L.find? fun x => x.n == n
def rR (n : Nat) (L : List Pr) : List Fc := match kH n L with
 | some ⟨_, _, .fs l⟩ => l
 | _ => []
def GV (L : List Pr) : List Lk := match kH 2 L with
 | some ⟨_, _, .lk l⟩ => l
 | _ => []
def GW (L : List Pr) : List (Cs × Cs) := match kH 4 L with
 | some ⟨_, _, .pr l⟩ => l
 | _ => []
def hZ (title : Cs) (L : List Pr) : Rl := ⟨title, rR 0 L, rR 1 L, GV L, rR 3 L, GW L⟩
theorem mT {K : PySem.W.Frag} {c : Cl} {H0 H : Hp} : ∀ {L : List Pr} {kvs : List (Key × V)} {n : Nat}, cC K c H0 H L kvs → (∀ x ∈ L, x.n < 5) → n < 5 →
  (kH n L = none ∧ bG kvs (Sum.inr (S (wordAt n)) : Key) = none) ∨ ∃ x v, kH n L = some x ∧ x ∈ L ∧ x.n = n ∧ bG kvs (Sum.inr (S (wordAt n)) : Key) = some v ∧ cB K c H0 H v x.p
 | _, _, n, .nil, _, _ => .inl ⟨rfl, rfl⟩
 | _, _, n, .cons (a := a) (b := b) (l₁ := l1) (l₂ := l2) r t, h5, hn => by
  by_cases e : a.n = n
  ·refine .inr ⟨a, b.2, ?_, List.mem_cons_self, e, ?_, r.2⟩
   ·unfold kH
    rw [List.find?_cons, show (a.n == n) = true by simpa using e]
   ·exact kW (by rw [r.1, e])
  ·have hf : kH n (a :: l1) = kH n l1 := by
    unfold kH
    rw [List.find?_cons, show (a.n == n) = false by simpa using e]
   have hv : bG (b :: l2) (Sum.inr (S (wordAt n)) : Key) = bG l2 (Sum.inr (S (wordAt n)) : Key) := kX (by
    rw [r.1]
    intro z
    exact e (tX (h5 a List.mem_cons_self) hn (xA (Sum.inr.inj z))))
   rw [hf, hv]
   rcases mT (n := n) t (fun x hx => h5 x (List.mem_cons_of_mem _ hx)) hn with z | ⟨x, v, z1, z2, z3⟩
   ·exact .inl z
   ·exact .inr ⟨x, v, z1, List.mem_cons_of_mem _ z2, z3⟩
theorem BK {K : PySem.W.Frag} {H0 H : Hp} {l : Addr} (h0 : H0 l = none) (h : H l = some (.lst [])) : Facts K H0 H (.ref l) [] := ⟨l, [], rfl, h0, h, .nil⟩
theorem BL {c : Cl} {H0 H : Hp} {l : Addr} (h0 : H0 l = none) (h : H l = some (.lst [])) : Looks c H0 H (.ref l) [] := ⟨l, [], rfl, h0, h, .nil⟩
theorem BM {K : PySem.W.Frag} {H0 H : Hp} {l : Addr} (h0 : H0 l = none) (h : H l = some (.lst [])) : Pairs K H0 H (.ref l) [] := ⟨l, [], rfl, h0, h, .nil⟩
theorem DK {K : PySem.W.Frag} {c : Cl} {H0 H : Hp} {L : List Pr} {kvs : List (Key × V)} {n : Nat} {l : Addr} (pa : cC K c H0 H L kvs) (h5 : ∀ x ∈ L, x.n < 5) (bB : ∀ x ∈ L, oT x.n x.ps x.p) (hn : n = 0 ∨ n = 1 ∨ n = 3) (h0 : H0 l = none) (h : H l = some (.lst [])) :
  Facts K H0 H ((bG kvs (Sum.inr (S (wordAt n)) : Key)).getD (.ref l)) (rR n L) := by
 rcases mT (n := n) pa h5 (by omega) with ⟨z1, z2⟩ | ⟨⟨xn, YC, xp⟩, v, z1, z2, rfl, z4, z5⟩
 ·rw [z2]
  unfold rR
  rw [z1]
  exact BK h0 h
 ·rw [z4]
  unfold rR
  rw [z1]
  have hP := bB _ z2
  cases xp with
  | fs l => exact z5
  | lk l => cases hP; exact absurd (show 2 = 0 ∨ 2 = 1 ∨ 2 = 3 from hn) (by decide)
  | pr l => cases hP; exact absurd (show 4 = 0 ∨ 4 = 1 ∨ 4 = 3 from hn) (by decide)
theorem OT {K : PySem.W.Frag} {c : Cl} {H0 H : Hp} {L : List Pr} {kvs : List (Key × V)} {l : Addr} (pa : cC K c H0 H L kvs) (h5 : ∀ x ∈ L, x.n < 5) (bB : ∀ x ∈ L, oT x.n x.ps x.p) (h0 : H0 l = none) (h : H l = some (.lst [])) :
  Looks c H0 H ((bG kvs (Sum.inr (S (wordAt 2)) : Key)).getD (.ref l)) (GV L) := by
 rcases mT (n := 2) pa h5 (by omega) with ⟨z1, z2⟩ | ⟨⟨xn, YC, xp⟩, v, z1, z2, z3, z4, z5⟩
 ·rw [z2]
  unfold GV
  rw [z1]
  exact BL h0 h
 ·rw [z4]
  unfold GV
  rw [z1]
  have z3 : xn = 2 := z3
  subst z3
  have hP := bB _ z2
  cases xp with
  | fs l => cases hP with | fs hn _ => exact absurd (show 2 = 0 ∨ 2 = 1 ∨ 2 = 3 from hn) (by decide)
  | lk l => exact z5
  | pr l => cases hP
theorem OU {K : PySem.W.Frag} {c : Cl} {H0 H : Hp} {L : List Pr} {kvs : List (Key × V)} {l : Addr} (pa : cC K c H0 H L kvs) (h5 : ∀ x ∈ L, x.n < 5) (bB : ∀ x ∈ L, oT x.n x.ps x.p) (h0 : H0 l = none) (h : H l = some (.lst [])) :
  Pairs K H0 H ((bG kvs (Sum.inr (S (wordAt 4)) : Key)).getD (.ref l)) (GW L) := by
 rcases mT (n := 4) pa h5 (by omega) with ⟨z1, z2⟩ | ⟨⟨xn, YC, xp⟩, v, z1, z2, z3, z4, z5⟩
 ·rw [z2]
  unfold GW
  rw [z1]
  exact BM h0 h
 ·rw [z4]
  unfold GW
  rw [z1]
  have z3 : xn = 4 := z3
  subst z3
  have hP := bB _ z2
  cases xp with
  | fs l => cases hP with | fs hn _ => exact absurd (show 4 = 0 ∨ 4 = 1 ∨ 4 = 3 from hn) (by decide)
  | lk l => cases hP
  | pr l => exact z5
structure yF (K : PySem.W.Frag) (C : Addr) : Prop where
 cl : C8 K C
 n1 : cA K C "title"
 n2 : cA K C "taken"
 n3 : cA K C "kept"
 n4 : cA K C "looks"
 n5 : cA K C "given"
 n6 : cA K C "told"
 n7 : cA K C "names"
structure Mn (K : PySem.W.Frag) (C : Addr) : Prop where
 cl : C8 K C
 n1 : cA K C "kinds"
 n2 : cA K C "rules"
structure Mo (r : Rl) : Prop where
 heads : ∀ f ∈ r.take ++ r.keep, Jm f
 few : (r.take ++ r.keep).length ≤ 20000
 Wj : ((r.take ++ r.keep).flatMap (·.as)).length ≤ 20000
def sx (K : PySem.W.Frag) (c : Cl) : Sp := fun vs H Q _ => ∃ (H0 : Hp) (p dx d : Addr) (title : Cs) (L : List Pr) (kvs : List (Key × V)) (u0 : HO), vs = [.ref p, tx title, .ref d] ∧ H p = some (.ins c.rule dx []) ∧ H0 p = some u0 ∧ (∀ b, H b = none → H0 b = none) ∧ H d = some (.dK kvs) ∧
 cC K c H0 H L kvs ∧ (∀ x ∈ L, x.n < 5) ∧ (∀ x ∈ L, oT x.n x.ps x.p) ∧ Mo (hZ title L) ∧
 ∀ H' fs, H' p = some (.ins c.rule dx fs) → oO K c H0 H' (hZ title L) fs → (∀ b o, H b = some o → b ≠ p → H' b = some o) → Q .cL H'
def sy (K : PySem.W.Frag) (c : Cl) : Sp := fun vs H Q _ => ∃ (p dx : Addr) (k r : V), vs = [.ref p, k, r] ∧ H p = some (.ins c.book dx []) ∧ ∀ H' fs, H' p = some (.ins c.book dx fs) → fs.lookup ("kinds" : Str) = some k → fs.lookup ("rules" : Str) = some r → (∀ b o, H b = some o → b ≠ p → H' b = some o) → Q .cL H'
def yG (K : PySem.W.Frag) (c : Cl) : Sp := fun vs H Q _ => ∃ (H0 : Hp) (v : V) (r : Rl), vs = [v] ∧ ie K c H0 H r v ∧ Q (.bl (decide (r.take = []))) H
theorem jB {α β : Type} {R : α → β → Prop} : ∀ {a1 a2 : List α} {b1 b2 : List β}, Paired R a1 b1 → Paired R a2 b2 → Paired R (a1 ++ a2) (b1 ++ b2)
 | _, _, _, _, .nil, h => h
 | _, _, _, _, .cons r t, h => .cons r (jB t h)
end Bk
namespace Bk
open PySem L2 f9
theorem oU (a : Cs) (l : List Cs) : GG (tx a) (l.map tx) = decide (a ∈ l) := by
 unfold GG
 rw [List.any_map, Bool.eq_iff_iff, List.any_eq_true, decide_eq_true_eq]
 constructor
 ·rintro ⟨x, hx, h⟩
  have e : (S x == S a) = true := h
  rw [xA (eq_of_beq e)] at hx
  exact hx
 ·intro h
  exact ⟨a, h, (show (S a == S a) = true from beq_self_eq_true _)⟩
theorem lb (l : List Cs) : (l.map tx).all eU = true := by
 rw [List.all_map, List.all_eq_true]
 intro x _
 rfl
theorem ja {tt : TT} {te : TE} {aE : List Nat} {σ : St} {H1 : Hp} {Q : VK} {K : PySem.W.Frag} {a : Addr} {xs : List V} {D : Addr} {β γ : Type} (bs : List β) (kp : β → Bool) (g : β → γ) (Out : Hp → Hp → γ → V → Prop)
  (keep : ∀ H0 H H' b y, Kp H0 H H' → Out H0 H b y → Out H0 H' b y) (bj : ∀ H0 H2 H b y, (∀ c, H2 c = none → H0 c = none) → Out H2 H b y → Out H0 H b y)
  (hn : xs.length < sizeLine) (vF : H1 D = none) (hl : ax K H1 a xs) (hb : bs.length = xs.length)
  (ht : ∀ (i : Nat) x b H' R, xs[i]? = some x → bs[i]? = some b → ag H1 H' → (∀ m8, ag H' m8 → R (kp b) m8) → tt (bW σ (some x) aE) H' R)
  (he : ∀ (i : Nat) x b H' R, xs[i]? = some x → bs[i]? = some b → kp b = true → ag H1 H' → (∀ y m8, ag H' m8 → Out H' m8 (g b) y → R y m8) → te (bW σ (some x) aE) H' R)
  (hd : ∀ H' ys, ag H1 H' → H' D = some (.lst ys) → Paired (Out H1 H') ((bs.filter kp).map g) ys → Q (.ref D) H') : rh tt te aE σ Q (Lu K a) H1 D := by
 have s0 : ag H1 (upd H1 D (.lst [])) := aj vF _
 have OR : ∀ c, upd H1 D (.lst []) c = none → H1 c = none := fun c h => s0.free h
 refine pY (K := K) (a := a) (xs := xs) hn (fun i ys H' => ag H1 H' ∧ H' D = some (.lst ys) ∧ (∀ c, H' c = none → upd H1 D (.lst []) c = none) ∧ Paired (Out (upd H1 D (.lst [])) H') (((bs.take i).filter kp).map g) ys) ⟨s0, ae, fun _ h => h, .nil⟩
  (fun i ys H' p => p.1.seq hl) (fun i ys H' p => ⟨p.2.1, ?_⟩) (fun i ys H' hi p => ?_) (fun ys H' p => ?_)
 ·have z := Paired.length p.2.2.2
  rw [Lm9] at z
  have z2 := List.length_filter_le kp (bs.take i)
  rw [List.length_take] at z2
  omega
 ·have hx : xs.getD i .cL = xs[i] := by rw [Gd9, Ge9 hi]; rfl
  rw [hx]
  have dq : i < bs.length := by omega
  refine ht i xs[i] bs[i] H' _ (Ge9 hi) (Ge9 dq) p.1 fun YD OV => ?_
  have UW := OV _ _ p.2.1
  have OW : ∀ c, YD c = none → upd H1 D (.lst []) c = none := fun c h => p.2.2.1 c (OV.free h)
  cases hk : kp bs[i] with
  | false =>
   refine bO ⟨ag.trans p.1 OV, UW, OW, ?_⟩
   rw [List.take_succ_eq_append_getElem dq, List.filter_append]
   have e : [bs[i]].filter kp = [] := by simp [hk]
   rw [e, List.append_nil]
   exact L2.Paired.bY p.2.2.2 fun b v z => keep _ _ _ _ _ (Kp.same OV) z
  | true =>
   refine nE ?_
   refine he i xs[i] bs[i] YD _ (Ge9 hi) (Ge9 dq) hk (ag.trans p.1 OV) fun y H2 s2 ho => ?_
   have k0 := s2 _ _ UW
   have Ny : Kp (upd H1 D (.lst [])) H2 (upd H2 D (.lst (ys ++ [y]))) := Kp.upd ae k0 (by intro xs z; cases z) (by intro o u z; cases z)
   refine ⟨k0, ag.aS (ag.trans (ag.trans p.1 OV) s2) vF _, ae, fun c h => ?_, ?_⟩
   ·exact OW c (s2.free (Ny.tM c h))
   ·rw [List.take_succ_eq_append_getElem dq, List.filter_append]
    have e : [bs[i]].filter kp = [bs[i]] := by simp [hk]
    rw [e, List.map_append]
    refine (L2.Paired.bY p.2.2.2 fun b v z => keep _ _ _ _ _ Ny (keep _ _ _ _ _ (Kp.same (ag.trans OV s2)) z)).snoc ?_
    exact keep _ _ _ _ _ Ny (bj _ _ _ _ _ OW ho)
 ·have z := p.2.2.2
  rw [List.take_of_length_le (by omega)] at z
  exact hd H' ys p.1 p.2.1 (L2.Paired.bY z fun b v h => bj _ _ _ _ _ (fun c h => by
   by_cases e : c = D
   ·rw [e]; exact vF
   ·exact OR c h) h)
theorem dQ : ∀ {l : List Cs} {ys : List V}, Paired (fun b y => y = tx b) l ys → ys = l.map tx
 | _, _, .nil => rfl
 | _, _, .cons r t => by rw [r, dQ t]; rfl
def OX (k : Kd) : Prop := aN k.n = true ∧ k.c ≤ 4
structure nH (K : PySem.W.Frag) (c : Cl) (H0 H : Hp) (lk lr : Addr) (ks : List Kd) (rs : List Rl) (kvs pQ : List V) : Prop where
 hk : H lk = some (.lst kvs)
 pk : Paired (Kind K H) ks kvs
 hr : H lr = some (.lst pQ)
 pr : Paired (ie K c H0 H) rs pQ
 ne : lk ≠ lr
 ok : ∃ u, H0 lk = some u
 or : ∃ u, H0 lr = some u
 tM : ∀ b, H b = none → H0 b = none
 fk : ks.length ≤ 10000
 fr : rs.length ≤ 10000
def DL (K : PySem.W.Frag) (c : Cl) : Sp := fun vs H Q _ => ∃ (H0 : Hp) (lk lr : Addr) (ks : List Kd) (rs : List Rl) (kvs pQ : List V) (p : Cs), vs = [.ref lk, .ref lr, tx p] ∧ nH K c H0 H lk lr ks rs kvs pQ ∧ ks.length < 10000 ∧ rs.length < 10000 ∧ p.length ≤ 20000 ∧ p.all (Nz BH) = true ∧
  ((∃ k : Kd, toks p = xC k ∧ OX k ∧ k.n ∉ ks.map (·.n) ∧ ∀ v H', (∀ b o, b ≠ lk → H b = some o → H' b = some o) → nH K c H0 H' lk lr (ks ++ [k]) rs (kvs ++ [v]) pQ → Q .cL H') ∨
   (∃ (title : Cs) (L : List Pr), toks p = iw title L ∧ FF title L ∧ Mo (hZ title L) ∧ title ∉ rs.map (·.title) ∧ ∀ v H', (∀ b o, b ≠ lr → H b = some o → H' b = some o) → nH K c H0 H' lk lr ks (rs ++ [hZ title L]) kvs (pQ ++ [v]) → Q .cL H'))
theorem ie.bj {K : PySem.W.Frag} {c : Cl} {H0 H1 H : Hp} {r : Rl} {v : V} (d : ∀ b, H1 b = none → H0 b = none) (h : ie K c H1 H r v) : ie K c H0 H r v := by
 obtain ⟨a, dx, fs, e, n, h1, ⟨t1, ⟨v2, e2, h2⟩, ⟨v3, e3, h3⟩, ⟨v4, e4, h4⟩, ⟨v5, e5, h5⟩, ⟨v6, e6, h6⟩, ⟨v7, e7, h7⟩, h8⟩⟩ := h
 refine ⟨a, dx, fs, e, d a n, h1, ⟨t1, ⟨v2, e2, vG.bj d h2⟩, ⟨v3, e3, vG.bj d h3⟩, ⟨v4, e4, Looks.bj d h4⟩, ⟨v5, e5, vG.bj d h5⟩, ⟨v6, e6, vG.bj d h6⟩, ⟨v7, e7, ?_⟩, h8⟩⟩
 obtain ⟨l, el, nl, hl⟩ := h7
 exact ⟨l, el, d l nl, hl⟩
theorem cB.apart {K : PySem.W.Frag} {c : Cl} {H0 H : Hp} {v : V} {x : Addr} {o : HO} (hx : H x = none) {p : Pt} (h : cB K c H0 H v p) : cB K c (upd H0 x o) H v p := by
 have key : ∀ b u, H b = some u → H0 b = none → upd H0 x o b = none := fun b u e n => by rw [aq (aH e hx)]; exact n
 cases p with
 | fs l =>
  obtain ⟨l, vs, e, n, h1, h2⟩ := h
  exact ⟨l, vs, e, key _ _ h1 n, h1, h2⟩
 | pr l =>
  obtain ⟨l, vs, e, n, h1, h2⟩ := h
  exact ⟨l, vs, e, key _ _ h1 n, h1, h2⟩
 | lk l =>
  obtain ⟨l, vs, e, n, h1, h2⟩ := h
  exact ⟨l, vs, e, key _ _ h1 n, h1, L2.Paired.bY h2 fun k y z => by
   obtain ⟨a, dx, fs, e, n, z1, z2⟩ := z
   exact ⟨a, dx, fs, e, key _ _ z1 n, z1, z2⟩⟩
theorem oO.bj {K : PySem.W.Frag} {c : Cl} {H0 H1 H : Hp} {r : Rl} {fs : List (Str × V)} (d : ∀ b, H1 b = none → H0 b = none) (h : oO K c H1 H r fs) : oO K c H0 H r fs := by
 obtain ⟨t1, ⟨v2, e2, h2⟩, ⟨v3, e3, h3⟩, ⟨v4, e4, h4⟩, ⟨v5, e5, h5⟩, ⟨v6, e6, h6⟩, ⟨v7, e7, h7⟩, h8⟩ := h
 refine ⟨t1, ⟨v2, e2, vG.bj d h2⟩, ⟨v3, e3, vG.bj d h3⟩, ⟨v4, e4, Looks.bj d h4⟩, ⟨v5, e5, vG.bj d h5⟩, ⟨v6, e6, vG.bj d h6⟩, ⟨v7, e7, ?_⟩, h8⟩
 obtain ⟨l, el, nl, hl⟩ := h7
 exact ⟨l, el, d l nl, hl⟩
def oV (ks : List Kd) (f : Fc) : Prop := ∃ k ∈ ks, k.n = f.k ∧ f.as.length = k.c
def tY (K : PySem.W.Frag) : Sp := fun vs H Q _ => ∃ (lk lf : Addr) (kvs Jp : List V) (ks : List Kd) (fs : List Fc), vs = [.ref lk, .ref lf] ∧ H lk = some (.lst kvs) ∧ Paired (Kind K H) ks kvs ∧ (ks.map (·.n)).Nodup ∧ ks.length ≤ 10000 ∧ H lf = some (.lst Jp) ∧ Paired (Fact K H) fs Jp ∧ (∀ f ∈ fs, oV ks f) ∧ ∀ H', ag H H' → Q .cL H'
def tZ (K : PySem.W.Frag) : Sp := fun vs H Q _ => ∃ (ll lf : Addr) (Jp : List V) (ls : List Cs) (fs : List Fc), vs = [.ref ll, .ref lf] ∧ H ll = some (.lst (ls.map tx)) ∧ H lf = some (.lst Jp) ∧ Paired (Fact K H) fs Jp ∧ (∀ f ∈ fs, f.k ∉ ls) ∧ Q .cL H
def t4 (K : PySem.W.Frag) (c : Cl) : Sp := fun vs H Q _ => ∃ (H0 : Hp) (ll : Addr) (v : V) (ls : List Cs) (r : Rl), vs = [.ref ll, v] ∧ H ll = some (.lst (ls.map tx)) ∧ ie K c H0 H r v ∧ (r.take = [] → ∀ f ∈ r.put, f.k ∈ ls) ∧ Q .cL H
def dM (r : Rl) : List Cs := (r.dX.flatMap fun k => [k.l, k.r]) ++ ((r.put.flatMap (·.as)) ++ (r.tell.flatMap fun p => [p.1, p.2]))
def DM (K : PySem.W.Frag) (c : Cl) : Sp := fun vs H Q _ => ∃ (H0 : Hp) (v : V) (r : Rl), vs = [v] ∧ ie K c H0 H r v ∧ (dM r).length ≤ 20000 ∧ ∀ u H', ag H H' → oN H H' u (dM r) → Q u H'
def t5 (K : PySem.W.Frag) (c : Cl) : Sp := fun vs H Q _ => ∃ (H0 : Hp) (v : V) (r : Rl), vs = [v] ∧ ie K c H0 H r v ∧ (dM r).length ≤ 20000 ∧ (∀ a ∈ dM r, bh a = true) ∧ (∀ a ∈ dM r, great a = true → a ∈ opens (r.take ++ r.keep)) ∧ ∀ H', ag H H' → Q .cL H'
structure DN (ks : List Kd) (r : Rl) : Prop where
 fits : ∀ f ∈ r.take ++ r.keep ++ r.put, oV ks f
 takes : ∀ f ∈ r.take, f.k ∉ (ks.filter (·.l)).map (·.n)
 calls : r.take = [] → ∀ f ∈ r.put, f.k ∈ (ks.filter (·.l)).map (·.n)
 Wk : ∀ a ∈ dM r, great a = true → a ∈ opens (r.take ++ r.keep)
 names : ∀ a ∈ dM r, bh a = true
 few : (dM r).length ≤ 20000
 Wl : (r.take ++ r.keep ++ r.put).length ≤ 20000
def yH (K : PySem.W.Frag) (c : Cl) : Sp := fun vs H Q _ => ∃ (H0 : Hp) (lk lr : Addr) (ks : List Kd) (rs : List Rl) (kvs pQ : List V), vs = [.ref lk, .ref lr] ∧ nH K c H0 H lk lr ks rs kvs pQ ∧ (ks.map (·.n)).Nodup ∧ (∀ r ∈ rs, DN ks r) ∧
 ∀ x dx fs H', ag H H' → H x = none → H' x = some (.ins c.book dx fs) → fs.lookup ("kinds" : Str) = some (.ref lk) → fs.lookup ("rules" : Str) = some (.ref lr) → Q (.ref x) H'
theorem oW : ∀ (ps acc : List (Key × V)), ((acc ++ ps).map (·.1)).Nodup → iq acc ps = acc ++ ps
 | [], acc, _ => by show acc = acc ++ []; rw [List.append_nil]
 | p :: r, acc, h => by
  have hn : bG acc p.1 = none := xD fun q hq e => by
   rw [List.map_append, List.map_cons, List.nodup_append] at h
   exact h.2.2 q.1 (List.mem_map.mpr ⟨q, hq, rfl⟩) p.1 List.mem_cons_self e
  have ih := oW r (acc ++ [p]) (by rw [List.append_assoc]; exact h)
  show iq (putK acc p.1 p.2) r = _
  rw [Bw _ hn, ih, List.append_assoc]
  rfl
theorem xG : ∀ {ps : List (Key × V)} {k : Key} {v : V}, (ps.map (·.1)).Nodup → (k, v) ∈ ps → bG ps k = some v
 | p :: r, k, v, hn, h => by
  rw [List.map_cons, List.nodup_cons] at hn
  rcases List.mem_cons.mp h with e | h
  ·subst e; exact kW rfl
  ·have : p.1 ≠ k := fun e => hn.1 (List.mem_map.mpr ⟨(k, v), h, e.symm⟩)
   rw [kX this]
   exact xG hn.2 h
theorem qg {α : Type} (g : α → List Cs) (l : List α) (i : Nat) : ((l.take i).flatMap g).length ≤ (l.flatMap g).length := by
 have e : l.flatMap g = (l.take i).flatMap g ++ (l.drop i).flatMap g := by rw [← List.flatMap_append, List.take_append_drop]
 rw [e, List.length_append]
 omega
def rn (k : Kd) : Key × V := (Sum.inr (S k.n), .int k.c)
theorem rp {K : PySem.W.Frag} {H : Hp} : ∀ {ks : List Kd} {ys : List V}, Paired (fun (k : Kd) (y : V) => ∃ t, y = .ref t ∧ cM K H t [tx k.n, .int k.c]) ks ys → Fz K H (ks.map rn) ys
 | _, _, .nil => .nil
 | _, _, .cons r t => .cons r (rp t)
theorem rq {ks : List Kd} (h : (ks.map (·.n)).Nodup) : ((ks.map rn).map (·.1)).Nodup := by
 rw [List.map_map]
 have e : ((fun p : Key × V => p.1) ∘ rn) = (fun n : Cs => (Sum.inr (S n) : Key)) ∘ (fun k : Kd => k.n) := rfl
 rw [e, ← List.map_map]
 exact List.pairwise_map.mpr (List.Pairwise.imp (fun mZ e => mZ (xA (Sum.inr.inj e))) h)
end Bk
namespace Bk
open PySem L2 f9
inductive It where
 | kind (k : Kd)
 | rule (title : Cs) (L : List Pr)
def It.ps : It → List Cs
 | .kind k => xC k
 | .rule t L => iw t L
def kL : List It → List Kd
 | [] => []
 | .kind k :: r => k :: kL r
 | .rule _ _ :: r => kL r
def kM : List It → List Rl
 | [] => []
 | .kind _ :: r => kM r
 | .rule t L :: r => hZ t L :: kM r
theorem lh (a b : List It) : kL (a ++ b) = kL a ++ kL b := by
 induction a with
 | nil => rfl
 | cons x r ih => cases x <;> simp [kL, ih]
theorem lj (a b : List It) : kM (a ++ b) = kM a ++ kM b := by
 induction a with
 | nil => rfl
 | cons x r ih => cases x <;> simp [kM, ih]
def Wm : It → Prop
 | .kind k => OX k
 | .rule t L => FF t L ∧ Mo (hZ t L)
structure ND (ls : List Cs) (its : List (Cs × It)) : Prop where
 lines : ls.filter told = its.map (·.1)
 ok : ∀ x ∈ its, x.1.all (Nz BH) = true ∧ toks x.1 = x.2.ps ∧ Wm x.2
 nk : ((kL (its.map (·.2))).map (·.n)).Nodup
 nr : ((kM (its.map (·.2))).map (·.title)).Nodup
 good : ∀ r ∈ kM (its.map (·.2)), DN (kL (its.map (·.2))) r
 few : its.length < 10000
def DO (K : PySem.W.Frag) (c : Cl) : Sp := fun vs H Q _ => ∃ (ls : List Cs) (its : List (Cs × It)), vs = [tx (cu ls)] ∧ ls ≠ [] ∧ (∀ l ∈ ls, 10 ∉ l) ∧ (cu ls).length ≤ 20000 ∧ ND ls its ∧ ∀ v H', ag H H' → tN K c H H' (kL (its.map (·.2))) (kM (its.map (·.2))) v → Q v H'
theorem t6 : ∀ (a : List It), (kL a).length ≤ a.length
 | [] => Nat.le_refl _
 | .kind k :: r => by show (kL r).length + 1 ≤ _; have := t6 r; rw [List.length_cons]; omega
 | .rule t L :: r => by show (kL r).length ≤ _; have := t6 r; rw [List.length_cons]; omega
theorem t7 : ∀ (a : List It), (kM a).length ≤ a.length
 | [] => Nat.le_refl _
 | .kind k :: r => by show (kM r).length ≤ _; have := t7 r; rw [List.length_cons]; omega
 | .rule t L :: r => by show (kM r).length + 1 ≤ _; have := t7 r; rw [List.length_cons]; omega
end Bk
namespace L2
open PySem PySem.Spec PyProof.Rows
section
variable {X : Cx}
end
end L2
namespace L2
open PySem PySem.Spec PyProof.Rows
end L2
namespace Bk
open PySem L2 f9
abbrev aaF : Str := "abcdefghijklmnopqrstuvwxyz0123456789ABCDEFGHIJKLMNOPQRSTUVWXYZ"
abbrev aSF : Str := "abcdefghijklmnopqrstuvwxyz0123456789"
theorem gu (a b : List Nat) : S a ++ S b = S (a ++ b) := by
 rw [← GR (S a ++ S b), PySem.W.KT.app_list, cv, cv]
theorem sE : ∀ {as : List (List Nat)} {B : Nat}, (∀ a ∈ as, a.length ≤ B) → ((as.map S).map (·.length)).sum ≤ as.length * B
 | [], _, _ => by simp
 | a :: r, B, h => by
  have z := h a (by simp)
  have ih := sE (as := r) (B := B) fun x hx => h x (List.mem_cons_of_mem _ hx)
  rw [List.map_cons, List.map_cons, List.sum_cons, aZ, List.length_cons, Nat.add_mul]
  omega
def yI (K : PySem.W.Frag) : Sp := fun vs H Q _ => ∃ (a : Addr) (ns : List Int) (k : Int), vs = [.ref a, .int k] ∧ ax K H a (ns.map V.int) ∧ 0 ≤ k ∧ ∀ v : Int, Q (.int v) H
def FH (K : PySem.W.Frag) : Sp := fun vs H Q _ => ∃ (a : Addr) (ns : List Int), vs = [.ref a] ∧ ax K H a (ns.map V.int) ∧ ns.length ≤ 63 ∧ ∀ H', Q (.bl true) H'
theorem rS {α : Type} {n : Nat} {g : Nat → α} (h : ∀ i j, i < n → j < n → g i = g j → i = j) : ((List.range n).map g).Nodup := by
 rw [List.nodup_iff_pairwise_ne, List.pairwise_map]
 refine List.Pairwise.imp_of_mem ?_ (List.nodup_range (n := n))
 intro a b ha hb mZ e
 exact mZ (h a b (List.mem_range.mp ha) (List.mem_range.mp hb) e)
theorem yJ {zs : List (List Nat)} {i : Int} (h0 : 0 ≤ i) (h1 : i < zs.length) : pV (zs.map tx) i = some (tx (zs.getD i.toNat [])) := by
 have hk : i.toNat < zs.length := by omega
 have z := bP (xs := zs.map tx) (j := i.toNat) (v := tx (zs.getD i.toNat [])) (by rw [List.getElem?_map, Ge9 hk, Gd9, Ge9 hk]; rfl)
 rw [show ((i.toNat : Nat) : Int) = i by omega] at z
 exact z
theorem BN (ns : List Int) (lo hi : Option Int) : ∃ ms : List Int, hV (ns.map V.int) lo hi = ms.map V.int ∧ ms.length ≤ ns.length := by
 refine ⟨(ns.drop (HT.dj ns.length 0 lo)).take (HT.dj ns.length ns.length hi - HT.dj ns.length 0 lo), ?_, ?_⟩
 ·unfold hV
  rw [Lm9, List.map_take, List.map_drop]
 ·rw [List.length_take, List.length_drop]
  omega
end Bk
namespace Bk
open PySem L2 f9
def BO (c : Nat) : List Cs → Cs
 | [] => []
 | [a] => a
 | a :: r => a ++ c :: BO c r
theorem xH (c : Nat) : ∀ (ls : List Str), (Str.join ⟨#[c]⟩ ls).cps.toList = BO c (ls.map fun s => s.cps.toList)
 | [] => rfl
 | [a] => rfl
 | a :: b :: r => by
  have ih := xH c (b :: r)
  show ((a ++ (⟨#[c]⟩ : Str)) ++ Str.join ⟨#[c]⟩ (b :: r)).cps.toList = _
  rw [PySem.W.KT.app_list, PySem.W.KT.app_list, ih]
  show (a.cps.toList ++ [c]) ++ _ = a.cps.toList ++ c :: _
  simp
theorem FI : ∀ ls, BO 10 ls = cu ls
 | [] => rfl
 | [a] => rfl
 | a :: b :: r => by
  show a ++ 10 :: BO 10 (b :: r) = a ++ 10 :: cu (b :: r)
  rw [FI (b :: r)]
theorem Mp (c : Nat) (ls : List Cs) : Txt.join ⟨#[c]⟩ (ls.map S) = S (BO c ls) := by
 show Builtin.Str.glued ⟨#[c]⟩ _ = _
 rw [StrLaws.glued_eq_join, ← GR (Str.join ⟨#[c]⟩ (ls.map S)), xH, List.map_map]
 have e : ((fun s : Str => s.cps.toList) ∘ S) = id := by
  funext p
  exact cv p
 rw [e, List.map_id]
theorem BP : ∀ (ls : List Cs) (B : Nat), (∀ l ∈ ls, l.length ≤ B) → (cu ls).length ≤ ls.length * (B + 1)
 | [], _, _ => by simp [cu]
 | [a], B, h => by
  have := h a (by simp)
  show a.length ≤ 1 * (B + 1)
  omega
 | a :: b :: r, B, h => by
  have ih := BP (b :: r) B fun l hl => h l (List.mem_cons_of_mem _ hl)
  have h1 := h a (by simp)
  show (a ++ 10 :: cu (b :: r)).length ≤ ((b :: r).length + 1) * (B + 1)
  rw [List.length_append, List.length_cons, Nat.add_mul]
  omega
def rA (k : Kd) (a b c d : Nat) : Cs := List.replicate a 32 ++ ((if k.l = true then bZ else bT) ++ (List.replicate b 32 ++ (k.n ++ (List.replicate c 32 ++ ([48 + k.c] ++ List.replicate d 32)))))
def bH (k : Kd) : Cs := (if k.l = true then bZ else bT) ++ (32 :: (k.n ++ (32 :: [48 + k.c])))
theorem nJ (k : Kd) : bH k = rA k 0 1 1 0 := by
 unfold bH rA
 simp [List.replicate]
theorem Jq (b : Bool) : (if b = true then bZ else bT).all bp = true ∧ (if b = true then bZ else bT).length = 7 := by cases b <;> exact ⟨by decide +kernel, rfl⟩
theorem Jr {c : Nat} (h : c ≤ 4) : bp (48 + c) = true := by
 rcases (by omega : c = 0 ∨ c = 1 ∨ c = 2 ∨ c = 3 ∨ c = 4) with e | e | e | e | e <;> subst e <;> decide +kernel
theorem gv {p : Cs} (h : aN p = true) : p.all bp = true := by
 unfold aN bh at h
 simp only [Bool.and_eq_true] at h
 exact h.1.2.2
theorem xI {n : Nat} (h : 1 ≤ n) (r : Cs) : kG (List.replicate n 32 ++ r) := by
 cases n with
 | zero => omega
 | succ n => exact k4
theorem DP {k : Kd} {a b c d : Nat} (hn : aN k.n = true) (hc : k.c ≤ 4) (hb : 1 ≤ b) (hc1 : 1 ≤ c) : toks (rA k a b c d) = xC k := by
 have h1 := Jq k.l
 have hl := ck hn
 unfold rA xC
 rw [fD, de h1.1 (fun z => by rw [z] at h1; exact absurd h1.2 (by decide)) (xI hb _), fD, de (gv hn) (fun z => by rw [z] at hl; simp at hl) (xI hc1 _), fD,
  de (n := [48 + k.c]) (by simp [Jr hc]) (by simp) (by have z := yu d (r := []) trivial; rwa [List.append_nil] at z)]
 have z := fD d []
 rw [List.append_nil] at z
 rw [z]
 rfl
theorem OY {m : Str} {c : Nat} (h : bp c = true) : Nz m c = true := by
 unfold Nz
 rw [h]
 rfl
theorem sG {f : Nat → Bool} (h : f 32 = true) (n : Nat) : (List.replicate n 32).all f = true := by
 rw [List.all_eq_true]
 intro x hx
 rw [(List.mem_replicate.mp hx).2]
 exact h
theorem GX {f : Nat → Bool} (DQ : f 32 = true) (Ia : ∀ c, bp c = true → f c = true) {k : Kd} {a b c d : Nat} (hn : aN k.n = true) (hc : k.c ≤ 4) : (rA k a b c d).all f = true := by
 have up : ∀ p : Cs, p.all bp = true → p.all f = true := fun p h => by
  rw [List.all_eq_true] at h ⊢
  exact fun x hx => Ia x (h x hx)
 unfold rA
 rw [List.all_append, List.all_append, List.all_append, List.all_append, List.all_append, List.all_append, sG DQ, sG DQ, sG DQ, sG DQ, up _ (Jq k.l).1, up _ (gv hn), up [48 + k.c] (by simp [Jr hc])]
 rfl
theorem Js {n : Nat} {r : Cs} : (List.replicate n 32 ++ r).dropWhile (· == 32) = r.dropWhile (· == 32) := by
 induction n with
 | zero => rfl
 | succ n ih => rw [List.replicate_succ, List.cons_append, List.dropWhile_cons, if_pos (by decide)]; exact ih
theorem DR {k : Kd} {a b c d : Nat} : told (rA k a b c d) = true := by
 unfold told rA
 rw [Js]
 cases k.l <;> rfl
end Bk
namespace Bk
open PySem L2 f9
theorem yK {k : Kd} (h : k.n.length ≤ 12) : (bH k).length ≤ 22 := by
 unfold bH
 have := (Jq k.l).2
 simp only [List.length_append, List.length_cons, List.length_nil]
 omega
end Bk
namespace Bk
open PySem L2 f9
theorem fT {p : Cs} {z : Str} {t : Tok} (e : z = S p) : RelV (tx p) (Value.str z t) := ⟨t, by rw [e]⟩
end Bk
namespace L2
open PySem PySem.Spec PyProof.Rows
section
variable {X : Cx} {pins : List (Addr × Obj)} {σ : St} {H : Hp} {s : Shared} {h' : Heap}
theorem Inv.gf {t' : Nat} {ch : List Addr} (I : Inv X pins σ H s) (k : ∀ b o, b ∉ ch → s.heap.get? b = some o → h'.get? b = some o) (hf : ∀ it ∈ ch, H it = none ∧ it ≠ X.env.locals ∧ (it ∈ X.ex ∨ X.s₀.heap.objs.size ≤ it) ∧ (∀ x c, X.env.cells.lookup x = some c → c ≠ it) ∧ ∀ p ∈ X.pn ++ pins, p.1 ≠ it) :
  Inv X pins σ H { s with heap := h', toks := t' } := by
 have QF : ∀ b u, H b = some u → b ∉ ch := fun b u e z => by rw [(hf b z).1] at e; cases e
 refine I.step (g' := s.gens) (d' := s.drawn) (ch := ch) (fun b hb => ?_) (fun b o _ _ hc e _ => k b o hc e) (fun b o _ _ hc e _ => ⟨o.slots, k b o hc e⟩) (fun _ _ _ _ n => n)
  (fun b o hc e => ⟨o, k b o hc e⟩) (fun _ _ e => e) (fun _ _ _ e => e) (fun b ps e => ⟨#[], by rw [e]; simp⟩) (fun m hm => ?_) (fun b u e => ?_) I.bare
 ·obtain ⟨_, a2, a3, a4, a5⟩ := hf b hb
  exact ⟨a3, a2, a4, a5⟩
 ·obtain ⟨o, es, ep, ho, r⟩ := hm
  exact ⟨o, es, ep, k _ o (fun z => (hf _ z).2.1 rfl) ho, r⟩
 ·refine (I.bB b u e).b7 (fun c v hc q => k c v ?_ q) (fun _ q => q) fun _ _ q => q
  rcases hc with z | z
  ·rw [z]; exact QF b u e
  ·exact QF c _ z
theorem rB (h : Heap) (a : Addr) (o : Obj) (ha : a ≠ h.objs.size) : (h.push o).get? a = h.get? a := by
 cases h
 simp only [Heap.push, Heap.get?, Array.getElem?_push]
 rw [if_neg ha]
def Qg (K : PySem.W.Frag) (a : Addr) : It :=
 ⟨fun i H => ∃ xs x, ax K H a xs ∧ xs[i]? = some x, fun i H x H' => ∃ t v, H t = none ∧ H' = upd H t (.tup [.int (i : Int), v]) ∧ x = .ref t ∧ ∀ xs, ax K H a xs → xs[i]? = some v, fun i H => ∃ xs, ax K H a xs ∧ xs.length ≤ i⟩
theorem GY {P : Program} {w : World} {K : PySem.W.Frag} {elts : List Expr} {x1 : Nat} {pos : Pos} (a e it : Addr) (mZ : e ≠ it) : Turn P w K (.Tuple elts x1 pos) (Qg K a) [e, it] e (fun i h => (∃ old, IsEnum h e it ((i : Nat) : Int) old) ∧ h.IsListIter it a i) where
 mem := by simp
 obj := fun i h st b hb => by
  obtain ⟨⟨old, yL⟩, oF⟩ := st
  rcases (by simpa using hb : b = e ∨ b = it) with z | z
  ·subst z
   exact ⟨_, yL, fun v z => nomatch z⟩
  ·subst z
   obtain ⟨o, e, c, d⟩ := oF
   exact ⟨o, e, fun v z => by rw [d] at z; cases z⟩
 keep := fun i h h' st k => by
  obtain ⟨⟨old, yL⟩, oF⟩ := st
  exact ⟨⟨old, k e (by simp) _ yL⟩, oF.at fun o q => k it (by simp) o q⟩
 item := by
  intro X hP hw hK hc i pins s σ H E I hf st hg
  subst hP hw hK
  obtain ⟨⟨old, yL⟩, oF⟩ := st
  obtain ⟨xs, x, hq, hx⟩ := hg
  obtain ⟨its, rv, p, hz⟩ := I.list hq
  obtain ⟨u, hu, ru⟩ := rv.get hx
  have fe := hf e (by simp)
  have fi := hf it (by simp)
  refine wpAny_pyNext_enum_item yL oF p.isList (x := u) (by simpa using hu) mZ fun h1 Nd Wn NF Wo UY => ?_
  refine ⟨_, rfl, wpAny_letOwnedTupleGo_enum Nd fun h2 Qh sW => ?_⟩
  replace sW : Heap.SameBut e h1 h2 := sW
  have rN : H s.heap.objs.size = none := I.bB.fresh (Nat.le_refl _)
  have Wq : e < s.heap.objs.size := Heap.lt_size yL
  have vR : it < s.heap.objs.size := by
   obtain ⟨o, q, _⟩ := id oF
   exact Heap.lt_size q
  have DS : h2.get? s.heap.objs.size = some { cls := .type "tuple", data := .seq #[.int i s.toks, u] } := (sW.2 _ (Nat.ne_of_gt Wq)).trans NF
  have I1 : Inv X pins σ (upd H s.heap.objs.size (.tup [.int (i : Int), x])) { s with heap := s.heap.push { cls := .type "tuple", data := .seq #[.int i s.toks, u] }, toks := s.toks + 1 } := by
   refine I.laid (t' := s.toks + 1) (fun b u q => Heap.get?_push_of_some _ q) (Nat.le_refl _) ?_
   exact ⟨(by show 2 ≤ sizeLine; decide), [.int i s.toks, u], .cons ⟨_, rfl⟩ (.cons ru .nil), ⟨_, Heap.get?_push_size _ rfl, rfl, 0, rfl⟩⟩
  have I2 : Inv X pins σ (upd H s.heap.objs.size (.tup [.int (i : Int), x])) { s with heap := h2, toks := s.toks + 1 } := by
   refine Inv.gf (s := { s with heap := s.heap.push { cls := .type "tuple", data := .seq #[.int i s.toks, u] }, toks := s.toks + 1 }) (h' := h2) (t' := s.toks + 1) (ch := [e, it]) I1 (fun b o hb q => ?_) (fun b hb => ?_)
   ·have OZ : b ≠ e := fun z => hb (by simp [z])
    have FJ : b ≠ it := fun z => hb (by simp [z])
    by_cases RL : b = s.heap.objs.size
    ·subst RL
     have q2 : (s.heap.push { cls := .type "tuple", data := .seq #[.int i s.toks, u] }).get? s.heap.objs.size = some o := q
     rw [Heap.get?_push_size _ rfl] at q2
     rw [DS, ← q2]
    ·have q2 : (s.heap.push { cls := .type "tuple", data := .seq #[.int i s.toks, u] }).get? b = some o := q
     have q3 : s.heap.get? b = some o := (rB _ _ _ RL).symm.trans q2
     exact (sW.2 b OZ).trans (UY b o OZ FJ q3)
   ·have f := hf b hb
    refine ⟨?_, f.2.1, f.2.2.2.1, f.2.2.2.2.1, f.2.2.2.2.2⟩
    rw [aq]
    ·exact f.1
    ·rcases (by simpa using hb : b = e ∨ b = it) with z | z <;> rw [z]
     ·exact Nat.ne_of_lt Wq
     ·exact Nat.ne_of_lt vR
  refine ⟨.ref s.heap.objs.size, _, I2, rfl, ⟨_, x, rN, rfl, rfl, fun ys hy => by rw [I.oE hy hq]; exact hx⟩, ⟨⟨u, ?_⟩, ?_⟩, fun b hb => ?_⟩
  ·show IsEnum h2 e it (((i + 1 : Nat)) : Int) u
   have e1 : (((i + 1 : Nat)) : Int) = (i : Int) + 1 := by push_cast; rfl
   rw [e1]
   exact Qh
  ·exact Wn.at fun o q => (sW.2 it (Ne.symm mZ)).trans q
  ·rw [aq]
   ·exact (hf b hb).1
   ·rcases (by simpa using hb : b = e ∨ b = it) with z | z <;> rw [z]
    ·exact Nat.ne_of_lt Wq
    ·exact Nat.ne_of_lt vR
 done := by
  intro X hP hw hK hc i pins s σ H E I hf st hg
  subst hP hw hK
  obtain ⟨⟨old, yL⟩, oF⟩ := st
  obtain ⟨xs, hq, hx⟩ := hg
  obtain ⟨its, rv, p, hz⟩ := I.list hq
  have hl := rv.length
  obtain ⟨f0, f1, f2, f3, f4, f5⟩ := hf it (by simp)
  exact wpAny_pyNext_enum_end (I.ok.hd hc) yL oF p.isList (by simp; omega) fun h' eb => ⟨rfl, I.turned (t' := s.toks) (fun b o hb e => eb b o hb e) f0 f1 f3 f4 f5⟩
 self := fun _ _ _ _ _ st h => by
  obtain ⟨⟨old, yL⟩, _⟩ := st
  exact wpAny_pyIter_enum yL h
def RM (K : PySem.W.Frag) (tl : TE) : TI := fun σ H R => tl σ H fun x H1 => ∃ a, x = .ref a ∧ (∃ xs, ax K H1 a xs) ∧ R (Qg K a) H1
theorem oX {l : Expr} {tl : TE} {elts : List Expr} {x1 : Nat} {IF p cpos : Pos} (hl : PE X l tl) (hg : Gl X "enumerate") (hm : X.mg "enumerate" = none) (hv : bootBuiltins "enumerate" = some (.type "enumerate"))
  (he : starEach [l] X.env = (false, eval l X.env) :: starEach [] X.env := by rfl) : PI X (.Tuple elts x1 IF) (.Call (.Name "enumerate" p) [l] [] cpos) (RM X.K tl) := by
 intro pins s σ H R I h
 refine wpAny_Call_Name_kw (kQ I hg hm hv ?_ (by decide) (by decide))
 have Mq : PA X [l] (rf tl yk) := aa hl af he
 refine PyProof.Rows.callWith_type1 (thn (Mq cpos pins s σ H (fun vs H1 => match vs with | [x] => ∃ a, x = .ref a ∧ (∃ xs, ax X.K H1 a xs) ∧ R (Qg X.K a) H1 | _ => False) I h) fun us s1 ⟨vs, H1, I1, r1, q1⟩ => ?_) he rfl
 match vs, r1, q1 with
 | [x], r1, ⟨a, ex, ⟨xs, hq⟩, q⟩ =>
  subst ex
  obtain ⟨u, rfl, ru⟩ := vals1 r1
  cases ru
  obtain ⟨its, rv, p, hz⟩ := I1.list hq
  refine call_enumerate_list p.isList fun h' he hit FK hk => wpAny_pyIter_enum he ?_
  refine ⟨s1.heap.objs.size + 1, [s1.heap.objs.size + 1, s1.heap.objs.size], _, _, H1, rfl, I1.kept (t' := s1.toks) hk, GY a _ _ (Nat.succ_ne_self _), ⟨⟨_, he⟩, hit⟩, fun b hb => ?_, q⟩
  have oB : s1.heap.objs.size ≤ b := by
   rcases (by simpa using hb : b = s1.heap.objs.size + 1 ∨ b = s1.heap.objs.size) with z | z <;> rw [z]
   ·exact Nat.le_succ _
   ·exact Nat.le_refl _
  exact I1.sV oB (I1.bB.fresh oB)
theorem lu {K : PySem.W.Frag} {a : Addr} {xs : List V} {g : TG} {tb : TS} {D : Ends} {σ : St} {H : Hp} (Pv : Nat → St → Hp → Prop) (h0 : Pv 0 σ H) (hl : ∀ i σ H, i ≤ xs.length → Pv i σ H → ax K H a xs)
  (hs : ∀ i x σ H t, xs[i]? = some x → Pv i σ H → H t = none → g (.ref t) σ (upd H t (.tup [.int (i : Int), x])) fun σ2 H2 => tb { D with nx := Pv (i + 1), ct := Pv (i + 1), bk := D.nx } σ2 H2) (hd : ∀ σ H, Pv xs.length σ H → D.nx σ H) :
  ∃ W : Nat → Nat → St → Hp → Prop, (∃ m, W 0 m σ H) ∧ ∀ i m σ H, W i m σ H →
   ((Qg K a).stop i H ∧ D.nx σ H) ∨ ((Qg K a).go i H ∧ ∃ N : St → Hp → Prop, (∀ σ' H', N σ' H' → ∃ m', m' < m ∧ W (i + 1) m' σ' H') ∧ ∀ x H', (Qg K a).LM i H x H' → g x σ H' fun σ2 H2 => tb { D with nx := N, ct := N, bk := D.nx } σ2 H2) := by
 refine ⟨fun i m σ H => m = xs.length - i ∧ i ≤ xs.length ∧ Pv i σ H, ⟨xs.length, by simp, Nat.zero_le _, h0⟩, ?_⟩
 rintro i m σ H ⟨rfl, hi, p⟩
 have q := hl i σ H hi p
 by_cases fz : i < xs.length
 ·refine .inr ⟨⟨xs, xs[i], q, by simp [fz]⟩, Pv (i + 1), fun σ' H' p' => ⟨xs.length - (i + 1), by omega, rfl, fz, p'⟩, fun x H' y => ?_⟩
  obtain ⟨t, v, ht, rfl, rfl, hv⟩ := y
  exact hs i v σ H t (hv xs q) p ht
 ·have e : i = xs.length := by omega
  exact .inl ⟨⟨xs, q, by omega⟩, hd σ H (by rw [← e]; exact p)⟩
end
end L2
namespace L2
open PySem PySem.Spec PyProof.Rows
section
variable {prog : Program} {w : World} {A : Around} {E : Value → Shared → Prop} {s : Shared}
theorem Mr : typeLookup (.type "list_reverseiterator") "__len__" = pure none := by rw [typeLookup_type, builtinLookup_eq_fast]; kernel_rfl
theorem Jt : typeLookup (.type "list_reverseiterator") "__length_hint__" = pure (some (.builtin "list_reverseiterator.__length_hint__")) := by rw [typeLookup_type, builtinLookup_eq_fast]; kernel_rfl
theorem Ju {r : Addr} {Q : Bool → Shared → Prop} (hT : s.TypeIs (.ref r) "list_reverseiterator") (h : Q false s) : wpAny (model prog w) A (Builtin.List.listLengthHint (.ref r)) Q E s := by
 unfold Builtin.List.listLengthHint
 refine wpAny_bind (wpAny_specialOf hT Mr ?_)
 refine wpAny_bind (wpAny_specialOf hT Jt ?_)
 generalize YE : ("list_reverseiterator.__length_hint__" : String) = id0
 wp_delta
 rw [show splitId id0 = some ("list_reverseiterator", "__length_hint__") from by subst YE; decide +kernel]
 subst YE
 refine wpAny_bind (wpAny_isInstance (T := "list_reverseiterator") (b := true) hT (by rw [isSubtype_type]; kernel_rfl) ?_)
 refine wpAny_ite_split (fun z => absurd z (by decide)) (fun _ => ?_)
 refine wpAny_ite_split (fun _ => ?_) (fun z => absurd (by decide +kernel) z)
 refine wpAny_ite_split (fun z => absurd z (by decide +kernel)) (fun _ => ?_)
 exact wpAny_pure h
theorem Ms {R : Result → Shared → Prop} {it l : Addr} {vs : Array Value} (hh : A.handled = none) (mZ : l ≠ it) (st : s.heap.IsRevIter it l ((vs.size : Int) - 1)) (hl : s.heap.IsList l vs) (S : Addr) (n1 : S ≠ it) (n2 : S ≠ l) (c₀ : Nat) (hS : s.heap.get? S = some { cls := .type "list", data := .seq #[] c₀ })
  (hR : ∀ h' tk acc c', (∀ b o, b ≠ S → b ≠ it → s.heap.get? b = some o → h'.get? b = some o) → h'.get? S = some { cls := .type "list", dict := none, data := .seq acc c', slots := #[] } → ItemsOf (fun i v => vs[vs.size - 1 - i]? = some v) acc vs.size → R (.ok (.ret .none)) { s with heap := h', toks := tk }) (hn : vs.size ≤ sizeLine) :
  wpAny (model prog w) A.in1 (Builtin.List.listExtendWith (.ref S) (.ref it) .none)
   (fun fin s' => match fin with | .done f => R (.ok f) s' | .again c' => c'.quiet = true ∧ codeAny (model prog w) A c' R s') (fun e s' => R (.error e) s') s := by
 have nf : S ∉ [it, l] := by simp [n1, n2]
 have W := Walks.listRev (prog := prog) (w := w) (A := A.in1) hh it l mZ vs
 unfold Builtin.List.listExtendWith
 refine wpAny_bind (wpAny_typeOf st.typeIs ?_)
 have q1 : Builtin.List.listSameRef (.ref S) (.ref it) = false := by simp [Builtin.List.listSameRef, n1]
 have q2 : (Value.type "list_reverseiterator" == Value.type "list") = false := by decide
 have q3 : (Value.type "list_reverseiterator" == Value.type "tuple") = false := by decide
 simp only [q1, q2, q3, Bool.or_false, Bool.false_eq_true, if_false]
 refine wpAny_bind (wpAny_pyIter_revIter st ?_)
 refine wpAny_bind (wpAny_holding (Ju st.typeIs ?_))
 refine wpAny_ite_split (fun z => absurd z (by decide)) (fun _ => ?_)
 refine wpAny_pure ⟨plainId_quiet PySem.F.plain_extend_loop _, ?_⟩
 refine codeAny_extend_loopS W.toS hn S nf .none vs.size 0 _ #[] c₀ rfl (Nat.zero_le _) ⟨Nat.zero_le _, by simpa using st, hl⟩ hS (ItemsOf.nil _) fun s' Wr c' hm Ws tJ => ?_
 rw [Moved.eq_with hm]
 refine hR s'.heap s'.toks Wr c' (fun b o hb FJ e => hm.heap b o (fun z => ?_) e) Ws tJ
 rcases List.mem_cons.mp z with z | z
 ·exact hb z
 ·exact FJ (List.mem_singleton.mp z)
theorem Jv {R : Result → Shared → Prop} {it l : Addr} {vs : Array Value} (hh : A.handled = none) (mZ : l ≠ it) (st : s.heap.IsRevIter it l ((vs.size : Int) - 1)) (hl : s.heap.IsList l vs) (S : Addr) (n1 : S ≠ it) (n2 : S ≠ l) (hS : s.heap.get? S = some { cls := .type "list", data := .seq #[] })
  (hR : ∀ h' tk acc c', (∀ b o, b ≠ S → b ≠ it → s.heap.get? b = some o → h'.get? b = some o) → h'.get? S = some { cls := .type "list", dict := none, data := .seq acc c', slots := #[] } → ItemsOf (fun i v => vs[vs.size - 1 - i]? = some v) acc vs.size → R (.ok (.ret .none)) { s with heap := h', toks := tk }) (hn : vs.size ≤ sizeLine) :
  wpAny (model prog w) A.in1 (Builtin.«list.__init__» ⟨[.ref S, .ref it], []⟩)
   (fun fin s' => match fin with | .done f => R (.ok f) s' | .again c' => c'.quiet = true ∧ codeAny (model prog w) A c' R s') (fun e s' => R (.error e) s') s := by
 show wpAny _ _ (do let o0 ← Builtin.List.listItems (.ref S); Builtin.List.listUpdate (.ref S) (fun _ => #[]); letGo o0.toList.reverse; Builtin.List.listExtendWith (.ref S) (.ref it) .none) _ _ s
 refine wpAny_bind ?_
 unfold Builtin.List.listItems
 refine wpAny_bind (wpAny_seqItems hS rfl (wpAny_pure ?_))
 show wpAny _ _ (updateSeq S (fun _ => #[]) >>= fun _ => letGo (#[] : Array Value).toList.reverse >>= fun _ => Builtin.List.listExtendWith (.ref S) (.ref it) .none) _ _ s
 refine wpAny_bind (wpAny_updateSeq hS rfl ?_)
 have g2 := Heap.get?_update_self (Obj.mapSeq (fun _ => (#[] : Array Value))) hS rfl
 have kp : ∀ b o, b ≠ S → s.heap.get? b = some o → (s.heap.update S (Obj.mapSeq (fun _ => (#[] : Array Value)))).get? b = some o := fun b o hb e => (Heap.get?_update_other _ _ (Ne.symm hb)).trans e
 refine wpAny_bind (wpAny_letGo ?_)
 exact Ms hh mZ (st.at fun o e => kp _ o (Ne.symm n1) e) (hl.at fun o e => kp _ o (Ne.symm n2) e) S n1 n2 _ g2 (fun h' tk acc c' k1 k2 k3 => hR h' tk acc c' (fun b o hb FJ e => k1 b o hb FJ (kp b o hb e)) k2 k3) hn
theorem Jw {Q : Value → Shared → Prop} {it l : Addr} {vs : Array Value} (hh : A.handled = none) (mZ : l ≠ it) (st : s.heap.IsRevIter it l ((vs.size : Int) - 1)) (hl : s.heap.IsList l vs) (hn : vs.size ≤ sizeLine)
  (hQ : ∀ h' tk acc c', (∀ b o, b ≠ it → s.heap.get? b = some o → h'.get? b = some o) → h'.get? s.heap.objs.size = some { cls := .type "list", dict := none, data := .seq acc c', slots := #[] } → ItemsOf (fun i v => vs[vs.size - 1 - i]? = some v) acc vs.size → Q (.ref s.heap.objs.size) { s with heap := h', toks := tk }) :
  wpAny (model prog w) A (call (.type "list") [.ref it]) Q E s := by
 refine callType_codes (Q₁ := fun x s1 => x = .ref s.heap.objs.size ∧ s1 = { s with heap := s.heap.push { cls := .type "list", data := .seq #[] } }) PySem.F.called_list (PySem.F.typeCall_list_1 _) PySem.F.entry_list_init (code_list_new _ ⟨rfl, rfl⟩) fun x s1 h1 => ?_
 obtain ⟨rfl, rfl⟩ := h1
 have g : (s.heap.push { cls := .type "list", data := .seq #[] }).get? s.heap.objs.size = some { cls := .type "list", data := .seq #[] } := Heap.get?_push_size _ rfl
 have l1 : it < s.heap.objs.size := by obtain ⟨o, e, _⟩ := id st; exact Heap.lt_size e
 have l2 : l < s.heap.objs.size := by obtain ⟨o, e, _⟩ := id hl; exact Heap.lt_size e
 refine ⟨⟨_, g, rfl⟩, PySem.F.args_list_init_2 _ _, Jv (A := A.in1) hh mZ (st.at fun o e => Heap.get?_push_of_some _ e) (hl.at fun o e => Heap.get?_push_of_some _ e) _ (Nat.ne_of_gt l1) (Nat.ne_of_gt l2) g (fun h' tk acc c' k1 k2 k3 => ?_) hn⟩
 exact ⟨rfl, hQ h' tk acc c' (fun b o hb e => k1 b o (Nat.ne_of_lt (Heap.lt_size e)) hb (Heap.get?_push_of_some _ e)) k2 k3⟩
end
section
variable {X : Cx}
def Jy (K : PySem.W.Frag) (te : TE) : TE := fun σ H Q => te σ H fun x H1 => ∃ a xs, x = .ref a ∧ ax K H1 a xs ∧ ∀ p, H1 p = none → Q (.ref p) (upd H1 p (.lst xs.reverse))
theorem DT {e : Expr} {te : TE} {p1 p2 c1 c2 : Pos} (hc : X.calm = true) (he : PE X e te) (gL : Gl X "list") (mL : X.mg "list" = none) (bL : bootBuiltins "list" = some (.type "list")) (gR : Gl X "reversed") (mR : X.mg "reversed" = none) (bR : bootBuiltins "reversed" = some (.type "reversed"))
  (h1 : starEach [e] X.env = (false, eval e X.env) :: starEach [] X.env := by rfl)
  (h2 : starEach [.Call (.Name "reversed" p2) [e] [] c2] X.env = (false, eval (.Call (.Name "reversed" p2) [e] [] c2) X.env) :: starEach [] X.env := by rfl) :
  PE X (.Call (.Name "list" p1) [.Call (.Name "reversed" p2) [e] [] c2] [] c1) (Jy X.K te) := by
 intro pins s σ H Q I h
 refine wpAny_Call_Name_kw (kQ I gL mL bL ?_ (by decide) (by decide))
 refine PyProof.Rows.callWith_type1 ?_ h2 rfl
 rw [h2]
 refine Calls.spliced_cons ?_
 refine wpAny_Call_Name_kw (kQ I gR mR bR ?_ (by decide) (by decide))
 have Mq : PA X [e] (rf te yk) := aa he af h1
 refine PyProof.Rows.callWith_type1 (thn (Mq c2 pins s σ H (fun vs H1 => match vs with | [x] => ∃ a xs, x = .ref a ∧ ax X.K H1 a xs ∧ ∀ p, H1 p = none → Q (.ref p) (upd H1 p (.lst xs.reverse)) | _ => False) I h) fun us s1 ⟨vs, H1, I1, r1, q1⟩ => ?_) h1 rfl
 match vs, r1, q1 with
 | [x], r1, ⟨a, xs, ex, hq, q⟩ =>
  subst ex
  obtain ⟨u, rfl, ru⟩ := vals1 r1
  cases ru
  obtain ⟨its, rv, p, hz⟩ := I1.list hq
  have hlen := rv.length
  refine call_reversed_list p.isList (Calls.spliced_nil ?_)
  have al : a < s1.heap.objs.size := by obtain ⟨o, e, _⟩ := id p.isList; exact Heap.lt_size e
  refine Jw (I.ok.hd hc) (Nat.ne_of_lt al) (vs := its.toArray) ⟨_, Heap.get?_push_size _ rfl, rfl, rfl⟩ (p.isList.at fun o e => Heap.get?_push_of_some _ e) (by rw [List.size_toArray]; omega) fun h' tk acc c' kp hg tJ => ?_
  have hsz : (s1.heap.push (revObj a ((its.toArray.size : Int) - 1))).objs.size = s1.heap.objs.size + 1 := Heap.size_push ..
  have hg' : h'.get? (s1.heap.objs.size + 1) = some { cls := .type "list", dict := none, data := .seq acc c', slots := #[] } := by
   have z := hg
   rw [show ({ s1 with heap := s1.heap.push (revObj a ((its.toArray.size : Int) - 1)) } : Shared).heap.objs.size = s1.heap.objs.size + 1 from hsz] at z
   exact z
  have q5 : H1 (s1.heap.objs.size + 1) = none := I1.bB.fresh (Nat.le_succ _)
  refine ⟨.ref (s1.heap.objs.size + 1), upd H1 (s1.heap.objs.size + 1) (.lst xs.reverse), I1.laid (t' := tk) (fun b o e => kp b o (Nat.ne_of_lt (Heap.lt_size e)) (Heap.get?_push_of_some _ e)) (Nat.le_succ _) ?_, ?_, q _ q5⟩
  ·refine ⟨by rw [List.length_reverse]; exact hz, acc.toList, c', yt ?_ fun j v ev => ?_, by simpa using hg'⟩
   ·rw [List.length_reverse, Array.length_toList, tJ.1, List.size_toArray, hlen]
   ·have YF : acc[j]? = some v := by rw [← Array.getElem?_toList]; exact ev
    have k := tJ.2 j v YF
    have hj : j < its.length := by
     have z := (Array.getElem?_eq_some_iff.mp YF).1
     rw [tJ.1, List.size_toArray] at z
     exact z
    have k2 : its[its.length - 1 - j]? = some v := by simpa using k
    have hx : xs.length - 1 - j < xs.length := by omega
    obtain ⟨u, eu, ru⟩ := rv.get (i := xs.length - 1 - j) (x := xs[xs.length - 1 - j]) (Ge9 hx)
    rw [hlen] at eu
    rw [eu] at k2
    cases k2
    refine ⟨xs[xs.length - 1 - j], ?_, ru⟩
    rw [List.getElem?_reverse (by omega), Ge9 hx]
  ·show Value.ref _ = Value.ref _
   rw [show ({ s1 with heap := s1.heap.push (revObj a ((its.toArray.size : Int) - 1)) } : Shared).heap.objs.size = s1.heap.objs.size + 1 from hsz]
end
end L2
namespace L2
open PySem PySem.Spec PyProof.Rows
section
variable {X : Cx}
def RN : R2 := fun x y H Q => ∃ (c : Nat) (n : Int), x = .str ⟨#[c]⟩ ∧ y = .int n ∧ -(2 ^ 62) ≤ n ∧ n ≤ 1000000 ∧ Q (.str ⟨(List.replicate n.toNat c).toArray⟩) H
theorem xJ (c : Nat) : ∀ (k : Nat) (a : Array Nat), (List.replicate k (#[c] : Array Nat)).foldl (fun x1 x2 => x1 ++ x2) a = a ++ (List.replicate k c).toArray
 | 0, a => by simp
 | k + 1, a => by
  rw [List.replicate_succ, List.foldl_cons, xJ c k, List.replicate_succ]
  apply Array.ext'
  simp
theorem FL : oA X (binaryOp .Mult) RN := by
 intro pins s σ H x y v u Q I rx ry h
 obtain ⟨c, n, rfl, rfl, h1, h2, q⟩ := h
 obtain ⟨t, rfl⟩ := rx
 obtain ⟨t', rfl⟩ := ry
 have hl : (⟨#[c]⟩ : Str).length = 1 := rfl
 refine PySem.P.mul_str ?_ (fun a b => ?_) (fun a b => ?_) ?_
 ·have z1 : ¬ n < -(2 ^ 63 : Int) := by omega
  have z2 : ¬ n ≥ 2 ^ 63 := by omega
  rw [decide_eq_false z1, decide_eq_false z2]
  rfl
 ·rw [hl]
  have : (1 : Int) ≤ (2 ^ 63 - 1) / n := by
   rw [Int.le_ediv_iff_mul_le (by omega)]
   omega
  omega
 ·rw [hl]
  have e : (2 : Nat) ^ 24 = 16777216 := by decide
  unfold Builtin.Str.tooLong sizeLine
  exact decide_eq_false (by omega)
 ·by_cases a : n < 1
  ·rw [if_pos a]
   refine ⟨by decide, ⟨.str _, H, I.tok _, ⟨_, rfl⟩, ?_⟩⟩
   have e : n.toNat = 0 := by omega
   rw [e] at q
   exact q
  ·rw [if_neg a]
   by_cases b : (n == 1 || (⟨#[c]⟩ : Str).length == 0) = true
   ·rw [if_pos b]
    have e1 : n = 1 := by
     rw [hl] at b
     simpa using b
    refine ⟨.str _, H, I, ⟨_, rfl⟩, ?_⟩
    rw [e1] at q
    exact q
   ·rw [if_neg b]
    have e : (⟨(List.replicate n.toNat (⟨#[c]⟩ : Str).cps).foldl (· ++ ·) #[]⟩ : Str) = ⟨(List.replicate n.toNat c).toArray⟩ := by
     show (⟨(List.replicate n.toNat (#[c] : Array Nat)).foldl (fun x1 x2 => x1 ++ x2) #[]⟩ : Str) = _
     rw [xJ]
     simp
    rw [e]
    refine ⟨?_, ⟨.str _, H, I.tok _, ⟨_, rfl⟩, q⟩⟩
    rw [sizeLine_eq]
    show (List.replicate n.toNat c).toArray.size ≤ _
    simp
    omega
def DU (K : PySem.W.Frag) : V → List V → Hp → VK → Prop := fun x vs H Q => ∃ a xs y, x = .ref a ∧ vs = [y] ∧ ax K H a xs ∧ eU y = true ∧ xs.all eU = true ∧ Q (.int ((xs.countP fun z => vE z y : Nat) : Int)) H
theorem xK {x : V} : ∀ {xs : List V} {us : List Value}, Vals xs us → xs.all eU = true → us.countP (yo x) = xs.countP fun y => vE y x
 | _, _, .nil, _ => rfl
 | y :: xs, u :: us, .cons r t, f => by
  rw [List.all_cons, Bool.and_eq_true] at f
  rw [List.countP_cons, List.countP_cons, sZ r f.1, xK t f.2]
theorem BQ : Ou X "list.count" (DU X.K) := by
 intro pins s σ H x vs v us Q I rx rv h
 obtain ⟨a, xs, y, rfl, rfl, hq, fy, fx, q⟩ := h
 cases (show v = Value.ref a from rx)
 obtain ⟨u, rfl, ru⟩ := vals1 rv
 obtain ⟨its, r, pl, _⟩ := I.list hq
 obtain ⟨⟨oc, od, dat, sl⟩, ho, hc, n, hd⟩ := id pl.isList
 simp only at hc hd
 subst hc hd
 refine call_meets PySem.F.slot_list_count pl.isList.typeIs PySem.F.entry_list_count (PySem.F.args_list_count_2 _ _) (SeqAt.list_countAt a its.toArray n od sl u (yo y)) ⟨ho, fun w hw => gq ru fy r fx w (by simpa using hw), ⟨.int _, H, I.tok _, ⟨_, rfl⟩, ?_⟩⟩
 rw [show its.toArray.toList.countP (yo y) = xs.countP fun z => vE z y from xK r fx]
 exact q
end
end L2
namespace L2
open PySem PySem.Spec PyProof.Rows
def jC (X : Cx) (x : Str) (scope : Scope) (cl : List (Str × Addr)) (N : List Str) (C : Addr) (s₀ : Shared) (H₀ : Hp) (ex : List Addr) : Cx where
 prog := X.prog
 w := X.w
 K := X.K
 mg := X.mg
 base := X.base
 A := X.A
 N := N
 s₀ := s₀
 H₀ := H₀
 env := compEnvC scope cl C X.env
 outer := X.stack
 stack := X.stack
 ex := ex
 fn := fun y => decide (y = x)
 calm := X.calm
 pn := []
 xe := fun _ _ => False
def sJ (outer scope : Scope) (x : Str) (N : List Str) : Bool :=
 decide (scope.kind = .function) && decide (scope.names.filter (fun y => y.2 == .cell) = [(x, .cell)]) && scope.names.all (fun y => decide (y.2 = .local → scope.names.lookup y.1 = some .local)) && decide (scope.names.lookup x = some .cell) &&
  scope.names.all (fun y => decide (y.2 = .free → (outer.names.lookup y.1 = some .cell ∨ outer.names.lookup y.1 = some .free))) && N.tail.all (fun y => decide (scope.names.lookup y = some .free)) && decide N.Nodup
structure FN (outer scope : Scope) (x : Str) (N : List Str) : Prop where
 kind : scope.kind = .function
 one : scope.names.filter (fun y => y.2 == .cell) = [(x, .cell)]
 locs : ∀ y ∈ scope.names, y.2 = .local → scope.names.lookup y.1 = some .local
 Rg : scope.names.lookup x = some .cell
 frees : ∀ y ∈ scope.names, y.2 = .free → (outer.names.lookup y.1 = some .cell ∨ outer.names.lookup y.1 = some .free)
 aE : ∀ y ∈ N.tail, scope.names.lookup y = some .free
 nd : N.Nodup
theorem DV {outer scope : Scope} {x : Str} {N : List Str} (h : sJ outer scope x N = true) : FN outer scope x N := by
 unfold sJ at h
 simp only [Bool.and_eq_true, List.all_eq_true, decide_eq_true_eq] at h
 obtain ⟨⟨⟨⟨⟨⟨h1, h2⟩, h3⟩, h4⟩, h5⟩, h6⟩, h7⟩ := h
 exact ⟨h1, h2, h3, h4, h5, h6, h7⟩
theorem t8 : ∀ (names : List (Str × NameKind)) (n : Nat) (acc : List (Str × Addr)) (h : Heap), names.filter (fun y => y.2 == .cell) = [] → cellsFrom n names acc = acc ∧ pushCells h names = h
 | [], _, _, _, _ => ⟨rfl, rfl⟩
 | (y, k) :: r, n, acc, h, e => by
  rw [List.filter_cons] at e
  by_cases hk : (k == NameKind.cell) = true
  ·rw [if_pos hk] at e
   cases e
  ·rw [if_neg hk] at e
   unfold cellsFrom pushCells
   rw [if_neg hk, if_neg hk]
   exact t8 r n acc h e
theorem xM {x : Str} : ∀ (names : List (Str × NameKind)) (n : Nat) (acc : List (Str × Addr)) (h : Heap), names.filter (fun y => y.2 == .cell) = [(x, .cell)] → cellsFrom n names acc = (x, n) :: acc ∧ pushCells h names = h.push { cls := .type "cell", data := .cell none }
 | (y, k) :: r, n, acc, h, e => by
  rw [List.filter_cons] at e
  by_cases hk : (k == NameKind.cell) = true
  ·rw [if_pos hk] at e
   obtain ⟨e1, e2⟩ := List.cons.inj e
   injection e1 with e1 e3
   subst e1
   unfold cellsFrom pushCells
   rw [if_pos hk, if_pos hk]
   exact t8 r (n + 1) _ _ e2
  ·rw [if_neg hk] at e
   unfold cellsFrom pushCells
   rw [if_neg hk, if_neg hk]
   exact xM r n acc h e
theorem DW {M : Model} {A : Around} {E : Value → Shared → Prop} {s : Shared} {scope : Scope} {globals : Addr} {cl : List (Str × Addr)} {qual : Str} {around : Env} {x : Str} {Q : Env → Shared → Prop} (h1 : scope.names.filter (fun y => y.2 == .cell) = [(x, .cell)])
  (hQ : ∀ h', h'.Ns s.heap.objs.size (fun _ => none) → h'.IsCell (s.heap.objs.size + 1) none → (∀ b o, s.heap.get? b = some o → h'.get? b = some o) → Q (newEnv scope s.heap.objs.size globals ((x, s.heap.objs.size + 1) :: cl) qual none .none (some around) builtinsNs) { s with heap := h' }) :
  wpAny M A (newFunctionEnv scope globals cl [] qual none .none (some around)) Q E s := by
 simp only [newFunctionEnv, Option.isSome_some, if_true]
 refine wpAny_bind (wpAny_alloc ?_)
 refine wpAny_bind (wpAny_layCells _ (fun name kind cells => by cases hkc : kind == NameKind.cell <;> simp [hkc]) _ _ _ _ ?_)
 have hz : (s.heap.push { cls := .type "dict", data := .dict #[] }).objs.size = s.heap.objs.size + 1 := Heap.size_push ..
 rw [show ({ s with heap := s.heap.push { cls := .type "dict", data := .dict #[] } } : Shared).heap.objs.size = s.heap.objs.size + 1 from hz]
 obtain ⟨e1, e2⟩ := xM scope.names (s.heap.objs.size + 1) cl (s.heap.push { cls := .type "dict", data := .dict #[] }) h1
 rw [e1]
 show wpAny M A _ _ _ { s with heap := pushCells (s.heap.push { cls := .type "dict", data := .dict #[] }) scope.names }
 rw [e2]
 refine wpAny_bind ?_
 rw [List.forIn_nil]
 refine wpAny_pure (wpAny_pure ?_)
 refine hQ _ ((Heap.Ns.new s.heap (.type "dict")).keeps fun b o e => Heap.get?_push_of_some _ e) ?_ fun b o e => Heap.get?_push_of_some _ (Heap.get?_push_of_some _ e)
 have z := Heap.get?_push_size (s.heap.push { cls := .type "dict", data := .dict #[] }) (o := { cls := .type "cell", data := .cell none }) rfl
 rw [hz] at z
 exact ⟨_, z, rfl⟩
theorem yM {scope : Scope} {env : Env} {y : Str} (h : scope.names.lookup y = some .cell) : (relabel scope env).names.lookup y = some .cell := by
 have go : ∀ (names : List (Str × NameKind)), names.lookup y = some .cell → (names.map fun (n, k) => if (k == NameKind.free && env.scope.kind == .function && env.kindOf n == some .cell) then (n, NameKind.cell) else (n, k)).lookup y = some .cell := by
  intro names
  induction names with
  | nil => intro h; simp at h
  | cons a r ih =>
   obtain ⟨n, k⟩ := a
   intro h
   rw [List.map_cons]
   rw [List.lookup_cons] at h
   by_cases hc : (k == NameKind.free && env.scope.kind == .function && env.kindOf n == some .cell) = true
   ·simp only [hc, if_true, List.lookup_cons]
    cases hy : y == n with
    | true => rfl
    | false =>
     rw [hy] at h
     exact ih h
   ·simp only [hc, Bool.false_eq_true, if_false, List.lookup_cons]
    cases hy : y == n with
    | true =>
     rw [hy] at h
     exact h
    | false =>
     rw [hy] at h
     exact ih h
 exact go scope.names h
section
variable {X : Cx}
theorem t9 {x y : Str} {c0 c : Addr} {cl : List (Str × Addr)} (h : ((x, c0) :: cl).lookup y = some c) : (y = x ∧ c = c0) ∨ (y ≠ x ∧ cl.lookup y = some c) := by
 rw [List.lookup_cons] at h
 by_cases e : y = x
 ·subst e
  rw [beq_self_eq_true] at h
  exact .inl ⟨rfl, (Option.some.inj h).symm⟩
 ·rw [beq_eq_false_iff_ne.mpr e] at h
  exact .inr ⟨e, h⟩
theorem xN {x y : Str} {c0 : Addr} {cl : List (Str × Addr)} (h : y ≠ x) : ((x, c0) :: cl).lookup y = cl.lookup y := by
 rw [List.lookup_cons, beq_eq_false_iff_ne.mpr h]
theorem BR {scope : Scope} {x : Str} {aE : List Nat} {pins : List (Addr × Obj)} {σ : St} {H : Hp} {s3 : Shared} {h1 : Heap} {fp : List Addr} {m : Str → Option Value} {tk : Nat} {c0 : Addr} (ok : FN X.env.scope scope x (b8 X x aE)) (I : Inv X pins σ H s3)
  (hf : ∀ b ∈ fp, dS X pins H b) (fz : ∀ b ∈ fp, b < s3.heap.objs.size) (hn : h1.Ns s3.heap.objs.size m) (keep : ∀ b o, s3.heap.get? b = some o → h1.get? b = some o) (UZ : s3.heap.objs.size ≤ c0) (hcl : h1.IsCell c0 none) :
  Inv (jC X x scope ((x, c0) :: aM X.env scope.names []) (b8 X x aE) s3.heap.objs.size s3 H fp) [] (bW σ none aE) H { s3 with heap := h1, toks := tk } := by
 have ic : ∀ z ∈ scope.names, z.2 = .free → (X.env.cells.lookup z.1).isSome = true := fun z hz rN => by
  obtain ⟨c, e⟩ := I.ok.has z.1 (by
   rcases ok.frees z hz rN with q | q
   ·exact .inl q
   ·exact .inr q)
  rw [e]; rfl
 have RO : ∀ y c, (aM X.env scope.names []).lookup y = some c → X.env.cells.lookup y = some c := fun y c h => fB ic (fun _ _ q => by simp at q) h
 have sub : ∀ y c, ((x, c0) :: aM X.env scope.names []).lookup y = some c → (y = x ∧ c = c0) ∨ (y ≠ x ∧ X.env.cells.lookup y = some c) := fun y c h => by
  rcases t9 h with z | ⟨z1, z2⟩
  ·exact .inl z
  ·exact .inr ⟨z1, RO y c z2⟩
 have hC : H s3.heap.objs.size = none := I.bB.fresh (Nat.le_refl _)
 have hC0 : H c0 = none := I.bB.fresh UZ
 have Ij : ∀ y c, X.env.cells.lookup y = some c → c < s3.heap.objs.size := fun y c e => by
  obtain ⟨v, z⟩ := I.cell y c e
  exact z.lt
 have YG : ∀ y, X.env.cells.lookup y ≠ some c0 := fun y e => Nat.lt_irrefl _ (Nat.lt_of_lt_of_le (Ij y c0 e) UZ)
 refine ⟨⟨I.ok.mod, ?_, I.ok.glob, I.ok.blt, Nat.le_refl _, fun y z c e1 e2 => ?_, fun y hy => ?_, fun y c LJ e => ?_, I.ok.hd, I.ok.frames, .inl rfl, fun b hb => ⟨Nat.ne_of_lt (fz b hb), fun y c e => ?_⟩,
   I.bs, Nat.le_trans I.ok.Fd I.sz, fun b o e hb => ?_, fun b hb IQ => ?_, I.stack, I.sk⟩,
  rfl, I.bare, Un.kept keep, ⟨m, hn, fun i y v e1 e2 e3 => ?_⟩, fun y c e => ?_, hC, fun y c e => ?_, fun p hp => absurd (show p ∈ ([] : List (Addr × Obj)) from hp) (by simp), I.bB.kept keep, by simp [jC, b8, bW]⟩
 ·show (relabel scope X.env).kind = .function
  exact ok.kind
 ·rcases sub y c e1 with ⟨a1, a2⟩ | ⟨a1, a2⟩ <;> rcases sub z c e2 with ⟨b1, b2⟩ | ⟨b1, b2⟩
  ·rw [a1, b1]
  ·rw [a2] at b2
   exact absurd b2 (YG z)
  ·rw [b2] at a2
   exact absurd a2 (YG y)
  ·exact I.ok.inj y z c a2 b2
 ·have Ri : (relabel scope X.env).names.lookup y = some .cell ∨ (relabel scope X.env).names.lookup y = some .free := hy
  show ∃ c, ((x, c0) :: aM X.env scope.names []).lookup y = some c
  by_cases O0 : y = x
  ·subst O0
   exact ⟨c0, by rw [List.lookup_cons, beq_self_eq_true]⟩
  ·rw [xN O0]
   have fr : scope.names.lookup y = some .free := by
    rcases Ri with q | q
    ·obtain ⟨k, e, z⟩ := dc q
     rcases z with z | ⟨z, _⟩
     ·have hm : (y, k) ∈ scope.names.filter (fun y => y.2 == .cell) := List.mem_filter.mpr ⟨PySem.mem_of_lookup e, by rw [← z]; rfl⟩
      rw [ok.one] at hm
      have := List.mem_singleton.mp hm
      injection this with h1 h2
      exact absurd h1 O0
     ·rw [e, z]
    ·obtain ⟨k, e, z⟩ := dc q
     rcases z with z | ⟨_, z⟩
     ·rw [e, z]
     ·cases z
   exact Option.isSome_iff_exists.mp (fC (.inl (PySem.mem_of_lookup fr)))
 ·have O0 : y = x := of_decide_eq_true (show decide (y = x) = true from LJ)
  rcases sub y c e with ⟨_, a2⟩ | ⟨a1, _⟩
  ·rw [a2]
   exact UZ
  ·exact absurd O0 a1
 ·rcases sub y c e with ⟨_, a2⟩ | ⟨_, a2⟩
  ·rw [a2]
   exact Nat.ne_of_gt (Nat.lt_of_lt_of_le (fz b hb) UZ)
  ·exact (hf b hb).2.2.2.2.1 y c a2
 ·rcases (hf b hb).2.2.2.1 with z | z
  ·exact I.ok.Dd b o e z
  ·exact absurd (Nat.lt_of_lt_of_le (Heap.lt_size e) (Nat.le_trans I.ok.Fd z)) (Nat.lt_irrefl _)
 ·rcases List.mem_cons.mp (I.kP b IQ) with z | z
  ·exact (hf b hb).2.1 z
  ·exact (hf b hb).2.2.1 z
 ·have vM : (b8 X x aE)[i]? = some y := e1
  cases i with
  | zero => simp [bW] at e2
  | succ i =>
   simp only [b8, List.getElem?_cons_succ, List.getElem?_map] at vM
   simp only [bW, List.getElem?_cons_succ, List.getElem?_map] at e2
   cases hj : aE[i]? with
   | none => rw [hj] at e2; cases e2
   | some j =>
    rw [hj] at vM e2
    simp only [Option.map_some, Option.some.injEq] at vM e2
    cases hσ : σ[j]? with
    | none => rw [hσ] at e2; cases e2
    | some o =>
     rw [hσ] at e2
     have OD : o = some v := e2
     subst OD
     have Nr : j < X.N.length := by rw [← I.len]; exact (List.getElem?_eq_some_iff.mp hσ).1
     have eN : X.N[j]? = some y := by
      rw [Ge9 Nr]
      rw [Gd9, Ge9 Nr] at vM
      exact congrArg some vM
     have hy : scope.names.lookup y = some .free := ok.aE y (by
      show y ∈ aE.map fun i => X.N.getD i (Str.ofString "")
      exact List.mem_map.mpr ⟨j, List.mem_of_getElem? hj, vM⟩)
     have O0 : y ≠ x := fun z => by rw [z, ok.Rg] at hy; cases hy
     have hk := ok.frees (y, .free) (PySem.mem_of_lookup hy) rfl
     obtain ⟨m', _, hl⟩ := I.loc
     obtain ⟨u, r, q⟩ := hl j y v eN hσ (.inr hk)
     refine ⟨u, r, .inr ⟨jv hy, ?_⟩⟩
     rcases q with ⟨k, _⟩ | ⟨_, c, e, z⟩
     ·have k' : X.env.scope.names.lookup y = some .local := k
      rw [k'] at hk
      rcases hk with hk | hk <;> cases hk
     ·obtain ⟨c', e'⟩ := Option.isSome_iff_exists.mp (fC (env := X.env) (cs := []) (.inl (PySem.mem_of_lookup hy)))
      have ec := RO _ _ e'
      rw [e] at ec
      cases ec
      obtain ⟨o, ho, hd⟩ := z
      exact ⟨c, (xN O0).trans e', o, keep c o ho, hd⟩
 ·rcases sub y c e with ⟨_, a2⟩ | ⟨_, a2⟩
  ·rw [a2]
   exact ⟨none, hcl⟩
  ·obtain ⟨v, o, ho, hd⟩ := I.cell y c a2
   exact ⟨v, o, keep c o ho, hd⟩
 ·rcases sub y c e with ⟨_, a2⟩ | ⟨_, a2⟩
  ·rw [a2]
   exact hC0
  ·exact I.kF y c a2
theorem DX {x : Str} {px pos p : Pos} {iter elt : Expr} {ifs : List Expr} {scope : Scope} {wi : TI} {tt : TT} {te : TE} {aE : List Nat} {use : Option (Value → Sem Unit)} {QQ : Value → Shared → Prop}
  (hc : X.calm = true) (ho : sJ X.env.scope scope x (b8 X x aE) = true) (hi : PI X (.Name x px) iter wi)
  (ht : ∀ cl C s₀ H₀ ex, HZ (jC X x scope cl (b8 X x aE) C s₀ H₀ ex) ifs tt) (he : ∀ cl C s₀ H₀ ex, PE (jC X x scope cl (b8 X x aE) C s₀ H₀ ex) elt te)
  (hs : ∀ x, foldedSetIterable iter X.env x = pure x) {pins : List (Addr × Obj)} {s : Shared} {σ : St} {H : Hp} {Q : VK} (I : Inv X pins σ H s) (h : Bs wi tt te aE σ H Q)
  (fin : ∀ (D C : Addr) (H' : Hp) (s' : Shared) (m : Str → Option Value), Inv X pins σ H' s' → Q (.ref D) H' → s'.heap.Ns C m → dS X pins H' C → compPost (model X.prog X.w) X.A X.xe use QQ (.ref D) C (.ok .next) s') :
  wpAny (model X.prog X.w) X.A (comprehension (.ListComp elt [⟨.Name x px, iter, ifs, 0⟩] scope pos) scope X.env p (newList []) false (eval iter X.env) use) QQ X.xe s := by
 have ok := DV ho
 have ic : ∀ z ∈ scope.names, z.2 = .free → (X.env.cells.lookup z.1).isSome = true := fun z hz rN => by
  obtain ⟨c, e⟩ := I.ok.has z.1 (by
   rcases ok.frees z hz rN with q | q
   ·exact .inl q
   ·exact .inr q)
  rw [e]; rfl
 refine wpAny_comprehension_free (cl := aM X.env scope.names []) (use := use) rfl hs (nF ic) ok.kind ok.locs (thn (hi pins s σ H _ I h) fun v s1 h1 => thn h1 fun QP s2 h2 => ?_)
 obtain ⟨it, fp, tn, J, H2, e, I2, T, oF, f2, rd⟩ := h2
 subst e
 refine wpAny_newObj_type (DW ok.one fun h₁ tq O1 O2 => ?_)
 dsimp only at tq O1 O2 ⊢
 have vF : H2 s2.heap.objs.size = none := I2.bB.fresh (Nat.le_refl _)
 obtain ⟨W, ⟨m0, w0⟩, turn⟩ := rd s2.heap.objs.size vF
 have Bt : ∀ b ∈ fp, b < s2.heap.objs.size := fun b hb => by
  obtain ⟨o, e, _⟩ := T.obj 0 _ oF b hb
  exact Heap.lt_size e
 have hsz : (s2.heap.push { cls := .type "list", dict := none, data := .seq ([] : List Value).toArray }).objs.size = s2.heap.objs.size + 1 := Heap.size_push ..
 have I3 : Inv X pins σ (upd H2 s2.heap.objs.size (.lst [])) { s2 with heap := s2.heap.push { cls := .type "list", dict := none, data := .seq ([] : List Value).toArray } } :=
  I2.laid (t' := s2.toks) (fun b u e => Heap.get?_push_of_some _ e) (Nat.le_refl _) ⟨by simp, [], 0, .nil, Heap.get?_push_size _ rfl⟩
 have xg : tn 0 (s2.heap.push { cls := .type "list", dict := none, data := .seq ([] : List Value).toArray }) := T.keep _ _ _ oF fun b _ o e => Heap.get?_push_of_some _ e
 generalize V7 : s2.heap.push { cls := .type "list", dict := none, data := .seq ([] : List Value).toArray } = h3 at tq O1 O2 hsz I3 xg ⊢
 generalize Rj : upd H2 s2.heap.objs.size (.lst []) = H3 at I3 w0
 have yq : ∀ b ∈ fp, b < h3.objs.size := fun b hb => by rw [hsz]; exact Nat.lt_succ_of_lt (Bt b hb)
 have f3 : ∀ b ∈ fp, dS X pins H3 b := fun b hb => ⟨by rw [← Rj, aq (Nat.ne_of_lt (Bt b hb))]; exact (f2 b hb).1, (f2 b hb).2⟩
 have keep : ∀ b o, h3.get? b = some o → h₁.get? b = some o := O2
 have I4 := BR (s3 := { s2 with heap := h3 }) (tk := s2.toks) ok I3 f3 yq tq keep (Nat.le_succ _) O1
 have Bu : tn 0 h₁ := T.keep _ _ _ xg fun b _ o e => keep b o e
 generalize gm : jC X x scope ((x, h3.objs.size + 1) :: aM X.env scope.names []) (b8 X x aE) ({ s2 with heap := h3 } : Shared).heap.objs.size { s2 with heap := h3 } H3 fp = X' at I4
 have eA : X'.A = X.A := by rw [← gm] <;> rfl
 have eP : X'.prog = X.prog := by rw [← gm] <;> rfl
 have ew : X'.w = X.w := by rw [← gm] <;> rfl
 have eK : X'.K = X.K := by rw [← gm] <;> rfl
 have ee : X'.env = compEnvC scope ((x, h3.objs.size + 1) :: aM X.env scope.names []) h3.objs.size X.env := by rw [← gm] <;> rfl
 have ex : X'.xe = fun _ _ => False := by rw [← gm] <;> rfl
 have eN : X'.N = b8 X x aE := by rw [← gm] <;> rfl
 have ec : X'.calm = true := by rw [← gm]; exact hc
 have Rk : X'.fs = Bi X.stack := by rw [← gm] <;> rfl
 have Rm : HZ X' ifs tt := by rw [← gm]; exact ht _ _ _ _ _
 have Rn : PE X' elt te := by rw [← gm]; exact he _ _ _ _ _
 have leave : ∀ {σ' : St} {H' : Hp} {s' : Shared}, Inv X' [] σ' H' s' → Q (.ref s2.heap.objs.size) H' → compPost (model X.prog X.w) X.A X.xe use QQ (.ref s2.heap.objs.size) h3.objs.size (.ok .next) s' := fun {σ' H' s'} J q => by
  have un : Un (Bi X.stack) fp H3 H' h3 s'.heap := by have z := J.base; rw [← gm] at z; exact z
  have GD : s'.os = s2.os := by have z := J.os; rw [← gm] at z; exact z
  have hk : mY X.prog X.w H' s'.heap := by have z := J.bB; rw [eP, ew] at z; exact z
  have Jx := I3.Il (s' := s') (ch := fp) GD un hk J.bare fun b hb => ⟨(f3 b hb).2.2.2.1, (f3 b hb).2.1, (f3 b hb).2.2.2.2.1, (f3 b hb).2.2.2.2.2⟩
  obtain ⟨m, hn, _⟩ := J.loc
  have Ik : s'.heap.Ns h3.objs.size m := by rw [ee] at hn; exact hn
  have rN : H' h3.objs.size = none := by have z := J.free; rw [ee] at z; exact z
  exact fin _ _ H' s' m Jx q Ik (I3.sV (Nat.le_refl _) rN)
 have nB : ∀ {H' : Hp}, (∀ b ∈ fp, H' b = none) → ∀ b ∈ fp, dS X' [] H' b := fun {H'} hn b hb => by
  refine ⟨hn b hb, ?_, ?_, .inl ?_, fun y c e => ?_, fun p hp => ?_⟩
  ·rw [ee]; exact Nat.ne_of_lt (yq b hb)
  ·rw [Rk]
   intro z
   rcases List.mem_cons.mp (I3.kP b z) with z | z
   ·exact (f3 b hb).2.1 z
   ·exact (f3 b hb).2.2.1 z
  ·rw [← gm]; exact hb
  ·have e' : ((x, h3.objs.size + 1) :: aM X.env scope.names []).lookup y = some c := by rw [ee] at e; exact e
   rcases t9 e' with ⟨_, z2⟩ | ⟨_, z2⟩
   ·rw [z2]
    exact Nat.ne_of_gt (Nat.lt_succ_of_lt (yq b hb))
   ·exact (f3 b hb).2.2.2.2.1 y c (fB ic (fun _ _ q => by simp at q) z2)
  ·rw [← gm] at hp
   exact absurd (show p ∈ ([] : List (Addr × Obj)) from hp) (by simp)
 have loop : ∀ s₃ : Shared, s₃ = { s2 with heap := h₁, toks := s2.toks } →
   codeAny (model X.prog X.w) X.A (.compLoop (.ListComp elt [⟨.Name x px, iter, ifs, 0⟩] scope pos) 0 (.ref it) (.ref s2.heap.objs.size) (compEnvC scope ((x, h3.objs.size + 1) :: aM X.env scope.names []) h3.objs.size X.env))
    (compPost (model X.prog X.w) X.A X.xe use QQ (.ref s2.heap.objs.size) h3.objs.size) s₃ := by
  rintro s₃ rfl
  refine jx (fun n s' => ∃ i o H' ys, Inv X' [] (bW σ o aE) H' s' ∧ tn i s'.heap ∧ (∀ b ∈ fp, H' b = none) ∧ W i n ys H') ?_ m0 ⟨0, none, H3, [], I4, Bu, fun b hb => (f3 b hb).1, w0⟩
  rintro n s' ⟨i, o, H', ys, J, xf, Nt, w'⟩
  obtain ⟨Yx, hlen, alt⟩ := turn i n ys H' w'
  rcases alt with ⟨stop, q⟩ | ⟨go, N, hN, step⟩
  ·have z := T.done X' eP ew eK ec i [] s' _ H' (fun _ _ => False) J (nB Nt) xf stop
   rw [eA] at z
   refine thn z fun r s4 ⟨hr, J4⟩ => ?_
   subst hr
   exact leave J4 q
  ·have z := T.item X' eP ew eK ec i [] s' _ H' (fun _ _ => False) J (nB Nt) xf go
   rw [eA] at z
   refine thn z fun r s4 ⟨u, hr, h4⟩ => ?_
   subst hr
   refine thn h4 fun _ s5 ⟨xv, H5, J5, r5, y5, sq, Oc⟩ => ?_
   have Ro := J5.pinned (nB Oc) (T.obj _ _ sq)
   have lx : (relabel scope X.env).names.lookup x = some .cell := yM ok.Rg
   have hg : PG X' (.Name x px) (ra 0) := aL (by rw [eN]; exact ok.nd) (by rw [eN] <;> rfl) (by rw [ee]; exact .inr lx) (by rw [← gm]; exact .inl (decide_eq_true rfl))
   have zg := hg _ s5 _ H5 xv u (fun σ6 H6 => σ6 = bW σ (some xv) aE ∧ H6 = H5) Ro r5 ⟨rfl, rfl⟩
   rw [eP, ew, eA, ee, ex] at zg
   refine thn zg fun _ s6 ⟨σ6, H6, J6, q6⟩ => ?_
   obtain ⟨e6, V8⟩ := q6
   subst e6 V8
   have zt := Rm _ s6 _ _ _ J6 (step xv _ y5)
   rw [eP, ew, eA, ee, ex] at zt
   refine thn zt fun b s7 ⟨H7, J7, q7⟩ => ?_
   have again : ∀ {H8 : Hp} {s8 : Shared} {Fv : List V}, Inv X' ([] ++ nA fp s5.heap) (bW σ (some xv) aE) H8 s8 → N Fv H8 → ∃ m, m < n ∧ ∃ i o H' ys, Inv X' [] (bW σ o aE) H' s8 ∧ tn i s8.heap ∧ (∀ b ∈ fp, H' b = none) ∧ W i m ys H' := fun {H8 s8 Fv} J8 n8 => by
    obtain ⟨m', hm, w8⟩ := hN Fv H8 n8
    refine ⟨m', hm, i + 1, some xv, H8, Fv, J8.fw, T.keep _ _ _ sq fun b hb o e => (J8.pin (b, o) (List.mem_append_right _ (List.mem_append_right _ (bN hb e)))).1, fun b hb => ?_, w8⟩
    obtain ⟨o, e, d⟩ := T.obj _ _ sq b hb
    exact (J8.pin (b, o) (List.mem_append_right _ (List.mem_append_right _ (bN hb e)))).2.1
   cases b with
   | false => exact again J7 q7
   | true =>
    have ze := Rn _ s7 _ H7 _ J7 q7
    rw [eP, ew, eA, ee, ex] at ze
    refine thn ze fun yv s8 ⟨y, H8, J8, r8, Rp, q8⟩ => ?_
    have za := a9 (X := X') _ s8 _ H8 (.ref s2.heap.objs.size) [y] (.ref s2.heap.objs.size) [yv] (fun _ H9 => H9 = upd H8 s2.heap.objs.size (.lst (ys ++ [y]))) J8 rfl (.cons r8 .nil) ⟨_, ys, y, rfl, rfl, Rp, hlen, rfl⟩
    rw [eP, ew, eA, ex] at za
    refine thn za fun _ s9 ⟨_, H9, J9, _, q9⟩ => ?_
    subst q9
    exact again J9 q8
 exact codeAny_compStart_list (loop _ rfl) (T.self _ 0 _ _ _ Bu (loop _ rfl))
theorem Jz {x : Str} {px pos : Pos} {iter elt : Expr} {ifs : List Expr} {scope : Scope} {wi : TI} {tt : TT} {te : TE} (aE : List Nat)
  (hc : X.calm = true) (ho : sJ X.env.scope scope x (b8 X x aE) = true) (hi : PI X (.Name x px) iter wi)
  (ht : ∀ cl C s₀ H₀ ex, HZ (jC X x scope cl (b8 X x aE) C s₀ H₀ ex) ifs tt) (he : ∀ cl C s₀ H₀ ex, PE (jC X x scope cl (b8 X x aE) C s₀ H₀ ex) elt te)
  (hs : ∀ x, foldedSetIterable iter X.env x = pure x := by intro _; rfl) : PE X (.ListComp elt [⟨.Name x px, iter, ifs, 0⟩] scope pos) (Bs wi tt te aE) := by
 intro pins s σ H Q I h
 rw [eval_ListComp]
 refine DX (use := none) hc ho hi ht he hs I h fun D C H' s' m J q hn hf => ?_
 exact ⟨m, hn, fun h' sb => ⟨.ref D, H', J.turned (t' := s'.toks) (fun b o hb e => (sb.2 b hb).trans e) hf.1 hf.2.1 hf.2.2.2.1 hf.2.2.2.2.1 hf.2.2.2.2.2, rfl, q⟩⟩
theorem JA {K : PySem.W.Frag} {tg l : Expr} {tl : TE} (hK : X.K = K) (hl : PE X l tl) : PI X tg l (Nj K tl) := by
 subst hK
 exact aK hl
end
end L2
namespace L2
open PySem PySem.Spec PyProof.Rows
def dZ (X : Cx) (xs : List Str) (aE : List Nat) : List Str := xs ++ aE.map fun i => X.N.getD i (Str.ofString "")
def nK (k : Nat) (σ : St) (aE : List Nat) : St := List.replicate k none ++ aE.map fun i => (σ[i]?).join
def sL (outer scope : Scope) (xs : List Str) (N : List Str) : Bool :=
 decide (scope.kind = .function) && scope.names.all (fun y => decide (y.2 ≠ .cell)) && scope.names.all (fun y => decide (y.2 = .local → scope.names.lookup y.1 = some .local)) && xs.all (fun x => decide (scope.names.lookup x = some .local)) &&
  scope.names.all (fun y => decide (y.2 = .free → (outer.names.lookup y.1 = some .cell ∨ outer.names.lookup y.1 = some .free))) && (N.drop xs.length).all (fun y => decide (scope.names.lookup y = some .free)) && decide N.Nodup
structure FO (outer scope : Scope) (xs : List Str) (N : List Str) : Prop where
 kind : scope.kind = .function
 tp : ∀ y ∈ scope.names, y.2 ≠ .cell
 locs : ∀ y ∈ scope.names, y.2 = .local → scope.names.lookup y.1 = some .local
 Rg : ∀ x ∈ xs, scope.names.lookup x = some .local
 frees : ∀ y ∈ scope.names, y.2 = .free → (outer.names.lookup y.1 = some .cell ∨ outer.names.lookup y.1 = some .free)
 aE : ∀ y ∈ N.drop xs.length, scope.names.lookup y = some .free
 nd : N.Nodup
theorem DY {outer scope : Scope} {xs : List Str} {N : List Str} (h : sL outer scope xs N = true) : FO outer scope xs N := by
 unfold sL at h
 simp only [Bool.and_eq_true, List.all_eq_true, decide_eq_true_eq] at h
 obtain ⟨⟨⟨⟨⟨⟨h1, h2⟩, h3⟩, h4⟩, h5⟩, h6⟩, h7⟩ := h
 exact ⟨h1, h2, h3, h4, h5, h6, h7⟩
def JB (k : Nat) (g : TG) (tt : TT) (te : TE) (aE : List Nat) (σ : St) (Q : VK) (J : It) (H1 : Hp) (D : Addr) : Prop :=
 ∃ W : Nat → Nat → List V → St → Hp → Prop, (∃ m, W 0 m [] (nK k σ aE) (upd H1 D (.lst []))) ∧ ∀ i m ys τ H, W i m ys τ H →
  H D = some (.lst ys) ∧ ys.length < sizeLine ∧
  ((J.stop i H ∧ Q (.ref D) H) ∨ (J.go i H ∧ ∃ N : List V → St → Hp → Prop, (∀ zs τ' H', N zs τ' H' → ∃ m', m' < m ∧ W (i + 1) m' zs τ' H') ∧ ∀ x H', J.LM i H x H' → g x τ H' fun τ2 H2 => tt τ2 H2 fun b H3 =>
   if b = true then te τ2 H3 fun y H4 => H4 D = some (.lst ys) ∧ N (ys ++ [y]) τ2 (upd H4 D (.lst (ys ++ [y])))
   else N ys τ2 H3))
def JC (k : Nat) (wi : TI) (g : TG) (tt : TT) (te : TE) (aE : List Nat) : TE := fun σ H Q => wi σ H fun J H1 => ∀ D, H1 D = none → JB k g tt te aE σ Q J H1 D
section
variable {X : Cx}
theorem BS {scope : Scope} {xs : List Str} {aE : List Nat} {pins : List (Addr × Obj)} {σ : St} {H : Hp} {s3 : Shared} {h1 : Heap} {fp : List Addr} {m : Str → Option Value} {tk : Nat} (ok : FO X.env.scope scope xs (dZ X xs aE)) (I : Inv X pins σ H s3)
  (hf : ∀ b ∈ fp, dS X pins H b) (fz : ∀ b ∈ fp, b < s3.heap.objs.size) (hn : h1.Ns s3.heap.objs.size m) (keep : ∀ b o, s3.heap.get? b = some o → h1.get? b = some o) :
  Inv (cJ X scope (aM X.env scope.names []) (dZ X xs aE) s3.heap.objs.size s3 H fp) [] (nK xs.length σ aE) H { s3 with heap := h1, toks := tk } := by
 have ic : ∀ z ∈ scope.names, z.2 = .free → (X.env.cells.lookup z.1).isSome = true := fun z hz rN => by
  obtain ⟨c, e⟩ := I.ok.has z.1 (by
   rcases ok.frees z hz rN with q | q
   ·exact .inl q
   ·exact .inr q)
  rw [e]; rfl
 have sub : ∀ y c, (aM X.env scope.names []).lookup y = some c → X.env.cells.lookup y = some c := fun y c h => fB ic (fun _ _ q => by simp at q) h
 have hC : H s3.heap.objs.size = none := I.bB.fresh (Nat.le_refl _)
 have Ij : ∀ y c, X.env.cells.lookup y = some c → c < s3.heap.objs.size := fun y c e => by
  obtain ⟨v, z⟩ := I.cell y c e
  exact z.lt
 refine ⟨⟨I.ok.mod, ?_, I.ok.glob, I.ok.blt, Nat.le_refl _, fun y z c e1 e2 => I.ok.inj y z c (sub _ _ e1) (sub _ _ e2), fun y hy => ?_, fun y c LJ _ => ?_, I.ok.hd, I.ok.frames, .inl rfl, fun b hb => ⟨Nat.ne_of_lt (fz b hb), fun y c e => (hf b hb).2.2.2.2.1 y c (sub _ _ e)⟩,
   I.bs, Nat.le_trans I.ok.Fd I.sz, fun b o e hb => ?_, fun b hb IQ => ?_, I.stack, I.sk⟩,
  rfl, I.bare, Un.kept keep, ⟨m, hn, fun i y v e1 e2 e3 => ?_⟩, fun y c e => ?_, hC, fun y c e => I.kF y c (sub _ _ e), fun p hp => absurd (show p ∈ ([] : List (Addr × Obj)) from hp) (by simp), I.bB.kept keep, by simp [cJ, dZ, nK]⟩
 ·show (relabel scope X.env).kind = .function
  exact ok.kind
 ·have Ri : (relabel scope X.env).names.lookup y = some .cell ∨ (relabel scope X.env).names.lookup y = some .free := hy
  have fr : scope.names.lookup y = some .free := by
   rcases Ri with q | q
   ·obtain ⟨k, e, z⟩ := dc q
    rcases z with z | ⟨z, _⟩
    ·exact absurd z.symm (ok.tp _ (PySem.mem_of_lookup e))
    ·rw [e, z]
   ·obtain ⟨k, e, z⟩ := dc q
    rcases z with z | ⟨_, z⟩
    ·rw [e, z]
    ·cases z
  exact Option.isSome_iff_exists.mp (fC (.inl (PySem.mem_of_lookup fr)))
 ·exact absurd (show (fun _ => false) y = true from LJ) (by simp)
 ·rcases (hf b hb).2.2.2.1 with z | z
  ·exact I.ok.Dd b o e z
  ·exact absurd (Nat.lt_of_lt_of_le (Heap.lt_size e) (Nat.le_trans I.ok.Fd z)) (Nat.lt_irrefl _)
 ·rcases List.mem_cons.mp (I.kP b IQ) with z | z
  ·exact (hf b hb).2.1 z
  ·exact (hf b hb).2.2.1 z
 ·have vM : (dZ X xs aE)[i]? = some y := e1
  have GZ : (nK xs.length σ aE)[i]? = some (some v) := e2
  rcases Nat.lt_or_ge i xs.length with O3 | O3
  ·unfold nK at GZ
   rw [List.getElem?_append_left (by rw [List.length_replicate]; exact O3), List.getElem?_replicate, if_pos O3] at GZ
   cases GZ
  ·unfold dZ at vM
   unfold nK at GZ
   rw [List.getElem?_append_right O3, List.getElem?_map] at vM
   rw [List.getElem?_append_right (by rw [List.length_replicate]; exact O3), List.length_replicate, List.getElem?_map] at GZ
   cases hj : aE[i - xs.length]? with
   | none => rw [hj] at GZ; cases GZ
   | some j =>
    rw [hj] at vM GZ
    simp only [Option.map_some, Option.some.injEq] at vM GZ
    cases hσ : σ[j]? with
    | none => rw [hσ] at GZ; cases GZ
    | some o =>
     rw [hσ] at GZ
     have OD : o = some v := GZ
     subst OD
     have Nr : j < X.N.length := by rw [← I.len]; exact (List.getElem?_eq_some_iff.mp hσ).1
     have eN : X.N[j]? = some y := by
      rw [Ge9 Nr]
      rw [Gd9, Ge9 Nr] at vM
      exact congrArg some vM
     have hy : scope.names.lookup y = some .free := ok.aE y (by
      show y ∈ (xs ++ aE.map fun i => X.N.getD i (Str.ofString "")).drop xs.length
      rw [List.drop_left]
      exact List.mem_map.mpr ⟨j, List.mem_of_getElem? hj, vM⟩)
     have hk := ok.frees (y, .free) (PySem.mem_of_lookup hy) rfl
     obtain ⟨m', _, hl⟩ := I.loc
     obtain ⟨u, r, q⟩ := hl j y v eN hσ (.inr hk)
     refine ⟨u, r, .inr ⟨jv hy, ?_⟩⟩
     rcases q with ⟨k, _⟩ | ⟨_, c, e, z⟩
     ·have k' : X.env.scope.names.lookup y = some .local := k
      rw [k'] at hk
      rcases hk with hk | hk <;> cases hk
     ·obtain ⟨c', e'⟩ := Option.isSome_iff_exists.mp (fC (env := X.env) (cs := []) (.inl (PySem.mem_of_lookup hy)))
      have ec := sub _ _ e'
      rw [e] at ec
      cases ec
      obtain ⟨o, ho, hd⟩ := z
      exact ⟨c, e', o, keep c o ho, hd⟩
 ·obtain ⟨v, o, ho, hd⟩ := I.cell y c (sub _ _ e)
  exact ⟨v, o, keep c o ho, hd⟩
theorem DZ {xs : List Str} {pos p : Pos} {tg iter elt : Expr} {g : TG} {ifs : List Expr} {scope : Scope} {wi : TI} {tt : TT} {te : TE} {aE : List Nat} {use : Option (Value → Sem Unit)} {QQ : Value → Shared → Prop}
  (hc : X.calm = true) (ho : sL X.env.scope scope xs (dZ X xs aE) = true) (hi : PI X tg iter wi) (hg : ∀ cl C s₀ H₀ ex, PG (cJ X scope cl (dZ X xs aE) C s₀ H₀ ex) tg g)
  (ht : ∀ cl C s₀ H₀ ex, HZ (cJ X scope cl (dZ X xs aE) C s₀ H₀ ex) ifs tt) (he : ∀ cl C s₀ H₀ ex, PE (cJ X scope cl (dZ X xs aE) C s₀ H₀ ex) elt te)
  (hs : ∀ x, foldedSetIterable iter X.env x = pure x) {pins : List (Addr × Obj)} {s : Shared} {σ : St} {H : Hp} {Q : VK} (I : Inv X pins σ H s) (h : JC xs.length wi g tt te aE σ H Q)
  (fin : ∀ (D C : Addr) (H' : Hp) (s' : Shared) (m : Str → Option Value), Inv X pins σ H' s' → Q (.ref D) H' → s'.heap.Ns C m → dS X pins H' C → compPost (model X.prog X.w) X.A X.xe use QQ (.ref D) C (.ok .next) s') :
  wpAny (model X.prog X.w) X.A (comprehension (.ListComp elt [⟨tg, iter, ifs, 0⟩] scope pos) scope X.env p (newList []) false (eval iter X.env) use) QQ X.xe s := by
 have ok := DY ho
 have ic : ∀ z ∈ scope.names, z.2 = .free → (X.env.cells.lookup z.1).isSome = true := fun z hz rN => by
  obtain ⟨c, e⟩ := I.ok.has z.1 (by
   rcases ok.frees z hz rN with q | q
   ·exact .inl q
   ·exact .inr q)
  rw [e]; rfl
 refine wpAny_comprehension_free (cl := aM X.env scope.names []) (use := use) rfl hs (nF ic) ok.kind ok.locs (thn (hi pins s σ H _ I h) fun v s1 h1 => thn h1 fun QP s2 h2 => ?_)
 obtain ⟨it, fp, tn, J, H2, e, I2, T, oF, f2, rd⟩ := h2
 subst e
 refine wpAny_newObj_type (wpAny_newFunctionEnv ok.tp (by intro y hy; simp at hy) (fun h₁ tq Dz => ?_) ok.kind)
 dsimp only at tq Dz ⊢
 have vF : H2 s2.heap.objs.size = none := I2.bB.fresh (Nat.le_refl _)
 obtain ⟨W, ⟨m0, w0⟩, turn⟩ := rd s2.heap.objs.size vF
 have Bt : ∀ b ∈ fp, b < s2.heap.objs.size := fun b hb => by
  obtain ⟨o, e, _⟩ := T.obj 0 _ oF b hb
  exact Heap.lt_size e
 have hsz : (s2.heap.push { cls := .type "list", dict := none, data := .seq ([] : List Value).toArray }).objs.size = s2.heap.objs.size + 1 := Heap.size_push ..
 have I3 : Inv X pins σ (upd H2 s2.heap.objs.size (.lst [])) { s2 with heap := s2.heap.push { cls := .type "list", dict := none, data := .seq ([] : List Value).toArray } } :=
  I2.laid (t' := s2.toks) (fun b u e => Heap.get?_push_of_some _ e) (Nat.le_refl _) ⟨by simp, [], 0, .nil, Heap.get?_push_size _ rfl⟩
 have xg : tn 0 (s2.heap.push { cls := .type "list", dict := none, data := .seq ([] : List Value).toArray }) := T.keep _ _ _ oF fun b _ o e => Heap.get?_push_of_some _ e
 generalize V7 : s2.heap.push { cls := .type "list", dict := none, data := .seq ([] : List Value).toArray } = h3 at tq Dz hsz I3 xg ⊢
 generalize Rj : upd H2 s2.heap.objs.size (.lst []) = H3 at I3 w0
 have yq : ∀ b ∈ fp, b < h3.objs.size := fun b hb => by rw [hsz]; exact Nat.lt_succ_of_lt (Bt b hb)
 have f3 : ∀ b ∈ fp, dS X pins H3 b := fun b hb => ⟨by rw [← Rj, aq (Nat.ne_of_lt (Bt b hb))]; exact (f2 b hb).1, (f2 b hb).2⟩
 have keep : ∀ b o, h3.get? b = some o → h₁.get? b = some o := fun b o e => Dz.extBut b o (Nat.ne_of_lt (Heap.lt_size e)) (Heap.get?_push_of_some _ e)
 have I4 := BS (s3 := { s2 with heap := h3 }) (tk := s2.toks + ([] : List (Str × Value)).length) ok I3 f3 yq tq keep
 have Bu : tn 0 h₁ := T.keep _ _ _ xg fun b _ o e => keep b o e
 generalize gm : cJ X scope (aM X.env scope.names []) (dZ X xs aE) ({ s2 with heap := h3 } : Shared).heap.objs.size { s2 with heap := h3 } H3 fp = X' at I4
 have eA : X'.A = X.A := by rw [← gm] <;> rfl
 have eP : X'.prog = X.prog := by rw [← gm] <;> rfl
 have ew : X'.w = X.w := by rw [← gm] <;> rfl
 have eK : X'.K = X.K := by rw [← gm] <;> rfl
 have ee : X'.env = compEnvC scope (aM X.env scope.names []) h3.objs.size X.env := by rw [← gm] <;> rfl
 have ex : X'.xe = fun _ _ => False := by rw [← gm] <;> rfl
 have ec : X'.calm = true := by rw [← gm]; exact hc
 have Rk : X'.fs = Bi X.stack := by rw [← gm] <;> rfl
 have Rm : HZ X' ifs tt := by rw [← gm]; exact ht _ _ _ _ _
 have hG' : PG X' tg g := by rw [← gm]; exact hg _ _ _ _ _
 have Rn : PE X' elt te := by rw [← gm]; exact he _ _ _ _ _
 have leave : ∀ {σ' : St} {H' : Hp} {s' : Shared}, Inv X' [] σ' H' s' → Q (.ref s2.heap.objs.size) H' → compPost (model X.prog X.w) X.A X.xe use QQ (.ref s2.heap.objs.size) h3.objs.size (.ok .next) s' := fun {σ' H' s'} J q => by
  have un : Un (Bi X.stack) fp H3 H' h3 s'.heap := by have z := J.base; rw [← gm] at z; exact z
  have GD : s'.os = s2.os := by have z := J.os; rw [← gm] at z; exact z
  have hk : mY X.prog X.w H' s'.heap := by have z := J.bB; rw [eP, ew] at z; exact z
  have Jx := I3.Il (s' := s') (ch := fp) GD un hk J.bare fun b hb => ⟨(f3 b hb).2.2.2.1, (f3 b hb).2.1, (f3 b hb).2.2.2.2.1, (f3 b hb).2.2.2.2.2⟩
  obtain ⟨m, hn, _⟩ := J.loc
  have Ik : s'.heap.Ns h3.objs.size m := by rw [ee] at hn; exact hn
  have rN : H' h3.objs.size = none := by have z := J.free; rw [ee] at z; exact z
  exact fin _ _ H' s' m Jx q Ik (I3.sV (Nat.le_refl _) rN)
 have nB : ∀ {H' : Hp}, (∀ b ∈ fp, H' b = none) → ∀ b ∈ fp, dS X' [] H' b := fun {H'} hn b hb => by
  refine ⟨hn b hb, ?_, ?_, .inl ?_, fun y c e => ?_, fun p hp => ?_⟩
  ·rw [ee]; exact Nat.ne_of_lt (yq b hb)
  ·rw [Rk]
   intro z
   rcases List.mem_cons.mp (I3.kP b z) with z | z
   ·exact (f3 b hb).2.1 z
   ·exact (f3 b hb).2.2.1 z
  ·rw [← gm]; exact hb
  ·have e' : (aM X.env scope.names []).lookup y = some c := by rw [ee] at e; exact e
   exact (f3 b hb).2.2.2.2.1 y c (fB ic (fun _ _ q => by simp at q) e')
  ·rw [← gm] at hp
   exact absurd (show p ∈ ([] : List (Addr × Obj)) from hp) (by simp)
 have loop : ∀ s₃ : Shared, s₃ = { s2 with heap := h₁, toks := s2.toks + ([] : List (Str × Value)).length } →
   codeAny (model X.prog X.w) X.A (.compLoop (.ListComp elt [⟨tg, iter, ifs, 0⟩] scope pos) 0 (.ref it) (.ref s2.heap.objs.size) (compEnvC scope (aM X.env scope.names []) h3.objs.size X.env))
    (compPost (model X.prog X.w) X.A X.xe use QQ (.ref s2.heap.objs.size) h3.objs.size) s₃ := by
  rintro s₃ rfl
  refine jx (fun n s' => ∃ i τ H' ys, Inv X' [] τ H' s' ∧ tn i s'.heap ∧ (∀ b ∈ fp, H' b = none) ∧ W i n ys τ H') ?_ m0 ⟨0, _, H3, [], I4, Bu, fun b hb => (f3 b hb).1, w0⟩
  rintro n s' ⟨i, τ, H', ys, J, xf, Nt, w'⟩
  obtain ⟨Yx, hlen, alt⟩ := turn i n ys τ H' w'
  rcases alt with ⟨stop, q⟩ | ⟨go, N, hN, step⟩
  ·have z := T.done X' eP ew eK ec i [] s' _ H' (fun _ _ => False) J (nB Nt) xf stop
   rw [eA] at z
   refine thn z fun r s4 ⟨hr, J4⟩ => ?_
   subst hr
   exact leave J4 q
  ·have z := T.item X' eP ew eK ec i [] s' _ H' (fun _ _ => False) J (nB Nt) xf go
   rw [eA] at z
   refine thn z fun r s4 ⟨u, hr, h4⟩ => ?_
   subst hr
   refine thn h4 fun _ s5 ⟨xv, H5, J5, r5, y5, sq, Oc⟩ => ?_
   have Ro := J5.pinned (nB Oc) (T.obj _ _ sq)
   have zg := hG' _ s5 _ H5 xv u _ Ro r5 (step xv _ y5)
   rw [eP, ew, eA, ee, ex] at zg
   refine thn zg fun _ s6 ⟨τ6, H6, J6, q6⟩ => ?_
   have zt := Rm _ s6 _ _ _ J6 q6
   rw [eP, ew, eA, ee, ex] at zt
   refine thn zt fun b s7 ⟨H7, J7, q7⟩ => ?_
   have again : ∀ {H8 : Hp} {s8 : Shared} {Fv : List V}, Inv X' ([] ++ nA fp s5.heap) τ6 H8 s8 → N Fv τ6 H8 → ∃ m, m < n ∧ ∃ i τ H' ys, Inv X' [] τ H' s8 ∧ tn i s8.heap ∧ (∀ b ∈ fp, H' b = none) ∧ W i m ys τ H' := fun {H8 s8 Fv} J8 n8 => by
    obtain ⟨m', hm, w8⟩ := hN Fv τ6 H8 n8
    refine ⟨m', hm, i + 1, τ6, H8, Fv, J8.fw, T.keep _ _ _ sq fun b hb o e => (J8.pin (b, o) (List.mem_append_right _ (List.mem_append_right _ (bN hb e)))).1, fun b hb => ?_, w8⟩
    obtain ⟨o, e, d⟩ := T.obj _ _ sq b hb
    exact (J8.pin (b, o) (List.mem_append_right _ (List.mem_append_right _ (bN hb e)))).2.1
   cases b with
   | false => exact again J7 q7
   | true =>
    have ze := Rn _ s7 _ H7 _ J7 q7
    rw [eP, ew, eA, ee, ex] at ze
    refine thn ze fun yv s8 ⟨y, H8, J8, r8, Rp, q8⟩ => ?_
    have za := a9 (X := X') _ s8 _ H8 (.ref s2.heap.objs.size) [y] (.ref s2.heap.objs.size) [yv] (fun _ H9 => H9 = upd H8 s2.heap.objs.size (.lst (ys ++ [y]))) J8 rfl (.cons r8 .nil) ⟨_, ys, y, rfl, rfl, Rp, hlen, rfl⟩
    rw [eP, ew, eA, ex] at za
    refine thn za fun _ s9 ⟨_, H9, J9, _, q9⟩ => ?_
    subst q9
    exact again J9 q8
 exact codeAny_compStart_list (loop _ rfl) (T.self _ 0 _ _ _ Bu (loop _ rfl))
theorem JD {pos : Pos} {tg iter elt : Expr} {ifs : List Expr} {scope : Scope} {wi : TI} {tt : TT} {te : TE} {g : TG} (xs : List Str) (aE : List Nat)
  (hc : X.calm = true) (ho : sL X.env.scope scope xs (dZ X xs aE) = true) (hi : PI X tg iter wi) (hg : ∀ cl C s₀ H₀ ex, PG (cJ X scope cl (dZ X xs aE) C s₀ H₀ ex) tg g)
  (ht : ∀ cl C s₀ H₀ ex, HZ (cJ X scope cl (dZ X xs aE) C s₀ H₀ ex) ifs tt) (he : ∀ cl C s₀ H₀ ex, PE (cJ X scope cl (dZ X xs aE) C s₀ H₀ ex) elt te)
  (hs : ∀ x, foldedSetIterable iter X.env x = pure x := by intro _; rfl) : PE X (.ListComp elt [⟨tg, iter, ifs, 0⟩] scope pos) (JC xs.length wi g tt te aE) := by
 intro pins s σ H Q I h
 rw [eval_ListComp]
 refine DZ (use := none) hc ho hi hg ht he hs I h fun D C H' s' m J q hn hf => ?_
 exact ⟨m, hn, fun h' sb => ⟨.ref D, H', J.turned (t' := s'.toks) (fun b o hb e => (sb.2 b hb).trans e) hf.1 hf.2.1 hf.2.2.2.1 hf.2.2.2.2.1 hf.2.2.2.2.2, rfl, q⟩⟩
end
end L2
namespace L2
open PySem PySem.Spec PyProof.Rows
def U0 (K : PySem.W.Frag) (a b : Addr) : It :=
  ⟨fun i H => ∃ xs ys x y, ax K H a xs ∧ ax K H b ys ∧ xs[i]? = some x ∧ ys[i]? = some y,
   fun i H x H' => ∃ t v u, H t = none ∧ H' = upd H t (.tup [v, u]) ∧ x = .ref t ∧ (∀ xs, ax K H a xs → xs[i]? = some v) ∧ ∀ ys, ax K H b ys → ys[i]? = some u,
   fun i H => ∃ xs ys, ax K H a xs ∧ ax K H b ys ∧ (xs.length ≤ i ∨ ys.length ≤ i)⟩
theorem JE {P : Program} {w : World} {K : PySem.W.Frag} {elts : List Expr} {x1 : Nat} {pos : Pos} (a b z TI TO i1 i2 : Addr) (D : ZipApart z TI TO i1 i2 a b) : Turn P w K (.Tuple elts x1 pos) (U0 K a b) [z, TI, TO, i1, i2] z
  (fun i h => IsZip h z TI TO .none ∧ IsPair h TI (.ref i1) (.ref i2) ∧ (∃ u v, IsPair h TO u v) ∧ h.IsListIter i1 a i ∧ h.IsListIter i2 b i) where
 mem := by simp
 obj := fun i h st c hc => by
  obtain ⟨yL, oF, ⟨u, v, xg⟩, Bu, sq⟩ := st
  rcases (by simpa using hc : c = z ∨ c = TI ∨ c = TO ∨ c = i1 ∨ c = i2) with e | e | e | e | e <;> subst e
  ·exact ⟨_, yL, fun v z => nomatch z⟩
  ·exact ⟨_, oF, fun v z => nomatch z⟩
  ·exact ⟨_, xg, fun v z => nomatch z⟩
  ·obtain ⟨o, e, c, d⟩ := Bu
   exact ⟨o, e, fun v z => by rw [d] at z; cases z⟩
  ·obtain ⟨o, e, c, d⟩ := sq
   exact ⟨o, e, fun v z => by rw [d] at z; cases z⟩
 keep := fun i h h' st k => by
  obtain ⟨yL, oF, ⟨u, v, xg⟩, Bu, sq⟩ := st
  exact ⟨k z (by simp) _ yL, k TI (by simp) _ oF, ⟨u, v, k TO (by simp) _ xg⟩, Bu.at fun o q => k i1 (by simp) o q, sq.at fun o q => k i2 (by simp) o q⟩
 item := by
  intro X hP hw hK hc i pins s σ H E I hf st hg
  subst hP hw hK
  obtain ⟨yL, oF, ⟨u0, v0, xg⟩, Bu, sq⟩ := st
  obtain ⟨xs, ys, x, y, hq, Qi, hx, hy⟩ := hg
  obtain ⟨its, rv, p, hz⟩ := I.list hq
  obtain ⟨kK, O4, p2, U1⟩ := I.list Qi
  obtain ⟨u, hu, ru⟩ := rv.get hx
  obtain ⟨u2, hu2, Wt⟩ := O4.get hy
  refine wpAny_pyNext_zip_item D yL oF xg Bu sq p.isList p2.isList (x := u) (y := u2) (by simpa using hu) (by simpa using hu2) fun h1 Wo Wu RC Wv hT1 U2 UY => ?_
  refine ⟨_, rfl, wpAny_letOwnedTupleGo_zip Wo fun h2 Qh sW => ?_⟩
  replace sW : Heap.SameBut z h1 h2 := sW
  have rN : H s.heap.objs.size = none := I.bB.fresh (Nat.le_refl _)
  have lt : ∀ c ∈ [z, TI, TO, i1, i2], c < s.heap.objs.size := fun c hc => by
   rcases (by simpa using hc : c = z ∨ c = TI ∨ c = TO ∨ c = i1 ∨ c = i2) with e | e | e | e | e <;> rw [e]
   ·exact Heap.lt_size yL
   ·exact Heap.lt_size oF
   ·exact Heap.lt_size xg
   ·obtain ⟨o, q, _⟩ := id Bu
    exact Heap.lt_size q
   ·obtain ⟨o, q, _⟩ := id sq
    exact Heap.lt_size q
  have U3 := lt z (by simp)
  have DS : h2.get? s.heap.objs.size = some { cls := .type "tuple", data := .seq #[u, u2] } := (sW.2 _ (Nat.ne_of_gt U3)).trans hT1
  have I1 : Inv X pins σ (upd H s.heap.objs.size (.tup [x, y])) { s with heap := s.heap.push { cls := .type "tuple", data := .seq #[u, u2] }, toks := s.toks } := by
   refine I.laid (t' := s.toks) (fun b u q => Heap.get?_push_of_some _ q) (Nat.le_refl _) ?_
   exact ⟨(by show 2 ≤ sizeLine; decide), [u, u2], .cons ru (.cons Wt .nil), ⟨_, Heap.get?_push_size _ rfl, rfl, 0, rfl⟩⟩
  have I2 : Inv X pins σ (upd H s.heap.objs.size (.tup [x, y])) { s with heap := h2, toks := s.toks } := by
   refine Inv.gf (s := { s with heap := s.heap.push { cls := .type "tuple", data := .seq #[u, u2] }, toks := s.toks }) (h' := h2) (t' := s.toks) (ch := [z, TI, TO, i1, i2]) I1 (fun b o hb q => ?_) (fun b hb => ?_)
   ·have OZ : b ≠ z := fun e => hb (by simp [e])
    have FJ : b ≠ TO := fun e => hb (by simp [e])
    have Ww : b ≠ i1 := fun e => hb (by simp [e])
    have Wx : b ≠ i2 := fun e => hb (by simp [e])
    by_cases RL : b = s.heap.objs.size
    ·subst RL
     have q2 : (s.heap.push { cls := .type "tuple", data := .seq #[u, u2] }).get? s.heap.objs.size = some o := q
     rw [Heap.get?_push_size _ rfl] at q2
     rw [DS, ← q2]
    ·have q2 : (s.heap.push { cls := .type "tuple", data := .seq #[u, u2] }).get? b = some o := q
     have q3 : s.heap.get? b = some o := (rB _ _ _ RL).symm.trans q2
     exact (sW.2 b OZ).trans (UY b o OZ FJ Ww Wx q3)
   ·have f := hf b hb
    refine ⟨?_, f.2.1, f.2.2.2.1, f.2.2.2.2.1, f.2.2.2.2.2⟩
    rw [aq (Nat.ne_of_lt (lt b hb))]
    exact f.1
  refine ⟨.ref s.heap.objs.size, _, I2, rfl, ⟨_, x, y, rN, rfl, rfl, fun zs Wy => by rw [I.oE Wy hq]; exact hx, fun zs Wy => by rw [I.oE Wy Qi]; exact hy⟩, ⟨Qh, ?_, ⟨u, u2, ?_⟩, ?_, ?_⟩, fun b hb => ?_⟩
  ·exact (sW.2 TI D.TIz).trans (UY TI _ D.TIz D.TITO D.TIi1 D.TIi2 oF)
  ·exact (sW.2 TO D.TOz).trans Wu
  ·exact RC.at fun o q => (sW.2 i1 D.i1z).trans q
  ·exact Wv.at fun o q => (sW.2 i2 D.i2z).trans q
  ·rw [aq (Nat.ne_of_lt (lt b hb))]
   exact (hf b hb).1
 done := by
  intro X hP hw hK hc i pins s σ H E I hf st hg
  subst hP hw hK
  obtain ⟨yL, oF, ⟨u0, v0, xg⟩, Bu, sq⟩ := st
  obtain ⟨xs, ys, hq, Qi, hx⟩ := hg
  obtain ⟨its, rv, p, hz⟩ := I.list hq
  obtain ⟨kK, O4, p2, U1⟩ := I.list Qi
  have hl := rv.length
  have rg := O4.length
  refine wpAny_pyNext_zip_end (I.ok.hd hc) D yL oF xg Bu sq p.isList p2.isList ?_ fun h' eb => ⟨rfl, ?_⟩
  ·rcases hx with hx | hx
   ·exact .inl (by simp; omega)
   ·exact .inr (by simp; omega)
  ·refine Inv.gf (s := s) (t' := s.toks) (ch := [z, TI, TO, i1, i2]) I (fun b o hb e => eb b o (fun e => hb (by simp [e])) (fun e => hb (by simp [e])) (fun e => hb (by simp [e])) (fun e => hb (by simp [e])) e) fun b hb => ?_
   have f := hf b hb
   exact ⟨f.1, f.2.1, f.2.2.2.1, f.2.2.2.2.1, f.2.2.2.2.2⟩
 self := fun _ _ _ _ _ st h => wpAny_pyIter_zip st.1 h
section
variable {X : Cx}
theorem neA {a b : Nat} (h : a < b ∨ b < a) : a ≠ b := fun e => by omega
theorem G0 (n a b : Nat) (ha : a < n) (hb : b < n) : ZipApart (n + 4) (n + 2) (n + 3) n (n + 1) a b := by
 constructor <;> (refine neA ?_; omega)
def Wz (K : PySem.W.Frag) (tl tm : TE) : TI := fun σ H R => tl σ H fun x H1 => tm σ H1 fun y H2 => ∃ a b, x = .ref a ∧ y = .ref b ∧ (∃ xs, ax K H2 a xs) ∧ (∃ ys, ax K H2 b ys) ∧ R (U0 K a b) H2
theorem O5 {l m : Expr} {tl tm : TE} {elts : List Expr} {x1 : Nat} {IF p cpos : Pos} (hl : PE X l tl) (hm2 : PE X m tm) (hg : Gl X "zip") (hm : X.mg "zip" = none) (hv : bootBuiltins "zip" = some (.type "zip"))
  (he : starEach [l, m] X.env = (false, eval l X.env) :: starEach [m] X.env) (Qh : starEach [m] X.env = (false, eval m X.env) :: starEach [] X.env) : PI X (.Tuple elts x1 IF) (.Call (.Name "zip" p) [l, m] [] cpos) (Wz X.K tl tm) := by
 intro pins s σ H R I h
 refine wpAny_Call_Name_kw (kQ I hg hm hv ?_ (by decide) (by decide))
 have Mq : PA X [l, m] (rf tl (rf tm yk)) := aa hl (aa hm2 af Qh) he
 refine PyProof.Rows.callWith_type1 (thn (Mq cpos pins s σ H (fun vs H1 => match vs with | [x, y] => ∃ a b, x = .ref a ∧ y = .ref b ∧ (∃ xs, ax X.K H1 a xs) ∧ (∃ ys, ax X.K H1 b ys) ∧ R (U0 X.K a b) H1 | _ => False) I h) fun us s1 ⟨vs, H1, I1, r1, q1⟩ => ?_) he (by rw [Qh]; rfl)
 match vs, r1, q1 with
 | [x, y], r1, ⟨a, b, ex, ey, ⟨xs, hq⟩, ⟨ys, Qi⟩, q⟩ =>
  subst ex ey
  obtain ⟨u, u2, rfl, ru, Wt⟩ := vals2 r1
  cases ru
  cases Wt
  obtain ⟨its, rv, p, hz⟩ := I1.list hq
  obtain ⟨kK, O4, p2, U1⟩ := I1.list Qi
  have ha : a < s1.heap.objs.size := by
   obtain ⟨_, e, _⟩ := p.isList
   exact Heap.lt_size e
  have hb : b < s1.heap.objs.size := by
   obtain ⟨_, e, _⟩ := p2.isList
   exact Heap.lt_size e
  have D := G0 s1.heap.objs.size a b ha hb
  refine call_zip_2 p.isList p2.isList fun h' hz hTI hTO RC Wv hsz hk => wpAny_pyIter_zip hz ?_
  refine ⟨s1.heap.objs.size + 4, [s1.heap.objs.size + 4, s1.heap.objs.size + 2, s1.heap.objs.size + 3, s1.heap.objs.size, s1.heap.objs.size + 1], _, _, H1, rfl, I1.kept (t' := s1.toks) hk, JE a b _ _ _ _ _ D, ⟨hz, hTI, ⟨_, _, hTO⟩, RC, Wv⟩, fun c hc => ?_, q⟩
  have oB : s1.heap.objs.size ≤ c := by
   rcases (by simpa using hc : c = s1.heap.objs.size + 4 ∨ c = s1.heap.objs.size + 2 ∨ c = s1.heap.objs.size + 3 ∨ c = s1.heap.objs.size ∨ c = s1.heap.objs.size + 1) with z | z | z | z | z <;> rw [z]
   ·exact Nat.le_add_right _ _
   ·exact Nat.le_add_right _ _
   ·exact Nat.le_add_right _ _
   ·exact Nat.le_refl _
   ·exact Nat.le_add_right _ _
  exact I1.sV oB (I1.bB.fresh oB)
end
end L2
namespace L2
open PySem PySem.Spec PyProof.Rows
section
variable {X : Cx} {pins : List (Addr × Obj)} {σ : St}
theorem dS.at {H H' : Hp} {b : Addr} (h : dS X pins H b) (n : H' b = none) : dS X pins H' b := ⟨n, h.2⟩
theorem dS.G1 {H : Hp} {b : Addr} (f : dS X pins H b) : H b = none ∧ b ≠ X.env.locals ∧ (b ∈ X.ex ∨ X.s₀.heap.objs.size ≤ b) ∧ (∀ x c, X.env.cells.lookup x = some c → c ≠ b) ∧ ∀ p ∈ X.pn ++ pins, p.1 ≠ b := ⟨f.1, f.2.1, f.2.2.2.1, f.2.2.2.2.1, f.2.2.2.2.2⟩
theorem JF (hc : X.calm = true) {l q I S : Addr} {xs : List V} (kf : Nat → Int) (P : Hp → Prop) {Rr : Result → Shared → Prop} (hl : ∀ H', P H' → ax X.K H' l xs) (RP : l ≠ I) (NG : S ≠ I)
  (turn : ∀ (pl : List (Addr × Obj)) (s' : Shared) (H' : Hp) (i : Nat) (x : V) (u : Value), Inv X (pins ++ pl) σ H' s' → P H' → xs[i]? = some x → RelV x u → wpAny (model X.prog X.w) X.A.in1 (call (.ref q) [u]) (fun v rK => ∃ m8 t, v = .int (kf i) t ∧ Inv X (pins ++ pl) σ m8 rK ∧ P m8) (fun _ _ => False) s')
  (hR : ∀ (s' : Shared) (H' : Hp) (i : Nat) (x : V) (v : Value), Inv X pins σ H' s' → P H' → xs[i]? = some x → RelV x v → (∀ j, j < xs.length → kf i ≤ kf j ∧ (j < i → kf i < kf j)) → Rr (.ok (.ret v)) s') :
  ∀ (r j i : Nat) (s' : Shared) (H' : Hp) (x : V) (vb : Value) (tb : Tok) (c : Nat), xs.length - (j + 1) = r → j + 1 ≤ xs.length → Inv X pins σ H' s' → P H' → dS X pins H' I → dS X pins H' S → s'.heap.get? S = some (seqObj "list" #[vb, .int (kf i) tb] c) → s'.heap.IsListIter I l (j + 1) → xs[i]? = some x → RelV x vb → i ≤ j → (∀ j', j' ≤ j → kf i ≤ kf j' ∧ (j' < i → kf i < kf j')) →
   codeAny (model X.prog X.w) X.A (.builtin "min.loop" ⟨[.ref I, .ref q, .ref S], []⟩) Rr s' := by
 have BU : (toString "min" ++ toString ".loop" : String) = "min.loop" := by decide
 intro r
 induction r with
 | zero =>
  intro j i s' H' x vb tb c hr hj J hP fI fS nS hit hx rx Wb FP
  obtain ⟨its, rv, p, hz⟩ := J.list (hl H' hP)
  have hlen := rv.length
  have Qj : j + 1 = xs.length := by omega
  have W := Walks.list (prog := X.prog) (w := X.w) (A := X.A.in1) (J.ok.hd hc) I l RP its.toArray
  have hsz : its.toArray.size = j + 1 := by rw [List.size_toArray]; omega
  refine codeAny_builtin PySem.F.entry_min_loop ?_
  rw [Around.under_plainId PySem.F.plain_min_loop _]
  show wpAny _ X.A.in1 (seqItems? (.ref S) >>= _) _ _ _
  refine wpAny_bind (wpAny_seqItems nS rfl ?_)
  show wpAny _ X.A.in1 (tryCatch (pyNext (.ref I)) _ >>= _) _ _ _
  refine wpAny_bind (wpAny_tryCatch (W.done _ _ _ ⟨by rw [hsz]; exact hit, p.isList⟩ fun h' tk' FQ => ?_))
  have J1 := Inv.gf (s := s') (h' := h') (t' := tk') (ch := [I]) J (fun b o hb e => FQ b o hb e) fun b hb => by rw [List.mem_singleton.mp hb]; exact fI.G1
  have Ws := FQ S _ (by simpa using NG) nS
  have s1 := Heap.SameBut.update h' S (Obj.mapSeq fun _ => (#[] : Array Value))
  show wpAny _ X.A.in1 (updateSeq S (fun _ => #[]) >>= _) _ _ _
  refine wpAny_bind ?_
  refine wpAny_updateSeq Ws rfl (wpAny_bind (wpAny_letGo (wpAny_pure ?_)))
  have J2 := Inv.gf (s := { s' with heap := h', toks := tk' }) (h' := h'.update S (Obj.mapSeq fun _ => (#[] : Array Value))) (t' := tk') (ch := [S]) J1 (fun b o hb e => (s1.2 b (by simpa using hb)).trans e) fun b hb => by rw [List.mem_singleton.mp hb]; exact fS.G1
  exact hR _ H' i x vb J2 hP hx rx fun j' WA => FP j' (by omega)
 | succ r ih =>
  intro j i s' H' x vb tb c hr hj J hP fI fS nS hit hx rx Wb FP
  obtain ⟨its, rv, p, hz⟩ := J.list (hl H' hP)
  have hlen := rv.length
  have fz : j + 1 < xs.length := by omega
  have W := Walks.list (prog := X.prog) (w := X.w) (A := X.A.in1) (J.ok.hd hc) I l RP its.toArray
  refine codeAny_builtin PySem.F.entry_min_loop ?_
  rw [Around.under_plainId PySem.F.plain_min_loop _]
  show wpAny _ X.A.in1 (seqItems? (.ref S) >>= _) _ _ _
  refine wpAny_bind (wpAny_seqItems nS rfl ?_)
  show wpAny _ X.A.in1 (tryCatch (pyNext (.ref I)) _ >>= _) _ _ _
  refine wpAny_bind (wpAny_tryCatch (W.item (j + 1) _ _ _ (by rw [List.size_toArray]; omega) ⟨hit, p.isList⟩ fun v h' tk' WB O6 FQ => ?_))
  have hv : its[j + 1]? = some v := by simpa using WB
  have hy : xs[j + 1]? = some xs[j + 1] := Ge9 fz
  obtain ⟨u, hu, ru⟩ := rv.get hy
  rw [hv] at hu
  cases hu
  obtain ⟨Qk, JG, N5, Ql⟩ := id O6.1
  have J1 := Inv.gf (s := s') (h' := h') (t' := tk') (ch := [I]) J (fun b o hb e => FQ b o hb e) fun b hb => by rw [List.mem_singleton.mp hb]; exact fI.G1
  have RQ := FQ S _ (by simpa using NG) nS
  have WC := J1.pinned (fp := [I, S]) (fun b hb => by
   rcases (by simpa using hb : b = I ∨ b = S) with e | e <;> rw [e]
   ·exact fI
   ·exact fS) (fun b hb => by
   rcases (by simpa using hb : b = I ∨ b = S) with e | e <;> rw [e]
   ·exact ⟨Qk, JG, fun v z => by rw [Ql] at z; cases z⟩
   ·exact ⟨_, RQ, fun v z => nomatch z⟩)
  show wpAny _ X.A.in1 (tryCatch (holding [v] (call (.ref q) [v])) _ >>= _) _ _ _
  refine wpAny_bind (wpAny_tryCatch (wpAny_holding (wpAny_mono (turn _ _ H' (j + 1) _ v WC hP hy ru) (fun x' rK he => ?_) fun _ _ hF => hF.elim)))
  obtain ⟨H2, t2, rfl, O7, U4⟩ := he
  have J2 := O7.fw
  have pS := O7.pin (S, _) (List.mem_append_right _ (List.mem_append_right _ (bN (by simp) RQ)))
  have pI := O7.pin (I, _) (List.mem_append_right _ (List.mem_append_right _ (bN (by simp) JG)))
  have WD := pS.1
  have OQ : rK.heap.IsListIter I l (j + 1 + 1) := ⟨Qk, pI.1, N5, Ql⟩
  have YH : dS X pins H2 I := fI.at pI.2.1
  have WE : dS X pins H2 S := fS.at pS.2.1
  show wpAny _ X.A.in1 (tryCatch (holding [v, .int (kf (j + 1)) t2] (richCompare .Lt (.int (kf (j + 1)) t2) (.int (kf i) tb) >>= _)) _ >>= _) _ _ _
  refine wpAny_bind (wpAny_tryCatch (wpAny_holding (wpAny_bind (CmpOf.ints_lt (prog := X.prog) (w := X.w) (A := X.A.in1) (P := fun i v => ∃ t, v = .int (kf i) t) kf (fun i v h => h) (j + 1) i _ _ _ _ _ ⟨t2, rfl⟩ ⟨tb, rfl⟩ ?_))))
  refine wpAny_bind (wpAny_holding (wpAny_truthy_bool ?_))
  refine wpAny_bind (wpAny_letGo (wpAny_pure ?_))
  by_cases oB : kf (j + 1) < kf i
  ·have s1 := Heap.SameBut.update rK.heap S (Obj.mapSeq fun _ => #[v, .int (kf (j + 1)) t2])
   obtain ⟨c2, WG⟩ : ∃ c2, (rK.heap.update S (Obj.mapSeq fun _ => #[v, .int (kf (j + 1)) t2])).get? S = some (seqObj "list" #[v, .int (kf (j + 1)) t2] c2) := ⟨_, get?_update_seq WD fun _ => #[v, .int (kf (j + 1)) t2]⟩
   simp only [oB, decide_true, if_true]
   refine wpAny_bind ?_
   refine wpAny_updateSeq WD rfl (wpAny_bind (wpAny_letGo ?_))
   rw [BU]
   have J3 := Inv.gf (s := rK) (h' := rK.heap.update S (Obj.mapSeq fun _ => #[v, .int (kf (j + 1)) t2])) (t' := rK.toks) (ch := [S]) J2 (fun b o hb e => (s1.2 b (by simpa using hb)).trans e) fun b hb => by rw [List.mem_singleton.mp hb]; exact WE.G1
   refine wpAny_pure ⟨plainId_quiet PySem.F.plain_min_loop _, ih (j + 1) (j + 1) _ H2 _ v t2 c2 (by omega) fz J3 U4 YH WE WG ⟨Qk, (s1.2 I NG.symm).trans pI.1, N5, Ql⟩ hy ru (Nat.le_refl _) fun j' WA => ?_⟩
   by_cases e : j' = j + 1
   ·subst e
    exact ⟨by omega, fun _ => by omega⟩
   ·have OZ := FP j' (by omega)
    have FJ := OZ.1
    exact ⟨by omega, fun _ => by omega⟩
  ·simp only [oB, decide_false, Bool.false_eq_true, if_false]
   refine wpAny_bind (wpAny_letGo ?_)
   rw [BU]
   refine wpAny_pure ⟨plainId_quiet PySem.F.plain_min_loop _, ih (j + 1) i _ H2 x vb tb c (by omega) fz J2 U4 YH WE WD OQ hx rx (by omega) fun j' WA => ?_⟩
   by_cases e : j' = j + 1
   ·subst e
    exact ⟨by omega, fun _ => by omega⟩
   ·exact FP j' (by omega)
theorem yN (hc : X.calm = true) {l q : Addr} {xs : List V} (kf : Nat → Int) (P : Hp → Prop) {s : Shared} {H : Hp} {Q : VK} {E : Value → Shared → Prop} (J : Inv X pins σ H s) (hP : P H) (hl : ∀ H', P H' → ax X.K H' l xs) (mZ : 0 < xs.length)
  (turn : ∀ (pl : List (Addr × Obj)) (s' : Shared) (H' : Hp) (i : Nat) (x : V) (u : Value), Inv X (pins ++ pl) σ H' s' → P H' → xs[i]? = some x → RelV x u → wpAny (model X.prog X.w) X.A.in1 (call (.ref q) [u]) (fun v rK => ∃ m8 t, v = .int (kf i) t ∧ Inv X (pins ++ pl) σ m8 rK ∧ P m8) (fun _ _ => False) s')
  (hQ : ∀ (H' : Hp) (i : Nat) (x : V), P H' → xs[i]? = some x → (∀ j, j < xs.length → kf i ≤ kf j ∧ (j < i → kf i < kf j)) → Q x H') :
  wpAny (model X.prog X.w) X.A (call (.builtin "min") [.ref l] [(Str.ofString "key", .ref q)]) (EP X pins σ Q) E s := by
 have BU : (toString "min" ++ toString ".loop" : String) = "min.loop" := by decide
 obtain ⟨its, rv, p, hz⟩ := J.list (hl H hP)
 have hlen := rv.length
 obtain ⟨ol, UU, _⟩ := id p.isList
 have Mt : l < s.heap.objs.size := Heap.lt_size UU
 refine kmk_tree PySem.F.kind_min PySem.F.plain_min PySem.F.entry_min (kmk_min_key _ _) ?_
 show wpAny _ X.A.in1 (Builtin.Builtins.bindParams "min" ["key", "default"] 0 ⟨[], [(Str.ofString "key", .ref q)]⟩ >>= _) _ _ s
 refine wpAny_bind (wpAny_of_eq (show Builtin.Builtins.bindParams "min" ["key", "default"] 0 ⟨[], [(Str.ofString "key", .ref q)]⟩ = pure [some (.ref q), none] from rfl) ?_)
 refine wpAny_bind (wpAny_pure ?_)
 refine wpAny_bind (wpAny_pyIter_list p.isList ?_)
 refine wpAny_bind (wpAny_newList ?_ (Nat.zero_le _))
 rw [BU]
 have hS : (s.heap.push { cls := .type "list_iterator", data := .fields #[.ref l, .int 0 0] }).objs.size = s.heap.objs.size + 1 := size_push' ..
 have RP : l ≠ s.heap.objs.size := Nat.ne_of_lt Mt
 have NG : (s.heap.push { cls := .type "list_iterator", data := .fields #[.ref l, .int 0 0] }).objs.size ≠ s.heap.objs.size := by rw [hS]; exact Nat.ne_of_gt (Nat.lt_succ_self _)
 refine wpAny_pure ⟨plainId_quiet PySem.F.plain_min_loop _, ?_⟩
 have JH : Inv X pins σ H { s with heap := (s.heap.push { cls := .type "list_iterator", data := .fields #[.ref l, .int 0 0] }).push (seqObj "list" #[] 0), toks := s.toks } := J.kept (t' := s.toks) fun b o e => Heap.get?_push_of_some _ (Heap.get?_push_of_some _ e)
 have gI : ((s.heap.push { cls := .type "list_iterator", data := .fields #[.ref l, .int 0 0] }).push (seqObj "list" #[] 0)).get? s.heap.objs.size = some { cls := .type "list_iterator", data := .fields #[.ref l, .int 0 0] } :=
  Heap.get?_push_of_some _ (Heap.get?_push_size _ rfl)
 have gS : ((s.heap.push { cls := .type "list_iterator", data := .fields #[.ref l, .int 0 0] }).push (seqObj "list" #[] 0)).get? (s.heap.push { cls := .type "list_iterator", data := .fields #[.ref l, .int 0 0] }).objs.size = some (seqObj "list" #[] 0) := Heap.get?_push_size _ rfl
 have fI : dS X pins H s.heap.objs.size := J.sV (Nat.le_refl _) (J.bB.fresh (Nat.le_refl _))
 have fS : dS X pins H (s.heap.push { cls := .type "list_iterator", data := .fields #[.ref l, .int 0 0] }).objs.size := by
  rw [hS]
  exact J.sV (Nat.le_succ _) (J.bB.fresh (Nat.le_succ _))
 generalize hSg : (s.heap.push { cls := .type "list_iterator", data := .fields #[.ref l, .int 0 0] }).objs.size = S at NG gS fS
 generalize hHg : (s.heap.push { cls := .type "list_iterator", data := .fields #[.ref l, .int 0 0] }).push (seqObj "list" #[] 0) = hH at gI gS JH
 obtain ⟨RR, RS, p1, Wo⟩ := JH.list (hl H hP)
 have NH := RS.length
 have W := Walks.list (prog := X.prog) (w := X.w) (A := X.A.in1) (J.ok.hd hc) s.heap.objs.size l RP RR.toArray
 refine codeAny_builtin PySem.F.entry_min_loop ?_
 rw [Around.under_plainId PySem.F.plain_min_loop _]
 show wpAny _ X.A.in1 (seqItems? (.ref _) >>= _) _ _ _
 refine wpAny_bind (wpAny_seqItems gS rfl ?_)
 show wpAny _ X.A.in1 (tryCatch (pyNext (.ref s.heap.objs.size)) _ >>= _) _ _ _
 refine wpAny_bind (wpAny_tryCatch (W.item 0 _ _ _ (by rw [List.size_toArray]; omega) ⟨⟨_, gI, rfl, rfl⟩, p1.isList⟩ fun v h' tk' WB O6 FQ => ?_))
 have hv : RR[0]? = some v := by simpa using WB
 have hy : xs[0]? = some xs[0] := Ge9 mZ
 obtain ⟨u, hu, ru⟩ := RS.get hy
 rw [hv] at hu
 cases hu
 obtain ⟨Qk, JG, N5, Ql⟩ := id O6.1
 have J1 := Inv.gf (s := { s with heap := hH, toks := s.toks }) (h' := h') (t' := tk') (ch := [s.heap.objs.size]) JH (fun b o hb e => FQ b o hb e) fun b hb => by rw [List.mem_singleton.mp hb]; exact fI.G1
 have RQ := FQ S _ (by simpa using NG) gS
 have WC := J1.pinned (fp := [s.heap.objs.size, S]) (fun b hb => by
  rcases (by simpa using hb : b = s.heap.objs.size ∨ b = S) with e | e <;> rw [e]
  ·exact fI
  ·exact fS) (fun b hb => by
  rcases (by simpa using hb : b = s.heap.objs.size ∨ b = S) with e | e <;> rw [e]
  ·exact ⟨Qk, JG, fun v z => by rw [Ql] at z; cases z⟩
  ·exact ⟨_, RQ, fun v z => nomatch z⟩)
 show wpAny _ X.A.in1 (tryCatch (holding [v] (call (.ref q) [v])) _ >>= _) _ _ _
 refine wpAny_bind (wpAny_tryCatch (wpAny_holding (wpAny_mono (turn _ _ H 0 _ v WC hP hy ru) (fun x' rK he => ?_) fun _ _ hF => hF.elim)))
 obtain ⟨H2, t2, rfl, O7, U4⟩ := he
 have J2 := O7.fw
 have pS := O7.pin (S, _) (List.mem_append_right _ (List.mem_append_right _ (bN (by simp) RQ)))
 have pI := O7.pin (s.heap.objs.size, _) (List.mem_append_right _ (List.mem_append_right _ (bN (by simp) JG)))
 have s1 := Heap.SameBut.update rK.heap S (Obj.mapSeq fun _ => #[v, .int (kf 0) t2])
 obtain ⟨c2, WG⟩ : ∃ c2, (rK.heap.update S (Obj.mapSeq fun _ => #[v, .int (kf 0) t2])).get? S = some (seqObj "list" #[v, .int (kf 0) t2] c2) := ⟨_, get?_update_seq pS.1 fun _ => #[v, .int (kf 0) t2]⟩
 have J3 := Inv.gf (s := rK) (h' := rK.heap.update S (Obj.mapSeq fun _ => #[v, .int (kf 0) t2])) (t' := rK.toks) (ch := [S]) J2 (fun b o hb e => (s1.2 b (by simpa using hb)).trans e) fun b hb => by rw [List.mem_singleton.mp hb]; exact (fS.at pS.2.1).G1
 show wpAny _ X.A.in1 (updateSeq S (fun _ => #[v, .int (kf 0) t2]) >>= _) _ _ _
 refine wpAny_bind ?_
 refine wpAny_updateSeq pS.1 rfl ?_
 rw [BU]
 refine wpAny_pure ⟨plainId_quiet PySem.F.plain_min_loop _, JF hc kf P hl RP NG turn (fun s' H' i x v J hP hx rx hb => ⟨x, H', J, rx, hQ H' i x hP hx hb⟩) _ 0 0 _ H2 _ v t2 c2 rfl mZ J3 U4 (fI.at pI.2.1) (fS.at pS.2.1) WG ⟨Qk, (s1.2 _ NG.symm).trans pI.1, N5, Ql⟩ hy ru (Nat.le_refl _) fun j' WA => ?_⟩
 have e : j' = 0 := by omega
 subst e
 exact ⟨by omega, fun h => absurd h (Nat.lt_irrefl _)⟩
end
end L2
namespace L2
open PySem PySem.Spec PyProof.Rows
section
variable {X : Cx}
def RT (i j : Int) : Prop := 0 < j ∧ (j < 1073741824 ∨ j.natAbs.log2 < 9000)
theorem BV : oA X (binaryOp .FloorDiv) (rI RT fun i j => .int (i / j)) := Qb fun i j _ _ _ _ _ hc q => by
 have h1 : (0 : Int) < j := hc.1
 have h2 : j < 1073741824 ∨ j.natAbs.log2 < 9000 := hc.2
 refine PyProof.Rows.floordiv_int (by omega) (by rw [Int.fdiv_eq_ediv_of_nonneg i (by omega)]; exact q) (.inl ?_)
 rcases h2 with h2 | h2
 ·exact PyProof.noPylong_small (by omega)
 ·exact PyProof.noPylong_of_log2 h2
def RU (i j : Int) : Prop := i.natAbs.log2 < 100000 ∧ j.natAbs.log2 < 100000
theorem FR {i : Int} (h : i.natAbs.log2 < 100000) : Builtin.Int.intBits i ≤ 2 ^ 20 := by
 unfold Builtin.Int.intBits
 split
 ·exact Nat.zero_le _
 ·omega
theorem ig : oA X (binaryOp .Mult) (rI RU fun i j => .int (i * j)) := Qb fun _ _ _ _ _ _ _ hc q => PyProof.Rows.mul_int q (IntMulOk.of_bits (FR hc.1) (FR hc.2))
def gw (kf : Nat → Int) (n i : Nat) : Prop := ∀ j, j < n → kf i ≤ kf j ∧ (j < i → kf i < kf j)
theorem BW {kf : Nat → Int} {n i j : Nat} (hi : i < n) (hj : j < n) (h1 : gw kf n i) (h2 : gw kf n j) : i = j := by
 rcases Nat.lt_trichotomy i j with q | q | q
 ·have a := (h2 i hi).2 q
  have b := (h1 j hj).1
  omega
 ·exact q
 ·have a := (h1 j hj).2 q
  have b := (h2 i hi).1
  omega
def RV (K : PySem.W.Frag) (sp : Sp) (t : TE) : TE := fun σ H Q => t σ H fun x H1 => ∃ (l : Addr) (xs : List V) (kf : Nat → Int) (P : Hp → Prop), x = .ref l ∧ P H1 ∧ 0 < xs.length ∧ (∀ H', P H' → ax K H' l xs) ∧
 (∀ H' i x, P H' → xs[i]? = some x → sp [x] H' (fun v m8 => v = .int (kf i) ∧ P m8) (fun _ _ _ => False)) ∧ ∀ H' i x, P H' → xs[i]? = some x → gw kf xs.length i → Q x H'
theorem Mu {k : Nat} {sp : Sp} {a : Expr} {ta : TE} {fx q1 : Str} {p p2 kp pos : Pos} (hc : X.calm = true) (c : bf X.prog X.w X.K X.mg X.base fx k [q1] sp) (hr : di (k + 1) X.A) (hg : Gl X "min") (hm : X.mg "min" = none) (hgx : Gl X fx) (ha : PE X a ta) (Gz : (fx == ("__debug__" : Str)) = false := by decide)
  (hs : starEach [a] X.env = (false, eval a X.env) :: starEach [] X.env := by rfl) : PE X (.Call (.Name "min" p) [a] [⟨some "key", .Name fx p2, kp⟩] pos) (RV X.K sp ta) := by
 intro pins s σ H Q I h
 obtain ⟨fa, fd, Fo, hb, kpn, hmf⟩ := c
 refine wpAny_Call_Name_kw (kQ I hg hm PyProof.Rows.boot_min ?_ (by decide) (by decide))
 have Mq : PA X [a] (rf ta yk) := aa ha af hs
 have hpk : PK X [⟨some "key", .Name fx p2, kp⟩] (rf (fun _ H Q => Q (.ref fa) H) yk) := LU (fun pins s σ H Q I h => so I hgx hmf ⟨.ref fa, H, I, rfl, h⟩ Gz) Ol
 refine PyProof.Rows.callWith_kw (thn (Mq pos pins s σ H (fun vs H1 => match vs with | [v] => (∃ (l : Addr) (xs : List V) (kf : Nat → Int) (P : Hp → Prop), v = .ref l ∧ P H1 ∧ 0 < xs.length ∧ (∀ H', P H' → ax X.K H' l xs) ∧
  (∀ H' i x, P H' → xs[i]? = some x → sp [x] H' (fun v m8 => v = .int (kf i) ∧ P m8) (fun _ _ _ => False)) ∧ ∀ H' i x, P H' → xs[i]? = some x → gw kf xs.length i → Q x H') | _ => False) I h) fun us s1 ⟨vs, H1, I1, rr, YI⟩ => ?_) (by rw [hs]; rfl) (by rw [hs]; rfl)
 obtain ⟨v, ev⟩ : ∃ v, vs = [v] := by
  match vs, YI with
  | [v], _ => exact ⟨v, rfl⟩
 subst ev
 obtain ⟨l, xs, kf, P, el, hP, mZ, hl, hk, hq⟩ := YI
 subst el
 obtain ⟨u, rfl, ru⟩ := vals1 rr
 refine thn (hpk pos pins s1 σ H1 (fun zs H2 => zs = [.ref fa] ∧ H2 = H1) I1 ⟨rfl, rfl⟩) fun kvs s2 ⟨zs, H2, I2, rz, ez, eH⟩ => ?_
 subst ez eH
 obtain ⟨kv, rfl, rk⟩ := vals1 rz
 obtain rfl : kv = Value.ref fa := rk
 obtain rfl : u = Value.ref l := ru
 show wpAny (model X.prog X.w) X.A (call (.builtin "min") [.ref l] [(Str.ofString "key", .ref fa)]) _ _ s2
 refine yN (xs := xs) hc kf P I2 hP hl mZ (fun pl s' H' i v u J L3 hv ruv => ?_) fun H' i v L3 hv Qm => hq H' i v L3 hv Qm
 have Lv := hk H' i v L3 hv
 have oB := hb s' [u] J.De rfl
 rw [List.append_nil] at oB
 have e0 := J.Oj
 refine wpAny_call (codeAny_mono (Fo.run X.A.in1 X.stack s' H' ⟨[u], []⟩ [u] [v] _ _ hr.in1 ⟨e0.frames, e0.mod, e0.bs, e0.Fd, e0.pR, e0.Nf, e0.bB, e0.bare⟩ oB (.cons ruv .nil) Lv) fun r rK GA => ?_)
 cases r with
 | error e =>
  obtain ⟨_, _, _, _, _, _, _, z⟩ := GA
 | ok fl =>
  cases fl with
  | ret u' =>
   obtain ⟨v', m8, J'', rv', e', P'⟩ := J.after GA
   subst e'
   obtain ⟨t', rfl⟩ := rv'
   exact ⟨m8, t', rfl, J'', P'⟩
  | next => exact False.elim GA
  | brk => exact False.elim GA
  | cont => exact False.elim GA
end
end L2
namespace L2
open PySem PySem.Spec PyProof.Rows
def WH (K : PySem.W.Frag) : R2 := fun x y H Q => ∃ (a b : Addr) (is js : List Int), x = .ref a ∧ y = .ref b ∧ ax K H a (is.map V.int) ∧ ax K H b (js.map V.int) ∧ Q (.bl (decide (is = js))) H
theorem O8 {X : Cx} (hu : X.A.units + 64 < cLine) : oA X (compareOp .Eq) (WH X.K) := by
 intro pins s σ H x y v u Q I rx ry h
 obtain ⟨a, b, is, js, rfl, rfl, g1, g2, q⟩ := h
 cases rx
 cases ry
 obtain ⟨its, RS, ⟨o1, n1, p1, c1, d1, f1⟩, _⟩ := I.list g1
 obtain ⟨kK, O4, ⟨o2, n2, p2, c2, d2, f2⟩, _⟩ := I.list g2
 have i1 : s.heap.IsList a its.toArray := ⟨o1, p1, c1, n1, by assumption⟩
 have i2 : s.heap.IsList b kK.toArray := ⟨o2, p2, c2, n2, by assumption⟩
 have RX := RS.length
 have WI := O4.length
 rw [Lm9] at RX WI
 by_cases hl : is.length = js.length
 ·refine SeqAt.RcAt.lists (e := fun i => is.getD i 0 == js.getD i 0) i1 i2 (by simp; omega) (by omega) (fun j j1 j2 => ?_) _ _ _ _ ?_
  ·have YJ : j < is.length := by simp at j1; omega
   have YK : j < js.length := by omega
   obtain ⟨u1, e1, t1, q1⟩ := RS.get (i := j) (x := V.int is[j]) (by rw [List.getElem?_map, Ge9 YJ]; rfl)
   obtain ⟨u2, e2, t2, q2⟩ := O4.get (i := j) (x := V.int js[j]) (by rw [List.getElem?_map, Ge9 YK]; rfl)
   have c1 : its.toArray[j] = u1 := by
    have z := List.getElem?_eq_some_iff.mp e1
    simpa using z.2
   have c2 : kK.toArray[j] = u2 := by
    have z := List.getElem?_eq_some_iff.mp e2
    simpa using z.2
   rw [c1, c2, q1, q2]
   have g1 : is.getD j 0 = is[j] := by simp [Gd9, YJ]
   have g2 : js.getD j 0 = js[j] := by simp [Gd9, YK]
   rw [g1, g2]
   exact SeqAt.EqAt.int_int _ _ _ _
  ·refine ⟨.bl _, H, I, rfl, ?_⟩
   have e : ((List.range its.toArray.size).all fun i => is.getD i 0 == js.getD i 0) = decide (is = js) := by
    rw [List.size_toArray, ← RX]
    by_cases hh : is = js
    ·subst hh
     simp
    ·rw [decide_eq_false hh]
     cases hc : ((List.range is.length).all fun i => is.getD i 0 == js.getD i 0) with
     | false => rfl
     | true =>
      refine absurd (List.ext_getElem hl fun i h1 h2 => ?_) hh
      rw [List.all_eq_true] at hc
      have z := hc i (List.mem_range.mpr h1)
      have g1 : is.getD i 0 = is[i] := by simp [Gd9, h1]
      have g2 : js.getD i 0 = js[i] := by simp [Gd9, h2]
      rw [g1, g2] at z
      exact beq_iff_eq.mp z
   rw [e]
   exact q
 ·refine SeqAt.RcAt.lists_lengths i1 i2 (by simp; omega) (by omega) _ _ _ _ ?_
  refine ⟨.bl _, H, I, rfl, ?_⟩
  have e : decide (is = js) = false := decide_eq_false fun z => hl (by rw [z])
  rw [e] at q
  exact q
theorem BX {X : Cx} {K : PySem.W.Frag} (hK : X.K = K) : ib X (.type "list") (fun xs H Q => ∃ p ys, xs = [.ref p] ∧ (ax K H p ys ∨ cM K H p ys) ∧ ∀ l, H l = none → Q (.ref l) (upd H l (.lst ys))) := by
 subst hK
 exact oI
end L2
namespace La
abbrev Row := List Int
def dot (row nums : Row) : Int := ((row.zip nums).map fun p => p.1 * p.2).sum
def iY (a : Int) (u : Row) (b : Int) (v : Row) : Row := (u.zip v).map fun p => a * p.1 + b * p.2
def eX (k : Int) (u : Row) : Row := u.map (k * ·)
theorem a0 {a b : Int} {u v : Row} {w : Nat} (hu : u.length = w) (hv : v.length = w) : (iY a u b v).length = w := by
 unfold iY
 rw [Lm9, List.length_zip, hu, hv, Nat.min_self]
theorem fg {k : Int} {u : Row} : (eX k u).length = u.length := by unfold eX; rw [Lm9]
theorem cK {a b : Int} : ∀ {u v : Row} (i : Nat), u.length = v.length → (iY a u b v).getD i 0 = a * u.getD i 0 + b * v.getD i 0
 | [], [], i, _ => by simp [iY]
 | x :: u, y :: v, 0, _ => by simp [iY]
 | x :: u, y :: v, i + 1, h => by
  have ih := cK (a := a) (b := b) (u := u) (v := v) i (by simpa using h)
  unfold iY at ih ⊢
  rw [List.zip_cons_cons, List.map_cons, List.getD_cons_succ, List.getD_cons_succ, List.getD_cons_succ]
  exact ih
 | [], y :: v, i, h => by simp at h
 | x :: u, [], i, h => by simp at h
theorem cT {k : Int} : ∀ {u : Row} (i : Nat), (eX k u).getD i 0 = k * u.getD i 0
 | [], i => by simp [eX]
 | x :: u, 0 => by simp [eX]
 | x :: u, i + 1 => by
  have ih := cT (k := k) (u := u) i
  unfold eX at ih ⊢
  rw [List.map_cons, List.getD_cons_succ, List.getD_cons_succ]
  exact ih
theorem dG {u v : Row} (hl : u.length = v.length) (h : ∀ i, u.getD i 0 = v.getD i 0) : u = v := by
 apply List.ext_getElem hl
 intro i h1 h2
 have := h i
 rw [Gd9, Gd9, Ge9 h1, Ge9 h2] at this
 exact this
theorem oY {a b : Int} : ∀ (e u v : Row), u.length = v.length → dot e (iY a u b v) = a * dot e u + b * dot e v
 | [], u, v, _ => by simp [dot]
 | x :: e, [], [], _ => by simp [dot, iY]
 | x :: e, y :: u, z :: v, h => by
  have ih := oY (a := a) (b := b) e u v (by simpa using h)
  unfold dot iY at ih ⊢
  simp only [List.zip_cons_cons, List.map_cons, List.sum_cons]
  rw [ih]
  simp only [Int.mul_add, Int.add_mul]
  rw [← Int.mul_assoc x a y, ← Int.mul_assoc x b z, Int.mul_comm x a, Int.mul_comm x b, Int.mul_assoc, Int.mul_assoc]
  omega
 | x :: e, [], z :: v, h => by simp at h
 | x :: e, y :: u, [], h => by simp at h
theorem oZ {k : Int} : ∀ (e u : Row), dot e (eX k u) = k * dot e u
 | [], u => by simp [dot]
 | x :: e, [] => by simp [dot, eX]
 | x :: e, y :: u => by
  have ih := oZ (k := k) e u
  unfold dot eX at ih ⊢
  simp only [List.map_cons, List.zip_cons_cons, List.sum_cons]
  rw [ih, Int.mul_add, ← Int.mul_assoc x k y, Int.mul_comm x k, Int.mul_assoc]
theorem gx : ∀ (u v : Row), dot u v = dot v u
 | [], v => by simp [dot]
 | x :: u, [] => by simp [dot]
 | x :: u, y :: v => by
  have ih := gx u v
  unfold dot at ih ⊢
  simp only [List.zip_cons_cons, List.map_cons, List.sum_cons]
  rw [ih, Int.mul_comm]
theorem yO {k : Int} {u : Row} : iY k u 0 u = eX k u := by
 refine dG (by rw [a0 rfl rfl, fg]) fun i => ?_
 rw [cK i rfl, cT]
 omega
structure dk (w : Nat) (P : Row → Prop) : Prop where
 zero : P (List.replicate w 0)
 mix : ∀ (a b : Int) (u v : Row), u.length = w → v.length = w → P u → P v → P (iY a u b v)
 div : ∀ (k : Int) (u : Row), k ≠ 0 → u.length = w → P (eX k u) → P u
theorem dk.eX {w : Nat} {P : Row → Prop} (C : dk w P) {k : Int} {u : Row} (hu : u.length = w) (h : P u) : P (eX k u) := by
 rw [← yO]
 exact C.mix k 0 u u hu hu h h
theorem ly (w : Nat) (E : List Row) : dk w fun v => ∀ e ∈ E, dot e v = 0 := by
 refine ⟨fun e _ => ?_, fun a b u v hu hv h1 h2 e he => ?_, fun k u hk hu h e he => ?_⟩
 ·have := oZ (k := 0) e (List.replicate w 0)
  have e2 : eX 0 (List.replicate w 0) = List.replicate w 0 := by unfold eX; simp
  rw [e2] at this
  omega
 ·rw [oY e u v (by omega), h1 e he, h2 e he]
  simp
 ·have := h e he
  rw [oZ] at this
  rcases Int.mul_eq_zero.mp this with h | h
  ·exact absurd h hk
  ·exact h
theorem o9 (w : Nat) (n : Row) : dk w fun v => dot v n = 0 := by
 have c := ly w [n]
 refine ⟨?_, fun a b u v hu hv h1 h2 => ?_, fun k u hk hu h => ?_⟩
 ·rw [gx]; exact c.zero n (by simp)
 ·show dot _ n = 0
  rw [gx, oY n u v (by omega), gx n u, gx n v]
  have h1 : dot u n = 0 := h1
  have h2 : dot v n = 0 := h2
  rw [h1, h2]
  simp
 ·have h : dot (La.eX k u) n = 0 := h
  rw [gx, oZ, gx] at h
  rcases Int.mul_eq_zero.mp h with h | h
  ·exact absurd h hk
  ·exact h
def ua (row : Row) : Nat := row.foldl (fun f n => Nat.gcd f n.natAbs) 0
theorem xO : ∀ (row : Row) (f : Nat), row.foldl (fun f n => Nat.gcd f n.natAbs) f ∣ f ∧ ∀ n ∈ row, ((row.foldl (fun f n => Nat.gcd f n.natAbs) f : Nat) : Int) ∣ n
 | [], f => ⟨Nat.dvd_refl _, fun _ h => by cases h⟩
 | x :: row, f => by
  obtain ⟨h1, h2⟩ := xO row (Nat.gcd f x.natAbs)
  refine ⟨Nat.dvd_trans h1 (Nat.gcd_dvd_left _ _), fun n hn => ?_⟩
  rcases List.mem_cons.mp hn with e | hn
  ·subst e
   exact Int.ofNat_dvd_left.mpr (Nat.dvd_trans h1 (Nat.gcd_dvd_right _ _))
  ·exact h2 n hn
theorem BY {row : Row} {n : Int} (h : n ∈ row) : ((ua row : Nat) : Int) ∣ n := (xO row 0).2 n h
def slim (row : Row) : Row := if ua row = 0 then row else row.map fun n => n / (ua row : Nat)
theorem ub {row : Row} : (slim row).length = row.length := by
 unfold slim
 split
 ·rfl
 ·rw [Lm9]
theorem mU (row : Row) : ∃ k : Int, 0 < k ∧ row = eX k (slim row) := by
 unfold slim
 by_cases h : ua row = 0
 ·rw [if_pos h]
  refine ⟨1, by decide, ?_⟩
  unfold eX
  simp
 ·rw [if_neg h]
  refine ⟨(ua row : Nat), by omega, ?_⟩
  unfold eX
  rw [List.map_map]
  refine List.ext_getElem (by simp) fun i h1 h2 => ?_
  rw [List.getElem_map]
  exact (Int.mul_ediv_cancel' (BY (List.getElem_mem h1))).symm
theorem dk.slim {w : Nat} {P : Row → Prop} (C : dk w P) {u : Row} (hu : u.length = w) : P (slim u) ↔ P u := by
 obtain ⟨k, hk, e⟩ := mU u
 have hl : (La.slim u).length = w := by rw [ub, hu]
 constructor
 ·intro h
  rw [e]
  exact C.eX hl h
 ·intro h
  rw [e] at h
  exact C.div k _ (by omega) hl h
end La
namespace La
def fp : Row → Nat
 | [] => 0
 | x :: r => if x = 0 then fp r + 1 else 0
theorem JI : ∀ r : Row, fp r ≤ r.length
 | [] => Nat.le_refl _
 | x :: r => by
  have := JI r
  unfold fp
  split
  ·rw [List.length_cons]; omega
  ·exact Nat.zero_le _
theorem eY : ∀ {r : Row} {i : Nat}, i < fp r → r.getD i 0 = 0
 | [], i, h => by simp
 | x :: r, i, h => by
  unfold fp at h
  split at h
  ·rename_i hx
   cases i with
   | zero => rw [List.getD_cons_zero]; exact hx
   | succ i => rw [List.getD_cons_succ]; exact eY (by omega)
  ·omega
theorem xP : ∀ {r : Row}, fp r < r.length → r.getD (fp r) 0 ≠ 0
 | [], h => by simp [fp] at h
 | x :: r, h => by
  unfold fp at h ⊢
  by_cases hx : x = 0
  ·rw [if_pos hx] at h ⊢
   rw [List.getD_cons_succ]
   exact xP (by rw [List.length_cons] at h; omega)
  ·rw [if_neg hx]
   rw [List.getD_cons_zero]
   exact hx
theorem FT {r : Row} {p : Nat} (h1 : ∀ i, i < p → r.getD i 0 = 0) (h2 : r.getD p 0 ≠ 0) : fp r = p := by
 have hp : p < r.length := by
  rcases Nat.lt_or_ge p r.length with h | h
  ·exact h
  ·rw [Gd9, List.getElem?_eq_none h] at h2
   exact absurd rfl h2
 rcases Nat.lt_trichotomy (fp r) p with h | h | h
 ·exact absurd (h1 _ h) (xP (by omega))
 ·exact h
 ·exact absurd (eY h) h2
theorem RY {r : Row} {p : Nat} (h : ∀ i, i ≤ p → r.getD i 0 = 0) (hl : fp r < r.length) : p < fp r := by
 rcases Nat.lt_or_ge p (fp r) with q | q
 ·exact q
 ·exact absurd (h _ q) (xP hl)
theorem sN {r : Row} (h : ∀ i, r.getD i 0 = 0) : fp r = r.length := by
 rcases Nat.lt_or_ge (fp r) r.length with q | q
 ·exact absurd (h _) (xP q)
 ·exact Nat.le_antisymm (JI r) q
def above (row : Row) : Row := slim (if row.getD (fp row) 0 < 0 then row.map fun n => 0 - n else row)
def m4 (lead : Row) (p : Nat) (row : Row) : Row := slim (iY (lead.getD p 0) row (0 - row.getD p 0) lead)
theorem FU (u : Row) : u.map (fun n => 0 - n) = eX (-1) u := by
 unfold eX
 apply List.map_congr_left
 intro n _
 omega
theorem qh {u : Row} : (above u).length = u.length := by
 unfold above
 rw [ub]
 split
 ·rw [Lm9]
 ·rfl
theorem uc (u : Row) : ∃ k : Int, k ≠ 0 ∧ u = eX k (above u) := by
 unfold above
 by_cases h : u.getD (fp u) 0 < 0
 ·rw [if_pos h, FU]
  obtain ⟨k, hk, e⟩ := mU (eX (-1) u)
  refine ⟨-k, by omega, ?_⟩
  have e2 : eX (-1) (eX (-1) u) = u := by
   unfold eX
   rw [List.map_map]
   have : ((fun x : Int => -1 * x) ∘ fun x => -1 * x) = id := by funext x; simp
   rw [this, List.map_id]
  have e3 : eX (-1) (eX k (slim (eX (-1) u))) = eX (-k) (slim (eX (-1) u)) := by
   unfold eX
   rw [List.map_map]
   apply List.map_congr_left
   intro n _
   show -1 * (k * n) = -k * n
   rw [Int.neg_mul, Int.neg_mul, Int.one_mul]
  rw [← e3, ← e, e2]
 ·rw [if_neg h]
  obtain ⟨k, hk, e⟩ := mU u
  exact ⟨k, by omega, e⟩
theorem dk.above {w : Nat} {P : Row → Prop} (C : dk w P) {u : Row} (hu : u.length = w) : P (above u) ↔ P u := by
 obtain ⟨k, hk, e⟩ := uc u
 have hl : (La.above u).length = w := by rw [qh, hu]
 constructor
 ·intro h
  rw [e]
  exact C.eX hl h
 ·intro h
  rw [e] at h
  exact C.div k _ hk hl h
theorem sO {lead row : Row} {p w : Nat} (h1 : lead.length = w) (h2 : row.length = w) : (m4 lead p row).length = w := by
 unfold m4
 rw [ub, a0 h2 h1]
theorem yP {lead row : Row} {p : Nat} (h : row.length = lead.length) : ∃ k : Int, 0 < k ∧ ∀ i, k * (m4 lead p row).getD i 0 = lead.getD p 0 * row.getD i 0 - row.getD p 0 * lead.getD i 0 := by
 obtain ⟨k, hk, e⟩ := mU (iY (lead.getD p 0) row (0 - row.getD p 0) lead)
 refine ⟨k, hk, fun i => ?_⟩
 have : (iY (lead.getD p 0) row (0 - row.getD p 0) lead).getD i 0 = k * (m4 lead p row).getD i 0 := by
  conv => lhs; rw [e]
  rw [cT]
  rfl
 rw [← this, cK i h]
 have : (0 - row.getD p 0) * lead.getD i 0 = - (row.getD p 0 * lead.getD i 0) := by rw [Int.zero_sub, Int.neg_mul]
 omega
theorem dk.m4 {w : Nat} {P : Row → Prop} (C : dk w P) {lead row : Row} {p : Nat} (h1 : lead.length = w) (h2 : row.length = w) (hl : P lead) (hp : lead.getD p 0 ≠ 0) : P (m4 lead p row) ↔ P row := by
 unfold La.m4
 rw [C.slim (a0 h2 h1)]
 constructor
 ·intro h
  have e : iY 1 (iY (lead.getD p 0) row (0 - row.getD p 0) lead) (row.getD p 0) lead = La.eX (lead.getD p 0) row := by
   refine dG (by rw [a0 (a0 h2 h1) h1, fg, h2]) fun i => ?_
   rw [cK i (by rw [a0 h2 h1, h1]), cK i (by omega), cT]
   have : (0 - row.getD p 0) * lead.getD i 0 = - (row.getD p 0 * lead.getD i 0) := by rw [Int.zero_sub, Int.neg_mul]
   omega
  have := C.mix 1 (row.getD p 0) _ _ (a0 h2 h1) h1 h hl
  rw [e] at this
  exact C.div _ _ hp h2 this
 ·intro h
  exact C.mix _ _ _ _ h2 h1 h hl
structure BZ (w : Nat) (found : List Row) : Prop where
 len : ∀ r ∈ found, r.length = w
 pos : ∀ r ∈ found, fp r < w ∧ 0 < r.getD (fp r) 0
 ord : found.Pairwise fun r s => fp r < fp s ∧ r.getD (fp s) 0 = 0
structure Red (w : Nat) (found left : List Row) : Prop where
 JJ : BZ w found
 len : ∀ r ∈ left, r.length = w ∧ fp r < w
 low : ∀ r ∈ found, ∀ l ∈ left, fp r < fp l
def wo (rows : List Row) : List Row := rows.filter fun r => decide (fp r < r.length)
def vS : List Row → Row
 | [] => []
 | r :: rs => rs.foldl (fun a b => if fp b < fp a then b else a) r
theorem xQ : ∀ (rs : List Row) (a : Row), (rs.foldl (fun a b => if fp b < fp a then b else a) a = a ∨ rs.foldl (fun a b => if fp b < fp a then b else a) a ∈ rs) ∧ fp (rs.foldl (fun a b => if fp b < fp a then b else a) a) ≤ fp a ∧ ∀ r ∈ rs, fp (rs.foldl (fun a b => if fp b < fp a then b else a) a) ≤ fp r
 | [], a => ⟨.inl rfl, Nat.le_refl _, fun _ h => by cases h⟩
 | b :: rs, a => by
  obtain ⟨h1, h2, h3⟩ := xQ rs (if fp b < fp a then b else a)
  rw [List.foldl_cons]
  by_cases hb : fp b < fp a
  ·rw [if_pos hb] at h1 h2 h3 ⊢
   refine ⟨.inr ?_, by omega, fun r hr => ?_⟩
   ·rcases h1 with e | h
    ·rw [e]; exact List.mem_cons_self
    ·exact List.mem_cons_of_mem _ h
   ·rcases List.mem_cons.mp hr with e | hr
    ·rw [e]; exact h2
    ·exact h3 r hr
  ·rw [if_neg hb] at h1 h2 h3 ⊢
   refine ⟨?_, h2, fun r hr => ?_⟩
   ·rcases h1 with e | h
    ·exact .inl e
    ·exact .inr (List.mem_cons_of_mem _ h)
   ·rcases List.mem_cons.mp hr with e | hr
    ·rw [e]; omega
    ·exact h3 r hr
theorem lz {rs : List Row} (h : rs ≠ []) : vS rs ∈ rs ∧ ∀ r ∈ rs, fp (vS rs) ≤ fp r := by
 cases rs with
 | nil => exact absurd rfl h
 | cons a rs =>
  obtain ⟨h1, h2, h3⟩ := xQ rs a
  show rs.foldl _ a ∈ _ ∧ ∀ r ∈ _, fp (rs.foldl _ a) ≤ _
  refine ⟨?_, fun r hr => ?_⟩
  ·rcases h1 with e | h
   ·rw [e]; exact List.mem_cons_self
   ·exact List.mem_cons_of_mem _ h
  ·rcases List.mem_cons.mp hr with e | hr
   ·rw [e]; exact h2
   ·exact h3 r hr
theorem O9 {k : Int} (hk : k ≠ 0) {u : Row} : fp (eX k u) = fp u := by
 rcases Nat.lt_or_ge (fp u) u.length with h | h
 ·refine FT (fun i hi => ?_) ?_
  ·rw [cT, eY hi]; simp
  ·rw [cT]
   exact fun e => by
    rcases Int.mul_eq_zero.mp e with e | e
    ·exact hk e
    ·exact xP h e
 ·have e := Nat.le_antisymm (JI u) h
  rw [e, ← fg (k := k)]
  refine sN fun i => ?_
  rw [cT]
  have : u.getD i 0 = 0 := by
   rcases Nat.lt_or_ge i u.length with q | q
   ·exact eY (by omega)
   ·rw [Gd9, List.getElem?_eq_none q]; rfl
  rw [this]; simp
theorem D0 {k x : Int} (hk : 0 < k) (h : 0 < k * x) : 0 < x := by
 rcases Int.lt_or_le 0 x with q | q
 ·exact q
 ·have := Int.mul_le_mul_of_nonneg_left q (Int.le_of_lt hk)
  rw [Int.mul_zero] at this
  omega
theorem at_of {u v : Row} {k : Int} (e : u = eX k v) (i : Nat) : u.getD i 0 = k * v.getD i 0 := by
 rw [← cT, ← e]
theorem JK (u : Row) : fp (above u) = fp u := by
 obtain ⟨k, hk, e⟩ := uc u
 conv => rhs; rw [e]
 rw [O9 hk]
theorem G2 {u : Row} (h : fp u < u.length) : 0 < (above u).getD (fp u) 0 := by
 unfold above
 have h0 := xP h
 by_cases hn : u.getD (fp u) 0 < 0
 ·rw [if_pos hn, FU]
  obtain ⟨k, hk, e⟩ := mU (eX (-1) u)
  have := at_of e (fp u)
  rw [cT] at this
  exact D0 hk (by omega)
 ·rw [if_neg hn]
  obtain ⟨k, hk, e⟩ := mU u
  have := at_of e (fp u)
  exact D0 hk (by omega)
end La
namespace La
abbrev aU (left : List Row) : Row := above (vS left)
abbrev bo (left : List Row) : Nat := fp (aU left)
def d5 (found left : List Row) : List Row := found.map (m4 (aU left) (bo left)) ++ [aU left]
def jb (left : List Row) : List Row := wo (left.map (m4 (aU left) (bo left)))
theorem pb {k x : Int} (hk : 0 < k) (h : k * x = 0) : x = 0 := by
 rcases Int.mul_eq_zero.mp h with e | e
 ·omega
 ·exact e
section
variable {w : Nat} {found left : List Row}
theorem Red.lead (R : Red w found left) (h : left ≠ []) : (aU left).length = w ∧ bo left < w ∧ 0 < (aU left).getD (bo left) 0 ∧ (∀ l ∈ left, bo left ≤ fp l) ∧ (∀ r ∈ found, fp r < bo left) := by
 obtain ⟨hm, hle⟩ := lz h
 obtain ⟨h1, h2⟩ := R.len _ hm
 have e : bo left = fp (vS left) := JK _
 refine ⟨by rw [qh]; exact h1, by rw [e]; exact h2, ?_, fun l hl => by rw [e]; exact hle l hl, fun r hr => by rw [e]; exact R.low r hr _ hm⟩
 rw [e]
 exact G2 (by omega)
theorem jc (R : Red w found left) (h : left ≠ []) {r : Row} (hr : r ∈ found) : fp (m4 (aU left) (bo left) r) = fp r ∧ 0 < (m4 (aU left) (bo left) r).getD (fp r) 0 ∧ (m4 (aU left) (bo left) r).getD (bo left) 0 = 0 := by
 obtain ⟨l1, l2, l3, l4, l5⟩ := R.lead h
 have hl := R.JJ.len r hr
 obtain ⟨q1, q2⟩ := R.JJ.pos r hr
 have fz := l5 r hr
 obtain ⟨k, hk, e⟩ := yP (lead := aU left) (row := r) (p := bo left) (by omega)
 have B1 : 0 < (m4 (aU left) (bo left) r).getD (fp r) 0 := by
  refine D0 hk ?_
  rw [e, eY fz, Int.mul_zero, Int.sub_zero]
  exact Int.mul_pos l3 q2
 refine ⟨FT (fun i hi => pb hk ?_) (by omega), B1, pb hk ?_⟩
 ·rw [e, eY hi, eY (show i < fp (aU left) from Nat.lt_trans hi fz)]
  simp
 ·rw [e, Int.mul_comm]
  omega
theorem JL (R : Red w found left) (h : left ≠ []) {l : Row} (hl : l ∈ left) : ∀ i, i ≤ bo left → (m4 (aU left) (bo left) l).getD i 0 = 0 := by
 obtain ⟨l1, l2, l3, l4, l5⟩ := R.lead h
 obtain ⟨k, hk, e⟩ := yP (lead := aU left) (row := l) (p := bo left) (by rw [l1]; exact (R.len l hl).1)
 intro i hi
 refine pb hk ?_
 rw [e]
 rcases Nat.lt_or_ge i (bo left) with q | q
 ·rw [eY (show i < fp (aU left) from q), eY (Nat.lt_of_lt_of_le q (l4 l hl))]
  simp
 ·have : i = bo left := Nat.le_antisymm hi q
  rw [this, Int.mul_comm]
  omega
theorem Mv (h : left ≠ []) : ∀ i, (m4 (aU left) (bo left) (vS left)).getD i 0 = 0 := by
 obtain ⟨c, hc, em⟩ := uc (vS left)
 obtain ⟨k, hk, e⟩ := yP (lead := aU left) (row := vS left) (p := bo left) (by rw [qh])
 intro i
 refine pb hk ?_
 rw [e, at_of em i, at_of em (bo left)]
 show (aU left).getD (bo left) 0 * (c * (aU left).getD i 0) - c * (aU left).getD (bo left) 0 * (aU left).getD i 0 = 0
 rw [← Int.mul_assoc, Int.mul_comm _ c]
 omega
theorem Red.step (R : Red w found left) (h : left ≠ []) : Red w (d5 found left) (jb left) ∧ (jb left).length < left.length := by
 obtain ⟨l1, l2, l3, l4, l5⟩ := R.lead h
 have RZ : ∀ r ∈ found, (m4 (aU left) (bo left) r).length = w := fun r hr => sO l1 (R.JJ.len r hr)
 have R0 : ∀ r ∈ left, (m4 (aU left) (bo left) r).length = w := fun r hr => sO l1 (R.len r hr).1
 have hF : ∀ r ∈ d5 found left, fp r ≤ bo left := by
  intro r hr
  rcases List.mem_append.mp hr with hr | hr
  ·obtain ⟨r', m5, rfl⟩ := List.mem_map.mp hr
   rw [(jc R h m5).1]
   exact Nat.le_of_lt (l5 r' m5)
  ·rw [List.mem_singleton.mp hr]
   exact Nat.le_refl _
 have hL : ∀ l ∈ jb left, l.length = w ∧ fp l < w ∧ bo left < fp l := by
  intro l hl
  obtain ⟨RA, rg⟩ := List.mem_filter.mp hl
  obtain ⟨l', hl', rfl⟩ := List.mem_map.mp RA
  have hw := R0 l' hl'
  have fz : fp (m4 (aU left) (bo left) l') < (m4 (aU left) (bo left) l').length := of_decide_eq_true rg
  exact ⟨hw, by omega, RY (JL R h hl') fz⟩
 refine ⟨⟨⟨fun r hr => ?_, fun r hr => ?_, ?_⟩, fun l hl => ⟨(hL l hl).1, (hL l hl).2.1⟩, fun r hr l hl => Nat.lt_of_le_of_lt (hF r hr) (hL l hl).2.2⟩, ?_⟩
 ·rcases List.mem_append.mp hr with hr | hr
  ·obtain ⟨r', m5, rfl⟩ := List.mem_map.mp hr
   exact RZ r' m5
  ·rw [List.mem_singleton.mp hr]
   exact l1
 ·rcases List.mem_append.mp hr with hr | hr
  ·obtain ⟨r', m5, rfl⟩ := List.mem_map.mp hr
   obtain ⟨a, b, _⟩ := jc R h m5
   rw [a]
   exact ⟨(R.JJ.pos r' m5).1, b⟩
  ·rw [List.mem_singleton.mp hr]
   exact ⟨l2, l3⟩
 ·unfold d5
  rw [List.pairwise_append]
  refine ⟨?_, List.pairwise_singleton _ _, fun r hr s hs => ?_⟩
  ·rw [List.pairwise_map]
   refine List.Pairwise.imp_of_mem ?_ R.JJ.ord
   intro r s hr hs ⟨o1, o2⟩
   obtain ⟨a, _, _⟩ := jc R h hr
   obtain ⟨b, _, _⟩ := jc R h hs
   rw [a, b]
   refine ⟨o1, ?_⟩
   obtain ⟨k, hk, e⟩ := yP (lead := aU left) (row := r) (p := bo left) (by rw [l1]; exact R.JJ.len r hr)
   refine pb hk ?_
   rw [e, o2, eY (show fp s < fp (aU left) from l5 s hs)]
   simp
  ·rw [List.mem_singleton.mp hs]
   obtain ⟨r', m5, rfl⟩ := List.mem_map.mp hr
   obtain ⟨a, _, c⟩ := jc R h m5
   rw [a]
   exact ⟨l5 r' m5, c⟩
 ·have : (wo (left.map (m4 (aU left) (bo left)))).length < (left.map (m4 (aU left) (bo left))).length := by
   unfold wo
   rw [List.length_filter_lt_length_iff_exists]
   refine ⟨m4 (aU left) (bo left) (vS left), List.mem_map.mpr ⟨_, (lz h).1, rfl⟩, ?_⟩
   rw [sN (Mv h)]
   simp
  rw [Lm9] at this
  exact this
theorem JM {r : Row} (hl : r.length = w) (h : ¬ fp r < r.length) : r = List.replicate w 0 := by
 refine dG (by rw [List.length_replicate]; exact hl) fun i => ?_
 have e : (List.replicate w (0 : Int)).getD i 0 = 0 := by
  rw [Gd9, List.getElem?_replicate]
  split <;> rfl
 rw [e]
 rcases Nat.lt_or_ge i r.length with q | q
 ·exact eY (by omega)
 ·rw [Gd9, List.getElem?_eq_none q]; rfl
theorem xR {P : Row → Prop} (C : dk w P) {rows : List Row} (hl : ∀ r ∈ rows, r.length = w) : (∀ r ∈ wo rows, P r) ↔ ∀ r ∈ rows, P r := by
 constructor
 ·intro h r hr
  by_cases q : fp r < r.length
  ·exact h r (List.mem_filter.mpr ⟨hr, decide_eq_true q⟩)
  ·rw [JM (hl r hr) q]
   exact C.zero
 ·intro h r hr
  exact h r (List.mem_filter.mp hr).1
theorem B2 {P : Row → Prop} (C : dk w P) (R : Red w found left) (h : left ≠ []) : (∀ r ∈ d5 found left ++ jb left, P r) ↔ ∀ r ∈ found ++ left, P r := by
 obtain ⟨l1, l2, l3, l4, l5⟩ := R.lead h
 have hm := (lz h).1
 have hml := (R.len _ hm).1
 have hp : (aU left).getD (bo left) 0 ≠ 0 := by omega
 have hlen : ∀ r ∈ left.map (m4 (aU left) (bo left)), r.length = w := fun r hr => by
  obtain ⟨l, hl, rfl⟩ := List.mem_map.mp hr
  exact sO l1 (R.len l hl).1
 constructor
 ·intro hP
  have ph : P (aU left) := hP _ (by simp [d5])
  have hL : ∀ r ∈ left.map (m4 (aU left) (bo left)), P r := (xR C hlen).mp fun r hr => hP r (List.mem_append_right _ hr)
  intro r hr
  rcases List.mem_append.mp hr with hr | hr
  ·exact (C.m4 l1 (R.JJ.len r hr) ph hp).mp (hP _ (List.mem_append_left _ (List.mem_append_left _ (List.mem_map.mpr ⟨r, hr, rfl⟩))))
  ·exact (C.m4 l1 (R.len r hr).1 ph hp).mp (hL _ (List.mem_map.mpr ⟨r, hr, rfl⟩))
 ·intro hP
  have ph : P (aU left) := (C.above hml).mpr (hP _ (List.mem_append_right _ hm))
  intro r hr
  rcases List.mem_append.mp hr with hr | hr
  ·rcases List.mem_append.mp hr with hr | hr
   ·obtain ⟨r', m5, rfl⟩ := List.mem_map.mp hr
    exact (C.m4 l1 (R.JJ.len r' m5) ph hp).mpr (hP r' (List.mem_append_left _ m5))
   ·rw [List.mem_singleton.mp hr]
    exact ph
  ·obtain ⟨r', m5, rfl⟩ := List.mem_map.mp (List.mem_filter.mp hr).1
   exact (C.m4 l1 (R.len r' m5).1 ph hp).mpr (hP r' (List.mem_append_right _ m5))
end
def red : Nat → List Row → List Row → List Row
 | 0, found, _ => found
 | n + 1, found, left => if left = [] then found else red n (d5 found left) (jb left)
theorem yQ {w : Nat} : ∀ (n : Nat) (found left : List Row), Red w found left → left.length ≤ n → BZ w (red n found left) ∧ (∀ P, dk w P → ((∀ r ∈ red n found left, P r) ↔ ∀ r ∈ found ++ left, P r)) ∧ found.length ≤ (red n found left).length ∧ (red n found left).length ≤ found.length + left.length
 | 0, found, left, R, h => by
  have e : left = [] := List.eq_nil_of_length_eq_zero (by omega)
  subst e
  exact ⟨R.JJ, fun P _ => by rw [List.append_nil]; exact Iff.rfl, Nat.le_refl _, Nat.le_add_right _ _⟩
 | n + 1, found, left, R, h => by
  unfold red
  by_cases hl : left = []
  ·rw [if_pos hl]
   subst hl
   exact ⟨R.JJ, fun P _ => by rw [List.append_nil], Nat.le_refl _, by omega⟩
  ·rw [if_neg hl]
   obtain ⟨R', fz⟩ := R.step hl
   obtain ⟨a, b, c, d⟩ := yQ n _ _ R' (by omega)
   have hF : (d5 found left).length = found.length + 1 := by unfold d5; simp
   refine ⟨a, fun P C => (b P C).trans (B2 C R hl), by omega, by omega⟩
def reduced (rows : List Row) : List Row := red (wo rows).length [] (wo rows)
theorem jd {w : Nat} {rows : List Row} (hl : ∀ r ∈ rows, r.length = w) : Red w [] (wo rows) := by
 refine ⟨⟨(fun _ h => by cases h), (fun _ h => by cases h), .nil⟩, fun r hr => ?_, (fun _ h => by cases h)⟩
 obtain ⟨h1, h2⟩ := List.mem_filter.mp hr
 have q := of_decide_eq_true h2
 exact ⟨hl r h1, by rw [← hl r h1]; exact q⟩
theorem jD {w : Nat} {rows : List Row} (hl : ∀ r ∈ rows, r.length = w) : BZ w (reduced rows) ∧ (∀ P, dk w P → ((∀ r ∈ reduced rows, P r) ↔ ∀ r ∈ rows, P r)) ∧ (reduced rows).length ≤ rows.length := by
 obtain ⟨a, b, _, d⟩ := yQ (wo rows).length [] (wo rows) (jd hl) (Nat.le_refl _)
 refine ⟨a, fun P C => (b P C).trans ?_, ?_⟩
 ·rw [List.nil_append]
  exact xR C hl
 ·have : (wo rows).length ≤ rows.length := List.length_filter_le _ _
  simp at d
  unfold reduced
  omega
end La
namespace La
theorem yR : ∀ {u v : Row} {w : Nat}, u.length = w → v.length = w → dot u v = ((List.range w).map fun i => u.getD i 0 * v.getD i 0).sum
 | [], [], w, hu, hv => by
  subst hu
  rfl
 | x :: u, y :: v, w, hu, hv => by
  obtain ⟨w', rfl⟩ : ∃ w', w = w' + 1 := ⟨u.length, by rw [← hu]; rfl⟩
  have ih := yR (u := u) (v := v) (w := w') (by simpa using hu) (by simpa using hv)
  unfold dot at ih ⊢
  rw [List.zip_cons_cons, List.map_cons, List.sum_cons, ih, List.range_succ_eq_map, List.map_cons, List.sum_cons, List.map_map]
  rfl
 | [], y :: v, w, hu, hv => by subst hu; simp at hv
 | x :: u, [], w, hu, hv => by subst hv; simp at hu
theorem B3 {g : Nat → Int} : ∀ (w : Nat), (∀ i, i < w → g i = 0) → ((List.range w).map g).sum = 0
 | 0, _ => rfl
 | w + 1, h => by
  rw [List.range_succ, List.map_append, List.sum_append, B3 w fun i hi => h i (by omega)]
  simp [h w (by omega)]
theorem sP {g : Nat → Int} {a : Nat} : ∀ (w : Nat), a < w → (∀ i, i < w → i ≠ a → g i = 0) → ((List.range w).map g).sum = g a
 | 0, h, _ => by omega
 | w + 1, h, hz => by
  rw [List.range_succ, List.map_append, List.sum_append]
  rcases Nat.lt_or_ge a w with q | q
  ·rw [sP w q fun i hi => hz i (by omega)]
   simp [hz w (by omega) (by omega)]
  ·have e : a = w := by omega
   subst e
   rw [B3 a fun i hi => hz i (by omega) (by omega)]
   simp
theorem FV {g : Nat → Int} {a b : Nat} (Mw : a ≠ b) : ∀ (w : Nat), a < w → b < w → (∀ i, i < w → i ≠ a → i ≠ b → g i = 0) → ((List.range w).map g).sum = g a + g b
 | 0, h, _, _ => by omega
 | w + 1, ha, hb, hz => by
  rw [List.range_succ, List.map_append, List.sum_append]
  rcases Nat.lt_or_ge a w with q | q <;> rcases Nat.lt_or_ge b w with q2 | q2
  ·rw [FV Mw w q q2 fun i hi => hz i (by omega)]
   simp [hz w (by omega) (by omega) (by omega)]
  ·have e : b = w := by omega
   subst e
   rw [sP b q fun i hi h => hz i (by omega) h (by omega)]
   simp
  ·have e : a = w := by omega
   subst e
   rw [sP a q2 fun i hi h => hz i (by omega) (by omega) h]
   simp [Int.add_comm]
  ·omega
def a7 (R : List Row) : Int := R.foldl (fun t r => t * r.getD (fp r) 0) 1
theorem nM : ∀ (R : List Row) (t : Int), (∀ r ∈ R, 0 < r.getD (fp r) 0) → 0 < t → 0 < R.foldl (fun t r => t * r.getD (fp r) 0) t ∧ t ∣ R.foldl (fun t r => t * r.getD (fp r) 0) t ∧ ∀ r ∈ R, r.getD (fp r) 0 ∣ R.foldl (fun t r => t * r.getD (fp r) 0) t
 | [], t, _, ht => ⟨ht, Int.dvd_refl _, fun _ h => by cases h⟩
 | a :: R, t, h, ht => by
  have ha := h a List.mem_cons_self
  obtain ⟨h1, h2, h3⟩ := nM R (t * a.getD (fp a) 0) (fun r hr => h r (List.mem_cons_of_mem _ hr)) (Int.mul_pos ht ha)
  refine ⟨h1, Int.dvd_trans (Int.dvd_mul_right _ _) h2, fun r hr => ?_⟩
  rcases List.mem_cons.mp hr with e | hr
  ·subst e
   exact Int.dvd_trans (Int.dvd_mul_left _ _) h2
  ·exact h3 r hr
def b7 (R : List Row) (f w : Nat) : Row := R.foldl (fun y r => y.set (fp r) (0 - r.getD f 0 * (a7 R / r.getD (fp r) 0))) ((List.replicate w 0).set f (a7 R))
section
variable {w : Nat} {R : List Row}
theorem yS {y : Row} {i j : Nat} {x : Int} : (y.set i x).getD j 0 = if i = j ∧ j < y.length then x else y.getD j 0 := by
 rw [Gd9, List.getElem?_set, Gd9]
 by_cases h : i = j
 ·rw [if_pos h]
  by_cases h2 : j < y.length
  ·rw [if_pos (by omega), if_pos ⟨h, h2⟩]; rfl
  ·rw [if_neg (by omega), if_neg (fun q => h2 q.2), List.getElem?_eq_none (by omega)]
 ·rw [if_neg h, if_neg (fun q => h q.1)]
theorem bJ {f : Nat} : (b7 R f w).length = w := by
 unfold b7
 have : ∀ (L : List Row) (y : Row) (g : Row → Int), (L.foldl (fun y r => y.set (fp r) (g r)) y).length = y.length := by
  intro L
  induction L with
  | nil => intro y g; rfl
  | cons a L ih => intro y g; rw [List.foldl_cons, ih, List.length_set]
 rw [this, List.length_set, List.length_replicate]
theorem pj (g : Row → Int) : ∀ (L : List Row) (y : Row) (i : Nat), L.Pairwise (fun r s => fp r < fp s) → (∀ r ∈ L, fp r < y.length) → (∀ r ∈ L, fp r = i → (L.foldl (fun y r => y.set (fp r) (g r)) y).getD i 0 = g r) ∧ ((∀ r ∈ L, fp r ≠ i) → (L.foldl (fun y r => y.set (fp r) (g r)) y).getD i 0 = y.getD i 0)
 | [], y, i, _, _ => ⟨fun _ h => (by cases h), fun _ => rfl⟩
 | a :: L, y, i, hp, hl => by
  rw [List.pairwise_cons] at hp
  obtain ⟨h1, h2⟩ := pj g L (y.set (fp a) (g a)) i hp.2 fun r hr => by rw [List.length_set]; exact hl r (List.mem_cons_of_mem _ hr)
  rw [List.foldl_cons]
  refine ⟨fun r hr e => ?_, fun h => ?_⟩
  ·rcases List.mem_cons.mp hr with q | hr
   ·subst q
    have hn : ∀ s ∈ L, fp s ≠ i := fun s hs => by have := hp.1 s hs; omega
    rw [h2 hn, yS, if_pos ⟨e, by have := hl r List.mem_cons_self; omega⟩]
   ·exact h1 r hr e
  ·rw [h2 fun r hr => h r (List.mem_cons_of_mem _ hr), yS, if_neg fun q => h a List.mem_cons_self q.1]
theorem BZ.inc (E : BZ w R) : R.Pairwise fun r s => fp r < fp s := E.ord.imp fun h => h.1
theorem BZ.other (E : BZ w R) {r s : Row} (hr : r ∈ R) (hs : s ∈ R) (h : fp r ≠ fp s) : r.getD (fp s) 0 = 0 := by
 rcases Nat.lt_or_ge (fp s) (fp r) with q | q
 ·exact eY q
 ·
  have key : ∀ (L : List Row), L.Pairwise (fun r s => fp r < fp s ∧ r.getD (fp s) 0 = 0) → r ∈ L → s ∈ L → fp r < fp s → r.getD (fp s) 0 = 0 := by
   intro L
   induction L with
   | nil => intro _ h; cases h
   | cons a L ih =>
    intro hp h1 h2 fz
    rw [List.pairwise_cons] at hp
    rcases List.mem_cons.mp h1 with e | g1
    ·subst e
     rcases List.mem_cons.mp h2 with e | g2
     ·subst e; omega
     ·exact (hp.1 s g2).2
    ·rcases List.mem_cons.mp h2 with e | g2
     ·subst e
      have := (hp.1 r g1).1
      omega
     ·exact ih hp.2 g1 g2 fz
  exact key R E.ord hr hs (by omega)
theorem D1 (E : BZ w R) {f : Nat} {r : Row} (hr : r ∈ R) : (b7 R f w).getD (fp r) 0 = 0 - r.getD f 0 * (a7 R / r.getD (fp r) 0) := by
 unfold b7
 exact (pj (fun r => 0 - r.getD f 0 * (a7 R / r.getD (fp r) 0)) R _ (fp r) E.inc fun s hs => by rw [List.length_set, List.length_replicate]; exact (E.pos s hs).1).1 r hr rfl
theorem xS (E : BZ w R) {f : Nat} (hf : f < w) (hn : ∀ r ∈ R, fp r ≠ f) : (b7 R f w).getD f 0 = a7 R := by
 unfold b7
 rw [(pj (fun r => 0 - r.getD f 0 * (a7 R / r.getD (fp r) 0)) R _ f E.inc fun s hs => by rw [List.length_set, List.length_replicate]; exact (E.pos s hs).1).2 hn, yS, if_pos ⟨rfl, by rw [List.length_replicate]; exact hf⟩]
theorem xT (E : BZ w R) {f i : Nat} (hi : i ≠ f) (hn : ∀ r ∈ R, fp r ≠ i) : (b7 R f w).getD i 0 = 0 := by
 unfold b7
 rw [(pj (fun r => 0 - r.getD f 0 * (a7 R / r.getD (fp r) 0)) R _ i E.inc fun s hs => by rw [List.length_set, List.length_replicate]; exact (E.pos s hs).1).2 hn, yS, if_neg fun q => hi q.1.symm, Gd9, List.getElem?_replicate]
 split <;> rfl
theorem xU (E : BZ w R) {f : Nat} (hf : f < w) (hn : ∀ r ∈ R, fp r ≠ f) {r : Row} (hr : r ∈ R) : dot r (b7 R f w) = 0 := by
 obtain ⟨hp, B1⟩ := E.pos r hr
 rw [yR (E.len r hr) bJ, FV (hn r hr) w hp hf fun i hi h1 h2 => ?_, D1 E hr, xS E hf hn]
 ·have hd := (nM R 1 (fun r hr => (E.pos r hr).2) (by decide)).2.2 r hr
  have e : r.getD (fp r) 0 * (a7 R / r.getD (fp r) 0) = a7 R := Int.mul_ediv_cancel' hd
  rw [Int.mul_sub, Int.mul_zero, ← Int.mul_assoc, Int.mul_comm (r.getD (fp r) 0) (r.getD f 0), Int.mul_assoc, e]
  omega
 ·by_cases q : ∃ s ∈ R, fp s = i
  ·obtain ⟨s, hs, e⟩ := q
   rw [← e, E.other hr hs (by omega)]
   simp
  ·rw [xT E h2 fun s hs e => q ⟨s, hs, e⟩]
   simp
theorem G3 (E : BZ w R) {n : Row} (hl : n.length = w) (hn : ∀ r ∈ R, dot r n = 0) {P : Row → Prop} (C : dk w P) (fs : List Nat) (WJ : fs.Nodup) (IQ : ∀ f, f ∈ fs ↔ f < w ∧ ∀ r ∈ R, fp r ≠ f) (hP : ∀ f ∈ fs, P (b7 R f w)) : P n := by
 have ht := (nM R 1 (fun r hr => (E.pos r hr).2) (by decide)).1
 have hlen : ∀ (L : List Nat) (v : Row), v.length = w → (L.foldl (fun v f => iY 1 v (- n.getD f 0) (b7 R f w)) v).length = w := by
  intro L
  induction L with
  | nil => intro v h; exact h
  | cons a L ih => intro v h; rw [List.foldl_cons]; exact ih _ (a0 h bJ)
 have R3 : ∀ (L : List Nat) (v : Row), v.length = w → (∀ f ∈ L, P (b7 R f w)) → P (L.foldl (fun v f => iY 1 v (- n.getD f 0) (b7 R f w)) v) → P v := by
  intro L
  induction L with
  | nil => intro v _ _ h; exact h
  | cons a L ih =>
   intro v hv hy h
   rw [List.foldl_cons] at h
   have h1 := ih _ (a0 hv bJ) (fun f hf => hy f (List.mem_cons_of_mem _ hf)) h
   have e : iY 1 (iY 1 v (- n.getD a 0) (b7 R a w)) (n.getD a 0) (b7 R a w) = v := by
    refine dG (by rw [a0 (a0 hv bJ) bJ, hv]) fun i => ?_
    rw [cK i (by rw [a0 hv bJ, bJ]), cK i (by rw [hv, bJ]), Int.neg_mul]
    omega
   rw [← e]
   exact C.mix _ _ _ _ (a0 hv bJ) bJ h1 (hy a List.mem_cons_self)
 have R5 : ∀ (L : List Nat) (v : Row), v.length = w → (∀ f ∈ L, f < w ∧ ∀ r ∈ R, fp r ≠ f) → (∀ r ∈ R, dot r v = 0) → ∀ r ∈ R, dot r (L.foldl (fun v f => iY 1 v (- n.getD f 0) (b7 R f w)) v) = 0 := by
  intro L
  induction L with
  | nil => intro v _ _ h; exact h
  | cons a L ih =>
   intro v hv hf h
   rw [List.foldl_cons]
   refine ih _ (a0 hv bJ) (fun f h => hf f (List.mem_cons_of_mem _ h)) fun r hr => ?_
   obtain ⟨q1, q2⟩ := hf a List.mem_cons_self
   rw [oY r v _ (by rw [hv, bJ]), h r hr, xU E q1 q2 hr]
   simp
 have Pa : ∀ (L : List Nat) (v : Row) (i : Nat), v.length = w → L.Nodup → (∀ r ∈ R, fp r ≠ i) → i < w → (L.foldl (fun v f => iY 1 v (- n.getD f 0) (b7 R f w)) v).getD i 0 = if i ∈ L then v.getD i 0 - n.getD i 0 * a7 R else v.getD i 0 := by
  intro L
  induction L with
  | nil => intro v i _ _ _ _; simp
  | cons a L ih =>
   intro v i hv hL hi Mx
   rw [List.nodup_cons] at hL
   rw [List.foldl_cons, ih _ i (a0 hv bJ) hL.2 hi Mx, cK i (by rw [hv, bJ])]
   by_cases e : i = a
   ·subst e
    rw [if_neg hL.1, if_pos List.mem_cons_self, xS E Mx hi, Int.neg_mul]
    omega
   ·rw [xT E e hi]
    by_cases h2 : i ∈ L
    ·rw [if_pos h2, if_pos (List.mem_cons_of_mem _ h2)]
     omega
    ·rw [if_neg h2, if_neg (fun q => by rcases List.mem_cons.mp q with q | q; exact e q; exact h2 q)]
     omega
 have hs : (eX (a7 R) n).length = w := by rw [fg, hl]
 have q5 : ∀ i, i < w → (∀ r ∈ R, fp r ≠ i) → (fs.foldl (fun v f => iY 1 v (- n.getD f 0) (b7 R f w)) (eX (a7 R) n)).getD i 0 = 0 := fun i Mx hi => by
  rw [Pa fs _ i hs WJ hi Mx, if_pos ((IQ i).mpr ⟨Mx, hi⟩), cT, Int.mul_comm]
  omega
 have Pb := R5 fs (eX (a7 R) n) hs (fun f hf => (IQ f).mp hf) fun r hr => by rw [oZ, hn r hr]; simp
 have hzero : fs.foldl (fun v f => iY 1 v (- n.getD f 0) (b7 R f w)) (eX (a7 R) n) = List.replicate w 0 := by
  refine dG (by rw [hlen fs _ hs, List.length_replicate]) fun i => ?_
  have e0 : (List.replicate w (0 : Int)).getD i 0 = 0 := by
   rw [Gd9, List.getElem?_replicate]
   split <;> rfl
  rw [e0]
  rcases Nat.lt_or_ge i w with Mx | Mx
  ·by_cases q : ∃ r ∈ R, fp r = i
   ·obtain ⟨r, hr, e⟩ := q
    obtain ⟨hp, B1⟩ := E.pos r hr
    have hd := Pb r hr
    rw [yR (E.len r hr) (hlen fs _ hs), sP w hp fun j hj mZ => ?_, e] at hd
    ·rcases Int.mul_eq_zero.mp hd with h | h
     ·rw [e] at B1; omega
     ·exact h
    ·by_cases q : ∃ s ∈ R, fp s = j
     ·obtain ⟨s, Mi, es⟩ := q
      rw [← es, E.other hr Mi (by omega)]
      simp
     ·rw [q5 j hj fun s Mi es => q ⟨s, Mi, es⟩]
      simp
   ·exact q5 i Mx fun r hr e => q ⟨r, hr, e⟩
  ·rw [Gd9, List.getElem?_eq_none (by rw [hlen fs _ hs]; exact Mx)]
   rfl
 refine C.div _ _ (by show a7 R ≠ 0; have : 0 < a7 R := ht; omega) hl (R3 fs _ hs hP ?_)
 rw [hzero]
 exact C.zero
end
end La
namespace La
def el (s v : Row) : Row := iY (s.getD (fp s) 0) v (0 - v.getD (fp s) 0) s
def elim (S : List Row) (v : Row) : Row := S.foldl (fun v s => el s v) v
theorem qi {s v : Row} {w : Nat} (h1 : s.length = w) (h2 : v.length = w) : (el s v).length = w := a0 h2 h1
theorem ud {w : Nat} : ∀ (S : List Row) (v : Row), (∀ s ∈ S, s.length = w) → v.length = w → (elim S v).length = w
 | [], v, _, h => h
 | s :: S, v, hS, h => ud S (el s v) (fun t ht => hS t (List.mem_cons_of_mem _ ht)) (qi (hS s List.mem_cons_self) h)
theorem Pc {s u v : Row} {a b : Int} {w : Nat} (hs : s.length = w) (hu : u.length = w) (hv : v.length = w) : el s (iY a u b v) = iY a (el s u) b (el s v) := by
 unfold el
 refine dG (by rw [a0 (a0 hu hv) hs, a0 (a0 hu hs) (a0 hv hs)]) fun i => ?_
 rw [cK (u := iY a u b v) (v := s) i (by rw [a0 hu hv, hs]), cK (u := iY _ u _ s) (v := iY _ v _ s) i (by rw [a0 hu hs, a0 hv hs]), cK (u := u) (v := v) i (by omega), cK (u := u) (v := v) (fp s) (by omega), cK (u := u) (v := s) i (by omega), cK (u := v) (v := s) i (by omega)]
 generalize s.getD (fp s) 0 = c
 generalize u.getD (fp s) 0 = u0
 generalize v.getD (fp s) 0 = v0
 generalize u.getD i 0 = ui
 generalize v.getD i 0 = vi
 generalize s.getD i 0 = si
 simp only [Int.mul_add, Int.add_mul, Int.sub_mul, Int.zero_sub, Int.neg_mul, Int.mul_neg, Int.neg_add]
 have e1 : c * (a * ui) = a * (c * ui) := by rw [← Int.mul_assoc, Int.mul_comm c a, Int.mul_assoc]
 have e2 : c * (b * vi) = b * (c * vi) := by rw [← Int.mul_assoc, Int.mul_comm c b, Int.mul_assoc]
 have e3 : a * u0 * si = a * (u0 * si) := Int.mul_assoc _ _ _
 have e4 : b * v0 * si = b * (v0 * si) := Int.mul_assoc _ _ _
 omega
theorem ue {w : Nat} {a b : Int} : ∀ (S : List Row) (u v : Row), (∀ s ∈ S, s.length = w) → u.length = w → v.length = w → elim S (iY a u b v) = iY a (elim S u) b (elim S v)
 | [], u, v, _, _, _ => rfl
 | s :: S, u, v, hS, hu, hv => by
  have hs := hS s List.mem_cons_self
  show elim S (el s (iY a u b v)) = iY a (elim S (el s u)) b (elim S (el s v))
  rw [Pc hs hu hv]
  exact ue S _ _ (fun t ht => hS t (List.mem_cons_of_mem _ ht)) (qi hs hu) (qi hs hv)
theorem B5 {w : Nat} {k : Int} (S : List Row) (u : Row) (hS : ∀ s ∈ S, s.length = w) (hu : u.length = w) : elim S (eX k u) = eX k (elim S u) := by
 rw [← yO, ue S u u hS hu hu, yO]
theorem pw {w i : Nat} : (List.replicate w (0 : Int)).getD i 0 = 0 := by
 rw [Gd9, List.getElem?_replicate]
 split <;> rfl
theorem JN {w : Nat} {k : Int} : eX k (List.replicate w 0) = List.replicate w 0 := by
 unfold eX
 simp
theorem xV {w : Nat} (S : List Row) (hS : ∀ s ∈ S, s.length = w) : elim S (List.replicate w 0) = List.replicate w 0 := by
 have h := B5 (k := 0) S (List.replicate w 0) hS (by simp)
 have e : ∀ u : Row, u.length = w → eX 0 u = List.replicate w 0 := fun u hu => dG (by rw [fg, hu, List.length_replicate]) fun i => by rw [cT, pw, Int.zero_mul]
 rw [JN, e _ (ud S _ hS (by simp))] at h
 exact h
theorem B6 {w : Nat} (S : List Row) (hS : ∀ s ∈ S, s.length = w) : dk w fun v => elim S v = List.replicate w 0 := by
 refine ⟨xV S hS, fun a b u v hu hv h1 h2 => ?_, fun k u hk hu h => ?_⟩
 ·show elim S (iY a u b v) = _
  have h1 : elim S u = List.replicate w 0 := h1
  have h2 : elim S v = List.replicate w 0 := h2
  rw [ue S u v hS hu hv, h1, h2]
  refine dG (by rw [a0 (w := w) (by simp) (by simp), List.length_replicate]) fun i => ?_
  rw [cK i rfl, pw]
  simp
 ·have h : elim S (eX k u) = List.replicate w 0 := h
  rw [B5 S u hS hu] at h
  refine dG (by rw [ud S u hS hu, List.length_replicate]) fun i => ?_
  have := cT (k := k) (u := elim S u) i
  rw [h, pw] at this
  rw [pw]
  rcases Int.mul_eq_zero.mp this.symm with e | e
  ·exact absurd e hk
  ·exact e
theorem JO {w : Nat} {S : List Row} (E : BZ w S) : ∀ s ∈ S, elim S s = List.replicate w 0 := by
 have key : ∀ (L : List Row) (s : Row) (c : Int), (∀ t ∈ L, t.length = w) → L.Pairwise (fun r s => fp r < fp s) → s ∈ L → elim L (eX c s) = List.replicate w 0 := by
  intro L
  induction L with
  | nil => intro s c _ _ h; cases h
  | cons a L ih =>
   intro s c hL hp hs
   rw [List.pairwise_cons] at hp
   have ha := hL a List.mem_cons_self
   have Mi := hL s hs
   show elim L (el a (eX c s)) = _
   rcases List.mem_cons.mp hs with e | g
   ·subst e
    have e2 : el s (eX c s) = List.replicate w 0 := by
     unfold el
     refine dG (by rw [a0 (w := w) (by rw [fg, ha]) ha, List.length_replicate]) fun i => ?_
     rw [cK i (by rw [fg]), cT, cT, pw, Int.zero_sub, Int.neg_mul, ← Int.mul_assoc, Int.mul_comm _ c]
     omega
    rw [e2]
    exact xV L fun t ht => hL t (List.mem_cons_of_mem _ ht)
   ·have e2 : el a (eX c s) = eX (a.getD (fp a) 0 * c) s := by
     unfold el
     refine dG (by rw [a0 (w := w) (by rw [fg, Mi]) ha, fg, Mi]) fun i => ?_
     rw [cK i (by rw [fg, ha, Mi]), cT, cT, cT, eY (hp.1 s g), Int.mul_zero, Int.sub_zero, Int.zero_mul, Int.add_zero, Int.mul_assoc]
    rw [e2]
    exact ih s _ (fun t ht => hL t (List.mem_cons_of_mem _ ht)) hp.2 g
 intro s hs
 have := key S s 1 E.len E.inc hs
 have e : eX 1 s = s := by unfold eX; simp
 rw [e] at this
 exact this
theorem B7 {w : Nat} {e : Row} : ∀ (S : List Row) (n : Row), (∀ s ∈ S, s.length = w ∧ 0 < s.getD (fp s) 0 ∧ dot e s = 0) → n.length = w → ∃ K : Int, 0 < K ∧ dot e (elim S n) = K * dot e n
 | [], n, _, _ => ⟨1, by decide, by rw [Int.one_mul]; rfl⟩
 | s :: S, n, h, hn => by
  obtain ⟨h1, h2, h3⟩ := h s List.mem_cons_self
  obtain ⟨K, hK, e⟩ := B7 S (el s n) (fun t ht => h t (List.mem_cons_of_mem _ ht)) (qi h1 hn)
  refine ⟨K * s.getD (fp s) 0, Int.mul_pos hK h2, ?_⟩
  show dot _ (elim S (el s n)) = _
  rw [e]
  unfold el
  rw [oY _ n s (by omega), h3, Int.mul_zero, Int.add_zero, Int.mul_assoc]
def cN (R : List Row) (w : Nat) : List Nat := (List.range w).filter fun p => !decide (p ∈ R.map fp)
theorem pz {R : List Row} {w f : Nat} : f ∈ cN R w ↔ f < w ∧ ∀ r ∈ R, fp r ≠ f := by
 unfold cN
 rw [List.mem_filter, List.mem_range]
 simp
theorem uf {R : List Row} {w : Nat} : (cN R w).Nodup := List.nodup_range.sublist List.filter_sublist
def dv (E : List Row) (w : Nat) : List Row := reduced ((cN (reduced E) w).map fun f => b7 (reduced E) f w)
theorem B8 {E : List Row} {w : Nat} (hE : ∀ e ∈ E, e.length = w) : BZ w (dv E w) ∧ (∀ s ∈ dv E w, ∀ e ∈ E, dot e s = 0) ∧ ∀ n : Row, n.length = w → ((∀ e ∈ E, dot e n = 0) ↔ elim (dv E w) n = List.replicate w 0) := by
 obtain ⟨R1, R2, _⟩ := jD hE
 have hY : ∀ y ∈ (cN (reduced E) w).map fun f => b7 (reduced E) f w, y.length = w := fun y hy => by
  obtain ⟨f, _, rfl⟩ := List.mem_map.mp hy
  exact bJ
 obtain ⟨S1, S2, _⟩ := jD hY
 have hO : ∀ s ∈ dv E w, ∀ e ∈ E, dot e s = 0 := by
  refine (S2 (fun v => ∀ e ∈ E, dot e v = 0) (ly w E)).mpr fun y hy => ?_
  obtain ⟨f, hf, rfl⟩ := List.mem_map.mp hy
  obtain ⟨h1, h2⟩ := pz.mp hf
  exact (R2 (fun v => dot v (b7 (reduced E) f w) = 0) (o9 w _)).mp fun r hr => xU R1 h1 h2 hr
 refine ⟨S1, hO, fun n hn => ⟨fun h => ?_, fun h e he => ?_⟩⟩
 ·have hr : ∀ r ∈ reduced E, dot r n = 0 := (R2 (fun v => dot v n = 0) (o9 w n)).mpr h
  have C := B6 (dv E w) S1.len
  have hy := (S2 _ C).mp (JO S1)
  exact G3 R1 hn hr C (cN (reduced E) w) uf (fun f => pz) fun f hf => hy _ (List.mem_map.mpr ⟨f, hf, rfl⟩)
 ·obtain ⟨K, hK, e2⟩ := B7 (e := e) (dv E w) n (fun s hs => ⟨S1.len s hs, (S1.pos s hs).2, hO s hs e he⟩) hn
  rw [h] at e2
  have z := (ly w E).zero e he
  have z : dot e (List.replicate w 0) = 0 := z
  rw [z] at e2
  rcases Int.mul_eq_zero.mp e2.symm with q | q
  ·omega
  ·exact q
end La
namespace La
abbrev Bd (B : Nat) (r : Row) : Prop := ∀ x ∈ r, x.natAbs ≤ 2 ^ B
theorem Bd.at {B : Nat} {r : Row} (h : Bd B r) (i : Nat) : (r.getD i 0).natAbs ≤ 2 ^ B := by
 rw [Gd9]
 cases e : r[i]? with
 | none => exact Nat.zero_le _
 | some x => exact h x (List.mem_of_getElem? e)
theorem Bd.mono {B C : Nat} {r : Row} (h : Bd B r) (hc : B ≤ C) : Bd C r := fun x hx => Nat.le_trans (h x hx) (Nat.pow_le_pow_right (by decide) hc)
theorem JP {B : Nat} {u v : Row} {a b : Int} (ha : a.natAbs ≤ 2 ^ B) (hb : b.natAbs ≤ 2 ^ B) (hu : Bd B u) (hv : Bd B v) : Bd (2 * B + 1) (iY a u b v) := by
 intro x hx
 unfold iY at hx
 obtain ⟨p, hp, rfl⟩ := List.mem_map.mp hx
 have h1 := hu p.1 (List.of_mem_zip hp).1
 have h2 := hv p.2 (List.of_mem_zip hp).2
 have e1 : (a * p.1).natAbs ≤ 2 ^ (2 * B) := by
  rw [Int.natAbs_mul, Nat.two_mul, Nat.pow_add]
  exact Nat.mul_le_mul ha h1
 have e2 : (b * p.2).natAbs ≤ 2 ^ (2 * B) := by
  rw [Int.natAbs_mul, Nat.two_mul, Nat.pow_add]
  exact Nat.mul_le_mul hb h2
 have e3 := Int.natAbs_add_le (a * p.1) (b * p.2)
 rw [Nat.pow_succ]
 omega
theorem FW {B : Nat} {u : Row} (hu : Bd B u) : Bd B (slim u) := by
 unfold slim
 split
 ·exact hu
 ·intro x hx
  obtain ⟨n, hn, rfl⟩ := List.mem_map.mp hx
  exact Nat.le_trans (Int.natAbs_ediv_le_natAbs _ _) (hu n hn)
theorem Pd {B : Nat} {u : Row} (hu : Bd B u) : ua u ≤ 2 ^ B := by
 by_cases h : ∃ x ∈ u, x ≠ 0
 ·obtain ⟨x, hx, h0⟩ := h
  have hd := BY hx
  have := Nat.le_of_dvd (by omega) (Int.ofNat_dvd_left.mp hd)
  exact Nat.le_trans this (hu x hx)
 ·have : ∀ (l : Row) (f : Nat), (∀ x ∈ l, x = 0) → l.foldl (fun f n => Nat.gcd f n.natAbs) f = f := by
   intro l
   induction l with
   | nil => intro f _; rfl
   | cons a l ih =>
    intro f hl
    rw [List.foldl_cons, hl a List.mem_cons_self]
    show l.foldl _ (Nat.gcd f 0) = f
    rw [Nat.gcd_zero_right]
    exact ih f fun x hx => hl x (List.mem_cons_of_mem _ hx)
  have e : ua u = 0 := this u 0 fun x hx => by
   rcases Int.lt_trichotomy x 0 with q | q | q
   ·exact absurd ⟨x, hx, by omega⟩ h
   ·exact q
   ·exact absurd ⟨x, hx, by omega⟩ h
  rw [e]
  exact Nat.zero_le _
theorem B9 {B : Nat} {u : Row} (hu : Bd B u) : Bd B (above u) := by
 unfold above
 refine FW ?_
 split
 ·intro x hx
  obtain ⟨n, hn, rfl⟩ := List.mem_map.mp hx
  have := hu n hn
  omega
 ·exact hu
theorem qj {B : Nat} {x : Int} (h : x.natAbs ≤ 2 ^ B) : (0 - x).natAbs ≤ 2 ^ B := by omega
theorem JQ {B : Nat} {lead row : Row} {p : Nat} (h1 : Bd B lead) (h2 : Bd B row) : Bd (2 * B + 1) (m4 lead p row) := FW (JP (h1.at p) (qj (h2.at p)) h2 h1)
theorem FX {w B : Nat} {found left : List Row} (R : Red w found left) (h : left ≠ []) (hb : ∀ r ∈ found ++ left, Bd B r) : ∀ r ∈ d5 found left ++ jb left, Bd (2 * B + 1) r := by
 have hl : Bd B (aU left) := B9 (hb _ (List.mem_append_right _ (lz h).1))
 intro r hr
 rcases List.mem_append.mp hr with hr | hr
 ·rcases List.mem_append.mp hr with hr | hr
  ·obtain ⟨r', m5, rfl⟩ := List.mem_map.mp hr
   exact JQ hl (hb r' (List.mem_append_left _ m5))
  ·rw [List.mem_singleton.mp hr]
   exact hl.mono (by omega)
 ·obtain ⟨r', m5, rfl⟩ := List.mem_map.mp (List.mem_filter.mp hr).1
  exact JQ hl (hb r' (List.mem_append_right _ m5))
theorem D4 {w : Nat} : ∀ (n B : Nat) (found left : List Row), Red w found left → left.length ≤ n → (∀ r ∈ found ++ left, Bd B r) → ∀ r ∈ red n found left, Bd ((B + 1) * 2 ^ ((red n found left).length - found.length) - 1) r
 | 0, B, found, left, R, h, hb => fun r hr => by
  have m5 : r ∈ found := hr
  exact (hb r (List.mem_append_left _ m5)).mono (by
   show B ≤ (B + 1) * 2 ^ (found.length - found.length) - 1
   rw [Nat.sub_self]
   omega)
 | n + 1, B, found, left, R, h, hb => by
  unfold red
  by_cases hl : left = []
  ·rw [if_pos hl]
   intro r hr
   exact (hb r (List.mem_append_left _ hr)).mono (by rw [Nat.sub_self]; omega)
  ·rw [if_neg hl]
   obtain ⟨R', fz⟩ := R.step hl
   have ih := D4 n (2 * B + 1) _ _ R' (by omega) (FX R hl hb)
   obtain ⟨_, _, c, _⟩ := yQ n _ _ R' (by omega)
   have hF : (d5 found left).length = found.length + 1 := by unfold d5; simp
   intro r hr
   refine (ih r hr).mono ?_
   rw [hF, show (red n (d5 found left) (jb left)).length - found.length = (red n (d5 found left) (jb left)).length - (found.length + 1) + 1 by omega, Nat.pow_succ, show 2 * B + 1 + 1 = (B + 1) * 2 by omega, Nat.mul_assoc, Nat.mul_comm 2]
   exact Nat.le_refl _
theorem xW : ∀ (w : Nat) (l : List Nat), l.Nodup → (∀ x ∈ l, x < w) → l.length ≤ w
 | 0, l, _, h => by
  cases l with
  | nil => exact Nat.le_refl _
  | cons a l => exact absurd (h a List.mem_cons_self) (by omega)
 | w + 1, l, hn, h => by
  have ih := xW w (l.erase w) (hn.erase w) fun x hx => by
   have h1 := h x (List.mem_of_mem_erase hx)
   have h2 : x ≠ w := fun e => by subst e; exact (hn.not_mem_erase) hx
   omega
  have := List.length_erase (a := w) (l := l)
  split at this <;> omega
theorem G4 {w : Nat} {R : List Row} (E : BZ w R) : (R.map fp).Nodup := by
 unfold List.Nodup
 rw [List.pairwise_map]
 exact E.inc.imp fun h => Nat.ne_of_lt h
theorem Ca {w : Nat} {R : List Row} (E : BZ w R) : (cN R w).length + R.length ≤ w := by
 have := xW w (cN R w ++ R.map fp) (by
  rw [List.nodup_append]
  refine ⟨uf, G4 E, fun a ha b hb => ?_⟩
  obtain ⟨r, hr, rfl⟩ := List.mem_map.mp hb
  exact fun e => (pz.mp ha).2 r hr e.symm) fun x hx => by
  rcases List.mem_append.mp hx with hx | hx
  ·exact (pz.mp hx).1
  ·obtain ⟨r, hr, rfl⟩ := List.mem_map.mp hx
   exact (E.pos r hr).1
 rw [List.length_append, Lm9] at this
 exact this
theorem uh {B : Nat} : ∀ (R : List Row) (t : Int) (C : Nat), (∀ r ∈ R, Bd B r) → t.natAbs ≤ 2 ^ C → (R.foldl (fun t r => t * r.getD (fp r) 0) t).natAbs ≤ 2 ^ (C + R.length * B)
 | [], t, C, _, h => by simpa using h
 | a :: R, t, C, hR, h => by
  rw [List.foldl_cons, List.length_cons, Nat.succ_mul]
  have := uh R (t * a.getD (fp a) 0) (C + B) (fun r hr => hR r (List.mem_cons_of_mem _ hr)) (by
   rw [Int.natAbs_mul, Nat.pow_add]
   exact Nat.mul_le_mul h ((hR a List.mem_cons_self).at _))
  rw [show C + (R.length * B + B) = C + B + R.length * B by omega]
  exact this
theorem FY {B w f : Nat} {R : List Row} (hR : ∀ r ∈ R, Bd B r) : Bd (R.length * B + B) (b7 R f w) := by
 have ht : (a7 R).natAbs ≤ 2 ^ (R.length * B) := by
  have := uh R 1 0 hR (by decide)
  rw [Nat.zero_add] at this
  exact this
 have hp : 2 ^ (R.length * B) ≤ 2 ^ (R.length * B + B) := Nat.pow_le_pow_right (by decide) (by omega)
 have key : ∀ (L : List Row) (y : Row), (∀ r ∈ L, Bd B r) → Bd (R.length * B + B) y → Bd (R.length * B + B) (L.foldl (fun y r => y.set (fp r) (0 - r.getD f 0 * (a7 R / r.getD (fp r) 0))) y) := by
  intro L
  induction L with
  | nil => intro y _ h; exact h
  | cons a L ih =>
   intro y hL hy
   rw [List.foldl_cons]
   refine ih _ (fun r hr => hL r (List.mem_cons_of_mem _ hr)) fun x hx => ?_
   rcases List.mem_or_eq_of_mem_set hx with hx | e
   ·exact hy x hx
   ·subst e
    refine qj ?_
    rw [Int.natAbs_mul, Nat.add_comm, Nat.pow_add]
    exact Nat.mul_le_mul ((hL a List.mem_cons_self).at f) (Nat.le_trans (Int.natAbs_ediv_le_natAbs _ _) ht)
 unfold b7
 refine key R _ hR fun x hx => ?_
 rcases List.mem_or_eq_of_mem_set hx with hx | e
 ·rw [(List.mem_replicate.mp hx).2]
  exact Nat.zero_le _
 ·subst e
  omega
end La
namespace Bk
open PySem L2 f9
def b9 (sep : Cs) : List Cs → Cs
 | [] => []
 | [a] => a
 | a :: r => a ++ (sep ++ b9 sep r)
theorem xX (sep : Cs) : ∀ (ls : List Str), (Str.join (S sep) ls).cps.toList = b9 sep (ls.map fun s => s.cps.toList)
 | [] => rfl
 | [a] => rfl
 | a :: b :: r => by
  have ih := xX sep (b :: r)
  show ((a ++ S sep) ++ Str.join (S sep) (b :: r)).cps.toList = _
  rw [PySem.W.KT.app_list, PySem.W.KT.app_list, ih, cv]
  show (a.cps.toList ++ sep) ++ _ = a.cps.toList ++ (sep ++ _)
  simp
theorem sQ (sep : Cs) (ls : List Cs) : Txt.join (S sep) (ls.map S) = S (b9 sep ls) := by
 show Builtin.Str.glued (S sep) _ = _
 rw [StrLaws.glued_eq_join, ← GR (Str.join (S sep) (ls.map S)), xX, List.map_map]
 have e : ((fun s : Str => s.cps.toList) ∘ S) = id := by
  funext p
  exact cv p
 rw [e, List.map_id]
theorem lA (sep : Cs) : ∀ (ls : List Cs) (B : Nat), (∀ l ∈ ls, l.length ≤ B) → (b9 sep ls).length ≤ ls.length * (B + sep.length)
 | [], _, _ => by simp [b9]
 | [a], B, h => by
  have := h a (by simp)
  show a.length ≤ 1 * (B + sep.length)
  omega
 | a :: b :: r, B, h => by
  have ih := lA sep (b :: r) B fun l hl => h l (List.mem_cons_of_mem _ hl)
  have h1 := h a (by simp)
  show (a ++ (sep ++ b9 sep (b :: r))).length ≤ ((b :: r).length + 1) * (B + sep.length)
  rw [List.length_append, List.length_append, Nat.add_mul]
  omega
def gy : List Cs → List Cs
 | [] => []
 | [a] => [a]
 | a :: r => a :: [44] :: gy r
abbrev bare (n : Cs) : Fc := ⟨n, []⟩
theorem uj : ∀ (ns : List Cs), ns ≠ [] → (∀ n ∈ ns, aN n = true) → rQ (gy ns) (ns.map bare)
 | [], h, _ => absurd rfl h
 | [a], _, h => .one (.bare (h a (by simp)))
 | a :: b :: r, _, h => .more (.bare (h a (by simp))) (uj (b :: r) (by simp) fun n hn => h n (List.mem_cons_of_mem _ hn))
theorem um {p : Cs} (h : aN p = true) : p ≠ [] := fun z => by
 have := ck h
 rw [z] at this
 simp at this
theorem rC : ∀ (ns : List Cs) (r : Cs), ns ≠ [] → (∀ n ∈ ns, aN n = true) → kG r → toks (b9 [44, 32] ns ++ r) = gy ns ++ toks r
 | [], _, h, _, _ => absurd rfl h
 | [a], r, _, h, hs => by
  show toks (a ++ r) = a :: toks r
  exact de (gv (h a (by simp))) (um (h a (by simp))) hs
 | a :: b :: t, r, _, h, hs => by
  have ih := rC (b :: t) r (by simp) (fun n hn => h n (List.mem_cons_of_mem _ hn)) hs
  show toks ((a ++ ([44, 32] ++ b9 [44, 32] (b :: t))) ++ r) = a :: [44] :: (gy (b :: t) ++ toks r)
  rw [List.append_assoc, de (gv (h a (by simp))) (um (h a (by simp))) (show kG (([44, 32] ++ b9 [44, 32] (b :: t)) ++ r) from Bz)]
  rw [List.append_assoc]
  show a :: toks (44 :: 32 :: (b9 [44, 32] (b :: t) ++ r)) = _
  rw [GQ (by decide), dJ, ih]
theorem Cb : ∀ (ns : List Cs), (∀ n ∈ ns, aN n = true) → [59] ∉ gy ns := by
 have one : ∀ n : Cs, aN n = true → [59] ≠ n := fun n hn e => by rw [← e] at hn; exact absurd hn (by decide +kernel)
 intro ns
 induction ns with
 | nil => intro _; simp [gy]
 | cons a r ih =>
  intro h
  cases r with
  | nil =>
   show [59] ∉ [a]
   rw [List.mem_singleton]
   exact one a (h a (by simp))
  | cons b t =>
   have Wi := ih fun n hn => h n (List.mem_cons_of_mem _ hn)
   show [59] ∉ a :: [44] :: gy (b :: t)
   simp only [List.mem_cons, not_or]
   exact ⟨one a (h a (by simp)), by decide, Wi⟩
abbrev PN := Nat × List Cs
def aP (x : PN) : Cs := wordAt x.1 ++ (32 :: b9 [44, 32] x.2)
def je (x : PN) : Pr := ⟨x.1, gy x.2, .fs (x.2.map bare)⟩
structure uo (x : PN) : Prop where
 n : x.1 = 0 ∨ x.1 = 1 ∨ x.1 = 3
 ne : x.2 ≠ []
 sm : ∀ n ∈ x.2, aN n = true
theorem jE (n : Nat) : (wordAt n).all bp = true ∧ wordAt n ≠ [] ∧ (wordAt n).length ≤ 4 := by
 match n with
 | 0 => exact ⟨by decide +kernel, by decide, by decide⟩
 | 1 => exact ⟨by decide +kernel, by decide, by decide⟩
 | 2 => exact ⟨by decide +kernel, by decide, by decide⟩
 | 3 => exact ⟨by decide +kernel, by decide, by decide⟩
 | n + 4 => exact ⟨by show tQ.all bp = true; decide +kernel, by show tQ ≠ []; decide, by show tQ.length ≤ 4; decide⟩
theorem FZ {x : PN} (h : uo x) {r : Cs} (hs : kG r) : toks (aP x ++ r) = (wordAt x.1 :: gy x.2) ++ toks r := by
 obtain ⟨h1, h2, _⟩ := jE x.1
 unfold aP
 rw [List.append_assoc, de h1 h2 (show kG ((32 :: b9 [44, 32] x.2) ++ r) from k4), List.cons_append, dJ, rC _ _ h.ne h.sm hs]
 rfl
theorem F1 : bp 59 = false := by decide +kernel
theorem Cc : ∀ (L : List PN), L ≠ [] → (∀ x ∈ L, uo x) → toks (b9 [59, 32] (L.map aP)) = glue [59] ((L.map je).map fun x => wordAt x.n :: x.ps)
 | [], h, _ => absurd rfl h
 | [x], _, h => by
  have z := FZ (h x (by simp)) (r := []) trivial
  rw [List.append_nil] at z
  show toks (aP x) = wordAt x.1 :: gy x.2
  rw [z]
  show _ ++ [] = _
  simp
 | x :: y :: t, _, h => by
  have ih := Cc (y :: t) (by simp) fun z hz => h z (List.mem_cons_of_mem _ hz)
  show toks (aP x ++ ([59, 32] ++ b9 [59, 32] ((y :: t).map aP))) = (wordAt x.1 :: gy x.2) ++ [59] :: glue [59] (((y :: t).map je).map fun x => wordAt x.n :: x.ps)
  rw [FZ (h x (by simp)) (show kG ([59, 32] ++ b9 [59, 32] ((y :: t).map aP)) from F1), ← ih]
  show _ ++ toks (59 :: 32 :: b9 [59, 32] ((y :: t).map aP)) = _
  rw [nG F1 (by decide), dJ]
def rD (title : Cs) (L : List PN) : Cs := gr ++ (32 :: (title ++ (58 :: 32 :: b9 [59, 32] (L.map aP))))
theorem Cd : bp 58 = false := by decide +kernel
theorem G5 {title : Cs} {L : List PN} (ht : aN title = true) (h0 : L ≠ []) (h : ∀ x ∈ L, uo x) : toks (rD title L) = iw title (L.map je) := by
 unfold rD iw
 rw [de (by decide +kernel) (by decide) (show kG (32 :: (title ++ (58 :: 32 :: b9 [59, 32] (L.map aP)))) from k4), dJ, de (gv ht) (um ht) (show kG (58 :: 32 :: b9 [59, 32] (L.map aP)) from Cd), nG Cd (by decide), dJ, Cc L h0 h]
theorem qk {f : Nat → Bool} {sep : Cs} (hs : sep.all f = true) : ∀ (ls : List Cs), (∀ l ∈ ls, l.all f = true) → (b9 sep ls).all f = true
 | [], _ => rfl
 | [a], h => h a (by simp)
 | a :: b :: r, h => by
  have ih := qk hs (b :: r) fun l hl => h l (List.mem_cons_of_mem _ hl)
  show (a ++ (sep ++ b9 sep (b :: r))).all f = true
  rw [List.all_append, List.all_append, h a (by simp), hs, ih]
  rfl
theorem Pe {f : Nat → Bool} (Ia : ∀ c, bp c = true → f c = true) (DQ : f 32 = true) (Pf : f 44 = true) {x : PN} (h : uo x) : (aP x).all f = true := by
 have up : ∀ p : Cs, p.all bp = true → p.all f = true := fun p h => by
  rw [List.all_eq_true] at h ⊢
  exact fun x hx => Ia x (h x hx)
 unfold aP
 rw [List.all_append, up _ (jE x.1).1, List.all_cons, DQ, qk (by simp [DQ, Pf]) _ fun l hl => up l (gv (h.sm l hl))]
 rfl
theorem JR {f : Nat → Bool} (Ia : ∀ c, bp c = true → f c = true) (DQ : f 32 = true) (Pf : f 44 = true) (WK : f 58 = true) (WL : f 59 = true) {title : Cs} {L : List PN} (ht : aN title = true) (h : ∀ x ∈ L, uo x) : (rD title L).all f = true := by
 have up : ∀ p : Cs, p.all bp = true → p.all f = true := fun p h => by
  rw [List.all_eq_true] at h ⊢
  exact fun x hx => Ia x (h x hx)
 unfold rD
 rw [List.all_append, up gr (by decide +kernel), List.all_cons, DQ, List.all_append, up _ (gv ht), List.all_cons, WK, List.all_cons, DQ, qk (by simp [DQ, WL]) _ fun l hl => by
  obtain ⟨x, hx, rfl⟩ := List.mem_map.mp hl
  exact Pe Ia DQ Pf (h x hx)]
 rfl
theorem My {p : Cs} (h : p.all (fun c => !(c == 10)) = true) : 10 ∉ p := fun z => by
 rw [List.all_eq_true] at h
 exact absurd (h 10 z) (by decide)
theorem Mz (c : Nat) (h : bp c = true) : (!(c == 10)) = true := by
 cases e : (c == 10) with
 | false => rfl
 | true =>
  rw [beq_iff_eq.mp e] at h
  exact absurd h (by decide +kernel)
theorem G6 (title : Cs) (L : List PN) : told (rD title L) = true := rfl
def MA : Nat → List PN → Prop
 | _, [] => True
 | m, x :: r => m ≤ x.1 ∧ x.1 < 5 ∧ MA (x.1 + 1) r
theorem JS : ∀ (m : Nat) (L : List PN), MA m L → OS m (L.map je)
 | _, [], _ => trivial
 | m, x :: r, h => ⟨h.1, h.2.1, JS (x.1 + 1) r h.2.2⟩
theorem Pg {title : Cs} {L : List PN} (ht : aN title = true) (h0 : L ≠ []) (h : ∀ x ∈ L, uo x) (hi : MA 0 L) (hd : ∃ x ∈ L, x.1 = 0 ∨ x.1 = 1) : FF title (L.map je) := by
 refine ⟨ht, by simpa using h0, JS 0 L hi, fun x hx => ?_, ?_, fun x hx => ?_⟩
 ·obtain ⟨y, hy, rfl⟩ := List.mem_map.mp hx
  exact .fs (h y hy).n (uj _ (h y hy).ne (h y hy).sm)
 ·obtain ⟨x, hx, e⟩ := hd
  exact ⟨je x, List.mem_map.mpr ⟨x, hx, rfl⟩, e⟩
 ·obtain ⟨y, hy, rfl⟩ := List.mem_map.mp hx
  exact Cb _ (h y hy).sm
def eT (n : Nat) (L : List PN) : List Cs := match L.find? fun x => x.1 == n with
 | some x => x.2
 | none => []
theorem yT (n : Nat) (L : List PN) : rR n (L.map je) = (eT n L).map bare := by
 unfold rR kH eT
 rw [List.find?_map]
 show (match Option.map je (L.find? fun x => x.1 == n) with | some ⟨_, _, .fs l⟩ => l | _ => []) = _
 cases L.find? fun x => x.1 == n with
 | none => rfl
 | some x => rfl
theorem JT {n : Nat} {L : List PN} {z : Cs} (h : z ∈ eT n L) : ∃ x ∈ L, z ∈ x.2 := by
 unfold eT at h
 cases e : L.find? fun x => x.1 == n with
 | none => rw [e] at h; cases h
 | some x => rw [e] at h; exact ⟨x, List.mem_of_find?_eq_some e, h⟩
theorem MB {L : List PN} : GV (L.map je) = [] := by
 unfold GV kH
 rw [List.find?_map]
 generalize L.find? ((fun x => x.n == 2) ∘ je) = o
 cases o with
 | none => rfl
 | some x => rfl
theorem MC {L : List PN} : GW (L.map je) = [] := by
 unfold GW kH
 rw [List.find?_map]
 generalize L.find? ((fun x => x.n == 4) ∘ je) = o
 cases o with
 | none => rfl
 | some x => rfl
theorem ij (title : Cs) (L : List PN) : hZ title (L.map je) = ⟨title, (eT 0 L).map bare, (eT 1 L).map bare, [], (eT 3 L).map bare, []⟩ := by
 unfold hZ
 rw [yT, yT, yT, MB, MC]
theorem qm (ns : List Cs) : (ns.map bare).flatMap (·.as) = [] := by
 induction ns with
 | nil => rfl
 | cons a r ih =>
  rw [List.map_cons, List.flatMap_cons, ih]
  rfl
end Bk
namespace Bk
open PySem L2 f9
def JU (K : PySem.W.Frag) : Sp := fun vs H Q _ => ∃ (c : Int) (l : Addr) (ms : List Int), vs = [.int c, .ref l] ∧ ax K H l (ms.map V.int) ∧ ms.length ≤ 10 ∧ (∀ m ∈ ms, 0 < m ∧ m ≤ 1000) ∧
 ∀ (p : Addr) (ds : List Int) (H' : Hp), ag H H' → H p = none → H' p = some (.lst (ds.map V.int)) → Paired (fun m d : Int => 0 ≤ d ∧ d < m) ms ds → Q (.ref p) H'
abbrev cU : Cs := [97, 98, 99, 100, 101, 102, 103, 104]
def nameOf (a b k : Nat) : Cs := List.replicate a 109 ++ ([cU.getD k 0] ++ List.replicate b 109)
def D5 : Sp := fun vs H Q _ => ∃ (st : Int) (k : Nat), vs = [.int st, .int k] ∧ 0 ≤ st ∧ k < 8 ∧ ∀ a b : Nat, a = (st / 5 % (1 + st % 5)).toNat → b = (1 + st % 5 - 1 - st / 5 % (1 + st % 5)).toNat → a + b ≤ 4 → Q (tx (nameOf a b k)) H
theorem D6 {a b k : Nat} (hk : k < 8) (Mw : a + b ≤ 4) : aN (nameOf a b k) = true := by
 have all : ∀ k, k < 8 → bp (cU.getD k 0) = true ∧ (cU.getD k 0) ∈ ir.cps.toList := by
  intro k hk
  rcases (by omega : k = 0 ∨ k = 1 ∨ k = 2 ∨ k = 3 ∨ k = 4 ∨ k = 5 ∨ k = 6 ∨ k = 7) with e | e | e | e | e | e | e | e <;> subst e <;> exact ⟨by decide +kernel, by decide +kernel⟩
 have rep : ∀ n : Nat, (List.replicate n 109).all bp = true := fun n => by
  rw [List.all_eq_true]
  intro x hx
  rw [(List.mem_replicate.mp hx).2]
  decide +kernel
 unfold aN bh nameOf
 have e1 : (List.replicate a 109 ++ ([cU.getD k 0] ++ List.replicate b 109)).all bp = true := by
  rw [List.all_append, List.all_append, rep, rep, List.all_cons, (all k hk).1]
  rfl
 have e2 : (List.replicate a 109 ++ ([cU.getD k 0] ++ List.replicate b 109)).headD 0 ∈ ir.cps.toList := by
  cases a with
  | zero => exact (all k hk).2
  | succ a =>
   show (109 : Nat) ∈ ir.cps.toList
   decide +kernel
 rw [e1, decide_eq_true e2]
 simp only [List.length_append, List.length_replicate, List.length_cons, List.length_nil, Bool.and_true, Bool.and_eq_true, decide_eq_true_eq]
 omega
theorem JV {a b j k : Nat} (hj : j < 8) (hk : k < 8) (h : nameOf a b j = nameOf a b k) : j = k := by
 unfold nameOf at h
 have h2 := List.append_inj_right h rfl
 have h3 : cU.getD j 0 = cU.getD k 0 := (List.cons.inj h2).1
 have e : cU.Nodup := by decide
 have gd : ∀ i, i < 8 → cU.getD i 0 = 97 + i := by
  intro i hi
  rcases (by omega : i = 0 ∨ i = 1 ∨ i = 2 ∨ i = 3 ∨ i = 4 ∨ i = 5 ∨ i = 6 ∨ i = 7) with e | e | e | e | e | e | e | e <;> subst e <;> rfl
 rw [gd j hj, gd k hk] at h3
 omega
abbrev zz : Cs := [122, 122]
theorem MD {a b k : Nat} (hk : k < 8) : nameOf a b k ≠ zz := by
 intro h
 have hl : cU.getD k 0 ∈ nameOf a b k := by
  unfold nameOf
  simp
 rw [h] at hl
 have gd : cU.getD k 0 = 97 + k := by
  rcases (by omega : k = 0 ∨ k = 1 ∨ k = 2 ∨ k = 3 ∨ k = 4 ∨ k = 5 ∨ k = 6 ∨ k = 7) with e | e | e | e | e | e | e | e <;> subst e <;> rfl
 rw [gd] at hl
 have : 97 + k = 122 := by simpa using hl
 omega
def JW (r : Rl) (z : Cs) : Int := ((r.put.filter fun f => decide (f.k = z)).length : Int) - ((r.take.filter fun f => decide (f.k = z)).length : Int)
def passing (ks : List Kd) : List Cs := (ks.filter fun k => !k.l).map (·.n)
def yU (K : PySem.W.Frag) (c : Cl) : Sp := fun vs H Q _ => ∃ (v : V) (H0 : Hp) (ks : List Kd) (rs : List Rl), vs = [v] ∧ tN K c H0 H ks rs v ∧ ks.length ≤ 10000 ∧ ∀ u H', ag H H' → oN H H' u (passing ks) → Q u H'
def JX (K : PySem.W.Frag) (c : Cl) : Sp := fun vs H Q _ => ∃ (v : V) (H0 : Hp) (r : Rl) (z : Cs), vs = [v, tx z] ∧ ie K c H0 H r v ∧ r.put.length ≤ 10000 ∧ r.take.length ≤ 10000 ∧ ∀ H', ag H H' → Q (.int (JW r z)) H'
def kN (H0 H : Hp) (row : List Int) (u : V) : Prop := ∃ a, u = .ref a ∧ H0 a = none ∧ H a = some (.lst (row.map V.int))
theorem kN.keep {H0 H H' : Hp} {row : List Int} {u : V} (k : Kp H0 H H') (h : kN H0 H row u) : kN H0 H' row u := by
 obtain ⟨a, e, n, h1⟩ := h
 exact ⟨a, e, n, k.new _ _ n h1⟩
theorem kN.bj {H0 H1 H : Hp} {row : List Int} {u : V} (d : ∀ b, H1 b = none → H0 b = none) (h : kN H1 H row u) : kN H0 H row u := by
 obtain ⟨a, e, n, h1⟩ := h
 exact ⟨a, e, d a n, h1⟩
def Table (H0 H : Hp) (v : V) (rows : List (List Int)) : Prop := ∃ l vs, v = .ref l ∧ H0 l = none ∧ H l = some (.lst vs) ∧ Paired (kN H0 H) rows vs
def uq (ks : List Kd) (rs : List Rl) : List (List Int) := rs.map fun r => (passing ks).map (JW r)
def D7 (K : PySem.W.Frag) (c : Cl) : Sp := fun vs H Q _ => ∃ (v : V) (H0 : Hp) (ks : List Kd) (rs : List Rl), vs = [v] ∧ tN K c H0 H ks rs v ∧ ks.length ≤ 10000 ∧ rs.length ≤ 10000 ∧ (∀ r ∈ rs, r.put.length ≤ 10000 ∧ r.take.length ≤ 10000) ∧ ∀ u H', ag H H' → Table H H' u (uq ks rs) → Q u H'
theorem paired_ints : ∀ {l : List Int} {ys : List V}, Paired (fun b y => y = V.int b) l ys → ys = l.map V.int
 | _, _, .nil => rfl
 | _, _, .cons r t => by rw [r, paired_ints t]; rfl
end Bk
namespace Bk
open PySem L2 f9
abbrev RI := List Nat × List Nat
abbrev nI (l : List Nat) : List V := l.map fun (n : Nat) => V.int (n : Int)
structure D8 (many : Nat) (r : RI) : Prop where
 l1 : r.1.length ≤ 4
 l2 : r.2.length ≤ 4
 m1 : ∀ n ∈ r.1, n < many
 m2 : ∀ n ∈ r.2, n < many
structure lB (zs : List Cs) (place : Nat) (rs : List RI) : Prop where
 few : zs.length ≤ 5
 pl : place ≤ zs.length
 many : rs.length ≤ 8
 nd : zs.Nodup
 sm : ∀ z ∈ zs, aN z = true
 nz : ∀ z ∈ zs, z ≠ zz
 ok : ∀ r ∈ rs, D8 zs.length r
def uu (K : PySem.W.Frag) (H : Hp) (r : RI) (v : V) : Prop := ∃ t a b, v = .ref t ∧ cM K H t [.ref a, .ref b] ∧ H a = some (.lst (nI r.1)) ∧ H b = some (.lst (nI r.2))
theorem uu.same {K : PySem.W.Frag} {H H' : Hp} {r : RI} {v : V} (s : ag H H') (h : uu K H r v) : uu K H' r v := by
 obtain ⟨t, a, b, e, h1, h2, h3⟩ := h
 exact ⟨t, a, b, e, h1.same s, s _ _ h2, s _ _ h3⟩
def yV (K : PySem.W.Frag) : Sp := fun vs H Q _ => ∃ (s : Addr) (ns : List Int), vs = [.ref s] ∧ ax K H s (ns.map V.int) ∧ ns.length ≤ 63 ∧
 ∀ (t ln lr : Addr) (zs : List Cs) (place : Nat) (rs : List RI) (us : List V) (H' : Hp), ag H H' → H' t = some (.tup [.ref ln, .int (place : Int), .ref lr]) → H' ln = some (.lst (zs.map tx)) → H' lr = some (.lst us) → Paired (uu K H') rs us → lB zs place rs → Q (.ref t) H'
structure Cells (H : Hp) (n : Nat) (T : Nat → Addr) (A : Nat → Nat → Addr) (R : Nat → Nat → List Nat) : Prop where
 tup : ∀ i, i < n → H (T i) = some (.tup [.ref (A i 0), .ref (A i 1)])
 lst : ∀ i u, i < n → u < 2 → H (A i u) = some (.lst (nI (R i u)))
 inj : ∀ i u j v, i < n → u < 2 → j < n → v < 2 → A i u = A j v → i = j ∧ u = v
theorem Cells.same {H H' : Hp} {n : Nat} {T : Nat → Addr} {A : Nat → Nat → Addr} {R : Nat → Nat → List Nat} (s : ag H H') (h : Cells H n T A R) : Cells H' n T A R :=
 ⟨fun i hi => s _ _ (h.tup i hi), fun i u hi hu => s _ _ (h.lst i u hi hu), h.inj⟩
theorem Cells.snoc {H : Hp} {n : Nat} {T : Nat → Addr} {A : Nat → Nat → Addr} {R : Nat → Nat → List Nat} (h : Cells H n T A R) {H' : Hp} {t a b : Addr} (s : ag H H') (na : H a = none) (nb : H b = none) (Mw : a ≠ b) (ha : H' a = some (.lst [])) (hb : H' b = some (.lst [])) (ht : H' t = some (.tup [.ref a, .ref b])) :
  Cells H' (n + 1) (fun i => if i = n then t else T i) (fun i u => if i = n then (if u = 0 then a else b) else A i u) (fun i u => if i = n then [] else R i u) := by
 refine ⟨fun i hi => ?_, fun i u hi hu => ?_, fun i u j v hi hu hj hv e => ?_⟩
 ·by_cases e : i = n
  ·subst e
   simp only [if_true]
   exact ht
  ·simp only [if_neg e]
   exact s _ _ (h.tup i (by omega))
 ·by_cases e : i = n
  ·subst e
   simp only [if_true]
   by_cases e2 : u = 0
   ·rw [if_pos e2]; exact ha
   ·rw [if_neg e2]; exact hb
  ·simp only [if_neg e]
   exact s _ _ (h.lst i u (by omega) hu)
 ·have old : ∀ i u x, i < n → u < 2 → H x = none → A i u ≠ x := fun i u x hi hu hx z => by
   have y := h.lst i u hi hu
   rw [z, hx] at y
   cases y
  by_cases e1 : i = n <;> by_cases e2 : j = n
  ·subst e1; subst e2
   simp only [if_true] at e
   refine ⟨rfl, ?_⟩
   by_cases z1 : u = 0 <;> by_cases z2 : v = 0
   ·rw [z1, z2]
   ·rw [if_pos z1, if_neg z2] at e; exact absurd e Mw
   ·rw [if_neg z1, if_pos z2] at e; exact absurd e.symm Mw
   ·omega
  ·subst e1
   simp only [if_true, if_neg e2] at e
   by_cases z1 : u = 0
   ·rw [if_pos z1] at e; exact absurd e.symm (old j v a (by omega) hv na)
   ·rw [if_neg z1] at e; exact absurd e.symm (old j v b (by omega) hv nb)
  ·subst e2
   simp only [if_true, if_neg e1] at e
   by_cases z1 : v = 0
   ·rw [if_pos z1] at e; exact absurd e (old i u a (by omega) hu na)
   ·rw [if_neg z1] at e; exact absurd e (old i u b (by omega) hu nb)
  ·simp only [if_neg e1, if_neg e2] at e
   exact h.inj i u j v (by omega) hu (by omega) hv e
theorem Cells.write {H : Hp} {n : Nat} {T : Nat → Addr} {A : Nat → Nat → Addr} {R : Nat → Nat → List Nat} (h : Cells H n T A R) {i u : Nat} (hi : i < n) (hu : u < 2) (l : List Nat) :
  Cells (upd H (A i u) (.lst (nI l))) n T A (fun j v => if j = i ∧ v = u then l else R j v) := by
 refine ⟨fun j hj => ?_, fun j v hj hv => ?_, h.inj⟩
 ·rw [aq fun z => by
   have y := h.tup j hj
   rw [z, h.lst i u hi hu] at y
   cases y]
  exact h.tup j hj
 ·by_cases e : j = i ∧ v = u
  ·rw [e.1, e.2, ae]
   simp
  ·rw [aq fun z => e (h.inj j v i u hj hv hi hu z)]
   simp only [if_neg e]
   exact h.lst j v hj hv
theorem pA {α β : Type} {R : α → β → Prop} {f : Nat → α} {g : Nat → β} : ∀ {n : Nat}, (∀ i, i < n → R (f i) (g i)) → Paired R ((List.range n).map f) ((List.range n).map g)
 | 0, _ => .nil
 | n + 1, h => by
  rw [List.range_succ, List.map_append, List.map_append]
  exact Paired.snoc (pA fun i hi => h i (by omega)) (h n (by omega))
theorem Cells.paired {K : PySem.W.Frag} {H : Hp} {n : Nat} {T : Nat → Addr} {A : Nat → Nat → Addr} {R : Nat → Nat → List Nat} (h : Cells H n T A R) : Paired (uu K H) ((List.range n).map fun i => (R i 0, R i 1)) ((List.range n).map fun i => V.ref (T i)) :=
 pA fun i hi => ⟨T i, A i 0, A i 1, rfl, cM.of (h.tup i hi), h.lst i 0 hi (by decide), h.lst i 1 hi (by decide)⟩
theorem ME {α β : Type} {R : α → β → Prop} {a b c : α} {ds : List β} (h : Paired R [a, b, c] ds) : ∃ x y z, ds = [x, y, z] ∧ R a x ∧ R b y ∧ R c z := by
 obtain ⟨_⟩ | ⟨h1, h⟩ := h
 obtain ⟨_⟩ | ⟨h2, h⟩ := h
 obtain ⟨_⟩ | ⟨h3, h⟩ := h
 obtain ⟨_⟩ | _ := h
 exact ⟨_, _, _, rfl, h1, h2, h3⟩
theorem MF {α β : Type} {R : α → β → Prop} {a b c d e : α} {ds : List β} (h : Paired R [a, b, c, d, e] ds) : ∃ x y z p q, ds = [x, y, z, p, q] ∧ R a x ∧ R b y ∧ R c z ∧ R d p ∧ R e q := by
 obtain ⟨_⟩ | ⟨h1, h⟩ := h
 obtain ⟨_⟩ | ⟨h2, h⟩ := h
 obtain ⟨_⟩ | ⟨h3, h⟩ := h
 obtain ⟨_⟩ | ⟨h4, h⟩ := h
 obtain ⟨_⟩ | ⟨h5, h⟩ := h
 obtain ⟨_⟩ | _ := h
 exact ⟨_, _, _, _, _, rfl, h1, h2, h3, h4, h5⟩
theorem MG {v : V} {k : Int} (h : 0 ≤ k) : hV [v] none (some k) = if k = 0 then [] else [v] := by
 by_cases e : k = 0
 ·subst e
  rfl
 ·rw [if_neg e]
  obtain ⟨j, rfl⟩ : ∃ j : Nat, k = (j : Int) := ⟨k.toNat, by omega⟩
  have z : 1 ≤ j := by omega
  unfold hV
  rw [show ([v] : List V).length = 1 from rfl, HT.yl, show HT.dj 1 0 none = 0 from rfl, Nat.min_eq_right z]
  rfl
end Bk
namespace Bk
open PySem L2 f9
theorem Cells.other {H : Hp} {n : Nat} {T : Nat → Addr} {A : Nat → Nat → Addr} {R : Nat → Nat → List Nat} (h : Cells H n T A R) {D : Addr} {xs : List V} (hD : H D = some (.lst xs)) (ne : ∀ i u, i < n → u < 2 → A i u ≠ D) (o : HO) : Cells (upd H D o) n T A R := by
 refine ⟨fun i hi => ?_, fun i u hi hu => ?_, h.inj⟩
 ·rw [aq fun z => by
   have y := h.tup i hi
   rw [z, hD] at y
   cases y]
  exact h.tup i hi
 ·rw [aq (ne i u hi hu)]
  exact h.lst i u hi hu
theorem G7 {n : Nat} {T : Nat → Addr} {t : Addr} : (List.range (n + 1)).map (fun k => V.ref (if k = n then t else T k)) = (List.range n).map (fun k => V.ref (T k)) ++ [V.ref t] := by
 rw [List.range_succ, List.map_append]
 congr 1
 ·refine List.map_congr_left fun k hk => ?_
  rw [if_neg (Nat.ne_of_lt (List.mem_range.mp hk))]
 ·show [V.ref (if n = n then t else T n)] = _
  rw [if_pos rfl]
theorem JY {n : Nat} {T : Nat → Addr} {j : Int} (h0 : 0 ≤ j) (h1 : j < n) : pV ((List.range n).map (fun k => V.ref (T k))) j = some (.ref (T j.toNat)) := by
 have z := bP (xs := (List.range n).map (fun k => V.ref (T k))) (j := j.toNat) (v := .ref (T j.toNat)) (by
  rw [List.getElem?_map, List.getElem?_range (by omega)]
  rfl)
 rw [show ((j.toNat : Nat) : Int) = j by omega] at z
 exact z
theorem Ph {a b : Addr} {A : Nat → Addr} {j : Int} (e0 : A 0 = a) (e1 : A 1 = b) (h0 : 0 ≤ j) (h1 : j < 2) : pV [V.ref a, V.ref b] j = some (.ref (A j.toNat)) := by
 rcases (by omega : j = 0 ∨ j = 1) with e | e <;> subst e
 ·show some (V.ref a) = some (V.ref (A 0))
  rw [e0]
 ·show some (V.ref b) = some (V.ref (A 1))
  rw [e1]
end Bk
namespace Bk
theorem G8 {α : Type} {l : List α} (h : l.Nodup) : l.reverse.Nodup := List.pairwise_reverse.mpr (List.Pairwise.imp (fun h => Ne.symm h) h)
end Bk
namespace Bk
open PySem L2 f9
def nm (zs : List Cs) (l : List Nat) : List Cs := l.map fun n => zs.getD n []
def aT (zs : List Cs) (i : Nat) (r : RI) : List PN :=
 if r.1 = [] then [(1, [(zs ++ [zz]).getD 0 []])] ++ (if r.2 = [] then [] else [(3, [zz])])
 else ([(0, nm zs r.1)] ++ (if i % 2 = 1 then [(1, [zs.getD (zs.length - 1) []])] else [])) ++ (if r.2 = [] then [] else [(3, nm zs r.2)])
abbrev dm (i : Nat) : Cs := [114, 48 + i]
def uw (zs : List Cs) (i : Nat) (r : RI) : Cs := rD (dm i) (aT zs i r)
abbrev kdOf (z : Cs) : Kd := ⟨z, 0, false⟩
abbrev R7 : Kd := ⟨zz, 0, true⟩
def oC (zs : List Cs) (place : Nat) : List Kd := (zs.take place).map kdOf ++ [R7] ++ (zs.drop place).map kdOf
def dn (zs : List Cs) (rs : List RI) (n : Nat) : List Cs := (List.range n).map fun i => uw zs i (rs.getD i ([], []))
def cx (zs : List Cs) (place : Nat) (rs : List RI) : List Cs := (oC zs place).map bH ++ dn zs rs rs.length
def ux (K : PySem.W.Frag) : Sp := fun vs H Q _ => ∃ (ln lr : Addr) (zs : List Cs) (place : Nat) (rs : List RI) (us : List V), vs = [.ref ln, .int (place : Int), .ref lr] ∧ H ln = some (.lst (zs.map tx)) ∧ H lr = some (.lst us) ∧ Paired (uu K H) rs us ∧ lB zs place rs ∧
 ∀ H', ag H H' → Q (tx (cu (cx zs place rs))) H'
theorem uy (l : List Cs) : l.map tx = (l.map S).map V.str := by rw [List.map_map]; rfl
theorem mV {s : Str} {n : Nat} {ns : List Cs} (h : s = S (wordAt n ++ [32])) : s ++ S (b9 [44, 32] ns) = S (aP (n, ns)) := by
 rw [h, gu]
 unfold aP
 rw [List.append_assoc]
 rfl
theorem JZ {xs : List V} {k : Nat} (h : k ≤ xs.length) : hV xs none (some (k : Int)) = xs.take k := by
 unfold hV
 rw [HT.yl, Nat.min_eq_left h]
 rfl
theorem br {c : Prop} [Decidable c] {A : Prop} {Rest : Hp → Prop} {H0 : Hp} (Pj : Hp → Prop) (hB : c → (∀ H', Pj H' → Rest H') → A) (hC : ¬ c → Pj H0) (hR : ∀ H', Pj H' → Rest H') : if c then A else Rest H0 := by
 by_cases h : c
 ·rw [if_pos h]; exact hB h hR
 ·rw [if_neg h]; exact hR _ (hC h)
theorem WM {c : Nat} (h : c < 8) : (Str.ofString (toString (c : Int))) = S [48 + c] ∧ (c : Int).natAbs.log2 < 1920 := by
 rcases (by omega : c = 0 ∨ c = 1 ∨ c = 2 ∨ c = 3 ∨ c = 4 ∨ c = 5 ∨ c = 6 ∨ c = 7) with e | e | e | e | e | e | e | e <;> subst e <;> exact ⟨by decide +kernel, by decide +kernel⟩
theorem J0 {zs : List Cs} {l : List Nat} (hz : ∀ z ∈ zs, aN z = true) (hl : ∀ n ∈ l, n < zs.length) : ∀ x ∈ nm zs l, aN x = true := by
 intro x hx
 obtain ⟨n, hn, rfl⟩ := List.mem_map.mp hx
 have h := hl n hn
 rw [Gd9, Ge9 h]
 exact hz _ (List.getElem_mem h)
theorem Pk {x : PN} {B : Nat} (h1 : x.2.length ≤ 4) (h2 : ∀ z ∈ x.2, z.length ≤ 12) : (aP x).length ≤ 61 := by
 unfold aP
 have z := (jE x.1).2.2
 have y := lA [44, 32] x.2 12 h2
 rw [List.length_append, List.length_cons]
 simp only [List.length_cons, List.length_nil] at y
 omega
theorem uz : aN zz = true := by decide +kernel
structure jF (L : List PN) : Prop where
 few : L.length ≤ 3
 each : ∀ x ∈ L, uo x ∧ x.2.length ≤ 4
theorem rE {zs : List Cs} (hz : ∀ z ∈ zs, aN z = true) : aN ((zs ++ [zz]).getD 0 []) = true := by
 cases zs with
 | nil => exact uz
 | cons a r => exact hz a (by simp)
theorem uA {zs : List Cs} (hz : ∀ z ∈ zs, aN z = true) (h : 0 < zs.length) : aN (zs.getD (zs.length - 1) []) = true := by
 rw [Gd9, Ge9 (by omega)]
 exact hz _ (List.getElem_mem _)
theorem jf {zs : List Cs} {i : Nat} {r : RI} (hz : ∀ z ∈ zs, aN z = true) (ok : D8 zs.length r) : jF (aT zs i r) := by
 have one : ∀ (n : Nat) (z : Cs), n = 0 ∨ n = 1 ∨ n = 3 → aN z = true → uo (n, [z]) ∧ ((n, [z]) : PN).2.length ≤ 4 := fun n z h1 h2 => ⟨⟨h1, List.cons_ne_nil _ _, fun x hx => by rw [List.mem_singleton.mp hx]; exact h2⟩, by show 1 ≤ 4; decide⟩
 have many : ∀ (n : Nat) (l : List Nat), n = 0 ∨ n = 1 ∨ n = 3 → l ≠ [] → l.length ≤ 4 → (∀ m ∈ l, m < zs.length) → uo (n, nm zs l) ∧ ((n, nm zs l) : PN).2.length ≤ 4 := fun n l h1 h2 h3 h4 => ⟨⟨h1, fun e => h2 (List.map_eq_nil_iff.mp e), J0 hz h4⟩, by show (nm zs l).length ≤ 4; unfold nm; rw [Lm9]; exact h3⟩
 have put3 : ∀ (M : List PN) (x : PN) (c : Prop) [Decidable c], M.length ≤ 2 → (∀ y ∈ M, uo y ∧ y.2.length ≤ 4) → (¬ c → uo x ∧ x.2.length ≤ 4) → jF (M ++ (if c then [] else [x])) := fun M x c _ hM hy hx => by
  by_cases e : c
  ·rw [if_pos e, List.append_nil]
   exact ⟨by omega, hy⟩
  ·rw [if_neg e]
   refine ⟨by rw [List.length_append, List.length_singleton]; omega, fun y h => ?_⟩
   rcases List.mem_append.mp h with h | h
   ·exact hy y h
   ·rw [List.mem_singleton.mp h]
    exact hx e
 unfold aT
 by_cases e1 : r.1 = []
 ·rw [if_pos e1]
  refine put3 _ _ _ (by show 1 ≤ 2; decide) (fun y h => ?_) (fun _ => one 3 zz (by decide) uz)
  rw [List.mem_singleton.mp h]
  exact one 1 _ (by decide) (rE hz)
 ·rw [if_neg e1]
  have h0 : 0 < zs.length := by
   obtain ⟨a, t, e⟩ := List.exists_cons_of_ne_nil e1
   exact Nat.lt_of_le_of_lt (Nat.zero_le _) (ok.m1 a (by rw [e]; simp))
  refine put3 _ _ _ ?_ (fun y h => ?_) (fun e2 => many 3 r.2 (by decide) e2 ok.l2 ok.m2)
  ·by_cases e : i % 2 = 1
   ·rw [if_pos e]; show 2 ≤ 2; decide
   ·rw [if_neg e]; show 1 ≤ 2; decide
  ·rcases List.mem_append.mp h with h | h
   ·rw [List.mem_singleton.mp h]
    exact many 0 r.1 (by decide) e1 ok.l1 ok.m1
   ·by_cases e : i % 2 = 1
    ·rw [if_pos e] at h
     rw [List.mem_singleton.mp h]
     exact one 1 _ (by decide) (uA hz h0)
    ·rw [if_neg e] at h
     cases h
theorem jF.len {L : List PN} (h : jF L) : ∀ x ∈ L.map aP, x.length ≤ 61 := by
 intro x hx
 obtain ⟨y, hy, rfl⟩ := List.mem_map.mp hx
 exact Pk (B := 0) (h.each y hy).2 fun z hz => (ck ((h.each y hy).1.sm z hz)).2
theorem xY {zs : List Cs} {i : Nat} {r : RI} (hz : ∀ z ∈ zs, aN z = true) (ok : D8 zs.length r) : (uw zs i r).length ≤ 250 := by
 have h := jf (i := i) hz ok
 have z := lA [59, 32] ((aT zs i r).map aP) 61 h.len
 have f := h.few
 rw [Lm9] at z
 unfold uw rD
 simp only [List.length_append, List.length_cons, List.length_nil] at z ⊢
 omega
end Bk
namespace Bk
open PySem L2 f9
theorem Ka {zs : List Cs} {u : Str} (e : u = S zz) : pV (zs.map tx ++ [V.str u]) 0 = some (tx ((zs ++ [zz]).getD 0 [])) := by
 cases zs with
 | nil => show some (V.str u) = some (tx zz); rw [e]
 | cons a r => exact bP (xs := (a :: r).map tx ++ [V.str u]) (j := 0) rfl
theorem MH {l : List Nat} (h : l ≠ []) : (0 : Int) < (((nI l).length : Nat) : Int) := by
 rw [Lm9]
 have : 0 < l.length := List.length_pos_iff.mpr h
 omega
theorem Pl {l : List Nat} (h : l = []) : ¬ (0 : Int) < (((nI l).length : Nat) : Int) := by
 rw [Lm9, h]
 decide
theorem xZ {l : List Nat} (h : (0 : Int) < (((nI l).length : Nat) : Int)) : l ≠ [] := fun e => Pl e h
theorem len0 {l : List Nat} : decide (V.int (((nI l).length : Nat) : Int) = V.int 0) = decide (l = []) := by
 rw [Lm9]
 cases l with
 | nil => rfl
 | cons a r =>
  refine (decide_eq_false fun z => ?_).trans (decide_eq_false (List.cons_ne_nil a r)).symm
  injection z with z
  rw [List.length_cons] at z
  omega
theorem NI {zs : List Cs} {l : List Nat} (hz : ∀ z ∈ zs, aN z = true) (hl : ∀ n ∈ l, n < zs.length) (h4 : l.length ≤ 4) : (((nm zs l).map S).map (·.length)).sum ≤ 48 ∧ ((nm zs l).map S).length ≤ 4 ∧ (b9 [44, 32] (nm zs l)).length ≤ 56 := by
 have h := fun x hx => (ck (J0 hz hl x hx)).2
 have z := sE (as := nm zs l) (B := 12) h
 have y := lA [44, 32] (nm zs l) 12 h
 have e : (nm zs l).length = l.length := by unfold nm; rw [Lm9]
 rw [e] at z y
 simp only [List.length_cons, List.length_nil] at y
 rw [Lm9, e]
 omega
theorem Kb {L : List PN} (h : jF L) : (((L.map aP).map S).map (·.length)).sum ≤ 183 ∧ ((L.map aP).map S).length ≤ 3 ∧ (b9 [59, 32] (L.map aP)).length ≤ 189 := by
 have z := sE (as := L.map aP) (B := 61) h.len
 have y := lA [59, 32] (L.map aP) 61 h.len
 have f := h.few
 rw [Lm9] at z y
 simp only [List.length_cons, List.length_nil] at y
 rw [Lm9, Lm9]
 omega
theorem F2 {i : Nat} (hi : i < 8) (L : List PN) {a b d e : Str} (ea : a = S (gr ++ [32, 114])) (eb : b = S [48 + i]) (ed : d = S [58, 32]) (ee : e = S (b9 [59, 32] (L.map aP))) : ((a ++ b) ++ d) ++ e = S (rD (dm i) L) := by
 rw [ea, eb, ed, ee, gu, gu, gu]
 rfl
theorem Kc {i : Nat} : decide (V.int ((i : Int) % 2) = V.int 1) = decide (i % 2 = 1) := by
 by_cases h : i % 2 = 1
 ·rw [decide_eq_true h]
  exact decide_eq_true (congrArg V.int (by omega))
 ·rw [decide_eq_false h]
  refine decide_eq_false fun z => h ?_
  injection z with z
  omega
theorem D9 {zs : List Cs} {place : Nat} {rs : List RI} (T : lB zs place rs) : ∀ k ∈ oC zs place, OX k := by
 intro k hk
 unfold oC at hk
 rcases List.mem_append.mp hk with hk | hk
 ·rcases List.mem_append.mp hk with hk | hk
  ·obtain ⟨z, hz, rfl⟩ := List.mem_map.mp hk
   exact ⟨T.sm z (List.mem_of_mem_take hz), Nat.zero_le _⟩
  ·rw [List.mem_singleton.mp hk]
   exact ⟨uz, Nat.zero_le _⟩
 ·obtain ⟨z, hz, rfl⟩ := List.mem_map.mp hk
  exact ⟨T.sm z (List.mem_of_mem_drop hz), Nat.zero_le _⟩
theorem Ce {zs : List Cs} {place : Nat} {rs : List RI} (T : lB zs place rs) : ∀ x ∈ cx zs place rs, x.length ≤ 250 := by
 intro x hx
 unfold cx at hx
 rcases List.mem_append.mp hx with hx | hx
 ·obtain ⟨k, hk, rfl⟩ := List.mem_map.mp hx
  have := yK (ck (D9 T k hk).1).2
  omega
 ·unfold dn at hx
  obtain ⟨i, hi, rfl⟩ := List.mem_map.mp hx
  have hi := List.mem_range.mp hi
  refine xY T.sm (T.ok _ ?_)
  rw [Gd9, Ge9 hi]
  exact List.getElem_mem hi
theorem Ke {zs : List Cs} {l : List Nat} {j : Nat} {y : V} {b : Cs} (hy : (nI l)[j]? = some y) (hb : (nm zs l)[j]? = some b) : ∃ n ∈ l, y = V.int (n : Int) ∧ b = zs.getD n [] := by
 unfold nm at hb
 rw [List.getElem?_map] at hy hb
 cases h : l[j]? with
 | none => rw [h] at hy; cases hy
 | some n =>
  rw [h] at hy hb
  exact ⟨n, List.mem_of_getElem? h, (Option.some.inj hy).symm, (Option.some.inj hb).symm⟩
end Bk
namespace Bk
open PySem L2 f9
def lC (many : Nat) (r : RI) : List Int := if r.1 = [] then List.replicate many 0 else (List.range many).map fun k => (r.2.count k : Int) - (r.1.count k : Int)
def many (k : Cs) (fs : List Fc) : Nat := (fs.filter fun f => decide (f.k = k)).length
theorem Kf (r : Rl) (z : Cs) : JW r z = (many z r.put : Int) - (many z r.take : Int) := rfl
abbrev rowAt (rs : List (List Nat × List Nat)) (i : Nat) : List Nat × List Nat := rs.getD i ([], [])
abbrev G9 (zs : List Cs) (rs : List (List Nat × List Nat)) (i : Nat) : List Pr := (aT zs i (rowAt rs i)).map je
def vT (zs : List Cs) (place : Nat) (rs : List (List Nat × List Nat)) : List (Cs × It) := (oC zs place).map (fun k => (bH k, It.kind k)) ++ (List.range rs.length).map fun i => (uw zs i (rowAt rs i), It.rule (dm i) (G9 zs rs i))
def Kg (zs : List Cs) (rs : List (List Nat × List Nat)) : List Rl := (List.range rs.length).map fun i => hZ (dm i) (G9 zs rs i)
theorem nN : ∀ ks : List Kd, kL (ks.map It.kind) = ks ∧ kM (ks.map It.kind) = []
 | [] => ⟨rfl, rfl⟩
 | k :: r => by
  have ih := nN r
  exact ⟨by show k :: kL (r.map It.kind) = k :: r; rw [ih.1], ih.2⟩
theorem nO {A : Type} (t : A → Cs) (p : A → List Pr) : ∀ xs : List A, kL (xs.map fun x => It.rule (t x) (p x)) = [] ∧ kM (xs.map fun x => It.rule (t x) (p x)) = xs.map fun x => hZ (t x) (p x)
 | [] => ⟨rfl, rfl⟩
 | x :: r => by
  have ih := nO t p r
  exact ⟨ih.1, by show hZ (t x) (p x) :: kM (r.map _) = _; rw [ih.2]; rfl⟩
theorem yW (zs : List Cs) (place : Nat) (rs : List (List Nat × List Nat)) : kL ((vT zs place rs).map (·.2)) = oC zs place ∧ kM ((vT zs place rs).map (·.2)) = Kg zs rs := by
 have e : (vT zs place rs).map (·.2) = (oC zs place).map It.kind ++ (List.range rs.length).map fun i => It.rule (dm i) (G9 zs rs i) := by
  unfold vT
  rw [List.map_append, List.map_map, List.map_map]
  rfl
 rw [e, lh, lj, (nN _).1, (nN _).2, (nO dm (G9 zs rs) _).1, (nO dm (G9 zs rs) _).2, List.append_nil]
 exact ⟨rfl, rfl⟩
theorem F3 (zs : List Cs) (place : Nat) (rs : List (List Nat × List Nat)) : (vT zs place rs).map (·.1) = cx zs place rs := by
 unfold vT cx dn
 rw [List.map_append, List.map_map, List.map_map]
 rfl
theorem Cf (zs : List Cs) (i : Nat) (r : List Nat × List Nat) : aT zs i r ≠ [] := by
 unfold aT
 split
 ·exact fun h => by cases h
 ·exact fun h => by cases h
theorem Ha (zs : List Cs) (i : Nat) (r : List Nat × List Nat) : MA 0 (aT zs i r) := by
 unfold aT
 by_cases h1 : r.1 = []
 ·rw [if_pos h1]
  by_cases h2 : r.2 = []
  ·rw [if_pos h2]; exact ⟨Nat.le_of_ble_eq_true rfl, Nat.le_of_ble_eq_true rfl, trivial⟩
  ·rw [if_neg h2]; exact ⟨Nat.le_of_ble_eq_true rfl, Nat.le_of_ble_eq_true rfl, Nat.le_of_ble_eq_true rfl, Nat.le_of_ble_eq_true rfl, trivial⟩
 ·rw [if_neg h1]
  by_cases h2 : r.2 = [] <;> by_cases h3 : i % 2 = 1
  ·rw [if_pos h2, if_pos h3]; exact ⟨Nat.le_of_ble_eq_true rfl, Nat.le_of_ble_eq_true rfl, Nat.le_of_ble_eq_true rfl, Nat.le_of_ble_eq_true rfl, trivial⟩
  ·rw [if_pos h2, if_neg h3]; exact ⟨Nat.le_of_ble_eq_true rfl, Nat.le_of_ble_eq_true rfl, trivial⟩
  ·rw [if_neg h2, if_pos h3]; exact ⟨Nat.le_of_ble_eq_true rfl, Nat.le_of_ble_eq_true rfl, Nat.le_of_ble_eq_true rfl, Nat.le_of_ble_eq_true rfl, Nat.le_of_ble_eq_true rfl, Nat.le_of_ble_eq_true rfl, trivial⟩
  ·rw [if_neg h2, if_neg h3]; exact ⟨Nat.le_of_ble_eq_true rfl, Nat.le_of_ble_eq_true rfl, Nat.le_of_ble_eq_true rfl, Nat.le_of_ble_eq_true rfl, trivial⟩
theorem Ea (zs : List Cs) (i : Nat) (r : List Nat × List Nat) : ∃ x ∈ aT zs i r, x.1 = 0 ∨ x.1 = 1 := by
 unfold aT
 by_cases h1 : r.1 = []
 ·rw [if_pos h1]; exact ⟨(1, [(zs ++ [zz]).getD 0 []]), by simp, .inr rfl⟩
 ·rw [if_neg h1]; exact ⟨(0, nm zs r.1), by simp, .inl rfl⟩
theorem rF {i : Nat} (h : i < 8) : aN (dm i) = true := by
 rcases (by omega : i = 0 ∨ i = 1 ∨ i = 2 ∨ i = 3 ∨ i = 4 ∨ i = 5 ∨ i = 6 ∨ i = 7) with e | e | e | e | e | e | e | e <;> subst e <;> decide +kernel
theorem yX (zs : List Cs) (i : Nat) (r : List Nat × List Nat) : eT 0 (aT zs i r) = nm zs r.1 := by
 unfold aT
 by_cases h1 : r.1 = []
 ·rw [if_pos h1, h1]
  by_cases h2 : r.2 = []
  ·rw [if_pos h2]; rfl
  ·rw [if_neg h2]; rfl
 ·rw [if_neg h1]
  rfl
theorem Kh (zs : List Cs) (i : Nat) (r : List Nat × List Nat) : eT 3 (aT zs i r) = if r.1 = [] then (if r.2 = [] then [] else [zz]) else nm zs r.2 := by
 unfold aT
 by_cases h1 : r.1 = []
 ·rw [if_pos h1, if_pos h1]
  by_cases h2 : r.2 = []
  ·rw [if_pos h2, if_pos h2]; rfl
  ·rw [if_neg h2, if_neg h2]; rfl
 ·rw [if_neg h1, if_neg h1]
  by_cases h2 : r.2 = [] <;> by_cases h3 : i % 2 = 1
  ·rw [if_pos h2, if_pos h3, h2]; rfl
  ·rw [if_pos h2, if_neg h3, h2]; rfl
  ·rw [if_neg h2, if_pos h3]; rfl
  ·rw [if_neg h2, if_neg h3]; rfl
theorem Eb {zs : List Cs} {l : List Nat} (hl : ∀ n ∈ l, n < zs.length) : ∀ x ∈ nm zs l, x ∈ zs := by
 intro x hx
 obtain ⟨n, hn, rfl⟩ := List.mem_map.mp hx
 have h := hl n hn
 rw [Gd9, Ge9 h]
 exact List.getElem_mem h
theorem Ki {zs : List Cs} {i : Nat} {r : List Nat × List Nat} (ok : D8 zs.length r) : ∀ x ∈ aT zs i r, ∀ z ∈ x.2, z ∈ zs ∨ z = zz := by
 have first : (zs ++ [zz]).getD 0 [] ∈ zs ∨ (zs ++ [zz]).getD 0 [] = zz := by
  cases zs with
  | nil => exact .inr rfl
  | cons a t => exact .inl List.mem_cons_self
 intro x hx z hz
 unfold aT at hx
 by_cases h1 : r.1 = []
 ·rw [if_pos h1] at hx
  rcases List.mem_append.mp hx with hx | hx
  ·rw [List.mem_singleton.mp hx] at hz
   rw [List.mem_singleton.mp hz]
   exact first
  ·by_cases h2 : r.2 = []
   ·rw [if_pos h2] at hx; cases hx
   ·rw [if_neg h2] at hx
    rw [List.mem_singleton.mp hx] at hz
    exact .inr (List.mem_singleton.mp hz)
 ·rw [if_neg h1] at hx
  have hz0 : 0 < zs.length := by
   obtain ⟨a, t, e⟩ := List.exists_cons_of_ne_nil h1
   exact Nat.lt_of_le_of_lt (Nat.zero_le _) (ok.m1 a (by rw [e]; simp))
  rcases List.mem_append.mp hx with hx | hx
  ·rcases List.mem_append.mp hx with hx | hx
   ·rw [List.mem_singleton.mp hx] at hz
    exact .inl (Eb ok.m1 z hz)
   ·by_cases h3 : i % 2 = 1
    ·rw [if_pos h3] at hx
     rw [List.mem_singleton.mp hx] at hz
     rw [List.mem_singleton.mp hz, Gd9, Ge9 (by omega)]
     exact .inl (List.getElem_mem _)
    ·rw [if_neg h3] at hx; cases hx
  ·by_cases h2 : r.2 = []
   ·rw [if_pos h2] at hx; cases hx
   ·rw [if_neg h2] at hx
    rw [List.mem_singleton.mp hx] at hz
    exact .inl (Eb ok.m2 z hz)
theorem Kj (zs : List Cs) (place : Nat) : (oC zs place).map (·.n) = zs.take place ++ [zz] ++ zs.drop place := by
 unfold oC
 rw [List.map_append, List.map_append, List.map_map, List.map_map]
 rw [show ((fun x : Kd => x.n) ∘ kdOf) = id from rfl, List.map_id, List.map_id]
 rfl
theorem F4 (zs : List Cs) (place : Nat) : ((oC zs place).filter (·.l)).map (·.n) = [zz] := by
 have e : ∀ l : List Cs, (l.map kdOf).filter (·.l) = [] := fun l => by
  rw [List.filter_eq_nil_iff]
  intro k hk
  obtain ⟨z, _, rfl⟩ := List.mem_map.mp hk
  simp
 unfold oC
 rw [List.filter_append, List.filter_append, e, e]
 rfl
theorem F5 (zs : List Cs) (place : Nat) : passing (oC zs place) = zs := by
 have e : ∀ l : List Cs, (l.map kdOf).filter (fun k => !k.l) = l.map kdOf := fun l => by
  rw [List.filter_eq_self]
  intro k hk
  obtain ⟨z, _, rfl⟩ := List.mem_map.mp hk
  rfl
 unfold passing oC
 rw [List.filter_append, List.filter_append, e, e, List.map_append, List.map_append, List.map_map, List.map_map]
 rw [show ((fun x : Kd => x.n) ∘ kdOf) = id from rfl, List.map_id, List.map_id]
 show zs.take place ++ [] ++ zs.drop place = zs
 rw [List.append_nil, List.take_append_drop]
theorem Pm {zs : List Cs} {place : Nat} {z : Cs} (h : z ∈ zs ∨ z = zz) : oV (oC zs place) (bare z) := by
 rcases h with h | h
 ·refine ⟨kdOf z, ?_, rfl, rfl⟩
  unfold oC
  rw [← List.take_append_drop place zs, List.mem_append] at h
  rw [List.mem_append, List.mem_append]
  rcases h with h | h
  ·exact .inl (.inl (List.mem_map.mpr ⟨z, h, rfl⟩))
  ·exact .inr (List.mem_map.mpr ⟨z, h, rfl⟩)
 ·subst h
  refine ⟨R7, ?_, rfl, rfl⟩
  unfold oC
  simp
theorem Hb {n : Nat} {L : List PN} : eT n L = [] ∨ ∃ x ∈ L, eT n L = x.2 := by
 unfold eT
 cases e : L.find? fun x => x.1 == n with
 | none => exact .inl rfl
 | some x => exact .inr ⟨x, List.mem_of_find?_eq_some e, rfl⟩
theorem gz {n : Nat} {L : List PN} (h : jF L) : (eT n L).length ≤ 4 ∧ ∀ z ∈ eT n L, aN z = true := by
 rcases Hb (n := n) (L := L) with e | ⟨x, hx, e⟩
 ·rw [e]; exact ⟨by decide, fun z hz => by cases hz⟩
 ·rw [e]; exact ⟨(h.each x hx).2, (h.each x hx).1.sm⟩
theorem R9 {L : List PN} (t : Cs) (h : jF L) : Mo (hZ t (L.map je)) := by
 rw [ij]
 have h0 := gz (n := 0) h
 have h1 := gz (n := 1) h
 refine ⟨fun f hf => ?_, ?_, ?_⟩
 ·rcases List.mem_append.mp hf with hf | hf
  ·obtain ⟨z, hz, rfl⟩ := List.mem_map.mp hf
   exact ⟨h0.2 z hz, Nat.zero_le _, fun a ha => by cases ha⟩
  ·obtain ⟨z, hz, rfl⟩ := List.mem_map.mp hf
   exact ⟨h1.2 z hz, Nat.zero_le _, fun a ha => by cases ha⟩
 ·show ((eT 0 L).map bare ++ (eT 1 L).map bare).length ≤ _
  rw [List.length_append, Lm9, Lm9]
  omega
 ·show (((eT 0 L).map bare ++ (eT 1 L).map bare).flatMap (·.as)).length ≤ _
  rw [List.flatMap_append, qm, qm]
  exact Nat.zero_le _
theorem MI {zs : List Cs} {place i : Nat} {r : List Nat × List Nat} (hz : ∀ z ∈ zs, aN z = true) (Qn : ∀ z ∈ zs, z ≠ zz) (ok : D8 zs.length r) : DN (oC zs place) (hZ (dm i) ((aT zs i r).map je)) := by
 have hP := jf (i := i) hz ok
 have fits : ∀ n, ∀ f ∈ (eT n (aT zs i r)).map bare, oV (oC zs place) f := fun n f hf => by
  obtain ⟨z, FK, rfl⟩ := List.mem_map.mp hf
  obtain ⟨x, hx, hzx⟩ := JT FK
  exact Pm (Ki ok x hx z hzx)
 have Kk : dM (hZ (dm i) ((aT zs i r).map je)) = [] := by
  rw [ij]
  show [] ++ (((eT 3 (aT zs i r)).map bare).flatMap (·.as) ++ []) = []
  rw [qm]
  rfl
 refine ⟨?_, ?_, ?_, ?_, ?_, ?_, ?_⟩
 ·rw [ij]
  intro f hf
  rcases List.mem_append.mp hf with hf | hf
  ·rcases List.mem_append.mp hf with hf | hf
   ·exact fits 0 f hf
   ·exact fits 1 f hf
  ·exact fits 3 f hf
 ·rw [ij, F4]
  intro f hf
  have hf : f ∈ (eT 0 (aT zs i r)).map bare := hf
  rw [yX] at hf
  obtain ⟨z, FK, rfl⟩ := List.mem_map.mp hf
  exact fun h => Qn z (Eb ok.m1 z FK) (List.mem_singleton.mp h)
 ·rw [ij, F4]
  intro ht f hf
  have ht : (eT 0 (aT zs i r)).map bare = [] := ht
  have hf : f ∈ (eT 3 (aT zs i r)).map bare := hf
  rw [yX] at ht
  have h1 : r.1 = [] := List.map_eq_nil_iff.mp (List.map_eq_nil_iff.mp ht)
  rw [Kh, if_pos h1] at hf
  obtain ⟨z, FK, rfl⟩ := List.mem_map.mp hf
  by_cases h2 : r.2 = []
  ·rw [if_pos h2] at FK; cases FK
  ·rw [if_neg h2] at FK; exact FK
 ·rw [Kk]; exact fun a ha => by cases ha
 ·rw [Kk]; exact fun a ha => by cases ha
 ·rw [Kk]; exact Nat.zero_le _
 ·rw [ij]
  have h0 := gz (n := 0) hP
  have h1 := gz (n := 1) hP
  have h3 := gz (n := 3) hP
  show (((eT 0 (aT zs i r)).map bare ++ (eT 1 (aT zs i r)).map bare) ++ (eT 3 (aT zs i r)).map bare).length ≤ _
  rw [List.length_append, List.length_append, Lm9, Lm9, Lm9]
  omega
theorem uB {zs : List Cs} {place : Nat} {rs : List (List Nat × List Nat)} (T : lB zs place rs) {i : Nat} (h : i < rs.length) : D8 zs.length (rowAt rs i) := by
 refine T.ok _ ?_
 show rs.getD i ([], []) ∈ rs
 rw [Gd9, Ge9 h]
 exact List.getElem_mem h
theorem MJ {zs : List Cs} {place : Nat} {rs : List (List Nat × List Nat)} : ∀ l ∈ cx zs place rs, told l = true := by
 intro l hl
 unfold cx at hl
 rcases List.mem_append.mp hl with hl | hl
 ·obtain ⟨k, _, rfl⟩ := List.mem_map.mp hl
  rw [nJ]
  exact DR
 ·unfold dn at hl
  obtain ⟨i, _, rfl⟩ := List.mem_map.mp hl
  exact G6 _ _
theorem Kl {zs : List Cs} {place : Nat} {rs : List (List Nat × List Nat)} (T : lB zs place rs) {f : Nat → Bool} (Ia : ∀ c, bp c = true → f c = true) (DQ : f 32 = true) (Pf : f 44 = true) (WK : f 58 = true) (WL : f 59 = true) : ∀ l ∈ cx zs place rs, l.all f = true := by
 intro l hl
 have hm := T.many
 unfold cx at hl
 rcases List.mem_append.mp hl with hl | hl
 ·obtain ⟨k, hk, rfl⟩ := List.mem_map.mp hl
  have h := D9 T k hk
  rw [nJ]
  exact GX DQ Ia h.1 h.2
 ·unfold dn at hl
  obtain ⟨i, hi, rfl⟩ := List.mem_map.mp hl
  have hi := List.mem_range.mp hi
  exact JR Ia DQ Pf WK WL (rF (by omega)) fun x hx => ((jf T.sm (uB T hi)).each x hx).1
theorem MK {zs : List Cs} {place : Nat} {rs : List (List Nat × List Nat)} (T : lB zs place rs) : ND (cx zs place rs) (vT zs place rs) := by
 have hm := T.many
 have hf := T.few
 have e := yW zs place rs
 refine ⟨?_, ?_, ?_, ?_, ?_, ?_⟩
 ·rw [F3]
  exact List.filter_eq_self.mpr MJ
 ·intro x hx
  have h1 : x.1 ∈ cx zs place rs := by rw [← F3]; exact List.mem_map.mpr ⟨x, hx, rfl⟩
  refine ⟨Kl T (fun c h => OY h) (by decide +kernel) (by decide +kernel) (by decide +kernel) (by decide +kernel) _ h1, ?_⟩
  unfold vT at hx
  rcases List.mem_append.mp hx with hx | hx
  ·obtain ⟨k, hk, rfl⟩ := List.mem_map.mp hx
   have h := D9 T k hk
   refine ⟨?_, h⟩
   show toks (bH k) = xC k
   rw [nJ]
   exact DP h.1 h.2 (by decide) (by decide)
  ·obtain ⟨i, hi, rfl⟩ := List.mem_map.mp hx
   have hi := List.mem_range.mp hi
   have hP := jf (i := i) T.sm (uB T hi)
   have ht := rF (i := i) (by omega)
   exact ⟨G5 ht (Cf _ _ _) fun x hx => (hP.each x hx).1, Pg ht (Cf _ _ _) (fun x hx => (hP.each x hx).1) (Ha _ _ _) (Ea _ _ _), R9 _ hP⟩
 ·rw [e.1, Kj]
  have hn := T.nd
  rw [← List.take_append_drop place zs] at hn
  have Qn : zz ∉ zs := fun h => T.nz zz h rfl
  rw [List.nodup_append] at hn
  rw [List.append_assoc, List.nodup_append]
  refine ⟨hn.1, ?_, ?_⟩
  ·show (zz :: zs.drop place).Nodup
   rw [List.nodup_cons]
   exact ⟨fun h => Qn (List.mem_of_mem_drop h), hn.2.1⟩
  ·intro a ha b hb
   rcases List.mem_cons.mp hb with hb | hb
   ·rw [hb]
    exact fun h => Qn (by rw [← h]; exact List.mem_of_mem_take ha)
   ·exact hn.2.2 a ha b hb
 ·rw [e.2]
  unfold Kg
  rw [List.map_map, show ((fun r : Rl => r.title) ∘ fun i => hZ (dm i) (G9 zs rs i)) = dm from rfl]
  refine List.Pairwise.map dm ?_ List.nodup_range
  intro a b h h2
  have : 48 + a = 48 + b := (List.cons.inj (List.cons.inj h2).2).1
  omega
 ·rw [e.1, e.2]
  intro r hr
  unfold Kg at hr
  obtain ⟨i, hi, rfl⟩ := List.mem_map.mp hr
  exact MI T.sm T.nz (uB T (List.mem_range.mp hi))
 ·unfold vT oC
  rw [List.length_append, Lm9, List.length_append, List.length_append, Lm9, Lm9, Lm9, List.length_range, List.length_take, List.length_drop]
  show _ + 1 + _ + _ < _
  omega
theorem yY {zs : List Cs} (hn : zs.Nodup) {k : Nat} (hk : k < zs.length) : ∀ (l : List Nat), (∀ n ∈ l, n < zs.length) → many zs[k] ((nm zs l).map bare) = l.count k
 | [], _ => rfl
 | n :: l, h => by
  have ih := yY hn hk l fun m hm => h m (List.mem_cons_of_mem _ hm)
  have Ik := h n List.mem_cons_self
  have e : zs.getD n [] = zs[n] := by rw [Gd9, Ge9 Ik]; rfl
  unfold many at ih ⊢
  show ((bare (zs.getD n []) :: (nm zs l).map bare).filter fun f => decide (f.k = zs[k])).length = _
  rw [List.filter_cons, List.count_cons]
  by_cases e2 : n = k
  ·subst e2
   rw [if_pos (by rw [e]; exact decide_eq_true rfl), List.length_cons, ih]
   simp
  ·have ne : ¬ (bare (zs.getD n [])).k = zs[k] := by
    show ¬ zs.getD n [] = zs[k]
    rw [e]
    exact fun h => e2 ((List.getElem?_inj Ik hn).mp (by rw [Ge9 Ik, Ge9 hk, h]))
   rw [if_neg (by rw [decide_eq_false ne]; decide), ih]
   simp [e2]
theorem ML {zs : List Cs} (hn : zs.Nodup) (Qn : ∀ z ∈ zs, z ≠ zz) {i : Nat} {r : List Nat × List Nat} (ok : D8 zs.length r) : lC zs.length r = zs.map (JW (hZ (dm i) ((aT zs i r).map je))) := by
 have ez : ∀ g : Cs → Int, zs.map g = (List.range zs.length).map fun k => g (zs.getD k []) := fun g => by
  apply List.ext_getElem
  ·simp
  ·intro k h1 h2
   simp at h1 h2
   simp [Gd9, h1]
 have hg : ∀ k, k < zs.length → zs.getD k [] ∈ zs := fun k hk => by
  rw [Gd9, Ge9 hk]
  exact List.getElem_mem hk
 rw [ij, ez]
 unfold lC
 simp only [Kf]
 rw [yX, Kh]
 by_cases h1 : r.1 = []
 ·rw [if_pos h1, if_pos h1, h1]
  have hz : ∀ z ∈ zs, many z ((if r.2 = [] then ([] : List Cs) else [zz]).map bare) = 0 := fun z hz => by
   by_cases h2 : r.2 = []
   ·rw [if_pos h2]; rfl
   ·rw [if_neg h2]
    unfold many
    show ((([bare zz] : List Fc)).filter fun f => decide (f.k = z)).length = 0
    rw [List.filter_cons, if_neg (by rw [decide_eq_false (show ¬ (bare zz).k = z from fun h => Qn z hz h.symm)]; decide)]
    rfl
  symm
  rw [List.eq_replicate_iff]
  refine ⟨by simp, fun b hb => ?_⟩
  obtain ⟨k, hk, rfl⟩ := List.mem_map.mp hb
  rw [hz _ (hg k (List.mem_range.mp hk))]
  rfl
 ·rw [if_neg h1, if_neg h1]
  refine List.map_congr_left fun k hk => ?_
  have hk := List.mem_range.mp hk
  have e : zs.getD k [] = zs[k] := by rw [Gd9, Ge9 hk]; rfl
  rw [e, yY hn hk _ ok.m2, yY hn hk _ ok.m1]
theorem MM {zs : List Cs} {place : Nat} {rs : List (List Nat × List Nat)} (T : lB zs place rs) : rs.map (lC zs.length) = (Kg zs rs).map fun r => (passing (oC zs place)).map (JW r) := by
 rw [F5]
 unfold Kg
 rw [List.map_map]
 apply List.ext_getElem
 ·simp
 ·intro i h1 h2
  simp at h1 h2
  have hr := uB T h1
  rw [List.getElem_map, List.getElem_map, List.getElem_range]
  have e : rs[i] = rowAt rs i := by
   show _ = rs.getD i ([], [])
   rw [Gd9, Ge9 h1]
   rfl
  rw [e]
  exact ML T.nd T.nz hr
end Bk
namespace Bk
open PySem L2 f9
def Km (K : PySem.W.Frag) : Sp := fun vs H Q _ => ∃ (ln lr : Addr) (zs : List Cs) (rs : List RI) (us : List V), vs = [.ref ln, .ref lr] ∧ H ln = some (.lst (zs.map tx)) ∧ H lr = some (.lst us) ∧ Paired (uu K H) rs us ∧ zs.length ≤ 5 ∧ rs.length ≤ 8 ∧ (∀ r ∈ rs, r.1.length ≤ 4 ∧ r.2.length ≤ 4) ∧
 ∀ u H', ag H H' → Table H H' u (rs.map (lC zs.length)) → Q u H'
theorem F6 (l : List Nat) : (nI l).all eU = true := by
 rw [List.all_eq_true]
 intro x hx
 obtain ⟨n, _, rfl⟩ := List.mem_map.mp hx
 rfl
theorem pB (n : Nat) : (List.replicate n [V.int 0]).flatten = (List.replicate n (0 : Int)).map V.int := by
 induction n with
 | zero => rfl
 | succ n ih => rw [List.replicate_succ, List.flatten_cons, ih, List.replicate_succ]; rfl
theorem Cg (l : List Nat) (k : Nat) : (nI l).countP (fun z => vE z (V.int (k : Int))) = l.count k := by
 induction l with
 | nil => rfl
 | cons n l ih =>
  show (V.int (n : Int) :: nI l).countP _ = _
  rw [List.countP_cons, List.count_cons, ih]
  by_cases e : n = k
  ·subst e
   simp [vE]
  ·have z : ¬ ((n : Int) = (k : Int)) := by omega
   simp [vE, e, z]
end Bk
namespace L2
open PySem PySem.Spec PyProof.Rows
section
variable {g : TG} {tt : TT} {te : TE} {aE : List Nat} {σ : St} {H1 : Hp} {Q : VK} {K : PySem.W.Frag}
theorem Kn {k : Nat} {a b D : Addr} {xs ys : List V} (n : Nat) (hx : xs.length = n) (hy : ys.length = n) (hn : n < sizeLine) (Pv : Nat → List V → St → Hp → Prop) (h0 : Pv 0 [] (nK k σ aE) (upd H1 D (.lst [])))
  (hl : ∀ i zs τ H, Pv i zs τ H → ax K H a xs ∧ ax K H b ys) (hD : ∀ i zs τ H, Pv i zs τ H → H D = some (.lst zs) ∧ zs.length ≤ i)
  (hs : ∀ i zs τ H t v u, i < n → Pv i zs τ H → xs[i]? = some v → ys[i]? = some u → H t = none → g (.ref t) τ (upd H t (.tup [v, u])) fun τ2 H2 => tt τ2 H2 fun b H3 =>
   if b = true then te τ2 H3 fun y H4 => H4 D = some (.lst zs) ∧ Pv (i + 1) (zs ++ [y]) τ2 (upd H4 D (.lst (zs ++ [y]))) else Pv (i + 1) zs τ2 H3)
  (hd : ∀ zs τ H, Pv n zs τ H → Q (.ref D) H) : JB k g tt te aE σ Q (U0 K a b) H1 D := by
 refine ⟨fun i m zs τ H => m = n - i ∧ i ≤ n ∧ Pv i zs τ H, ⟨n, by simp, Nat.zero_le _, h0⟩, ?_⟩
 rintro i m zs τ H ⟨rfl, hi, p⟩
 obtain ⟨hU, U3⟩ := hD i zs τ H p
 obtain ⟨ha, hb⟩ := hl i zs τ H p
 refine ⟨hU, by omega, ?_⟩
 by_cases fz : i < n
 ·refine .inr ⟨⟨xs, ys, xs[i], ys[i], ha, hb, by simp, by simp⟩, Pv (i + 1), fun zs τ H' q => ⟨n - (i + 1), by omega, rfl, fz, q⟩, fun x H' y => ?_⟩
  obtain ⟨t, v, u, ht, rfl, rfl, h1, h2⟩ := y
  exact hs i zs τ H t v u fz p (h1 xs ha) (h2 ys hb) ht
 ·have e : i = n := by omega
  subst e
  exact .inl ⟨⟨xs, ys, ha, hb, .inl (by omega)⟩, hd zs τ H p⟩
end
end L2
namespace Bk
open PySem L2 f9
def dot (xs ys : List Int) : Int := ((xs.zip ys).map fun p => p.1 * p.2).sum
abbrev sm (i : Int) : Prop := -(2 ^ 64) < i ∧ i < 2 ^ 64
def Ec : Sp := fun vs H Q _ => ∃ (a b : Addr) (xs ys : List Int), vs = [.ref a, .ref b] ∧ H a = some (.lst (xs.map V.int)) ∧ H b = some (.lst (ys.map V.int)) ∧ xs.length = ys.length ∧ xs.length ≤ 1000 ∧ (∀ i ∈ xs, sm i) ∧ ∀ H', ag H H' → Q (.int (dot xs ys)) H'
abbrev Pn : Str := Str.ofString "stays"
abbrev Po : Str := Str.ofString "never grows"
abbrev WN : Str := Str.ofString "never falls"
def brk (s : Str) (c : Int) : Bool := if decide (V.str s = V.str Pn) = true then !decide (V.int c = V.int 0) else if decide (V.str s = V.str Po) = true then decide (0 < c) else decide (c < 0)
theorem Ko {xs ys : List Int} {i : Nat} (h1 : i < xs.length) (h2 : i < ys.length) : dot (xs.take (i + 1)) (ys.take (i + 1)) = dot (xs.take i) (ys.take i) + xs[i] * ys[i] := by
 unfold dot
 rw [List.take_succ, List.take_succ, Ge9 h1, Ge9 h2, List.zip_append (by rw [List.length_take, List.length_take]; omega)]
 simp
theorem Pp {r : Rl} {z : Cs} (h1 : r.put.length ≤ 10000) (h2 : r.take.length ≤ 10000) : sm (JW r z) := by
 unfold JW sm
 have a1 := List.length_filter_le (fun f : Fc => decide (f.k = z)) r.put
 have a2 := List.length_filter_le (fun f : Fc => decide (f.k = z)) r.take
 omega
end Bk
namespace L2
open PySem
end L2
namespace Bk
open PySem L2 f9
def rT (H : Hp) (r : List Int) (v : V) : Prop := ∃ a, v = .ref a ∧ H a = some (.lst (r.map V.int))
theorem rT.same {H H' : Hp} {r : List Int} {v : V} (s : ag H H') (h : rT H r v) : rT H' r v := by
 obtain ⟨a, e, h⟩ := h
 exact ⟨a, e, s _ _ h⟩
theorem kN.row {H0 H : Hp} {r : List Int} {v : V} (h : kN H0 H r v) : rT H r v := by
 obtain ⟨a, e, _, h⟩ := h
 exact ⟨a, e, h⟩
def Ed (r : List Int) : V := if La.fp r < r.length then .int (La.fp r : Nat) else .cL
theorem lg {n B C : Nat} (h : n ≤ 2 ^ B) (hB : B + 1 ≤ C) (hC : 0 < C) : n.log2 < C := by
 by_cases h0 : n = 0
 ·subst h0
  exact hC
 ·rw [Nat.log2_lt h0]
  exact Nat.lt_of_le_of_lt h (Nat.pow_lt_pow_right (by decide) (by omega))
def Ee : Sp := fun vs H Q _ => ∃ (a : Addr) (r : List Int), vs = [.ref a] ∧ H a = some (.lst (r.map V.int)) ∧ r.length ≤ 1000 ∧ ∀ H', ag H H' → Q (Ed r) H'
def Kq : Sp := fun vs H Q _ => ∃ (a : Addr) (r : List Int), vs = [.ref a] ∧ H a = some (.lst (r.map V.int)) ∧ Q (.int (La.ua r : Nat)) H
def Kr (H : Hp) (Q : VK) (r : List Int) : Prop := ∀ (p : Addr) (H' : Hp), ag H H' → H p = none → H' p = some (.lst (r.map V.int)) → Q (.ref p) H'
def yZ : Sp := fun vs H Q _ => ∃ (a : Addr) (r : List Int) (B : Nat), vs = [.ref a] ∧ H a = some (.lst (r.map V.int)) ∧ La.Bd B r ∧ B ≤ 8000 ∧ r.length ≤ 1000 ∧ Kr H Q (La.slim r)
def y0 : Sp := fun vs H Q _ => ∃ (a b : Int) (u v : Addr) (x y : List Int) (B : Nat), vs = [.int a, .ref u, .int b, .ref v] ∧ H u = some (.lst (x.map V.int)) ∧ H v = some (.lst (y.map V.int)) ∧ x.length = y.length ∧ x.length ≤ 1000 ∧ a.natAbs ≤ 2 ^ B ∧ b.natAbs ≤ 2 ^ B ∧ La.Bd B x ∧ La.Bd B y ∧ B ≤ 50000 ∧ Kr H Q (La.iY a x b y)
def Ks : Sp := fun vs H Q _ => ∃ (u v : Addr) (row lead : List Int) (p B : Nat), vs = [.ref u, .ref v, .int (p : Int)] ∧ H u = some (.lst (row.map V.int)) ∧ H v = some (.lst (lead.map V.int)) ∧ row.length = lead.length ∧ p < row.length ∧ row.length ≤ 1000 ∧ La.Bd B row ∧ La.Bd B lead ∧ B ≤ 3000 ∧ Kr H Q (La.m4 lead p row)
def Pq : Sp := fun vs H Q _ => ∃ (l : Addr) (us : List V) (rows : List (List Int)), vs = [.ref l] ∧ H l = some (.lst us) ∧ Paired (rT H) rows us ∧ rows.length ≤ 1000 ∧ (∀ r ∈ rows, r.length ≤ 1000) ∧ ∀ (p : Addr) (ws : List V) (H' : Hp), ag H H' → H p = none → H' p = some (.lst ws) → (∀ w ∈ ws, w ∈ us) → Paired (rT H') (La.wo rows) ws → Q (.ref p) H'
def y4 : Sp := fun vs H Q _ => ∃ (a : Addr) (r : List Int) (B : Nat), vs = [.ref a] ∧ H a = some (.lst (r.map V.int)) ∧ La.Bd B r ∧ B ≤ 8000 ∧ r.length ≤ 1000 ∧ La.fp r < r.length ∧ Kr H Q (La.above r)
def Kt : Sp := fun vs H Q _ => ∃ (l : Addr) (us : List V) (rows : List (List Int)) (w B : Nat), vs = [.ref l] ∧ H l = some (.lst us) ∧ Paired (rT H) rows us ∧ rows.length ≤ 500 ∧ w ≤ 1000 ∧ (∀ r ∈ rows, r.length = w) ∧ (∀ r ∈ rows, La.Bd B r) ∧ (B + 1) * 2 ^ rows.length ≤ 3000 ∧ ∀ u H', ag H H' → Table H H' u (La.reduced rows) → Q u H'
def Ef : Sp := fun vs H Q _ => ∃ (l : Addr) (us : List V) (R : List (List Int)) (f w B : Nat), vs = [.ref l, .int (f : Int), .int (w : Int)] ∧ H l = some (.lst us) ∧ Paired (rT H) R us ∧ La.BZ w R ∧ (∀ r ∈ R, La.Bd B r) ∧ f < w ∧ w ≤ 1000 ∧ R.length * B + B ≤ 4000 ∧ R.length ≤ 500 ∧ Kr H Q (La.b7 R f w)
def y6 (K : PySem.W.Frag) (c : Cl) : Sp := fun vs H Q _ => ∃ (v : V) (H0 : Hp) (ks : List Kd) (rs : List Rl), vs = [v] ∧ tN K c H0 H ks rs v ∧ ks.length ≤ 10000 ∧ rs.length ≤ 8 ∧ (∀ r ∈ rs, r.put.length ≤ 4 ∧ r.take.length ≤ 4) ∧ (passing ks).length ≤ 5 ∧ ∀ u H', ag H H' → Table H H' u (La.dv (uq ks rs) (passing ks).length) → Q u H'
end Bk
namespace Bk
open PySem L2 f9
theorem y7 (xs : List (List Int)) : ∀ (r : List (List Int)) (n bi : Nat) (b0 : List Int), xs.drop n = r → xs[bi]? = some b0 → bi < n → gw (fun i => ((La.fp (xs.getD i []) : Nat) : Int)) n bi →
  ∃ i, xs[i]? = some (r.foldl (fun a b => if La.fp b < La.fp a then b else a) b0) ∧ gw (fun i => ((La.fp (xs.getD i []) : Nat) : Int)) xs.length i
 | [], n, bi, b0, hd, hb, fz, hm => by
  have hn : xs.length ≤ n := List.drop_eq_nil_iff.mp hd
  exact ⟨bi, hb, fun j hj => hm j (by omega)⟩
 | t :: r, n, bi, b0, hd, hb, fz, hm => by
  have Sa : n < xs.length := by
   rcases Nat.lt_or_ge n xs.length with q | q
   ·exact q
   ·rw [List.drop_eq_nil_of_le q] at hd; cases hd
  rw [List.drop_eq_getElem_cons Sa] at hd
  obtain ⟨e1, e2⟩ := List.cons.inj hd
  have hn : xs[n]? = some t := by rw [Ge9 Sa, e1]
  have g1 : xs.getD n [] = t := by rw [Gd9, hn]; rfl
  have g2 : xs.getD bi [] = b0 := by rw [Gd9, hb]; rfl
  rw [List.foldl_cons]
  by_cases h : La.fp t < La.fp b0
  ·rw [if_pos h]
   refine y7 xs r (n + 1) n t e2 hn (by omega) fun j hj => ?_
   show ((La.fp (xs.getD n []) : Nat) : Int) ≤ ((La.fp (xs.getD j []) : Nat) : Int) ∧ (j < n → ((La.fp (xs.getD n []) : Nat) : Int) < ((La.fp (xs.getD j []) : Nat) : Int))
   rw [g1]
   rcases Nat.lt_or_ge j n with q | q
   ·have y : ((La.fp (xs.getD bi []) : Nat) : Int) ≤ ((La.fp (xs.getD j []) : Nat) : Int) := (hm j q).1
    rw [g2] at y
    exact ⟨by omega, fun _ => by omega⟩
   ·have e : j = n := by omega
    subst e
    rw [g1]
    exact ⟨Int.le_refl _, fun q => by omega⟩
  ·rw [if_neg h]
   refine y7 xs r (n + 1) bi b0 e2 hb (by omega) fun j hj => ?_
   rcases Nat.lt_or_ge j n with q | q
   ·exact hm j q
   ·have e : j = n := by omega
    subst e
    show ((La.fp (xs.getD bi []) : Nat) : Int) ≤ ((La.fp (xs.getD j []) : Nat) : Int) ∧ (j < bi → _)
    rw [g1, g2]
    exact ⟨by omega, fun q => by omega⟩
theorem Eg {xs : List (List Int)} (h : xs ≠ []) : ∃ i, xs[i]? = some (La.vS xs) ∧ gw (fun i => ((La.fp (xs.getD i []) : Nat) : Int)) xs.length i := by
 cases xs with
 | nil => exact absurd rfl h
 | cons a r =>
  refine y7 (a :: r) r 1 0 a rfl rfl (by omega) fun j hj => ?_
  have e : j = 0 := by omega
  subst e
  exact ⟨Int.le_refl _, fun q => by omega⟩
theorem MN {n : Nat} {found : List (List Int)} : La.red n found [] = found := by
 cases n with
 | zero => rfl
 | succ n => unfold La.red; rw [if_pos rfl]
theorem Pu {n : Nat} {found left : List (List Int)} (h : left ≠ []) : La.red (n + 1) found left = La.red n (La.d5 found left) (La.jb left) := by
 show (if left = [] then found else La.red n (La.d5 found left) (La.jb left)) = _
 rw [if_neg h]
end Bk
namespace Bk
theorem F7 {r fr : Nat} (h : fr + r ≤ 5) : (r * (3 * 2 ^ r - 1) + (3 * 2 ^ r - 1) + 1) * 2 ^ fr ≤ 1000 ∧ r * (3 * 2 ^ r - 1) + (3 * 2 ^ r - 1) ≤ 1000 := by
 have hr : r ≤ 5 := by omega
 have x3 : ∀ k, fr ≤ k → 2 ^ fr ≤ 2 ^ k := fun k hk => Nat.pow_le_pow_right (by decide) hk
 rcases (by omega : r = 0 ∨ r = 1 ∨ r = 2 ∨ r = 3 ∨ r = 4 ∨ r = 5) with e | e | e | e | e | e <;> subst e
 ·exact ⟨Nat.le_trans (Nat.mul_le_mul_left _ (x3 5 (by omega))) (by decide), by decide⟩
 ·exact ⟨Nat.le_trans (Nat.mul_le_mul_left _ (x3 4 (by omega))) (by decide), by decide⟩
 ·exact ⟨Nat.le_trans (Nat.mul_le_mul_left _ (x3 3 (by omega))) (by decide), by decide⟩
 ·exact ⟨Nat.le_trans (Nat.mul_le_mul_left _ (x3 2 (by omega))) (by decide), by decide⟩
 ·exact ⟨Nat.le_trans (Nat.mul_le_mul_left _ (x3 1 (by omega))) (by decide), by decide⟩
 ·exact ⟨Nat.le_trans (Nat.mul_le_mul_left _ (x3 0 (by omega))) (by decide), by decide⟩
theorem rG {E : List (List Int)} {w : Nat} (hw : w ≤ 5) (hl : ∀ e ∈ E, e.length = w) (hb : ∀ e ∈ E, La.Bd 2 e) : (∀ r ∈ La.reduced E, La.Bd (3 * 2 ^ (La.reduced E).length - 1) r) ∧ (La.cN (La.reduced E) w).length + (La.reduced E).length ≤ 5 ∧ ∀ s ∈ La.dv E w, La.Bd 1000 s := by
 obtain ⟨R1, R2, _⟩ := La.jD hl
 have Qo := La.D4 (w := w) (La.wo E).length 2 [] (La.wo E) (La.jd hl) (Nat.le_refl _) fun r hr => by
  have h2 : r ∈ La.wo E := by simpa using hr
  exact hb r (List.mem_filter.mp h2).1
 have q5 := La.Ca R1
 refine ⟨Qo, by omega, fun s hs => ?_⟩
 have hY : ∀ y ∈ (La.cN (La.reduced E) w).map fun f => La.b7 (La.reduced E) f w, y.length = w := fun y hy => by
  obtain ⟨f, _, rfl⟩ := List.mem_map.mp hy
  exact La.bJ
 obtain ⟨h1, h2⟩ := F7 (r := (La.reduced E).length) (fr := (La.cN (La.reduced E) w).length) (by omega)
 have hbY : ∀ y ∈ (La.cN (La.reduced E) w).map fun f => La.b7 (La.reduced E) f w, La.Bd ((La.reduced E).length * (3 * 2 ^ (La.reduced E).length - 1) + (3 * 2 ^ (La.reduced E).length - 1)) y := fun y hy => by
  obtain ⟨f, _, rfl⟩ := List.mem_map.mp hy
  exact La.FY Qo
 have Qp := La.D4 (w := w) _ _ [] _ (La.jd hY) (Nat.le_refl _) (fun r hr => by
  have h2 : r ∈ La.wo ((La.cN (La.reduced E) w).map fun f => La.b7 (La.reduced E) f w) := by simpa using hr
  exact hbY r (List.mem_filter.mp h2).1) s hs
 refine Qp.mono ?_
 obtain ⟨_, _, _, d⟩ := La.yQ (w := w) _ [] _ (La.jd hY) (Nat.le_refl _)
 have Qc : (La.wo ((La.cN (La.reduced E) w).map fun f => La.b7 (La.reduced E) f w)).length ≤ (La.cN (La.reduced E) w).length := by
  have := List.length_filter_le (fun r : List Int => decide (La.fp r < r.length)) ((La.cN (La.reduced E) w).map fun f => La.b7 (La.reduced E) f w)
  rw [Lm9] at this
  exact this
 rw [List.length_nil, Nat.zero_add] at d
 have hp : 2 ^ ((La.red (La.wo ((La.cN (La.reduced E) w).map fun f => La.b7 (La.reduced E) f w)).length [] (La.wo ((La.cN (La.reduced E) w).map fun f => La.b7 (La.reduced E) f w))).length - ([] : List (List Int)).length) ≤ 2 ^ (La.cN (La.reduced E) w).length := Nat.pow_le_pow_right (by decide) (by rw [List.length_nil]; omega)
 have := Nat.le_trans (Nat.mul_le_mul_left ((La.reduced E).length * (3 * 2 ^ (La.reduced E).length - 1) + (3 * 2 ^ (La.reduced E).length - 1) + 1) hp) h1
 omega
end Bk
namespace Bk
open PySem L2 f9
theorem nP {x y C D : Nat} (hx : x ≤ 2 ^ C) (hy : y ≤ 2 ^ D) (h : D ≤ C) : x + y ≤ 2 ^ (C + 1) := by
 have := Nat.pow_le_pow_right (show 0 < 2 by decide) h
 rw [Nat.pow_succ]
 omega
theorem Ku (x : Int) : (x % 10 ^ 30 - 5 * 10 ^ 29).natAbs ≤ 2 ^ 100 := by
 have e1 : (10 : Int) ^ 30 = 1000000000000000000000000000000 := by decide
 have e2 : (10 : Int) ^ 29 = 100000000000000000000000000000 := by decide
 have e3 : (2 : Nat) ^ 100 = 1267650600228229401496703205376 := by decide
 rw [e1, e2, e3]
 omega
theorem Sb {s nums : List Int} {C : Nat} (OE : La.Bd 1000 s) (hb : La.Bd C nums) : La.Bd (C + 1001) (La.el s nums) := fun x hx => by
 unfold La.el La.iY at hx
 obtain ⟨p, hp, rfl⟩ := List.mem_map.mp hx
 have h1 : (s.getD (La.fp s) 0 * p.1).natAbs ≤ 2 ^ (C + 1000) := by
  rw [Int.natAbs_mul, Nat.add_comm, Nat.pow_add]
  exact Nat.mul_le_mul (OE.at _) (hb _ (List.of_mem_zip hp).1)
 have h2 : ((0 - nums.getD (La.fp s) 0) * p.2).natAbs ≤ 2 ^ (C + 1000) := by
  rw [Int.natAbs_mul, Nat.pow_add]
  exact Nat.mul_le_mul (La.qj (hb.at _)) (OE _ (List.of_mem_zip hp).2)
 exact Nat.le_trans (Int.natAbs_add_le _ _) (nP h1 h2 (Nat.le_refl _))
theorem Sd {s n : List Int} {w : Nat} (hs : s.length = w) (hn : n.length = w) : (List.range w).map (fun k => s.getD (La.fp s) 0 * n.getD k 0 - n.getD (La.fp s) 0 * s.getD k 0) = La.el s n := by
 refine La.dG ?_ fun i => ?_
 ·rw [La.qi hs hn, Lm9, List.length_range]
 ·unfold La.el
  rw [La.cK i (by omega)]
  by_cases h : i < w
  ·rw [Gd9, List.getElem?_map, List.getElem?_range h]
   show s.getD (La.fp s) 0 * n.getD i 0 - n.getD (La.fp s) 0 * s.getD i 0 = _
   rw [Int.sub_mul, Int.zero_mul]
   omega
  ·have e : ∀ l : List Int, l.length = w → l.getD i 0 = 0 := fun l hl => by rw [Gd9, List.getElem?_eq_none (by omega)]; rfl
   rw [e _ (by rw [Lm9, List.length_range]), e n hn, e s hs, Int.mul_zero, Int.mul_zero]
   rfl
def sR : Sp := fun vs H Q _ => ∃ (a : Addr) (r : List Int), vs = [.ref a] ∧ H a = some (.lst (r.map V.int)) ∧ r.length ≤ 1000 ∧ Q (.int (La.fp r : Nat)) H
def Eh : Sp := fun vs H Q _ => ∃ (l b : Addr) (us : List V) (S : List (List Int)) (nums : List Int) (w : Nat), vs = [.ref l, .ref b] ∧ H l = some (.lst us) ∧ Paired (rT H) S us ∧ H b = some (.lst (nums.map V.int)) ∧ w ≤ 1000 ∧ (∀ r ∈ S, r.length = w ∧ La.Bd 1000 r ∧ La.fp r < w) ∧ nums.length = w ∧ La.Bd 4000 nums ∧ S.length ≤ 20 ∧
 ∀ (p : Addr) (H' : Hp), ag H H' → H' p = some (.lst ((La.elim S nums).map V.int)) → Q (.ref p) H'
def Ei (K : PySem.W.Frag) : Sp := fun vs H Q _ => ∃ (s l : Addr) (ns : List Int) (us : List V) (S : List (List Int)) (m : Nat), vs = [.ref s, .ref l, .int (m : Int)] ∧ ax K H s (ns.map V.int) ∧ ns.length ≤ 63 ∧ H l = some (.lst us) ∧ Paired (rT H) S us ∧ (∀ r ∈ S, r.length = m ∧ La.Bd 1000 r) ∧ m ≤ 1000 ∧ S.length ≤ 20 ∧
 ∀ (p : Addr) (nums : List Int) (H' : Hp), ag H H' → H' p = some (.lst (nums.map V.int)) → nums.length = m → La.Bd 4000 nums → Q (.ref p) H'
end Bk
namespace gg
open PySem L2 f9 Bk
set_option maxHeartbeats 4000000
def top (i : Nat) : Stmt := PySem.Challenge.pw_poolrules_k36_all_that_stays.main.body.getD i (.Pass ⟨0, 0, 0, 0⟩)
abbrev U5 : Stmt := top 0
abbrev y8 : Stmt := top 2
abbrev qo : Stmt := top 3
abbrev qp : Stmt := top 4
abbrev qr : Stmt := top 5
abbrev iy : Stmt := top 6
abbrev qt : Stmt := top 8
abbrev fU : Stmt := top 9
abbrev uC : Stmt := top 10
abbrev nQ : Stmt := top 12
abbrev qv : Stmt := top 13
abbrev d6 : Stmt := top 14
abbrev gA : Stmt := top 15
abbrev iz : Stmt := top 16
abbrev fV : Stmt := top 31
abbrev qw : Stmt := top 32
abbrev nT : Stmt := top 33
abbrev gB : Stmt := top 34
abbrev gC : Stmt := top 35
abbrev uD : Stmt := top 36
abbrev nU : Stmt := top 37
abbrev nV : Stmt := top 38
abbrev qx : Stmt := top 39
abbrev gD : Stmt := top 40
abbrev iA : Stmt := top 42
abbrev iB : Stmt := top 43
abbrev lD : Stmt := inClass (top 45) 0
abbrev MO : Stmt := inClass (top 45) 1
abbrev NJ : Stmt := inClass (top 45) 2
abbrev MP : Stmt := inClass (top 46) 0
abbrev NK : Stmt := inClass (top 46) 1
abbrev Kv : Stmt := inClass (top 47) 0
abbrev Lx : Stmt := inClass (top 47) 1
abbrev jG : Stmt := top 54
abbrev qy : Stmt := top 55
abbrev iC : Stmt := top 56
abbrev lE : Stmt := top 57
abbrev lF : Stmt := top 58
abbrev lG : Stmt := top 59
abbrev jH : Stmt := top 60
abbrev lH : Stmt := top 61
abbrev jI : Stmt := top 62
abbrev lI : Stmt := top 63
abbrev d7 : Stmt := top 64
abbrev uE : Stmt := top 65
abbrev lJ : Stmt := inClass (top 67) 0
abbrev jJ : Stmt := inClass (top 67) 1
abbrev lM : Stmt := inClass (top 68) 0
abbrev jK : Stmt := top 69
abbrev lN : Stmt := top 70
abbrev lO : Stmt := top 71
abbrev jL : Stmt := top 72
abbrev jM : Stmt := top 73
abbrev iD : Stmt := top 74
abbrev jN : Stmt := top 75
abbrev lP : Stmt := top 77
abbrev iE : Stmt := top 78
abbrev lQ : Stmt := top 79
abbrev jO : Stmt := top 80
abbrev jP : Stmt := top 81
abbrev gE : Stmt := top 82
abbrev nW : Stmt := top 83
abbrev MQ : Stmt := top 84
abbrev jQ : Stmt := top 85
abbrev nX : Stmt := top 86
abbrev lS : Stmt := top 87
abbrev pC : Stmt := top 88
section
variable {P : Program} {w : World} {K : PySem.W.Frag} {mg : Str → Option Value} {base : Heap} {f : Addr} {fd : FuncData} {c : Cl}
theorem rV : av ["sign"] ["sign"] (ao gB) := ⟨rfl, rfl, rfl, by decide +kernel, rfl, by decide +kernel, by decide +kernel⟩
theorem rW {u1 u2 u3 : Value} (F : bz K "is_name_sign" "is_name_sign" gB f fd) (y9 : mg "SMALL" = some u1) (zb : RelV (.str ir) u1) (zc : mg "GREAT" = some u2) (zh : RelV (.str qa) u2) (Hc : mg "FIGURES" = some u3) (Hd : RelV (.str Mh) u3) :
  aW P w K mg base cS 1 f fd ["sign"] yz := by
 refine F.ok rV (fun vs H Q E h => ?_) (fun cw A outer s H vs Q E hr h => ?_)
 ·obtain ⟨c, rfl, _⟩ := h
  rfl
 obtain ⟨c, rfl, q⟩ := h
 refine ⟨_, (ah (aC (Nh (c8 gk (pv 0) (c7 rfl y9 zb) (by with_unfolding_all rfl)) (Nh (c8 gk (pv 0) (c7 rfl zc zh) (by with_unfolding_all rfl)) (ye (c8 gk (pv 0) (c7 rfl Hc Hd) (by with_unfolding_all rfl))))))), ?_⟩
 refine ⟨_, rfl, _, _, rfl, rfl, _, rfl, ?_⟩
 rw [StrLaws.found_one]
 refine cI (fun z => ?_) (fun z => ?_)
 ·have e : bp c = true := by unfold bp; rw [z]; rfl
  rw [e] at q
  exact q
 refine ⟨_, rfl, _, _, rfl, rfl, _, rfl, ?_⟩
 rw [StrLaws.found_one]
 have z' : decide (c ∈ ir.cps.toList) = false := by simpa using z
 refine cI (fun y => ?_) (fun y => ?_)
 ·have e : bp c = true := by unfold bp; rw [y]; simp
  rw [e] at q
  exact q
 have y' : decide (c ∈ qa.cps.toList) = false := by simpa using y
 refine ⟨_, rfl, _, _, rfl, rfl, ?_⟩
 rw [StrLaws.found_one]
 have e : bp c = decide (c ∈ Mh.cps.toList) := by unfold bp; rw [z', y']; rfl
 rw [e] at q
 exact q
theorem Ej : av ["text"] ["text"] (ao qw) := ⟨rfl, rfl, rfl, by decide +kernel, rfl, by decide +kernel, by decide +kernel⟩
theorem Ek {u1 : Value} (F : bz K "is_name" "is_name" qw f fd) (cy : bf P w K mg base "is_name_sign" 1 ["sign"] yz)
  (aV : mg "len" = none) (Se : mg "all" = none) (He : mg "LONGEST" = some u1) (Hf : RelV (.int 12) u1) : aW P w K mg base cS 2 f fd ["text"] (vP fE) := by
 refine F.ok Ej (fun vs H Q E h => ?_) (fun cw A outer s H vs Q E hr h => ?_)
 ·obtain ⟨c, rfl, _⟩ := h
  rfl
 obtain ⟨x, rfl, hx, q⟩ := h
 refine ⟨_, (ah (aC (Dg (IB Nk Nk ai (aJ jt rfl aV PySem.boot_len (aa (pv 0) af)) (c7 rfl He Hf)) (ye (aJ IU rfl Se PyProof.Rows.boot_all (aa (bK [] rfl (by kernel_rfl) (OG (pv 0)) (fun _ _ _ _ _ => bu) (fun _ _ _ _ _ => (ak cy (hr.mono (by decide)) rfl (aa (pv 0) af)))) af)))))), ?_⟩
 refine ⟨_, rfl, x, rfl, sz (by omega), _, _, rfl, rfl, _, rfl, ?_⟩
 refine cI (fun c1 => ?_) (fun c1 => ?_)
 ·refine ⟨_, _, rfl, rfl, _, rfl, ?_⟩
  refine cI (fun c2 => ?_) (fun c2 => ?_)
  ·refine ⟨_, rfl, x, rfl, fun D hD => ?_⟩
   refine IT (x := x) (f6 (show x.cps.size ≤ 100000 by have z : x.cps.size ≤ 20000 := hx; omega)) (fun i ys H' => ag H H' ∧ H' D = some (.lst ys) ∧ ys = ((x.cps.toList.take i).map bp).map V.bl) ⟨aj hD _, ae, rfl⟩ (fun i ys H' p => ⟨p.2.1, ?_⟩) (fun i ys H' hi p => ?_) (fun ys H' p => ?_)
   ·rw [p.2.2]
    simp
    omega
   ·refine ⟨_, rfl, _, rfl, p.2.1, ?_⟩
    refine ⟨fun b o e => ?_, ae, ?_⟩
    ·rw [aq (aH e hD)]
     exact p.1 b o e
    ·rw [p.2.2]
     have Nv : i < x.cps.toList.length := by simpa using hi
     rw [List.take_succ_eq_append_getElem Nv]
     simp [Array.getD_eq_getD_getElem?, hi]
   ·refine ⟨D, (x.cps.toList.map bp), rfl, rfl, .inl (.inl ?_), ?_⟩
    ·rw [p.2.1, p.2.2, List.take_of_length_le (by simp)]
    ·have e : fE x = (x.cps.toList.map bp).all id := by
      unfold fE
      rw [c1, c2]
      simp [List.all_map, Function.comp_def]
     have q' := q H' p.1
     rw [e] at q'
     exact q'
  ·have e : fE x = false := by
    unfold fE
    have Sf : decide ((x.length : Int) ≤ 12) = false := by simpa using c2
    rw [Sf]
    simp
   have q' := q H (ag.refl H)
   rw [e] at q'
   exact q'
 ·have e : fE x = false := by
   unfold fE
   have c1' : decide ((1 : Int) ≤ x.length) = false := by simpa using c1
   rw [c1']
   simp
  have q' := q H (ag.refl H)
  rw [e] at q'
  exact ⟨_, rfl, bO q'⟩
theorem qz : av ["text"] ["text"] (ao fV) := ⟨rfl, rfl, rfl, by decide +kernel, rfl, by decide +kernel, by decide +kernel⟩
theorem qA {u1 : Value} (F : bz K "is_small_word" "is_small_word" fV f fd) (cH : bf P w K mg base "is_name" 2 ["text"] (vP fE))
  (y9 : mg "SMALL" = some u1) (zb : RelV (.str ir) u1) : aW P w K mg base cS 3 f fd ["text"] (vP iu) := by
 refine F.ok qz (fun vs H Q E h => ?_) (fun cw A outer s H vs Q E hr h => ?_)
 ·obtain ⟨c, rfl, _⟩ := h
  rfl
 obtain ⟨x, rfl, hx, q⟩ := h
 refine ⟨_, (ah (aC (Dg (ak cH (hr.mono (by decide)) rfl (aa (pv 0) af)) (ye (c8 gk (ay pW (pv 0) ai (fun _ _ => rfl)) (c7 rfl y9 zb) (by with_unfolding_all rfl)))))), ?_⟩
 refine ⟨_, rfl, x, rfl, hx, fun H' sm => ⟨_, rfl, ?_⟩⟩
 have q' := q H' sm
 unfold iu at q'
 refine cI (fun c => ?_) (fun c => ?_)
 ·refine ⟨_, rfl, x, 0, _, rfl, rfl, sz (by omega), FA (Ja c), _, _, rfl, rfl, ?_⟩
  rw [StrLaws.found_one]
  rw [c, Bool.true_and] at q'
  exact q'
 ·have e : fE x = false := by simpa using c
  rw [e, Bool.false_and] at q'
  exact q'
theorem lT : av ["text", "start", "end"] ["text", "start"] (ao nU) := ⟨rfl, rfl, rfl, by decide +kernel, rfl, by decide +kernel, by decide +kernel⟩
theorem Ci (F : bz K "name_end" "name_end" nU f fd) (cy : bf P w K mg base "is_name_sign" 1 ["sign"] yz) (aV : mg "len" = none) : aW P w K mg base cS 2 f fd ["text", "start"] Jc := by
 refine F.ok lT (fun vs H Q E h => ?_) (fun cw A outer s H vs Q E hr h => ?_)
 ·obtain ⟨x, p, rfl, _⟩ := h
  rfl
 obtain ⟨x, p, rfl, hx, hp, q⟩ := h
 have hl := yx x
 refine ⟨_, (ab (au (i := 2) lT.nd rfl (Or.inl rfl) (pv 1))
 (ab (iZ PassesOwn.never (PW.pt (kR (aw Bn (pv 2) (aJ jt rfl aV PySem.boot_len (aa (pv 0) af)) (aI _)) (jo (dH (ak cy (hr.mono (by decide)) rfl (aa (ay pW (pv 0) (pv 2) (fun _ _ => rfl)) af))))))
 (ah (yg (i := 2) lT.nd rfl (Or.inl rfl) ai yh)))
 (ah (aC (pv 2))))), ?_⟩
 refine ⟨_, rfl, fun m σ H' => H' = H ∧ ∃ j : Nat, m = x.length - (p + j) ∧ σ = [some (.str x), some (.int p), some (.int ((p + j : Nat) : Int))] ∧ p + j ≤ x.length ∧ bw (x.cps.toList.drop p) = j + bw (x.cps.toList.drop (p + j)), ⟨_, rfl, 0, rfl, rfl, hp, by simp⟩, ?_⟩
 rintro m σ H' ⟨rfl, j, rfl, rfl, hj, e⟩
 refine ⟨_, rfl, _, rfl, x, rfl, sz (by omega), _, _, rfl, rfl, _, rfl, ?_⟩
 refine cI (fun c => ?_) (fun c => ?_)
 ·have c' : p + j < x.length := by
   have z := of_decide_eq_true c
   omega
  have hd : x.cps.toList.drop (p + j) = x.cps.toList.getD (p + j) 0 :: x.cps.toList.drop (p + j + 1) := BA (by omega)
  rw [hd, yA] at e
  refine ⟨_, rfl, _, rfl, x, _, _, rfl, rfl, sz (by omega), Jb (by omega) (by omega), _, rfl, _, rfl, ?_⟩
  rw [show ((p + j : Nat) : Int).toNat = p + j by omega]
  refine cI (fun c2 => ?_) (fun c2 => ?_)
  ·rw [if_pos c2] at e
   refine ⟨fun σ' H2 => H2 = H' ∧ σ' = [some (.str x), some (.int p), some (.int ((p + (j + 1) : Nat) : Int))], fun σ' H2 z => ⟨x.length - (p + (j + 1)), by omega, z.1, j + 1, rfl, z.2, by omega, by rw [← Nat.add_assoc]; omega⟩, ?_⟩
   refine ⟨_, rfl, _, _, rfl, rfl, rfl, ?_⟩
   show [some (V.str x), some (V.int p), some (V.int (((p + j : Nat) : Int) + 1))] = _
   rw [show ((p + (j + 1) : Nat) : Int) = ((p + j : Nat) : Int) + 1 by omega]
  ·rw [if_neg c2] at e
   refine ⟨_, rfl, ?_⟩
   rw [e] at q
   exact q
 ·have c' : ¬ (p + j < x.length) := fun z => c (decide_eq_true (by omega))
  have hd : x.cps.toList.drop (p + j) = [] := List.drop_eq_nil_of_le (by omega)
  rw [hd] at e
  refine bO ⟨_, rfl, ?_⟩
  rw [e] at q
  exact q
theorem eZ : av ["text", "marks", "found", "place", "end", "sign"] ["text", "marks"] (ao uD) := ⟨rfl, rfl, rfl, by decide +kernel, rfl, by decide +kernel, by decide +kernel⟩
theorem Hg (F : bz K "pieces" "pieces" uD f fd) (nY : bf P w K mg base "name_end" 2 ["text", "start"] Jc) (aV : mg "len" = none) : aW P w K mg base cS 3 f fd ["text", "marks"] tO := by
 refine F.ok eZ (fun vs H Q E h => ?_) (fun cw A outer s H vs Q E hr h => ?_)
 ·obtain ⟨x, m, rfl, _⟩ := h
  rfl
 obtain ⟨x, mk, rfl, hx, WO, bB, q⟩ := h
 have hl := yx x
 refine ⟨_, (ab (au (i := 2) eZ.nd rfl (Or.inl rfl) (bc af))
 (ab (au (i := 3) eZ.nd rfl (Or.inl rfl) ai)
 (ab (iZ PassesOwn.never (aw Bn (pv 3) (aJ jt rfl aV PySem.boot_len (aa (pv 0) af)) (aI _))
 (ab (au (i := 4) eZ.nd rfl (Or.inl rfl) (ak nY (hr.mono (by decide)) rfl (aa (pv 0) (aa (pv 3) af))))
 (ab (aX (aw m7 (pv 4) (pv 3) (aI _))
 (ab (a8 (cq PySem.F.plainAttrs_list PySem.F.slot_list_append PySem.F.type_list_append a9 (pv 2) (aa (dW OH (pv 0) (dF (pv 3)) (dF (pv 4))) af)))
 (ab (au (i := 3) eZ.nd rfl (Or.inl rfl) (pv 4))
 (ah Bl)))
 aG)
 (ab (au (i := 5) eZ.nd rfl (Or.inl rfl) (ay pW (pv 0) (pv 3) (fun _ _ => rfl)))
 (ab (aX (aw gk (pv 5) (pv 1) (by with_unfolding_all rfl))
 (ah (a8 (cq PySem.F.plainAttrs_list PySem.F.slot_list_append PySem.F.type_list_append a9 (pv 2) (aa (pv 5) af))))
 (ah (aX (aw fA (pv 5) aR (aI _))
 aY
 aG)))
 (ah (yg (i := 3) eZ.nd rfl (Or.inl rfl) ai yh)))))))
 (ah (aC (pv 2)))))), ?_⟩
 refine ⟨(by show 0 ≤ sizeLine; decide), fun l Hh => ?_⟩
 refine ⟨FC x mk l H, ⟨_, 0, [], none, none, rfl, rfl, Nat.zero_le _, aj Hh _, ae, rfl⟩, ?_⟩
 rintro m σ H' ⟨p, done, o3, o4, rfl, rfl, hp, sm, hL, e⟩
 have hlen : done.length ≤ 20000 := by
  have z := congrArg List.length e
  rw [List.length_append] at z
  have z2 := BC x.cps.toList
  omega
 refine ⟨_, rfl, _, rfl, x, rfl, sz (by omega), _, _, rfl, rfl, _, rfl, ?_⟩
 refine cI (fun c => ?_) (fun c => ?_)
 ·have c' : p < x.length := by
   have z := of_decide_eq_true c
   omega
  refine ⟨fun σ' H2 => ∃ m', m' < x.length - p ∧ FC x mk l H m' σ' H2, fun σ' H2 z => z, ?_⟩
  refine ⟨_, rfl, _, rfl, x, p, rfl, hx, hp, ?_⟩
  refine ⟨_, rfl, _, rfl, _, _, rfl, rfl, _, rfl, ?_⟩
  have hd := BA (l := x.cps.toList) (i := p) (by omega)
  have Ly := DC (x.cps.toList.drop p)
  rw [List.length_drop] at Ly
  refine cI (fun c2 => ?_) (fun c2 => ?_)
  ·have Sf : 0 < bw (x.cps.toList.drop p) := by
    have z := of_decide_eq_true c2
    omega
   refine ⟨_, rfl, .inl ⟨rfl, _, ax.of hL⟩, _, rfl, _, rfl, _, rfl, _, rfl, _, rfl, x, rfl, sz (by omega), ?_⟩
   rw [Mm (by omega)]
   refine ⟨l, _, _, rfl, rfl, hL, (by rw [Lm9]; exact f6 (by omega)), ?_⟩
   refine ⟨_, rfl, x.length - (p + bw (x.cps.toList.drop p)), by omega, p + bw (x.cps.toList.drop p), done ++ [(x.cps.toList.drop p).take (bw (x.cps.toList.drop p))], _, _, rfl, rfl, by omega, ag.aS sm Hh _, ?_, ?_⟩
   ·rw [ae, List.map_append]
    rfl
   ·rw [tL (by omega), List.drop_drop] at e
    rw [List.append_assoc]
    exact e
  ·have Sf : bw (x.cps.toList.drop p) = 0 := by
    have z : ¬ ((p : Int) < ((p + bw (x.cps.toList.drop p) : Nat) : Int)) := fun z => c2 (decide_eq_true z)
    omega
   have Ia : bp (x.cps.toList.getD p 0) = false := by
    rw [hd] at Sf
    exact yw Sf
   have U6 : Nz mk (x.cps.toList.getD p 0) = true := by
    rw [List.all_eq_true] at bB
    exact bB _ (List.mem_of_getElem? (getD_get (by omega)))
   refine ⟨_, rfl, _, rfl, x, p, _, rfl, rfl, sz (by omega), Jb (by omega) (by omega), ?_⟩
   rw [show ((p : Nat) : Int).toNat = p by omega]
   refine ⟨_, rfl, _, rfl, _, _, rfl, rfl, _, rfl, ?_⟩
   rw [StrLaws.found_one]
   rw [hd] at e
   refine cI (fun c3 => ?_) (fun c3 => ?_)
   ·have hb : x.cps.toList.getD p 0 ≠ 32 := fun z => WO (by have := of_decide_eq_true c3; rw [z] at this; exact this)
    rw [nG Ia hb] at e
    refine ⟨_, rfl, .inl ⟨rfl, _, ax.of hL⟩, _, rfl, l, _, _, rfl, rfl, hL, (by rw [Lm9]; exact f6 (by omega)), ?_⟩
    refine ⟨_, rfl, _, _, rfl, rfl, x.length - (p + 1), by omega, p + 1, done ++ [[x.cps.toList.getD p 0]], _, _, rfl, rfl, by omega, ag.aS sm Hh _, ?_, ?_⟩
    ·rw [ae, List.map_append]
     rfl
    ·rw [List.append_assoc]
     exact e
   ·have hb : x.cps.toList.getD p 0 = 32 := by
     unfold Nz at U6
     rw [Ia, Bool.false_or] at U6
     have c3' : decide (x.cps.toList.getD p 0 ∈ mk.cps.toList) = false := by simpa using c3
     rw [c3', Bool.false_or] at U6
     exact eq_of_beq U6
    rw [hb] at e ⊢
    rw [dJ] at e
    refine ⟨_, rfl, rfl, _, rfl, ?_⟩
    have z : decide (V.str ⟨#[32]⟩ = V.str (Str.ofString " ")) = true := by decide +kernel
    rw [z]
    refine bO ?_
    exact ⟨_, rfl, _, _, rfl, rfl, x.length - (p + 1), by omega, p + 1, done, _, _, rfl, rfl, by omega, sm, hL, e⟩
 ·have c' : p = x.length := by
   have z : ¬ ((p : Int) < (x.length : Int)) := fun z => c (decide_eq_true z)
   omega
  have hd : x.cps.toList.drop p = [] := List.drop_eq_nil_of_le (by omega)
  rw [hd] at e
  have e' : done = toks x.cps.toList := by
   rw [← e]
   show done = done ++ []
   rw [List.append_nil]
  rw [e'] at hL
  exact ⟨_, rfl, q l H' sm Hh hL⟩
theorem Cj : av ["found", "place"] ["found", "place"] (ao nV) := ⟨rfl, rfl, rfl, by decide +kernel, rfl, by decide +kernel, by decide +kernel⟩
theorem Ck (F : bz K "piece_at" "piece_at" nV f fd) (aV : mg "len" = none) : aW P w K mg base cS 1 f fd ["found", "place"] oR := by
 refine F.ok Cj (fun vs H Q E h => ?_) (fun cw A outer s H vs Q E hr h => ?_)
 ·obtain ⟨l, ps, p, rfl, _⟩ := h
  rfl
 obtain ⟨l, ps, p, rfl, hL, hz, q⟩ := h
 refine ⟨_, (ab (aX (aw Bn (pv 1) (aJ ar rfl aV PySem.boot_len (aa (pv 0) af)) (aI _))
 (ah (aC (ay az (pv 0) (pv 1) (fun _ _ => rfl))))
 aG)
 (ah (aC aR))), ?_⟩
 refine ⟨_, rfl, _, rfl, l, _, rfl, .inl (ax.of hL), _, _, rfl, rfl, _, rfl, ?_⟩
 refine cI (fun c => ?_) (fun c => ?_)
 ·have c' : p < ps.length := by
   have z := of_decide_eq_true c
   rw [Lm9] at z
   omega
  refine ⟨_, rfl, _, rfl, l, _, _, tx (ps.getD p []), rfl, rfl, ax.of hL, ?_, q⟩
  refine bP ?_
  rw [List.getElem?_map, Gd9, Ge9 c']
  rfl
 ·have c' : ps.length ≤ p := by
   have z : ¬ ((p : Int) < (((ps.map tx).length : Nat) : Int)) := fun z => c (decide_eq_true z)
   rw [Lm9] at z
   omega
  have e : ps.getD p [] = [] := by
   rw [Gd9, List.getElem?_eq_none c']
   rfl
  rw [e] at q
  exact q
theorem cE : av ["found", "place", "names", "name", "mark"] ["found", "place"] (ao gD) := ⟨rfl, rfl, rfl, by decide +kernel, rfl, by decide +kernel, by decide +kernel⟩
theorem rX (F : bz K "arguments_at" "arguments_at" gD f fd) (bq : bf P w K mg base "piece_at" 1 ["found", "place"] oR) (cH : bf P w K mg base "is_name" 2 ["text"] (vP fE)) (MR : mg "tuple" = none) :
  aW P w K mg base cS 3 f fd ["found", "place"] DB := by
 refine F.ok cE (fun vs H Q E h => ?_) (fun cw A outer s H vs Q E hr h => ?_)
 ·obtain ⟨l, ps, p, n, as, rfl, _⟩ := h
  rfl
 obtain ⟨l, ps, p, n, as, rfl, hL, hz, alt, q⟩ := h
 refine ⟨_, (ab (au (i := 2) cE.nd rfl (Or.inl rfl) (bc af))
 (ab (aX (aw cR (ak bq (hr.mono (by decide)) rfl (aa (pv 0) (aa (pv 1) af))) aR (aI _))
 (ah (aC (dU (aa (dU af) (aa (aB dI (pv 1) ai) af)))))
 aG)
 (ah (iZ PassesOwn.never (dH xb)
 (ab (au (i := 3) cE.nd rfl (Or.inl rfl) (ak bq (hr.mono (by decide)) rfl (aa (pv 0) (aa (pv 1) af))))
 (ab (aX (kS (dH (ak cH (hr.mono (by decide)) rfl (aa (pv 3) af))))
 aY
 aG)
 (ab (a8 (cq PySem.F.plainAttrs_list PySem.F.slot_list_append PySem.F.type_list_append a9 (pv 2) (aa (pv 3) af)))
 (ab (au (i := 4) cE.nd rfl (Or.inl rfl) (ak bq (hr.mono (by decide)) rfl (aa (pv 0) (aa (aB dI (pv 1) ai) af))))
 (ab (yg (i := 1) cE.nd rfl (Or.inl rfl) ai yh)
 (ab (aX (aw cR (pv 4) aR (aI _))
 (ah (aC (dU (aa (c9 vL rfl MR PyProof.Rows.Boot.«tuple» (aa (pv 2) af)) (aa (pv 1) af)))))
 aG)
 (ah (aX (aw fA (pv 4) aR (aI _))
 aY
 aG)))))))))))), ?_⟩
 refine ⟨(by show 0 ≤ sizeLine; decide), fun ln U7 => ?_⟩
 have YL : l ≠ ln := fun z => by rw [z, U7] at hL; cases hL
 have rP : upd H ln (.lst []) l = some (.lst (ps.map tx)) := by rw [aq YL]; exact hL
 refine ⟨_, rfl, _, rfl, l, ps, p, rfl, rP, hz, rfl, _, rfl, ?_⟩
 rcases alt with ⟨rfl, rfl, e41⟩ | ⟨WQ, ha⟩
 ·rw [e41]
  have z : decide (tx [41] = V.str (Str.ofString ")")) = true := by decide +kernel
  rw [z]
  refine nE ⟨(by show 0 ≤ sizeLine; decide), fun t2 DS => ?_⟩
  refine ⟨_, rfl, _, _, rfl, rfl, (by show 2 ≤ sizeLine; decide), fun t ht => ?_⟩
  have WR : t2 ≠ t := fun z => by rw [← z, ae] at ht; cases ht
  refine q t t2 _ (ag.trans (aj U7 _) (ag.trans (aj DS _) (aj ht _))) ae ?_
  rw [aq WR]
  exact ae
 ·have z : decide (tx (ps.getD p []) = V.str (Str.ofString ")")) = false := Jd (b := [41]) WQ
  rw [z]
  refine bO ?_
  refine ⟨NA l ln ps as (p + n) H, ⟨_, p, n, [], as, none, none, rfl, rfl, aj U7 _, rP, ae, ha, rfl, rfl, by rw [List.length_drop]; simp; omega⟩, ?_⟩
  rintro m σ H' ⟨p', n', done, Lw, o3, o4, rfl, rfl, sm, x4, hN', V6, ed, ep, hdl⟩
  obtain ⟨nm, mk, r, er, MS, WS⟩ := GS V6
  have g0 : ps.getD p' [] = nm := by
   have z := gn (l := ps) (p := p') (i := 0)
   rw [er] at z
   exact z.symm
  have g1 : ps.getD (p' + 1) [] = mk := by
   have z := gn (l := ps) (p := p') (i := 1)
   rw [er] at z
   exact z.symm
  have Pw : ps.drop (p' + 2) = r := by
   rw [← List.drop_drop, er]
   rfl
  have tH : (ps.drop p').length = r.length + 2 := by rw [er]; rfl
  refine ⟨_, rfl, ?_⟩
  refine nE ⟨fun σ' H2 => ∃ m', m' < (ps.drop p').length ∧ NA l ln ps as (p + n) H m' σ' H2, fun σ' H2 z => z, ?_⟩
  refine ⟨_, rfl, _, rfl, l, ps, p', rfl, x4, hz, ?_⟩
  rw [g0]
  have Ly : nm.length ≤ 12 := by
   unfold bh at MS
   simp only [Bool.and_eq_true, decide_eq_true_eq] at MS
   exact MS.2.1
  refine ⟨_, rfl, S nm, rfl, by rw [aZ]; omega, fun H2 Ib => ⟨_, rfl, ?_⟩⟩
  rw [oQ, MS]
  refine bO ?_
  have YM := Ib _ _ hN'
  have Sg := Ib _ _ x4
  refine ⟨_, rfl, .inl ⟨rfl, _, ax.of YM⟩, _, rfl, ln, _, _, rfl, rfl, YM, (by rw [Lm9]; exact f6 (by omega)), ?_⟩
  have MT : upd H2 ln (.lst (done.map tx ++ [tx nm])) l = some (.lst (ps.map tx)) := by rw [aq YL]; exact Sg
  refine ⟨_, rfl, _, rfl, _, _, rfl, rfl, l, ps, p' + 1, rfl, MT, hz, ?_⟩
  rw [g1]
  refine ⟨_, rfl, _, _, rfl, rfl, ?_⟩
  have Sh : ag H (upd H2 ln (.lst (done.map tx ++ [tx nm]))) := ag.aS (ag.trans sm Ib) U7 _
  refine ⟨_, rfl, rfl, _, rfl, ?_⟩
  rcases WS with ⟨rfl, rfl, rfl⟩ | ⟨rfl, as2, n2, Px, rfl, rfl⟩
  ·have z : decide (tx [41] = V.str (Str.ofString ")")) = true := by decide +kernel
   rw [z]
   refine nE ⟨_, rfl, ln, _, rfl, .inl ⟨ax.of ae, fun t2 DS => ?_⟩⟩
   refine ⟨_, rfl, (by show 2 ≤ sizeLine; decide), fun t ht => ?_⟩
   have WR : t2 ≠ t := fun z => by rw [← z, ae] at ht; cases ht
   refine q t t2 _ (ag.trans Sh (ag.trans (aj DS _) (aj ht _))) ?_ ?_
   ·rw [ae, ← ep]
    rfl
   ·rw [aq WR, ae, ← ed, List.map_append]
    rfl
  ·have z : decide (tx [44] = V.str (Str.ofString ")")) = false := by decide +kernel
   rw [z]
   refine bO ?_
   have z2 : decide (tx [44] = V.str (Str.ofString ",")) = true := by decide +kernel
   refine ⟨_, rfl, rfl, _, rfl, ?_⟩
   rw [z2]
   refine bO ?_
   refine ⟨(ps.drop (p' + 2)).length, by rw [Pw, tH]; omega, p' + 2, n2, done ++ [nm], as2, _, _, rfl, rfl, Sh, MT, ?_, by rw [Pw]; exact Px, by rw [List.append_assoc]; exact ed, by omega, by rw [Pw, List.length_append]; simp only [List.length_cons, List.length_nil]; omega⟩
   rw [ae, List.map_append]
   rfl
theorem nZ : av ["found", "place", "kind", "reading"] ["found", "place"] (ao qx) := ⟨rfl, rfl, rfl, by decide +kernel, rfl, by decide +kernel, by decide +kernel⟩
theorem El (F : bz K "fact_at" "fact_at" qx f fd) (bq : bf P w K mg base "piece_at" 1 ["found", "place"] oR) (bg : bf P w K mg base "is_small_word" 3 ["text"] (vP iu)) (gF : bf P w K mg base "arguments_at" 3 ["found", "place"] DB) :
  aW P w K mg base cS 4 f fd ["found", "place"] tP := by
 refine F.ok nZ (fun vs H Q E h => ?_) (fun cw A outer s H vs Q E hr h => ?_)
 ·obtain ⟨l, ps, p, n, k, as, rfl, _⟩ := h
  rfl
 obtain ⟨l, ps, p, n, k, as, rfl, hL, hz, hF, q⟩ := h
 refine ⟨_, (ab (au (i := 2) nZ.nd rfl (Or.inl rfl) (ak bq (hr.mono (by decide)) rfl (aa (pv 0) (aa (pv 1) af))))
 (ab (aX (kS (dH (ak bg (hr.mono (by decide)) rfl (aa (pv 2) af))))
 aY
 aG)
 (ab (aX (aw fA (ak bq (hr.mono (by decide)) rfl (aa (pv 0) (aa (aB dI (pv 1) ai) af))) aR (aI _))
 (ah (aC (dU (aa (dU (aa (pv 2) (aa (dU af) af))) (aa (aB dI (pv 1) ai) af)))))
 aG)
 (ab (au (i := 3) nZ.nd rfl (Or.inl rfl) (ak gF (hr.mono (by decide)) rfl (aa (pv 0) (aa (aB dI (pv 1) ai) af))))
 (ah (aC (dU (aa (dU (aa (pv 2) (aa (ay a6 (pv 3) ai (fun _ _ => rfl)) af))) (aa (ay a6 (pv 3) ai (fun _ _ => rfl)) af))))))))), ?_⟩
 have hd : ∃ r, ps.drop p = k :: r ∧ aN k = true := by
  generalize ps.drop p = l0 at hF
  cases hF with
  | bare hk h => exact ⟨_, rfl, hk⟩
  | empty hk => exact ⟨_, rfl, hk⟩
  | args hk h0 h => exact ⟨_, rfl, hk⟩
 obtain ⟨r0, ed, hk⟩ := hd
 have g0 : ps.getD p [] = k := by
  have z := gn (l := ps) (p := p) (i := 0)
  rw [ed] at z
  exact z.symm
 have WT : k.length ≤ 12 := by
  unfold aN bh at hk
  simp only [Bool.and_eq_true, decide_eq_true_eq] at hk
  exact hk.1.2.1
 have hkb : iu (S k) = true := by
  unfold iu
  rw [oQ, cv]
  exact hk
 refine ⟨_, rfl, _, rfl, l, ps, p, rfl, hL, hz, ?_⟩
 rw [g0]
 refine ⟨_, rfl, S k, rfl, by rw [aZ]; omega, fun H1 s1 => ⟨_, rfl, ?_⟩⟩
 rw [hkb]
 refine bO ?_
 have rP := s1 _ _ hL
 refine ⟨_, rfl, _, rfl, _, _, rfl, rfl, l, ps, p + 1, rfl, rP, hz, rfl, _, rfl, ?_⟩
 have g1 : ps.getD (p + 1) [] = r0.getD 0 [] := by
  have z := gn (l := ps) (p := p) (i := 1)
  rw [ed] at z
  exact z.symm
 rw [g1]
 have full : ∀ (Lw : List (List Nat)) (n' : Nat), r0.getD 0 [] = [40] → n = n' + 2 → as = Lw → ((Lw = [] ∧ n' = 1 ∧ ps.getD (p + 2) [] = [41]) ∨ (ps.getD (p + 2) [] ≠ [41] ∧ fZ (ps.drop (p + 2)) = some (Lw, n'))) → True := fun _ _ _ _ _ _ => trivial
 by_cases Si : r0.getD 0 [] = [40]
 ·rw [Si]
  have z : decide (tx [40] = V.str (Str.ofString "(")) = true := by decide +kernel
  rw [z]
  refine bO ?_
  have key : ∃ n', n = n' + 2 ∧ ((as = [] ∧ n' = 1 ∧ ps.getD (p + 2) [] = [41]) ∨ (ps.getD (p + 2) [] ≠ [41] ∧ fZ (ps.drop (p + 2)) = some (as, n'))) := by
   have g2 : ∀ r1, ps.drop p = k :: [40] :: r1 → ps.getD (p + 2) [] = r1.getD 0 [] ∧ ps.drop (p + 2) = r1 := fun r1 e => by
    refine ⟨?_, ?_⟩
    ·have z := gn (l := ps) (p := p) (i := 2)
     rw [e] at z
     exact z.symm
    ·rw [← List.drop_drop, e]
     rfl
   rw [ed] at hF g2
   cases hF with
   | bare FQ h => exact absurd Si h
   | @empty _ r FQ =>
    obtain ⟨a1, a2⟩ := g2 _ rfl
    exact ⟨1, rfl, .inl ⟨rfl, rfl, a1⟩⟩
   | @args _ r _ n' FQ h0 h =>
    obtain ⟨a1, a2⟩ := g2 _ rfl
    exact ⟨n', rfl, .inr ⟨by rw [a1]; exact h0, by rw [a2]; exact h⟩⟩
  obtain ⟨n', en, alt⟩ := key
  refine ⟨_, rfl, _, rfl, _, _, rfl, rfl, l, ps, p + 2, n', as, rfl, rP, hz, alt, fun t t2 H2 s2 ht DS => ?_⟩
  refine ⟨_, rfl, _, rfl, t, _, 0, .ref t2, rfl, rfl, cM.of ht, rfl, (by show 2 ≤ sizeLine; decide), fun t1 NF => ?_⟩
  have Py := aj NF (.tup [tx k, .ref t2])
  refine ⟨_, rfl, t, _, 1, _, rfl, rfl, cM.of (Py _ _ ht), rfl, (by show 2 ≤ sizeLine; decide), fun t0 MU => ?_⟩
  have Sj : t1 ≠ t0 := fun z => by rw [← z, ae] at MU; cases MU
  refine q t0 t1 t2 _ (ag.trans s1 (ag.trans s2 (ag.trans Py (aj MU _)))) ?_ ?_ ((aj MU _) _ _ (Py _ _ DS))
  ·rw [ae, en, show p + 2 + n' = p + (n' + 2) by omega]
  ·rw [aq Sj]
   exact ae
 ·have z : decide (tx (r0.getD 0 []) = V.str (Str.ofString "(")) = false := Jd (b := [40]) Si
  rw [z]
  have key : as = [] ∧ n = 1 := by
   rw [ed] at hF
   cases hF with
   | bare FQ h => exact ⟨rfl, rfl⟩
   | empty FQ => exact absurd rfl Si
   | args FQ h0 h => exact absurd rfl Si
  obtain ⟨rfl, rfl⟩ := key
  refine nE ⟨_, rfl, (by show 0 ≤ sizeLine; decide), fun t2 DS => ?_⟩
  refine ⟨(by show 2 ≤ sizeLine; decide), fun t1 NF => ?_⟩
  refine ⟨_, rfl, _, _, rfl, rfl, (by show 2 ≤ sizeLine; decide), fun t0 MU => ?_⟩
  have Sj : t1 ≠ t0 := fun z => by rw [← z, ae] at MU; cases MU
  refine q t0 t1 t2 _ (ag.trans s1 (ag.trans (aj DS _) (ag.trans (aj NF _) (aj MU _)))) ae ?_ ((aj MU _) _ _ ((aj NF _) _ _ ae))
  rw [aq Sj]
  exact ae
theorem b5 : av ["found", "facts", "place", "reading"] ["found"] (ao gC) := ⟨rfl, rfl, rfl, by decide +kernel, rfl, by decide +kernel, by decide +kernel⟩
theorem rY (F : bz K "row_of_facts" "row_of_facts" gC f fd) (qB : bf P w K mg base "fact_at" 4 ["found", "place"] tP) (aV : mg "len" = none) : aW P w K mg base cS 5 f fd ["found"] (Je K) := by
 refine F.ok b5 (fun vs H Q E h => ?_) (fun cw A outer s H vs Q E hr h => ?_)
 ·obtain ⟨l, ps, fs, rfl, _⟩ := h
  rfl
 obtain ⟨l, ps, fs, rfl, hL, hz, hR, q⟩ := h
 refine ⟨_, (ab (au (i := 1) b5.nd rfl (Or.inl rfl) (bc af))
 (ab (au (i := 2) b5.nd rfl (Or.inl rfl) ai)
 (ah (iZ PassesOwn.never (dH xb)
 (ab (au (i := 3) b5.nd rfl (Or.inl rfl) (ak qB (hr.mono (by decide)) rfl (aa (pv 0) (aa (pv 2) af))))
 (ab (a8 (cq PySem.F.plainAttrs_list PySem.F.slot_list_append PySem.F.type_list_append a9 (pv 1) (aa (ay a6 (pv 3) ai (fun _ _ => rfl)) af)))
 (ab (au (i := 2) b5.nd rfl (Or.inl rfl) (ay a6 (pv 3) ai (fun _ _ => rfl)))
 (ab (aX (aw cR (pv 2) (aJ ar rfl aV PySem.boot_len (aa (pv 0) af)) (aI _))
 (ah (aC (pv 1)))
 aG)
 (ab (aX (aw fA (ay az (pv 0) (pv 2) (fun _ _ => rfl)) aR (aI _))
 aY
 aG)
 (ah (yg (i := 2) b5.nd rfl (Or.inl rfl) ai yh))))))))))), ?_⟩
 refine ⟨(by show 0 ≤ sizeLine; decide), fun lf NL => ?_⟩
 have mZ : l ≠ lf := aH hL NL
 refine ⟨RK K l lf ps fs H, ⟨_, 0, [], fs, [], none, rfl, rfl, aj NL _, by rw [aq mZ]; exact hL, ae, .nil, by rw [List.drop_zero]; exact hR, rfl, by rw [List.drop_zero]; simpa using hz⟩, ?_⟩
 rintro m σ H' ⟨p, done, rest, us, o3, rfl, rfl, sm, x4, L1, pr, m5, ed, hdl⟩
 obtain ⟨f1, n, N4, rfl, hF, alt⟩ := m5.head
 refine ⟨_, rfl, nE ⟨fun σ' H2 => ∃ m', m' < (ps.drop p).length ∧ RK K l lf ps fs H m' σ' H2, fun σ' H2 z => z, ?_⟩⟩
 refine ⟨_, rfl, _, rfl, l, ps, p, n, f1.k, f1.as, rfl, x4, hz, hF, fun t t1 t2 H2 s2 ht NF DS => ?_⟩
 have MV := s2 _ _ L1
 have Sg := s2 _ _ x4
 have hlen : us.length ≤ 20000 := by
  have z := pr.length
  omega
 refine ⟨_, rfl, .inl ⟨rfl, _, ax.of MV⟩, _, rfl, t, _, 0, _, rfl, rfl, cM.of ht, rfl, lf, _, _, rfl, rfl, MV, f6 (by omega), ?_⟩
 have htn : t ≠ lf := Bh ht MV (by intro z; cases z)
 have kp : Kp (upd H lf (.lst [])) H2 (upd H2 lf (.lst (us ++ [V.ref t1]))) := Kp.upd ae MV (by intro xs z; cases z) (by intro o u z; cases z)
 have YN : Paired (Fact K (upd H2 lf (.lst (us ++ [V.ref t1])))) (done ++ [f1]) (us ++ [V.ref t1]) := by
  refine (L2.Paired.bY pr fun a b z => Fact.keep kp (Fact.keep (H0 := H) (Kp.same s2) z)).snoc ?_
  exact Fact.keep kp ⟨t1, t2, rfl, cM.of NF, cM.of DS⟩
 have MT : upd H2 lf (.lst (us ++ [V.ref t1])) l = some (.lst (ps.map tx)) := by rw [aq mZ]; exact Sg
 have Sh : ag H (upd H2 lf (.lst (us ++ [V.ref t1]))) := ag.aS (ag.trans sm s2) NL _
 refine ⟨_, rfl, t, _, 1, _, rfl, rfl, cM.of (by rw [aq htn]; exact ht), rfl, ?_⟩
 refine ⟨_, rfl, _, rfl, l, _, rfl, .inl (ax.of MT), rfl, _, rfl, ?_⟩
 rw [Lm9]
 have hdr : (ps.drop p).length = ps.length - p := List.length_drop ..
 rcases alt with ⟨en, rfl⟩ | ⟨hn, Pf, hR'⟩
 ·have z : decide (V.int ((p + n : Nat) : Int) = V.int (ps.length : Int)) = true := by
   refine decide_eq_true ?_
   have : 1 ≤ (ps.drop p).length := m5.pos
   rw [show p + n = ps.length by omega]
  rw [z]
  refine nE ⟨_, rfl, q _ _ Sh ⟨lf, _, rfl, NL, ae, ?_⟩⟩
  rw [← ed]
  exact YN
 ·have z : decide (V.int ((p + n : Nat) : Int) = V.int (ps.length : Int)) = false := by
   refine decide_eq_false fun z => ?_
   have z' : ((p + n : Nat) : Int) = (ps.length : Int) := by injection z
   omega
  rw [z]
  refine bO ?_
  have g : ps.getD (p + n) [] = [44] := by
   have z := gn (l := ps) (p := p) (i := n)
   rw [← z]
   exact Pf
  refine ⟨_, rfl, _, rfl, l, _, _, tx [44], rfl, rfl, ax.of MT, ?_, rfl, _, rfl, ?_⟩
  ·refine bP ?_
   rw [List.getElem?_map, Ge9 (by omega)]
   rw [Gd9, Ge9 (by omega)] at g
   exact congrArg (fun z => some (tx z)) g
  ·have z2 : decide (tx [44] = V.str (Str.ofString ",")) = true := by decide +kernel
   rw [z2]
   refine bO ⟨_, rfl, _, _, rfl, rfl, (ps.drop (p + n + 1)).length, ?_, p + n + 1, done ++ [f1], N4, _, _, rfl, rfl, Sh, MT, ae, YN, ?_, by rw [List.append_assoc]; exact ed, ?_⟩
   ·rw [List.length_drop, List.length_drop]; omega
   ·rw [show p + n + 1 = p + (n + 1) by omega, ← List.drop_drop]; exact hR'
   ·rw [List.length_append, List.length_drop]; simp only [List.length_cons, List.length_nil]; omega
end
end gg
namespace gg
open PySem L2 f9 Bk
set_option maxHeartbeats 4000000
section
variable {P : Program} {w : World} {K : PySem.W.Frag} {mg : Str → Option Value} {base : Heap} {f : Addr} {fd : FuncData} {c : Cl}
theorem uF : av ["line", "bare"] ["line"] (ao qy) := ⟨rfl, rfl, rfl, by decide +kernel, rfl, by decide +kernel, by decide +kernel⟩
theorem Em (F : bz K "is_told" "is_told" qy f fd) : aW P w K mg base cS 1 f fd ["line"] DD := by
 refine F.ok uF (fun vs H Q E h => ?_) (fun cw A outer s H vs Q E hr h => ?_)
 ·obtain ⟨p, rfl, _⟩ := h
  rfl
 obtain ⟨p, rfl, hx, q⟩ := h
 refine ⟨_, (ab (au (i := 1) uF.nd rfl (Or.inl rfl) (cq PySem.F.plainAttrs_str PySem.F.slot_str_strip PySem.F.type_str_strip IX (pv 0) (aa aR af)))
 (ah (aC (Dg (c8 fA (pv 1) aR (aI _)) (ye (c8 fA (ay pW (pv 1) ai (fun _ _ => rfl)) aR (aI _))))))), ?_⟩
 obtain ⟨b, eb, hb, eh⟩ := Jg p
 refine ⟨_, rfl, rfl, _, _, rfl, rfl, (by rw [aZ]; exact sz (by omega)), ?_⟩
 rw [eb]
 unfold told at q
 refine ⟨_, rfl, rfl, _, rfl, ?_⟩
 have e0 : (Str.ofString "") = S [] := by decide +kernel
 rw [e0]
 cases hd : p.dropWhile (· == 32) with
 | nil =>
  rw [hd] at eh q
  have Kw : b = [] := by
   cases b with
   | nil => rfl
   | cons x r => cases eh
  subst Kw
  rw [decide_eq_true rfl]
  exact bO q
 | cons x r =>
  rw [hd] at eh q
  obtain ⟨b', rfl⟩ : ∃ b', b = x :: b' := by
   cases b with
   | nil => cases eh
   | cons y r' => exact ⟨r', by rw [Option.some.inj eh]⟩
  have e1 : decide (V.str (S (x :: b')) = V.str (S [])) = false := Jd (a := x :: b') (b := []) (by simp)
  rw [e1]
  refine nE ⟨_, rfl, S (x :: b'), 0, x, rfl, rfl, (by rw [aZ]; exact sz (by omega)), ?_, rfl, ?_⟩
  ·rw [cv]
   exact bP (j := 0) rfl
  ·have e2 : decide (V.str ⟨#[x]⟩ = V.str (Str.ofString "#")) = (x == 35) := by
    have e3 : (Str.ofString "#") = S [35] := by decide +kernel
    rw [e3]
    have e4 := yy [x] [35]
    show decide (tx [x] = tx [35]) = _
    rw [e4]
    simp [Bool.beq_eq_decide_eq]
   rw [e2]
   exact q
theorem vU : av ["text"] ["text"] (ao jG) := ⟨rfl, rfl, rfl, by decide +kernel, rfl, by decide +kernel, by decide +kernel⟩
theorem vV (F : bz K "told_lines" "told_lines" jG f fd) (qC : bf P w K mg base "is_told" 1 ["line"] DD) : aW P w K mg base cS 2 f fd ["text"] yB := by
 refine F.ok vU (fun vs H Q E h => ?_) (fun cw A outer s H vs Q E hr h => ?_)
 ·obtain ⟨ls, rfl, _⟩ := h
  rfl
 obtain ⟨ls, rfl, h0, hN, hx, q⟩ := h
 refine ⟨_, (ah (aC (bK [] rfl (by kernel_rfl) (aK (cq PySem.F.plainAttrs_str PySem.F.slot_str_split PySem.F.type_str_split IW (pv 0) (aa aR af))) (fun _ _ _ _ _ => (jw (dH (ak qC (hr.mono (by decide)) rfl (aa (pv 0) af))))) (fun _ _ _ _ _ => (pv 0))))), ?_⟩
 have Mt := xB ls
 refine ⟨_, rfl, rfl, _, _, rfl, rfl, rfl, (by rw [aZ]; exact sz (by omega)), ?_⟩
 rw [BG h0 hN]
 refine ⟨(by rw [Lm9]; exact sz (by omega)), fun l hl => ⟨l, rfl, ⟨_, ax.of ae⟩, fun D hD => ?_⟩⟩
 have hDn : H D = none := (aj hl _).free hD
 refine L6 (K := K) (xs := (ls.map S).map V.str) (by rw [Lm9, Lm9]; exact f6 (by omega)) hD (ax.of ae) (fun v => match v with | .str x => told x.cps.toList | _ => false) id (fun x H' R hm sm hR => ?_) (fun x H' R hm hk sm hR => ?_) (fun H' sm hL => ?_)
 ·obtain ⟨z, hz, rfl⟩ := List.mem_map.mp hm
  obtain ⟨y, hy, rfl⟩ := List.mem_map.mp hz
  refine ⟨_, rfl, y, rfl, by have := qd ls y hy; omega, _, rfl, ?_⟩
  have z : R (told (S y).cps.toList) H' := hR H' (ag.refl H')
  rw [cv] at z
  exact z
 ·exact ⟨_, rfl, hR H' (ag.refl H')⟩
 ·refine q _ _ (ag.trans (aj hl _) sm) ⟨D, rfl, hDn, ?_⟩
  rw [hL, List.map_id, List.map_map]
  congr 2
  rw [List.filter_map]
  have e : ((fun v => match v with | V.str x => told x.cps.toList | _ => false) ∘ (V.str ∘ S)) = told := by
   funext y
   show told (S y).cps.toList = told y
   rw [cv]
  rw [e]
  rfl
theorem uG : av ["line"] ["line"] (ao iC) := ⟨rfl, rfl, rfl, by decide +kernel, rfl, by decide +kernel, by decide +kernel⟩
theorem uH {u1 : Value} (F : bz K "line_pieces" "line_pieces" iC f fd) (uI : bf P w K mg base "pieces" 3 ["text", "marks"] tO) (zi : mg "LINE_MARKS" = some u1) (zj : RelV (.str BH) u1) : aW P w K mg base cS 4 f fd ["line"] DE := by
 refine F.ok uG (fun vs H Q E h => ?_) (fun cw A outer s H vs Q E hr h => ?_)
 ·obtain ⟨p, rfl, _⟩ := h
  rfl
 obtain ⟨p, rfl, hx, bB, q⟩ := h
 refine ⟨_, (ah (aC (ak uI (hr.mono (by decide)) rfl (aa (pv 0) (aa (c7 rfl zi zj) af))))), ?_⟩
 refine ⟨_, rfl, _, _, rfl, by rw [aZ]; exact hx, by decide +kernel, by rw [cv]; exact bB, fun l H' sm hl hL => ?_⟩
 rw [cv] at hL
 exact q _ _ sm ⟨l, rfl, hl, hL⟩
theorem zm : av ["found"] ["found"] (ao lE) := ⟨rfl, rfl, rfl, by decide +kernel, rfl, by decide +kernel, by decide +kernel⟩
theorem zw {Sk Sl : Addr} (F : bz K "read_kind" "read_kind" lE f fd) (bg : bf P w K mg base "is_small_word" 3 ["text"] (vP iu)) (aV : mg "len" = none) (F8 : mg "int" = none)
  (zx : mg "KIND_WORDS" = some (.ref Sk)) (zA : ∀ H, cM K H Sk [tx bT, tx bZ]) (Kx : mg "COUNTS" = some (.ref Sl)) (Ky : ∀ H, cM K H Sl [tx [48], tx [49], tx [50], tx [51], tx [52]]) :
  aW P w K mg base cS 4 f fd ["found"] (DF K) := by
 have zB : RelV (.ref Sk) (.ref Sk) := rfl
 have Kz : RelV (.ref Sl) (.ref Sl) := rfl
 refine F.ok zm (fun vs H Q E h => ?_) (fun cw A outer s H vs Q E hr h => ?_)
 ·obtain ⟨l, k, rfl, _⟩ := h
  rfl
 obtain ⟨l, ⟨n, c, b⟩, rfl, hL, hn, hc, q⟩ := h
 have hn : aN n = true := hn
 have hc : c ≤ 4 := hc
 have x4 : H l = some (.lst [tx (if b = true then bZ else bT), tx n, tx [48 + c]]) := hL
 refine ⟨_, (ab (aX (PW.pt (xc (aw fA (aJ ar rfl aV PySem.boot_len (aa (pv 0) af)) ai (aI _)) (yd (aw da (ay az (pv 0) ai (fun _ _ => rfl)) (c7 rfl zx zB) (by with_unfolding_all rfl)))))
 aY
 aG)
 (ab (aX (kS (dH (ak bg (hr.mono (by decide)) rfl (aa (ay az (pv 0) ai (fun _ _ => rfl)) af))))
 aY
 aG)
 (ab (aX (aw da (ay az (pv 0) ai (fun _ _ => rfl)) (c7 rfl Kx Kz) (by with_unfolding_all rfl))
 aY
 aG)
 (ah (aC (dU (aa (ay az (pv 0) ai (fun _ _ => rfl)) (aa (c9 vN rfl F8 PyProof.Rows.Boot.«int» (aa (ay az (pv 0) ai (fun _ _ => rfl)) af)) (aa (c8 cR (ay az (pv 0) ai (fun _ _ => rfl)) aR (aI _)) af))))))))), ?_⟩
 refine ⟨_, rfl, l, _, rfl, .inl (ax.of x4), rfl, _, rfl, bO ?_⟩
 refine ⟨_, rfl, l, _, 0, _, rfl, rfl, ax.of x4, rfl, Sk, _, rfl, .inr (zA _), rfl, rfl, _, rfl, ?_⟩
 have e1 : GG (tx (if b = true then bZ else bT)) [tx bT, tx bZ] = true := by cases b <;> decide +kernel
 rw [e1]
 refine bO ?_
 refine ⟨_, rfl, l, _, 1, _, rfl, rfl, ax.of x4, rfl, S n, rfl, by have := ck hn; rw [aZ]; omega, fun H1 s1 => ⟨_, rfl, ?_⟩⟩
 rw [BB, hn]
 refine bO ?_
 have rP := s1 _ _ x4
 refine ⟨_, rfl, l, _, 2, _, rfl, rfl, ax.of rP, rfl, Sl, _, rfl, .inr (Ky _), rfl, rfl, _, rfl, ?_⟩
 have e2 : GG (tx [48 + c]) [tx [48], tx [49], tx [50], tx [51], tx [52]] = true := by
  rcases (by omega : c = 0 ∨ c = 1 ∨ c = 2 ∨ c = 3 ∨ c = 4) with e | e | e | e | e <;> subst e <;> decide +kernel
 rw [e2]
 refine bO ?_
 have e3 : PySem.intText? (S [48 + c]) = some (c : Int) := by
  rcases (by omega : c = 0 ∨ c = 1 ∨ c = 2 ∨ c = 3 ∨ c = 4) with e | e | e | e | e <;> subst e <;> decide +kernel
 refine ⟨_, rfl, l, _, 1, _, rfl, rfl, ax.of rP, rfl, _, rfl, l, _, 2, _, rfl, rfl, ax.of rP, rfl, _, _, rfl, e3, (by rw [aZ]; show 1 ≤ 640; decide), ?_⟩
 refine ⟨_, rfl, l, _, 0, _, rfl, rfl, ax.of rP, rfl, rfl, (by show 3 ≤ sizeLine; decide), fun t ht => ?_⟩
 have e4 : decide (tx (if b = true then bZ else bT) = V.str (Str.ofString "lasting")) = b := by cases b <;> decide +kernel
 rw [e4]
 exact q _ _ (ag.trans s1 (aj ht _)) ⟨t, rfl, cM.of ae⟩
end
end gg
namespace gg
open PySem L2 f9 Bk
set_option maxHeartbeats 4000000
section
variable {P : Program} {w : World} {K : PySem.W.Frag} {mg : Str → Option Value} {base : Heap} {f : Addr} {fd : FuncData} {c : Cl}
theorem MW {xs : List V} {v : V} : pV (xs ++ [v]) (-1) = some v := by
 unfold pV
 have e : GF (xs ++ [v]).length (-1) = some xs.length := by
  unfold GF
  rw [List.length_append, List.length_singleton, if_neg (by decide)]
  simp
  omega
 rw [e]
 simp
theorem qD : av ["found", "mark", "rows", "piece"] ["found", "mark"] (ao uE) := ⟨rfl, rfl, rfl, by decide +kernel, rfl, by decide +kernel, by decide +kernel⟩
theorem Hi (F : bz K "parted" "parted" uE f fd) : aW P w K mg base cS 1 f fd ["found", "mark"] k8 := by
 refine F.ok qD (fun vs H Q E h => ?_) (fun cw A outer s H vs Q E hr h => ?_)
 ·obtain ⟨l, ps, m, rfl, _⟩ := h
  rfl
 obtain ⟨l, ps, m, rfl, hL, hz, q⟩ := h
 refine ⟨_, (ab (au (i := 2) qD.nd rfl (Or.inl rfl) (bc (aa (bc af) af)))
 (ab (bF PassesOwn.never rfl (aK (pv 0)) (aL (i := 3) qD.nd rfl (Or.inl rfl))
 (ah (aX (aw cR (pv 3) (pv 1) (aI _))
 (ah (a8 (cq PySem.F.plainAttrs_list PySem.F.slot_list_append PySem.F.type_list_append a9 (pv 2) (aa (bc af) af))))
 (ah (a8 (cq PySem.F.plainAttrs_list PySem.F.slot_list_append PySem.F.type_list_append a9 (ay az (pv 2) (QT Oh ai) (fun _ _ => rfl)) (aa (pv 3) af)))))))
 (ah (aC (pv 2))))), ?_⟩
 refine ⟨(by show 0 ≤ sizeLine; decide), fun b0 Kw => ⟨(by show 1 ≤ sizeLine; decide), fun lr tH => ?_⟩⟩
 have YO : b0 ≠ lr := fun z => by rw [← z, ae] at tH; cases tH
 have Sm : H lr = none := (aj Kw _).free tH
 have s0 : ag H (upd (upd H b0 (.lst [])) lr (.lst [V.ref b0])) := ag.trans (aj Kw _) (aj tH _)
 refine ⟨_, rfl, l, rfl, ⟨_, ax.of (s0 _ _ hL)⟩, bt (K := K) (a := l) (xs := ps.map tx) (fun i σ H' => ∃ (bs : List Addr) (o : Option V), σ = [some (.ref l), some (tx m), some (.ref lr), o] ∧ ag H H' ∧ H' lr = some (.lst (bs.map V.ref)) ∧
   Paired (fun row b => H b = none ∧ b ≠ lr ∧ H' b = some (.lst (row.map tx))) (bQ m (ps.take i) [[]]) bs ∧ bs.Nodup)
  ⟨[b0], none, rfl, s0, ae, .cons ⟨Kw, YO, by rw [aq YO]; exact ae⟩ .nil, by simp⟩ (fun i σ H' _ ⟨_, _, _, sm, _⟩ => ax.of (sm _ _ hL)) ?_ ?_⟩
 ·rintro i y σ H' hi ⟨bs, o, rfl, sm, m5, pr, nd⟩
  have vR : i < ps.length := by
   have := (List.getElem?_eq_some_iff.mp hi).1
   simpa using this
  obtain rfl : y = tx ps[i] := by
   rw [List.getElem?_map, Ge9 vR] at hi
   exact (Option.some.inj hi).symm
  have YQ : bQ m (ps.take (i + 1)) [[]] = i9 m ps[i] (bQ m (ps.take i) [[]]) := by
   rw [List.take_succ_eq_append_getElem vR, oS]
  have hbl : bs.length ≤ 20002 := by
   have z := Paired.length pr
   have z2 := rm m (ps.take i) [[]]
   rw [List.length_take] at z2
   simp only [List.length_cons, List.length_nil] at z2
   omega
  refine ⟨_, rfl, _, rfl, rfl, _, rfl, ?_⟩
  rw [yy]
  refine cI (fun e => ?_) (fun e => ?_)
  ·have e' : ps[i] = m := of_decide_eq_true e
   refine ⟨_, rfl, .inl ⟨rfl, _, ax.of m5⟩, (by show 0 ≤ sizeLine; decide), fun b hb => ?_⟩
   have WU : b ≠ lr := fun z => by rw [z, m5] at hb; cases hb
   have YR : H b = none := sm.free hb
   have Pw : upd H' b (.lst []) lr = some (.lst (bs.map V.ref)) := by rw [aq (Ne.symm WU)]; exact m5
   refine ⟨lr, _, _, rfl, rfl, Pw, (by rw [Lm9]; exact f6 (by omega)), bs ++ [b], _, rfl, ag.aS (ag.aS sm YR _) Sm _, ?_, ?_, ?_⟩
   ·rw [ae, List.map_append]
    rfl
   ·rw [YQ]
    unfold i9
    rw [if_pos e']
    have p2 : Paired (fun row x => H x = none ∧ x ≠ lr ∧ upd (upd H' b (.lst [])) lr (.lst (bs.map V.ref ++ [V.ref b])) x = some (.lst (row.map tx))) (bQ m (ps.take i) [[]]) bs := L2.Paired.bY pr fun row x z => ⟨z.1, z.2.1, by
     rw [aq z.2.1, aq (aH z.2.2 hb)]
     exact z.2.2⟩
    exact p2.snoc ⟨YR, WU, by rw [aq WU]; exact ae⟩
   ·rw [List.nodup_append]
    refine ⟨nd, by simp, ?_⟩
    intro x hx y hy
    rw [List.mem_singleton.mp hy]
    intro z
    subst z
    obtain ⟨row, _, hrw⟩ := jz pr hx
    rw [hrw.2.2] at hb
    cases hb
  ·have e' : ps[i] ≠ m := fun z => by rw [decide_eq_true z] at e; exact e rfl
   obtain ⟨a1, row, b1, b, e1, e2, p1, hb⟩ := rj pr (tR m _ _ (by simp))
   have m6 : row.length ≤ 20000 := by
    have z := tS m (ps.take i) [[]] 0 (by intro r hr; rw [List.mem_singleton.mp hr]; exact Nat.le_refl _) row (by rw [e1]; simp)
    rw [List.length_take] at z
    omega
   have WV : H' lr = some (.lst (b1.map V.ref ++ [V.ref b])) := by
    rw [m5, e2, List.map_append]
    rfl
   refine ⟨_, rfl, _, rfl, lr, _, _, V.ref b, rfl, rfl, ax.of WV, MW, .inl ⟨rfl, _, ax.of hb.2.2⟩, _, rfl, b, _, _, rfl, rfl, hb.2.2, (by rw [Lm9]; exact f6 (by omega)), ?_⟩
   refine ⟨bs, _, rfl, ag.aS sm hb.1 _, by rw [aq (Ne.symm hb.2.1)]; exact m5, ?_, nd⟩
   rw [YQ]
   unfold i9
   rw [if_neg e', e1, List.dropLast_concat, show (a1 ++ [row]).getLastD [] = row by simp, e2]
   rw [e2, List.nodup_append] at nd
   refine Paired.snoc ?_ ⟨hb.1, hb.2.1, ?_⟩
   ·refine k7 p1 fun r x hx z => ⟨z.1, z.2.1, ?_⟩
    rw [aq (nd.2.2 x hx b (by simp))]
    exact z.2.2
   ·rw [ae, List.map_append]
    rfl
 ·rintro σ H' ⟨bs, o, rfl, sm, m5, pr, nd⟩
  rw [Lm9, List.take_length] at pr
  refine ⟨_, rfl, q _ _ sm ⟨lr, _, rfl, Sm, m5, ?_⟩⟩
  exact rl (L2.Paired.bY pr fun row b z => (⟨b, rfl, z.1, z.2.2⟩ : NC H H' row (V.ref b)))
end
end gg
namespace gg
open PySem L2 f9 Bk
set_option maxHeartbeats 4000000
section
variable {P : Program} {w : World} {K : PySem.W.Frag} {mg : Str → Option Value} {base : Heap} {f : Addr} {fd : FuncData} {c : Cl}
theorem n0 : av ["found"] ["found"] (ao d7) := ⟨rfl, rfl, rfl, by decide +kernel, rfl, by decide +kernel, by decide +kernel⟩
theorem oa (F : bz K "check_two_names" "check_two_names" d7 f fd) (cH : bf P w K mg base "is_name" 2 ["text"] (vP fE)) (aV : mg "len" = none) : aW P w K mg base cS 3 f fd ["found"] FE := by
 refine F.ok n0 (fun vs H Q E h => ?_) (fun cw A outer s H vs Q E hr h => ?_)
 ·obtain ⟨l, a, m, b, rfl, _⟩ := h
  rfl
 obtain ⟨l, a, m, b, rfl, hL, ha, hb, q⟩ := h
 refine ⟨_, (ah (aX (PW.pt (xc (aw fA (aJ ar rfl aV PySem.boot_len (aa (pv 0) af)) ai (aI _)) (xc (kS (dH (ak cH (hr.mono (by decide)) rfl (aa (ay az (pv 0) ai (fun _ _ => rfl)) af)))) (yd (kS (dH (ak cH (hr.mono (by decide)) rfl (aa (ay az (pv 0) ai (fun _ _ => rfl)) af))))))))
 aY
 aG)), ?_⟩
 refine ⟨_, rfl, l, _, rfl, .inl (ax.of hL), rfl, _, rfl, bO ?_⟩
 refine ⟨_, rfl, l, _, 0, _, rfl, rfl, ax.of hL, rfl, S a, rfl, by have := i8 ha; rw [aZ]; omega, fun H1 s1 => ⟨_, rfl, ?_⟩⟩
 rw [oQ, ha]
 refine bO ⟨_, rfl, l, _, 2, _, rfl, rfl, ax.of (s1 _ _ hL), rfl, S b, rfl, by have := i8 hb; rw [aZ]; omega, fun H2 s2 => ⟨_, rfl, ?_⟩⟩
 rw [oQ, hb]
 exact bO (q _ (ag.trans s1 s2))
theorem zC : av ["self", "left", "right"] ["self", "left", "right"] (ao lD) := ⟨rfl, rfl, rfl, by decide +kernel, rfl, by decide +kernel, by decide +kernel⟩
theorem zD (F : bz K "__init__" "Look.__init__" lD f fd) : aW P w K mg base cS 1 f fd ["self", "left", "right"] (jA K) := by
 refine F.ok zC (fun vs H Q E h => ?_) (fun cw A outer s H vs Q E hr h => ?_)
 ·obtain ⟨C, p, dx, l, r, rfl, _⟩ := h
  rfl
 obtain ⟨C, p, dx, l, r, rfl, T, hp, q⟩ := h
 refine ⟨_, (ab (ps_fld (pv 0) (pv 1) rfl)
 (ah (ps_fld (pv 0) (pv 2) rfl))), ?_⟩
 refine ⟨_, rfl, _, rfl, p, C, dx, [], rfl, hp, T.cl, T.nL, (by show 0 < 1000; decide), _, rfl, _, rfl, p, C, dx, _, rfl, ae, T.cl, T.nR, (by show 1 < 1000; decide), ?_⟩
 refine q _ _ ae ?_ ?_ ?_ ?_ fun b o e hb => ?_
 ·rw [aQ, if_neg (by decide +kernel), aQ, if_pos rfl]
 ·rw [aQ, if_pos rfl]
 ·rw [aQ, if_neg (by decide +kernel), aQ, if_neg (by decide +kernel)]
  rfl
 ·rw [aQ, if_neg (by decide +kernel), aQ, if_neg (by decide +kernel)]
  rfl
 ·rw [aq hb, aq hb]
  exact e
theorem x5 {H : Hp} {C : Addr} {a b : V} {Q : VK} (T : BI K C) (q : ∀ x dx fs H', ag H H' → H x = none → H' x = some (.ins C dx fs) → fs.lookup ("left" : Str) = some a → fs.lookup ("right" : Str) = some b → fs.lookup ("holds" : Str) = none → fs.lookup ("word" : Str) = none → Q (.ref x) H') :
  ∀ x dx, H x = none → H dx = none → dx ≠ x → jA K (.ref x :: ([a, b] ++ [])) (upd (upd H dx (.own x)) x (.ins C dx [])) (fun v H2 => v = .cL ∧ Q (.ref x) H2) E0 := fun x dx hx Sn WW => by
 refine ⟨C, x, dx, a, b, rfl, T, ae, fun H' fs h1 h2 h3 h4 h5 kp => ⟨rfl, q x dx fs H' (fun b o e => kp b o ?_ (aH e hx)) hx h1 h2 h3 h4 h5⟩⟩
 rw [aq (aH e hx), aq (aH e Sn)]
 exact e
theorem zE : av ["found"] ["found"] (ao lH) := ⟨rfl, rfl, rfl, by decide +kernel, rfl, by decide +kernel, by decide +kernel⟩
theorem zF (F : bz K "read_look" "read_look" lH f fd) (bM : bf P w K mg base "check_two_names" 3 ["found"] FE) (Ts : BI K c.same) (Tu : BI K c.unlike)
  (En : L4 P w K mg base "Same" c.same 1 ["self", "left", "right"] (jA K)) (uJ : L4 P w K mg base "Unlike" c.unlike 1 ["self", "left", "right"] (jA K)) : aW P w K mg base cS 4 f fd ["found"] (DG c) := by
 refine F.ok zE (fun vs H Q E h => ?_) (fun cw A outer s H vs Q E hr h => ?_)
 ·obtain ⟨l, k, rfl, _⟩ := h
  rfl
 obtain ⟨l, ⟨sm, a, b⟩, rfl, hL, ha, hb, q⟩ := h
 have x4 : H l = some (.lst [tx a, tx (if sm = true then tT else k9), tx b]) := hL
 refine ⟨_, (ab (a8 (ak bM (hr.mono (by decide)) rfl (aa (pv 0) af)))
 (ab (aX (aw cR (ay az (pv 0) ai (fun _ _ => rfl)) aR (aI _))
 (ah (aC (oJ En (hr.mono (by decide)) rfl (aa (ay az (pv 0) ai (fun _ _ => rfl)) (aa (ay az (pv 0) ai (fun _ _ => rfl)) af)))))
 aG)
 (ab (aX (aw cR (ay az (pv 0) ai (fun _ _ => rfl)) aR (aI _))
 (ah (aC (oJ uJ (hr.mono (by decide)) rfl (aa (ay az (pv 0) ai (fun _ _ => rfl)) (aa (ay az (pv 0) ai (fun _ _ => rfl)) af)))))
 aG)
 (ah Ir)))), ?_⟩
 refine ⟨_, rfl, l, a, _, b, rfl, x4, ha, hb, fun H1 s1 => ?_⟩
 have rP := s1 _ _ x4
 refine ⟨_, rfl, l, _, 1, _, rfl, rfl, ax.of rP, rfl, rfl, _, rfl, ?_⟩
 cases sm with
 | true =>
  have e : decide (tx (if true = true then tT else k9) = V.str (Str.ofString "same")) = true := by decide +kernel
  rw [e]
  refine nE ⟨_, rfl, l, _, 0, _, rfl, rfl, ax.of rP, rfl, _, rfl, l, _, 2, _, rfl, rfl, ax.of rP, rfl, x5 Ts fun x dx fs H' s' hx h1 h2 h3 h4 h5 => ?_⟩
  exact q _ _ (ag.trans s1 s') ⟨x, dx, fs, rfl, s1.free hx, h1, h2, h3, h4, h5⟩
 | false =>
  have e : decide (tx (if false = true then tT else k9) = V.str (Str.ofString "same")) = false := by decide +kernel
  have e2 : decide (tx (if false = true then tT else k9) = V.str (Str.ofString "unlike")) = true := by decide +kernel
  rw [e]
  refine bO ⟨_, rfl, l, _, 1, _, rfl, rfl, ax.of rP, rfl, rfl, _, rfl, ?_⟩
  rw [e2]
  refine nE ⟨_, rfl, l, _, 0, _, rfl, rfl, ax.of rP, rfl, _, rfl, l, _, 2, _, rfl, rfl, ax.of rP, rfl, x5 Tu fun x dx fs H' s' hx h1 h2 h3 h4 h5 => ?_⟩
  exact q _ _ (ag.trans s1 s') ⟨x, dx, fs, rfl, s1.free hx, h1, h2, h3, h4, h5⟩
theorem zG : av ["found"] ["found"] (ao lI) := ⟨rfl, rfl, rfl, by decide +kernel, rfl, by decide +kernel, by decide +kernel⟩
theorem zH (F : bz K "read_pair" "read_pair" lI f fd) (bM : bf P w K mg base "check_two_names" 3 ["found"] FE) : aW P w K mg base cS 4 f fd ["found"] (DH K) := by
 refine F.ok zG (fun vs H Q E h => ?_) (fun cw A outer s H vs Q E hr h => ?_)
 ·obtain ⟨l, k, rfl, _⟩ := h
  rfl
 obtain ⟨l, ⟨a, b⟩, rfl, hL, ha, hb, q⟩ := h
 have x4 : H l = some (.lst [tx a, tx [61], tx b]) := hL
 refine ⟨_, (ab (a8 (ak bM (hr.mono (by decide)) rfl (aa (pv 0) af)))
 (ab (aX (aw fA (ay az (pv 0) ai (fun _ _ => rfl)) aR (aI _))
 aY
 aG)
 (ah (aC (dU (aa (ay az (pv 0) ai (fun _ _ => rfl)) (aa (ay az (pv 0) ai (fun _ _ => rfl)) af))))))), ?_⟩
 refine ⟨_, rfl, l, a, _, b, rfl, x4, ha, hb, fun H1 s1 => ?_⟩
 have rP := s1 _ _ x4
 refine ⟨_, rfl, l, _, 1, _, rfl, rfl, ax.of rP, rfl, rfl, _, rfl, ?_⟩
 have e : decide (tx [61] = V.str (Str.ofString "=")) = true := by decide +kernel
 rw [e]
 refine bO ⟨_, rfl, l, _, 0, _, rfl, rfl, ax.of rP, rfl, _, rfl, l, _, 2, _, rfl, rfl, ax.of rP, rfl, (by show 2 ≤ sizeLine; decide), fun t ht => ?_⟩
 exact q _ _ (ag.trans s1 (aj ht _)) ⟨t, rfl, cM.of ae⟩
theorem Hj {ks : List Lk} (h : ∀ k ∈ ks, bh k.l = true ∧ bh k.r = true) : ∀ q ∈ ks.map tU, ([44] : Cs) ∉ q := by
 intro q hq hm
 obtain ⟨k, hk, rfl⟩ := List.mem_map.mp hq
 have hn := h k hk
 unfold tU at hm
 rcases List.mem_cons.mp hm with e | hm
 ·exact mS hn.1 e.symm
 rcases List.mem_cons.mp hm with e | hm
 ·revert e; cases k.same <;> decide
 ·exact mS hn.2 (List.mem_singleton.mp hm).symm
theorem Hk {ks : List (Cs × Cs)} (h : ∀ k ∈ ks, bh k.1 = true ∧ bh k.2 = true) : ∀ q ∈ ks.map tV, ([44] : Cs) ∉ q := by
 intro q hq hm
 obtain ⟨k, hk, rfl⟩ := List.mem_map.mp hq
 have hn := h k hk
 unfold tV at hm
 rcases List.mem_cons.mp hm with e | hm
 ·exact mS hn.1 e.symm
 rcases List.mem_cons.mp hm with e | hm
 ·revert e; decide
 ·exact mS hn.2 (List.mem_singleton.mp hm).symm
theorem F9 : (Str.ofString ",") = S [44] := by decide +kernel
theorem Pz : (Str.ofString ";") = S [59] := by decide +kernel
theorem vW : av ["found"] ["found"] (ao jH) := ⟨rfl, rfl, rfl, by decide +kernel, rfl, by decide +kernel, by decide +kernel⟩
theorem vX (F : bz K "read_looks" "read_looks" jH f fd) (d8 : bf P w K mg base "parted" 1 ["found", "mark"] k8) (lU : bf P w K mg base "read_look" 4 ["found"] (DG c)) : aW P w K mg base cS 5 f fd ["found"] (yC c) := by
 refine F.ok vW (fun vs H Q E h => ?_) (fun cw A outer s H vs Q E hr h => ?_)
 ·obtain ⟨l, k, rfl, _⟩ := h
  rfl
 obtain ⟨l, ks, rfl, hL, h0, hz, hn, q⟩ := h
 refine ⟨_, (ah (aC (bK [] rfl (by kernel_rfl) (aK (ak d8 (hr.mono (by decide)) rfl (aa (pv 0) (aa aR af)))) (fun _ _ _ _ _ => bu) (fun _ _ _ _ _ => (ak lU (hr.mono (by decide)) rfl (aa (pv 0) af)))))), ?_⟩
 refine ⟨_, rfl, l, _, [44], by rw [F9]; rfl, hL, ?_, fun v H1 s1 R => ?_⟩
 ·have z := tW (m := [44]) (ks.map tU) 3 (by intro q hq; obtain ⟨k, _, rfl⟩ := List.mem_map.mp hq; exact Nat.le_refl _)
  rw [Lm9] at z
  omega
 have e := gc (m := [44]) (ks.map tU) [] (by simpa using h0) (Hj hn)
 rw [List.nil_append] at e
 rw [e, List.nil_append] at R
 obtain ⟨lr, vs, rfl, tH, hR, pr⟩ := R
 have hlen := Paired.length pr
 rw [Lm9] at hlen
 refine ⟨lr, rfl, ⟨_, ax.of hR⟩, fun D hD => ?_⟩
 refine bI (K := K) (xs := vs) ks (fun H0 H b y => oM c H0 H b y) (fun _ _ _ _ _ k h => h.keep k) (fun _ _ _ _ _ d h => h.bj d) (f6 (by omega)) hD (ax.of hR) hlen (fun i x k H' R hx hk sm hQ => ?_) (fun H' ys sm x4 po => ?_)
 ·have hi : i < vs.length := (List.getElem?_eq_some_iff.mp hx).1
  have So : i < ks.length := (List.getElem?_eq_some_iff.mp hk).1
  have ex : vs[i] = x := (List.getElem?_eq_some_iff.mp hx).2
  have ek : ks[i] = k := (List.getElem?_eq_some_iff.mp hk).2
  obtain ⟨b, eb, hb, m6⟩ := paired_at pr i (by rw [Lm9]; exact So) hi
  rw [List.getElem_map, ek] at m6
  rw [ex] at eb
  subst eb
  have hm := hn k (by rw [← ek]; exact List.getElem_mem So)
  exact ⟨_, rfl, b, k, rfl, sm _ _ m6, hm.1, hm.2, fun v m8 s2 ho => hQ v m8 s2 ho⟩
 ·refine q _ _ (ag.trans s1 sm) ⟨D, ys, rfl, s1.free hD, x4, L2.Paired.bY po fun b y z => z.bj fun _ h => s1.free h⟩
theorem vY : av ["found"] ["found"] (ao jI) := ⟨rfl, rfl, rfl, by decide +kernel, rfl, by decide +kernel, by decide +kernel⟩
theorem vZ (F : bz K "read_pairs" "read_pairs" jI f fd) (d8 : bf P w K mg base "parted" 1 ["found", "mark"] k8) (lV : bf P w K mg base "read_pair" 4 ["found"] (DH K)) : aW P w K mg base cS 5 f fd ["found"] (yD K) := by
 refine F.ok vY (fun vs H Q E h => ?_) (fun cw A outer s H vs Q E hr h => ?_)
 ·obtain ⟨l, k, rfl, _⟩ := h
  rfl
 obtain ⟨l, ks, rfl, hL, h0, hz, hn, q⟩ := h
 refine ⟨_, (ah (aC (bK [] rfl (by kernel_rfl) (aK (ak d8 (hr.mono (by decide)) rfl (aa (pv 0) (aa aR af)))) (fun _ _ _ _ _ => bu) (fun _ _ _ _ _ => (ak lV (hr.mono (by decide)) rfl (aa (pv 0) af)))))), ?_⟩
 refine ⟨_, rfl, l, _, [44], by rw [F9]; rfl, hL, ?_, fun v H1 s1 R => ?_⟩
 ·have z := tW (m := [44]) (ks.map tV) 3 (by intro q hq; obtain ⟨k, _, rfl⟩ := List.mem_map.mp hq; exact Nat.le_refl _)
  rw [Lm9] at z
  omega
 have e := gc (m := [44]) (ks.map tV) [] (by simpa using h0) (Hk hn)
 rw [List.nil_append] at e
 rw [e, List.nil_append] at R
 obtain ⟨lr, vs, rfl, tH, hR, pr⟩ := R
 have hlen := Paired.length pr
 rw [Lm9] at hlen
 refine ⟨lr, rfl, ⟨_, ax.of hR⟩, fun D hD => ?_⟩
 refine bI (K := K) (xs := vs) ks (fun _ H b y => Pair K H b y) (fun _ _ _ _ _ k h => h.keep k) (fun _ _ _ _ _ _ h => h) (f6 (by omega)) hD (ax.of hR) hlen (fun i x k H' R hx hk sm hQ => ?_) (fun H' ys sm x4 po => ?_)
 ·have hi : i < vs.length := (List.getElem?_eq_some_iff.mp hx).1
  have So : i < ks.length := (List.getElem?_eq_some_iff.mp hk).1
  have ex : vs[i] = x := (List.getElem?_eq_some_iff.mp hx).2
  have ek : ks[i] = k := (List.getElem?_eq_some_iff.mp hk).2
  obtain ⟨b, eb, hb, m6⟩ := paired_at pr i (by rw [Lm9]; exact So) hi
  rw [List.getElem_map, ek] at m6
  rw [ex] at eb
  subst eb
  have hm := hn k (by rw [← ek]; exact List.getElem_mem So)
  exact ⟨_, rfl, b, k, rfl, sm _ _ m6, hm.1, hm.2, fun v m8 s2 ho => hQ v m8 s2 ho⟩
 ·exact q _ _ (ag.trans s1 sm) ⟨D, ys, rfl, s1.free hD, x4, po⟩
theorem zI : av ["word", "found"] ["word", "found"] (ao lG) := ⟨rfl, rfl, rfl, by decide +kernel, rfl, by decide +kernel, by decide +kernel⟩
theorem zJ (F : bz K "read_part" "read_part" lG f fd) (jR : bf P w K mg base "read_looks" 5 ["found"] (yC c)) (jS : bf P w K mg base "read_pairs" 5 ["found"] (yD K)) (gG : bf P w K mg base "row_of_facts" 5 ["found"] (Je K)) :
  aW P w K mg base cS 6 f fd ["word", "found"] (DI K c) := by
 refine F.ok zI (fun vs H Q E h => ?_) (fun cw A outer s H vs Q E hr h => ?_)
 ·obtain ⟨l, n, ps, p, rfl, _⟩ := h
  rfl
 obtain ⟨l, n, ps, p, rfl, hL, hz, hP, q⟩ := h
 refine ⟨_, (ab (aX (aw cR (pv 0) aR (aI _))
 (ah (aC (ak jR (hr.mono (by decide)) rfl (aa (pv 1) af))))
 aG)
 (ab (aX (aw cR (pv 0) aR (aI _))
 (ah (aC (ak jS (hr.mono (by decide)) rfl (aa (pv 1) af))))
 aG)
 (ah (aC (ak gG (hr.mono (by decide)) rfl (aa (pv 1) af)))))), ?_⟩
 refine ⟨_, rfl, rfl, _, rfl, ?_⟩
 cases hP with
 | lk h0 hl h =>
  have e : decide (tx (wordAt 2) = V.str (Str.ofString "look")) = true := by decide +kernel
  rw [e]
  exact nE ⟨_, rfl, l, _, rfl, hL, h0, hl, h, fun v H' s' ho => q v H' s' ho⟩
 | pr h0 hl h =>
  have e : decide (tx (wordAt 4) = V.str (Str.ofString "look")) = false := by decide +kernel
  have e2 : decide (tx (wordAt 4) = V.str (Str.ofString "tell")) = true := by decide +kernel
  rw [e]
  refine bO ⟨_, rfl, rfl, _, rfl, ?_⟩
  rw [e2]
  exact nE ⟨_, rfl, l, _, rfl, hL, h0, hl, h, fun v H' s' ho => q v H' s' ho⟩
 | fs hn h =>
  have e : decide (tx (wordAt n) = V.str (Str.ofString "look")) = false := by rcases hn with e | e | e <;> subst e <;> decide +kernel
  have e2 : decide (tx (wordAt n) = V.str (Str.ofString "tell")) = false := by rcases hn with e | e | e <;> subst e <;> decide +kernel
  rw [e]
  refine bO ⟨_, rfl, rfl, _, rfl, ?_⟩
  rw [e2]
  exact bO ⟨_, rfl, l, _, _, rfl, hL, hz, h, fun v H' s' ho => q v H' s' ho⟩
end
end gg
namespace gg
open PySem L2 f9 Bk
set_option maxHeartbeats 4000000
section
variable {P : Program} {w : World} {K : PySem.W.Frag} {mg : Str → Option Value} {base : Heap} {f : Addr} {fd : FuncData} {c : Cl}
abbrev gH : List V := [tx Jh, tx Ji, tx Jj, tx NB, tx tQ]
theorem KA {n : Nat} (hn : n ≤ 5) : hV gH (some (n : Int)) none = gH.drop n := by
 rcases (by omega : n = 0 ∨ n = 1 ∨ n = 2 ∨ n = 3 ∨ n = 4 ∨ n = 5) with e | e | e | e | e | e <;> subst e <;> rfl
theorem MX {m n : Nat} (h : m ≤ n) (hn : n < 5) : GG (tx (wordAt n)) (gH.drop m) = true := by
 rcases (by omega : n = 0 ∨ n = 1 ∨ n = 2 ∨ n = 3 ∨ n = 4) with e | e | e | e | e <;> subst e <;>
 rcases (by omega : m = 0 ∨ m = 1 ∨ m = 2 ∨ m = 3 ∨ m = 4) with e | e | e | e | e <;> subst e <;> first | omega | decide +kernel
theorem uK (m : Nat) : (gH.drop m).all eU = true := by
 rw [List.all_eq_true]
 intro x hx
 have hx' := List.mem_of_mem_drop hx
 rcases List.mem_cons.mp hx' with e | hx'
 ·rw [e]; rfl
 rcases List.mem_cons.mp hx' with e | hx'
 ·rw [e]; rfl
 rcases List.mem_cons.mp hx' with e | hx'
 ·rw [e]; rfl
 rcases List.mem_cons.mp hx' with e | hx'
 ·rw [e]; rfl
 ·rw [List.mem_singleton.mp hx']; rfl
theorem Eo {n : Nat} (hn : n < 5) : (∃ z, gH[n]? = some z ∧ vE z (tx (wordAt n)) = true) ∧ ∀ m z, m < n → gH[m]? = some z → vE z (tx (wordAt n)) = false := by
 rcases (by omega : n = 0 ∨ n = 1 ∨ n = 2 ∨ n = 3 ∨ n = 4) with e | e | e | e | e <;> subst e <;> refine ⟨⟨_, rfl, by decide +kernel⟩, fun m z hm hz => ?_⟩
 ·omega
 all_goals
  rcases (by omega : m = 0 ∨ m = 1 ∨ m = 2 ∨ m = 3) with e | e | e | e <;> subst e <;> first | omega | (cases hz; decide +kernel)
theorem cD : av ["found", "title", "parts", "earliest", "piece", "word"] ["found"] (ao lF) := ⟨rfl, rfl, rfl, by decide +kernel, rfl, by decide +kernel, by decide +kernel⟩
theorem zK {PB : Addr} {u1 : Value} (F : bz K "read_rule" "read_rule" lF f fd) (bq : bf P w K mg base "piece_at" 1 ["found", "place"] oR) (bg : bf P w K mg base "is_small_word" 3 ["text"] (vP iu)) (d8 : bf P w K mg base "parted" 1 ["found", "mark"] k8)
  (lW : bf P w K mg base "read_part" 6 ["word", "found"] (DI K c)) (lX : mg "RULE_WORD" = some u1) (lY : RelV (tx gr) u1) (pE : mg "PART_WORDS" = some (.ref PB)) (pF : ∀ H, cM K H PB gH) (zM : ∃ o, K.lookup PB = some o ∧ o.cls = .type "tuple" ∧ o.dict = none) :
  aW P w K mg base cS 7 f fd ["found"] (DJ K c) := by
 have pG : RelV (.ref PB) (.ref PB) := rfl
 refine F.ok cD (fun vs H Q E h => ?_) (fun cw A outer s H vs Q E hr h => ?_)
 ·obtain ⟨l, title, L, rfl, _⟩ := h
  rfl
 obtain ⟨l, title, L, rfl, hL, hz, R, q⟩ := h
 have hu := Fu hr
 refine ⟨_, (ab (au (i := 1) cD.nd rfl (Or.inl rfl) (ak bq (hr.mono (by decide)) rfl (aa (pv 0) (aa ai af))))
 (ab (aX (PW.pt (xc (aw fA (ak bq (hr.mono (by decide)) rfl (aa (pv 0) (aa ai af))) (c7 rfl lX lY) (aI _)) (xc (kS (dH (ak bg (hr.mono (by decide)) rfl (aa (pv 1) af)))) (yd (aw fA (ak bq (hr.mono (by decide)) rfl (aa (pv 0) (aa ai af))) aR (aI _))))))
 aY
 aG)
 (ab (au (i := 2) cD.nd rfl (Or.inl rfl) By)
 (ab (au (i := 3) cD.nd rfl (Or.inl rfl) ai)
 (ab (bF PassesOwn.never rfl (aK (ak d8 (hr.mono (by decide)) rfl (aa (dW jr (pv 0) (dF ai) mP) (aa aR af)))) (aL (i := 4) cD.nd rfl (Or.inl rfl))
 (ab (au (i := 5) cD.nd rfl (Or.inl rfl) (ak bq (hr.mono (by decide)) rfl (aa (pv 4) (aa ai af))))
 (ab (aX (aw da (pv 5) (dW L7 (c7 rfl pE pG) (dF (pv 3)) mP) (by with_unfolding_all rfl))
 aY
 aG)
 (ab (au (i := 3) cD.nd rfl (Or.inl rfl) (aB dI (cq PySem.F.plainAttrs_tuple PySem.F.slot_tuple_index PySem.F.type_tuple_index I0 (c7 rfl pE pG) (aa (pv 5) af)) ai))
 (ah (Fy hu (pv 2) (pv 5) (ak lW (hr.mono (by decide)) rfl (aa (pv 5) (aa (dW jr (pv 4) (dF ai) mP) af))) rfl))))))
 (ab (aX (PW.pt (kR (Df (p8 hu aR (pv 2))) (jo (Df (p8 hu aR (pv 2))))))
 aY
 aG)
 (ah (aC (dU (aa (pv 1) (aa (pv 2) af))))))))))), ?_⟩
 refine ⟨_, rfl, l, _, 1, rfl, hL, hz, ?_⟩
 have WX := ck R.tt
 refine ⟨_, rfl, l, _, 0, rfl, hL, hz, rfl, _, rfl, ?_⟩
 have e0 : decide (tx ((iw title L).getD 0 []) = tx gr) = true := decide_eq_true rfl
 rw [e0]
 refine bO ⟨_, rfl, S title, rfl, by rw [aZ]; omega, fun H1 s1 => ⟨_, rfl, ?_⟩⟩
 rw [BB, R.tt]
 have rP := s1 _ _ hL
 refine bO ⟨_, rfl, l, _, 2, rfl, rP, hz, rfl, _, rfl, ?_⟩
 have e2 : decide (tx ((iw title L).getD 2 []) = V.str (Str.ofString ":")) = true := by
  show decide (tx [58] = V.str (Str.ofString ":")) = true
  decide +kernel
 rw [e2]
 refine bO ?_
 intro d hd
 have U8 : H d = none := s1.free hd
 have s2 : ag H (upd H1 d (.dK [])) := ag.aS s1 U8 _
 refine ⟨_, rfl, _, rfl, l, _, rfl, .inl (.inl (s2 _ _ hL)), fun l2 rg => ?_⟩
 have WY : hV ((iw title L).map tx) (some (3 : Int)) none = (glue [59] (L.map fun x => wordAt x.n :: x.ps)).map tx := tw (k := 3) (by rw [Lm9]; show 3 ≤ (glue [59] (L.map fun x => wordAt x.n :: x.ps)).length + 3; omega)
 rw [WY]
 have hgl : (glue [59] (L.map fun x => wordAt x.n :: x.ps)).length ≤ 20000 := by
  have z : (iw title L).length = (glue [59] (L.map fun x => wordAt x.n :: x.ps)).length + 3 := rfl
  omega
 have PD : H l2 = none := s2.free rg
 have s3 : ag H (upd (upd H1 d (.dK [])) l2 (.lst ((glue [59] (L.map fun x => wordAt x.n :: x.ps)).map tx))) := ag.aS s2 PD _
 have nd2 : d ≠ l2 := fun z => by rw [← z, ae] at rg; cases rg
 refine ⟨l2, _, [59], by rw [Pz]; rfl, ae, hgl, fun v H2 s4 RW => ?_⟩
 have WZ : ∀ q ∈ L.map (fun x => wordAt x.n :: x.ps), ([59] : Cs) ∉ q := by
  intro q hq hm
  obtain ⟨x, hx, rfl⟩ := List.mem_map.mp hq
  rcases List.mem_cons.mp hm with e | hm
  ·have U9 := (qe R.inc x hx).2
   revert e
   rcases (by omega : x.n = 0 ∨ x.n = 1 ∨ x.n = 2 ∨ x.n = 3 ∨ x.n = 4) with e | e | e | e | e <;> rw [e] <;> decide
  ·exact R.no x hx hm
 have eP := gc (m := [59]) (L.map fun x => wordAt x.n :: x.ps) [] (by simpa using R.ne) WZ
 rw [List.nil_append] at eP
 rw [eP, List.nil_append] at RW
 obtain ⟨lr, rows, rfl, tH, hR, pr⟩ := RW
 have Hl := Paired.length pr
 rw [Lm9] at Hl
 have hd2 : H2 d = some (.dK []) := s4 _ _ (by rw [aq nd2]; exact ae)
 have s24 : ag H H2 := ag.trans s3 s4
 have YS : L.length ≤ 5 := FG R.inc (by omega)
 refine ⟨lr, rfl, ⟨_, ax.of hR⟩, bt (K := K) (a := lr) (xs := rows) (fun i σ H' => ∃ (kvs : List (Key × V)) (m : Nat) (o4 o5 : Option V), σ = [some (.ref l), some (tx title), some (.ref d), some (.int m), o4, o5] ∧ m ≤ 5 ∧ (∀ x ∈ L.drop i, m ≤ x.n) ∧
   (∀ b o, b ≠ d → H2 b = some o → H' b = some o) ∧ (∀ b, H' b = none → H2 b = none) ∧ H' d = some (.dK kvs) ∧ cC K c (upd H1 d (.dK [])) H' (L.take i) kvs)
  ⟨[], 0, none, none, rfl, by omega, fun _ _ => Nat.zero_le _, fun _ _ _ h => h, fun _ h => h, hd2, .nil⟩ (fun i σ H' _ ⟨_, _, _, _, _, _, _, k1, _⟩ => ax.of (k1 _ _ (Bh hR hd2 (by intro z; cases z)) hR)) ?_ ?_⟩
 ·rintro i y σ H' hi ⟨kvs, m, o4, o5, rfl, YT, YU, k1, k2, Ic, pa⟩
  have Sq : i < rows.length := (List.getElem?_eq_some_iff.mp hi).1
  have Ep : i < L.length := by omega
  have ey : rows[i] = y := (List.getElem?_eq_some_iff.mp hi).2
  obtain ⟨b, eb, Kw, Va⟩ := paired_at pr i (by rw [Lm9]; exact Ep) Sq
  rw [List.getElem_map] at Va
  rw [ey] at eb
  subst eb
  have Qq : L[i] ∈ L := List.getElem_mem Ep
  generalize hx : L[i] = x at Va Qq
  have U9 := (qe R.inc x Qq).2
  have hmn : m ≤ x.n := YU x (by rw [← hx]; exact List.mem_of_getElem? (by rw [List.getElem?_drop, Nat.add_zero]; exact Ge9 Ep))
  have Sr : b ≠ d := Bh Va hd2 (by intro z; cases z)
  have oB := k1 _ _ Sr Va
  have YV : (wordAt x.n :: x.ps).length ≤ 20000 := by
   have z := BJ (m := [59]) (L.map fun x => wordAt x.n :: x.ps) (wordAt x.n :: x.ps) (List.mem_map.mpr ⟨x, Qq, rfl⟩)
   omega
  refine ⟨_, rfl, b, _, 0, rfl, oB, YV, ?_⟩
  refine ⟨_, rfl, _, rfl, _, rfl, PB, _, rfl, pF _, fun p H3 Qr hp => ?_⟩
  rw [KA YT] at hp
  refine ⟨p, _, rfl, .inr hp, rfl, uK m, _, rfl, ?_⟩
  have W0 : (if true = true then !GG (tx ((wordAt x.n :: x.ps).getD 0 [])) (gH.drop m) else GG (tx ((wordAt x.n :: x.ps).getD 0 [])) (gH.drop m)) = false := by
   rw [if_pos rfl]
   show (!GG (tx (wordAt x.n)) (gH.drop m)) = false
   rw [MX hmn U9]
   rfl
  rw [W0]
  refine bO ?_
  obtain ⟨wp1, wp2⟩ := Eo U9
  refine ⟨.inr (.inl ⟨rfl, zM⟩), _, rfl, PB, gH, _, x.n, rfl, rfl, pF _, rfl, uK 0, wp1, wp2, _, _, rfl, rfl, ?_⟩
  have Ww := Qr _ _ oB
  refine ⟨_, rfl, _, rfl, _, rfl, b, _, rfl, .inl (.inl Ww), fun l3 Qs => ?_⟩
  have ec : hV ((wordAt x.n :: x.ps).map tx) (some (1 : Int)) none = x.ps.map tx := tw (k := 1) (by rw [Lm9, List.length_cons]; omega)
  rw [ec]
  have Vb : H3 d = some (.dK kvs) := Qr _ _ Ic
  have nd3 : d ≠ l3 := aH Vb Qs
  refine ⟨l3, x.n, x.ps, x.p, rfl, ae, by rw [List.length_cons] at YV; omega, R.ok x Qq, fun v H5 s5 Mq => ?_⟩
  have Ga : ag H3 H5 := ag.trans (aj Qs _) s5
  have Qt : H5 d = some (.dK kvs) := Ga _ _ Vb
  have WT : kvs.length ≤ 5 := by
   have z := Paired.length pa
   rw [List.length_take] at z
   omega
  have Dx : bG kvs (Sum.inr (S (wordAt x.n)) : Key) = none := xD fun kv hkv e => by
   obtain ⟨z, hz, U1⟩ := jz pa hkv
   rw [U1.1] at e
   have e2 : wordAt z.n = wordAt x.n := xA (Sum.inr.inj e)
   have ia := Jl R.inc i Ep
   rw [hx] at ia
   have fz := ia.1 z hz
   have := tX (by omega) U9 e2
   omega
  have kp : Kp (upd H1 d (.dK [])) H5 (upd H5 d (.dK (kvs ++ [(Sum.inr (S (wordAt x.n)), v)]))) := Kp.upd ae Qt (by intro xs z; cases z) (by intro o u z; cases z)
  have k25 : ∀ b, H5 b = none → H2 b = none := fun b h => k2 b (ag.free (ag.trans Qr Ga) h)
  refine ⟨_, rfl, _, rfl, d, _, rfl, GN.k (k := (Sum.inr (S (wordAt x.n)) : Key)) Qt (f6 (by omega)), ?_⟩
  rw [Bw _ Dx]
  refine ⟨kvs ++ [(Sum.inr (S (wordAt x.n)), v)], x.n + 1, _, _, rfl, by omega, fun z hz => ?_, fun b' o hb hH => ?_, fun b' h => k25 b' (kp.tM b' h), ae, ?_⟩
  ·have z2 := xE R.inc i Ep z hz
   rw [hx] at z2
   omega
  ·rw [aq hb]
   exact Ga _ _ (Qr _ _ (k1 _ _ hb hH))
  ·rw [List.take_succ_eq_append_getElem Ep, hx]
   refine ((cC.keep (Kp.same (ag.trans Qr Ga)) pa).keep kp).snoc ⟨rfl, ?_⟩
   refine cB.keep kp (cB.bj (fun b h => ?_) Mq)
   have h3 : H3 b = none := (aj Qs _).free h
   exact (ag.trans (aj rg _) s4).free (k2 b (Qr.free h3))
 ·rintro σ H' ⟨kvs, m, o4, o5, rfl, YT, YU, k1, k2, Ic, pa⟩
  have WV : rows.length = L.length := Hl.symm
  rw [WV, List.take_length] at pa
  have sH : ag H H' := fun b o e => k1 b o (aH e U8) (s24 b o e)
  have fin : ∀ t, H' t = none → Q (.ref t) (upd H' t (.tup [tx title, .ref d])) := fun t ht => by
   have ntd : d ≠ t := aH Ic ht
   refine q t d kvs _ (ag.trans sH (aj ht _)) ae U8 (by rw [aq ntd]; exact Ic) ?_
   exact L2.Paired.bY pa fun x kv z => ⟨z.1, cB.bj (fun b h => ag.free (ag.aS s1 U8 _) h) (z.2.keep (Kp.same (aj ht _)))⟩
  refine ⟨_, rfl, d, _, rfl, jy.k (k := (Sum.inr (Str.ofString "take") : Key)) Ic, _, rfl, ?_⟩
  obtain ⟨x, Qq, W2⟩ := R.hd
  have Hm := xF pa Qq
  rcases W2 with e | e
  ·rw [e] at Hm
   have e2 : (S (wordAt 0)) = Str.ofString "take" := by decide +kernel
   rw [e2] at Hm
   rw [Hm]
   exact bO ⟨_, rfl, _, rfl, (by show 2 ≤ sizeLine; decide), fin⟩
  ·rw [e] at Hm
   have e2 : (S (wordAt 1)) = Str.ofString "keep" := by decide +kernel
   rw [e2] at Hm
   have two : ∀ b : Bool, (if b = true then (∃ a o, V.ref d = .ref a ∧ jy H' a (.str (Str.ofString "keep")) o ∧ False) else True) → True := fun _ _ => trivial
   refine cI (fun _ => ⟨_, rfl, d, _, rfl, jy.k (k := (Sum.inr (Str.ofString "keep") : Key)) Ic, _, rfl, ?_⟩) (fun _ => bO ⟨_, rfl, _, rfl, (by show 2 ≤ sizeLine; decide), fin⟩)
   rw [Hm]
   exact bO ⟨_, rfl, _, rfl, (by show 2 ≤ sizeLine; decide), fin⟩
end
end gg
namespace gg
open PySem L2 f9 Bk
set_option maxHeartbeats 4000000
section
variable {P : Program} {w : World} {K : PySem.W.Frag} {mg : Str → Option Value} {base : Heap} {f : Addr} {fd : FuncData} {c : Cl}
theorem Cm : av ["name"] ["name"] (ao nT) := ⟨rfl, rfl, rfl, by decide +kernel, rfl, by decide +kernel, by decide +kernel⟩
theorem Cn {u1 : Value} (F : bz K "is_great" "is_great" nT f fd) (zc : mg "GREAT" = some u1) (zh : RelV (.str qa) u1) : aW P w K mg base cS 1 f fd ["name"] sv := by
 refine F.ok Cm (fun vs H Q E h => ?_) (fun cw A outer s H vs Q E hr h => ?_)
 ·obtain ⟨p, rfl, _⟩ := h
  rfl
 obtain ⟨p, rfl, h1, hx, q⟩ := h
 refine ⟨_, (ah (aC (c8 gk (ay pW (pv 0) ai (fun _ _ => rfl)) (c7 rfl zc zh) (by with_unfolding_all rfl)))), ?_⟩
 have hl : 1 ≤ (S p).length := by
  rw [aZ]
  cases p with
  | nil => exact absurd rfl h1
  | cons a r => simp
 refine ⟨_, rfl, S p, 0, _, rfl, rfl, (by rw [aZ]; exact sz (by omega)), FA hl, _, _, rfl, rfl, ?_⟩
 rw [StrLaws.found_one, cv]
 exact q
theorem fh : av ["facts", "found", "fact", "name"] ["facts"] (ao jK) := ⟨rfl, rfl, rfl, by decide +kernel, rfl, by decide +kernel, by decide +kernel⟩
theorem v8 (F : bz K "open_names" "open_names" jK f fd) (e9 : bf P w K mg base "is_great" 1 ["name"] sv) (oe : mg "list" = none) : aW P w K mg base cS 2 f fd ["facts"] (yE K) := by
 refine F.ok fh (fun vs H Q E h => ?_) (fun cw A outer s H vs Q E hr h => ?_)
 ·obtain ⟨l, us, fs, rfl, _⟩ := h
  rfl
 obtain ⟨l, us, fs, rfl, hL, hP, hz, bB, hfl, q⟩ := h
 have hu := Fu hr
 refine ⟨_, (ab (au (i := 1) fh.nd rfl (Or.inl rfl) By)
 (ab (bF PassesOwn.never rfl (aK (pv 0)) (aL (i := 2) fh.nd rfl (Or.inl rfl))
 (ah (bF PassesOwn.never rfl (Ob (ay a6 (pv 2) ai (fun _ _ => rfl))) (aL (i := 3) fh.nd rfl (Or.inl rfl))
 (ah (aX (dH (ak e9 (hr.mono (by decide)) rfl (aa (pv 3) af)))
 (ah (Fy hu (pv 1) (pv 3) xb rfl))
 aG)))))
 (ah (aC (c9 (tI rfl) rfl oe PyProof.Rows.Boot.«list» (aa (pv 1) af)))))), ?_⟩
 intro d hd
 have hPl := Paired.length hP
 refine ⟨_, rfl, l, rfl, ⟨_, ax.of ((aj hd _) _ _ hL)⟩, bt (K := K) (a := l) (xs := us) (fun i σ H' => ∃ o2 o3, σ = [some (.ref l), some (.ref d), o2, o3] ∧ ag H H' ∧ H' d = some (.dK ((dY ((fs.take i).flatMap (·.as)) []).map vQ)) ∧ (dY ((fs.take i).flatMap (·.as)) []).length ≤ ((fs.take i).flatMap (·.as)).length)
  ⟨none, none, rfl, aj hd _, ae, Nat.le_refl _⟩ (fun i σ H' _ ⟨_, _, _, sm, _⟩ => ax.of (sm _ _ hL)) ?_ ?_⟩
 ·rintro i y σ H' hi ⟨o2, o3, rfl, sm, Ic, tJ⟩
  have kO : i < us.length := (List.getElem?_eq_some_iff.mp hi).1
  have KC : i < fs.length := by omega
  have ey : us[i] = y := (List.getElem?_eq_some_iff.mp hi).2
  obtain ⟨t, t2, et, h1, h2⟩ := paired_at hP i KC kO
  rw [ey] at et
  subst et
  have Ss : cM K H' t [tx fs[i].k, .ref t2] := h1.same sm
  have fok := bB fs[i] (List.getElem_mem KC)
  generalize NM : dY ((fs.take i).flatMap (·.as)) [] = Co at Ic tJ
  have YW : ∀ j, dY (((fs.take i).flatMap (·.as)) ++ (fs[i].as.take j)) [] = dY (fs[i].as.take j) Co := fun j => by rw [qf, NM]
  have YX : ((fs.take i).flatMap (·.as)).length + fs[i].as.length ≤ 20000 := by
   have e : fs.flatMap (·.as) = (fs.take i).flatMap (·.as) ++ (fs[i].as ++ (fs.drop (i + 1)).flatMap (·.as)) := by
    rw [← List.flatMap_cons, ← List.flatMap_append, ← List.drop_eq_getElem_cons KC, List.take_append_drop]
   have z := congrArg List.length e
   rw [List.length_append, List.length_append] at z
   omega
  refine ⟨_, rfl, t, _, 1, _, rfl, rfl, Ss, rfl, t2, rfl, ⟨_, h2.same sm⟩, LN (K := K) (a := t2) (xs := fs[i].as.map tx) (fun j σ H2 => ∃ o3, σ = [some (.ref l), some (.ref d), some (.ref t), o3] ∧ ag H H2 ∧ H2 d = some (.dK ((dY (fs[i].as.take j) Co).map vQ)) ∧ (dY (fs[i].as.take j) Co).length ≤ Co.length + j)
   ⟨_, rfl, sm, Ic, Nat.le_refl _⟩ (fun j σ H2 _ ⟨_, _, Ib, _⟩ => h2.same Ib) ?_ ?_⟩
  ·rintro j y σ H2 hj ⟨o3', rfl, Ib, KD, rg⟩
   have W3 : j < fs[i].as.length := by
    have := (List.getElem?_eq_some_iff.mp hj).1
    simpa using this
   obtain rfl : y = tx fs[i].as[j] := by
    rw [List.getElem?_map, Ge9 W3] at hj
    exact (Option.some.inj hj).symm
   have MS := i8 (fok.2.2 _ (List.getElem_mem W3))
   have st : dY (fs[i].as.take (j + 1)) Co = nc fs[i].as[j] (dY (fs[i].as.take j) Co) := by
    rw [List.take_succ_eq_append_getElem W3, qf]
    rfl
   have Qs := GU fs[i].as[j] (dY (fs[i].as.take j) Co)
   refine ⟨_, rfl, fs[i].as[j], rfl, (fun z => by rw [z] at MS; simp at MS), by omega, _, rfl, ?_⟩
   refine cI (fun g => ?_) (fun g => ?_)
   ·refine ⟨_, rfl, _, rfl, d, _, rfl, GN.k (k := (Sum.inr (S fs[i].as[j]) : Key)) KD (by rw [Lm9]; exact f6 (by omega)), ?_⟩
    rw [Jo]
    refine ⟨_, rfl, ag.aS Ib hd _, ?_, ?_⟩
    ·rw [ae, st]
     unfold nc
     rw [if_pos g]
    ·rw [st]; omega
   ·refine ⟨_, rfl, Ib, ?_, ?_⟩
    ·rw [st]
     unfold nc
     rw [if_neg g]
     exact KD
    ·rw [st]; omega
  ·rintro σ H2 ⟨o3', rfl, Ib, KD, rg⟩
   rw [Lm9, List.take_length] at KD rg
   have e : dY ((fs.take (i + 1)).flatMap (·.as)) [] = dY fs[i].as Co := by
    rw [List.take_succ_eq_append_getElem KC, List.flatMap_append, qf, NM]
    simp
   refine ⟨_, _, rfl, Ib, by rw [e]; exact KD, ?_⟩
   rw [e, List.take_succ_eq_append_getElem KC, List.flatMap_append, List.length_append, show ([fs[i]].flatMap (·.as)) = fs[i].as by simp]
   omega
 ·rintro σ H' ⟨o2, o3, rfl, sm, Ic, tJ⟩
  rw [← hPl, List.take_length] at Ic
  refine ⟨_, rfl, d, _, rfl, Ic, fun l2 rg => ?_⟩
  refine q _ _ (ag.trans sm (aj rg _)) ⟨l2, rfl, sm.free rg, ?_⟩
  rw [ae, Jn, List.map_map]
  rfl
theorem zN : av ["self", "title", "parts"] ["self", "title", "parts"] (ao lJ) := ⟨rfl, rfl, rfl, by decide +kernel, rfl, by decide +kernel, by decide +kernel⟩
theorem zO (F : bz K "__init__" "Rule.__init__" lJ f fd) (T : yF K c.rule) (jT : bf P w K mg base "open_names" 2 ["facts"] (yE K)) : aW P w K mg base cS 3 f fd ["self", "title", "parts"] (sx K c) := by
 refine F.ok zN (fun vs H Q E h => ?_) (fun cw A outer s H vs Q E hr h => ?_)
 ·obtain ⟨H0, p, dx, d, title, L, kvs, u0, rfl, _⟩ := h
  rfl
 obtain ⟨H0, p, dx, d, title, L, kvs, u0, rfl, hp, W4, tM, hd, pa, h5, bB, Su, q⟩ := h
 have hu := Fu hr
 refine ⟨_, (ab (ps_fld (pv 0) (pv 1) rfl)
 (ab (ps_fld (pv 0) (kZ hu (pv 2) aR (bc af) ⟨rfl, rfl, rfl, rfl⟩) rfl)
 (ab (ps_fld (pv 0) (kZ hu (pv 2) aR (bc af) ⟨rfl, rfl, rfl, rfl⟩) rfl)
 (ab (ps_fld (pv 0) (kZ hu (pv 2) aR (bc af) ⟨rfl, rfl, rfl, rfl⟩) rfl)
 (ab (ps_fld (pv 0) (kZ hu (pv 2) aR (bc af) ⟨rfl, rfl, rfl, rfl⟩) rfl)
 (ab (ps_fld (pv 0) (kZ hu (pv 2) aR (bc af) ⟨rfl, rfl, rfl, rfl⟩) rfl)
 (ah (ps_fld (pv 0) (ak jT (hr.mono (by decide)) rfl (aa (aB nD (pe_fld (pv 0) rfl) (pe_fld (pv 0) rfl)) af)) rfl)))))))), ?_⟩
 have Vc : p ≠ d := Bh hp hd (by intro z; cases z)
 have Qu : ∀ (o : HO), (∃ fs, o = .ins c.rule dx fs) → (∀ xs, o ≠ .tup xs) ∧ ∀ ob u, o ≠ .vH ob u := fun o ⟨fs, e⟩ => ⟨(by intro xs z; rw [e] at z; cases z), (by intro ob u z; rw [e] at z; cases z)⟩
 refine ⟨_, rfl, _, rfl, p, c.rule, dx, [], rfl, hp, T.cl, T.n1, (by show 0 < 1000; decide), ?_⟩
 have key : ∀ (H1 : Hp) (Lz : List (Str × V)) (n : Str), H1 p = some (.ins c.rule dx Lz) → H1 d = some (.dK kvs) → cC K c H0 H1 L kvs → (∀ b, H1 b = none → H0 b = none) → (∀ b o, H b = some o → b ≠ p → H1 b = some o) →
   ∀ l, H1 l = none → ∀ y : V, (upd (upd H1 l (.lst [])) p (.ins c.rule dx (bA n y Lz))) p = some (.ins c.rule dx (bA n y Lz)) ∧ (upd (upd H1 l (.lst [])) p (.ins c.rule dx (bA n y Lz))) d = some (.dK kvs) ∧
    Kp H0 H1 (upd (upd H1 l (.lst [])) p (.ins c.rule dx (bA n y Lz))) ∧ H0 l = none ∧ upd H1 l (.lst []) l = some (.lst []) ∧ upd H1 l (.lst []) d = some (.dK kvs) ∧ upd H1 l (.lst []) p = some (.ins c.rule dx Lz) ∧ cC K c H0 (upd H1 l (.lst [])) L kvs ∧
    (∀ b o, H b = some o → b ≠ p → (upd (upd H1 l (.lst [])) p (.ins c.rule dx (bA n y Lz))) b = some o) ∧ Kp H0 (upd H1 l (.lst [])) (upd (upd H1 l (.lst [])) p (.ins c.rule dx (bA n y Lz))) := by
  intro H1 Lz n h1p YY W5 Sv h1k l hl y
  have s1 := aj hl (.lst [])
  have YZ := s1 _ _ h1p
  have Ny : Kp H0 (upd H1 l (.lst [])) (upd (upd H1 l (.lst [])) p (.ins c.rule dx (bA n y Lz))) := Kp.upd W4 YZ (Qu _ ⟨_, rfl⟩).1 (Qu _ ⟨_, rfl⟩).2
  refine ⟨ae, by rw [aq (Ne.symm Vc)]; exact s1 _ _ YY, (Kp.same s1).trans Ny, Sv l hl, ae, s1 _ _ YY, YZ, W5.keep (Kp.same s1), fun b o e hb => ?_, Ny⟩
  rw [aq hb]
  exact s1 _ _ (h1k b o e hb)
 have Qf : Kp H0 H (upd H p (.ins c.rule dx (bA "title" (tx title) []))) := Kp.upd W4 hp (Qu _ ⟨_, rfl⟩).1 (Qu _ ⟨_, rfl⟩).2
 have Y0 : (upd H p (.ins c.rule dx (bA "title" (tx title) []))) p = some (.ins c.rule dx (bA "title" (tx title) [])) := ae
 have W6 : (upd H p (.ins c.rule dx (bA "title" (tx title) []))) d = some (.dK kvs) := by rw [aq (Ne.symm Vc)]; exact hd
 have Y1 : ∀ b o, H b = some o → b ≠ p → (upd H p (.ins c.rule dx (bA "title" (tx title) []))) b = some o := fun b o e hb => by rw [aq hb]; exact e
 have PF := pa.keep Qf
 have KG : ∀ b, (upd H p (.ins c.rule dx (bA "title" (tx title) []))) b = none → H0 b = none := fun b h => tM b (Qf.tM b h)
 generalize upd H p (.ins c.rule dx (bA "title" (tx title) [])) = H1 at Qf Y0 W6 Y1 PF KG ⊢
 refine ⟨_, rfl, d, rfl, .inl ⟨_, .inl W6⟩, (by show 0 ≤ sizeLine; decide), fun l1 RA => ?_⟩
 obtain ⟨Sw, Sx, PH, W7, W8, W9, Xa, Xb, Sy, NN⟩ := key H1 _ "taken" Y0 W6 PF KG Y1 l1 RA ((bG kvs (Sum.inr (Str.ofString "take") : Key)).getD (.ref l1))
 refine ⟨_, jy.k (k := (Sum.inr (Str.ofString "take") : Key)) W9, _, rfl, p, c.rule, dx, _, rfl, Xa, T.cl, T.n2, (by show 1 < 1000; decide), ?_⟩
 have v1 := (DK Xb h5 bB (n := 0) (by decide) W7 W8).keep NN
 rw [show S (wordAt 0) = Str.ofString "take" by decide +kernel] at v1
 have PJ := PF.keep PH
 have KH : ∀ b, _ = none → H0 b = none := fun b h => KG b (PH.tM b h)
 generalize hH2 : upd (upd H1 l1 (.lst [])) p (.ins c.rule dx (bA "taken" ((bG kvs (Sum.inr (Str.ofString "take") : Key)).getD (.ref l1)) (bA "title" (tx title) []))) = H2 at Sw Sx PH Sy NN PJ KH v1  ⊢
 have g2p := Sw
 have Y2 := Sx
 have g2k := Sy
 refine ⟨_, rfl, d, rfl, .inl ⟨_, .inl Y2⟩, (by show 0 ≤ sizeLine; decide), fun l2 rg => ?_⟩
 obtain ⟨Sz, SA, MY, Xc, Xd, Xe, Xf, Xg, SD, NO⟩ := key H2 _ "kept" g2p Y2 PJ KH g2k l2 rg ((bG kvs (Sum.inr (Str.ofString "keep") : Key)).getD (.ref l2))
 refine ⟨_, jy.k (k := (Sum.inr (Str.ofString "keep") : Key)) Xe, _, rfl, p, c.rule, dx, _, rfl, Xf, T.cl, T.n3, (by show 2 < 1000; decide), ?_⟩
 have v2 := (DK Xg h5 bB (n := 1) (by decide) Xc Xd).keep NO
 rw [show S (wordAt 1) = Str.ofString "keep" by decide +kernel] at v2
 have PL := PJ.keep MY
 have KI : ∀ b, _ = none → H0 b = none := fun b h => KH b (MY.tM b h)
 have v1 := v1.keep MY
 generalize V7 : upd (upd H2 l2 (.lst [])) p (.ins c.rule dx (bA "kept" ((bG kvs (Sum.inr (Str.ofString "keep") : Key)).getD (.ref l2)) (bA "taken" ((bG kvs (Sum.inr (Str.ofString "take") : Key)).getD (.ref l1)) (bA "title" (tx title) [])))) = H3 at Sz SA MY SD NO PL KI v2 v1 ⊢
 have g3p := Sz
 have Y3 := SA
 have g3k := SD
 refine ⟨_, rfl, d, rfl, .inl ⟨_, .inl Y3⟩, (by show 0 ≤ sizeLine; decide), fun l3 Qs => ?_⟩
 obtain ⟨SE, SF, KJ, Xh, Xi, Xj, Xk, Xl, SG, NP⟩ := key H3 _ "looks" g3p Y3 PL KI g3k l3 Qs ((bG kvs (Sum.inr (Str.ofString "look") : Key)).getD (.ref l3))
 refine ⟨_, jy.k (k := (Sum.inr (Str.ofString "look") : Key)) Xj, _, rfl, p, c.rule, dx, _, rfl, Xk, T.cl, T.n4, (by show 3 < 1000; decide), ?_⟩
 have v3 := (OT Xl h5 bB Xh Xi).keep NP
 rw [show S (wordAt 2) = Str.ofString "look" by decide +kernel] at v3
 have PM := PL.keep KJ
 have KL : ∀ b, _ = none → H0 b = none := fun b h => KI b (KJ.tM b h)
 have v1 := v1.keep KJ
 have v2 := v2.keep KJ
 generalize hH4 : upd (upd H3 l3 (.lst [])) p (.ins c.rule dx (bA "looks" ((bG kvs (Sum.inr (Str.ofString "look") : Key)).getD (.ref l3)) (bA "kept" ((bG kvs (Sum.inr (Str.ofString "keep") : Key)).getD (.ref l2)) (bA "taken" ((bG kvs (Sum.inr (Str.ofString "take") : Key)).getD (.ref l1)) (bA "title" (tx title) []))))) = H4 at SE SF KJ SG NP PM KL v3 v1 v2 ⊢
 have g4p := SE
 have Y4 := SF
 have g4k := SG
 refine ⟨_, rfl, d, rfl, .inl ⟨_, .inl Y4⟩, (by show 0 ≤ sizeLine; decide), fun l4 Xm => ?_⟩
 obtain ⟨SH, SI, Hn, Xn, Xo, Xp, Xq, Xr, SJ, NQ⟩ := key H4 _ "given" g4p Y4 PM KL g4k l4 Xm ((bG kvs (Sum.inr (Str.ofString "put") : Key)).getD (.ref l4))
 refine ⟨_, jy.k (k := (Sum.inr (Str.ofString "put") : Key)) Xp, _, rfl, p, c.rule, dx, _, rfl, Xq, T.cl, T.n5, (by show 4 < 1000; decide), ?_⟩
 have v4 := (DK Xr h5 bB (n := 3) (by decide) Xn Xo).keep NQ
 rw [show S (wordAt 3) = Str.ofString "put" by decide +kernel] at v4
 have PQ := PM.keep Hn
 have KN : ∀ b, _ = none → H0 b = none := fun b h => KL b (Hn.tM b h)
 have v1 := v1.keep Hn
 have v2 := v2.keep Hn
 have v3 := v3.keep Hn
 generalize hH5 : upd (upd H4 l4 (.lst [])) p (.ins c.rule dx (bA "given" ((bG kvs (Sum.inr (Str.ofString "put") : Key)).getD (.ref l4)) (bA "looks" ((bG kvs (Sum.inr (Str.ofString "look") : Key)).getD (.ref l3)) (bA "kept" ((bG kvs (Sum.inr (Str.ofString "keep") : Key)).getD (.ref l2)) (bA "taken" ((bG kvs (Sum.inr (Str.ofString "take") : Key)).getD (.ref l1)) (bA "title" (tx title) [])))))) = H5 at SH SI Hn SJ NQ PQ KN v4 v1 v2 v3 ⊢
 have g5p := SH
 have Y5 := SI
 have g5k := SJ
 refine ⟨_, rfl, d, rfl, .inl ⟨_, .inl Y5⟩, (by show 0 ≤ sizeLine; decide), fun l5 hl5 => ?_⟩
 obtain ⟨SK, SM, Er, Xs, Xt, Xu, Xv, Xw, SN, NR⟩ := key H5 _ "told" g5p Y5 PQ KN g5k l5 hl5 ((bG kvs (Sum.inr (Str.ofString "tell") : Key)).getD (.ref l5))
 refine ⟨_, jy.k (k := (Sum.inr (Str.ofString "tell") : Key)) Xu, _, rfl, p, c.rule, dx, _, rfl, Xv, T.cl, T.n6, (by show 5 < 1000; decide), ?_⟩
 have v5 := (OU Xw h5 bB Xs Xt).keep NR
 rw [show S (wordAt 4) = Str.ofString "tell" by decide +kernel] at v5
 have Xx := PQ.keep Er
 have KO : ∀ b, _ = none → H0 b = none := fun b h => KN b (Er.tM b h)
 have v1 := v1.keep Er
 have v2 := v2.keep Er
 have v3 := v3.keep Er
 have v4 := v4.keep Er
 generalize hH6 : upd (upd H5 l5 (.lst [])) p (.ins c.rule dx (bA "told" ((bG kvs (Sum.inr (Str.ofString "tell") : Key)).getD (.ref l5)) (bA "given" ((bG kvs (Sum.inr (Str.ofString "put") : Key)).getD (.ref l4)) (bA "looks" ((bG kvs (Sum.inr (Str.ofString "look") : Key)).getD (.ref l3)) (bA "kept" ((bG kvs (Sum.inr (Str.ofString "keep") : Key)).getD (.ref l2)) (bA "taken" ((bG kvs (Sum.inr (Str.ofString "take") : Key)).getD (.ref l1)) (bA "title" (tx title) []))))))) = H6 at SK SM Er SN NR Xx KO v5 v1 v2 v3 v4 ⊢
 have Vd := SK
 have g6d := SM
 have g6k := SN
 generalize IQ : (bA "told" ((bG kvs (Sum.inr (Str.ofString "tell") : Key)).getD (.ref l5)) (bA "given" ((bG kvs (Sum.inr (Str.ofString "put") : Key)).getD (.ref l4)) (bA "looks" ((bG kvs (Sum.inr (Str.ofString "look") : Key)).getD (.ref l3)) (bA "kept" ((bG kvs (Sum.inr (Str.ofString "keep") : Key)).getD (.ref l2)) (bA "taken" ((bG kvs (Sum.inr (Str.ofString "take") : Key)).getD (.ref l1)) (bA "title" (tx title) [])))))) = Ie at Vd ⊢
 have lk : ∀ n : Str, Ie.lookup n = if n = "told" then some ((bG kvs (Sum.inr (Str.ofString "tell") : Key)).getD (.ref l5)) else if n = "given" then some ((bG kvs (Sum.inr (Str.ofString "put") : Key)).getD (.ref l4)) else if n = "looks" then some ((bG kvs (Sum.inr (Str.ofString "look") : Key)).getD (.ref l3)) else if n = "kept" then some ((bG kvs (Sum.inr (Str.ofString "keep") : Key)).getD (.ref l2)) else if n = "taken" then some ((bG kvs (Sum.inr (Str.ofString "take") : Key)).getD (.ref l1)) else if n = "title" then some (tx title) else none := fun n => by
  rw [← IQ, aQ, aQ, aQ, aQ, aQ, aQ]
  rfl
 obtain ⟨lt, ut, et, nt, ht, pt⟩ := id v1
 obtain ⟨Y6, uk, ek, nk, hk, pk⟩ := id v2
 have Y7 : Ie.lookup ("taken" : Str) = some (.ref lt) := by
  rw [lk, if_neg (by decide +kernel), if_neg (by decide +kernel), if_neg (by decide +kernel), if_neg (by decide +kernel), if_pos rfl, et]
 have Y8 : Ie.lookup ("kept" : Str) = some (.ref Y6) := by
  rw [lk, if_neg (by decide +kernel), if_neg (by decide +kernel), if_neg (by decide +kernel), if_pos rfl, ek]
 have Xy : Ie.length < 1000 := by
  rw [← IQ]
  show 6 < 1000
  decide
 have zl1 := Paired.length pt
 have zl2 := Paired.length pk
 have hfew := Su.few
 have Xz : (hZ title L).take ++ (hZ title L).keep = rR 0 L ++ rR 1 L := rfl
 rw [Xz, List.length_append] at hfew
 refine ⟨_, rfl, p, c.rule, dx, Ie, _, rfl, Vd, T.cl, T.n2, Y7, _, rfl, p, c.rule, dx, Ie, _, rfl, Vd, T.cl, T.n3, Y8, lt, Y6, _, _, rfl, rfl, ht, hk, sz (by omega), fun l6 hl6 => ?_⟩
 have s6 := aj hl6 (.lst (ut ++ uk))
 refine ⟨l6, _, rR 0 L ++ rR 1 L, rfl, ae, jB (L2.Paired.bY pt fun _ _ z => z.keep (H0 := H0) (Kp.same s6)) (L2.Paired.bY pk fun _ _ z => z.keep (H0 := H0) (Kp.same s6)), by rw [List.length_append]; omega, Su.heads, Su.Wj, fun v7 H7 s7 T7 => ?_⟩
 have XA := ag.trans s6 s7
 have Y9 := XA _ _ Vd
 refine ⟨_, rfl, p, c.rule, dx, Ie, rfl, Y9, T.cl, T.n7, Xy, ?_⟩
 have Za : Kp H0 H7 (upd H7 p (.ins c.rule dx (bA "names" v7 Ie))) := Kp.upd W4 Y9 (Qu _ ⟨_, rfl⟩).1 (Qu _ ⟨_, rfl⟩).2
 have Ho : Kp H0 H6 (upd H7 p (.ins c.rule dx (bA "names" v7 Ie))) := (Kp.same XA).trans Za
 have PR : ∀ n : Str, n ≠ "names" → (bA "names" v7 Ie).lookup n = Ie.lookup n := fun n hn => by rw [aQ, if_neg hn]
 refine q _ (bA "names" v7 Ie) ae ⟨?_, ⟨_, ?_, v1.keep Ho⟩, ⟨_, ?_, v2.keep Ho⟩, ⟨_, ?_, v3.keep Ho⟩, ⟨_, ?_, v4.keep Ho⟩, ⟨_, ?_, v5.keep Ho⟩, ⟨v7, ?_, ?_⟩, ?_⟩ (fun b o e hb => ?_)
 ·rw [PR _ (by decide +kernel), lk, if_neg (by decide +kernel), if_neg (by decide +kernel), if_neg (by decide +kernel), if_neg (by decide +kernel), if_neg (by decide +kernel), if_pos rfl]
  rfl
 ·rw [PR _ (by decide +kernel), Y7, et]
 ·rw [PR _ (by decide +kernel), Y8, ek]
 ·rw [PR _ (by decide +kernel), lk, if_neg (by decide +kernel), if_neg (by decide +kernel), if_pos rfl]
 ·rw [PR _ (by decide +kernel), lk, if_neg (by decide +kernel), if_pos rfl]
 ·rw [PR _ (by decide +kernel), lk, if_pos rfl]
 ·rw [aQ, if_pos rfl]
 ·obtain ⟨ln, en, nn, hn⟩ := T7
  have Zb : H6 ln = none := s6.free nn
  exact ⟨ln, en, KO ln Zb, Za.new _ _ (KO ln Zb) hn⟩
 ·rw [PR _ (by decide +kernel), lk, if_neg (by decide +kernel), if_neg (by decide +kernel), if_neg (by decide +kernel), if_neg (by decide +kernel), if_neg (by decide +kernel), if_neg (by decide +kernel)]
 ·rw [aq hb]
  exact XA _ _ (g6k b o e hb)
theorem v9 : av ["self"] ["self"] (ao jJ) := ⟨rfl, rfl, rfl, by decide +kernel, rfl, by decide +kernel, by decide +kernel⟩
theorem wa (F : bz K "calls" "Rule.calls" jJ f fd) (T : yF K c.rule) (aV : mg "len" = none) : aW P w K mg base cS 1 f fd ["self"] (yG K c) := by
 refine F.ok v9 (fun vs H Q E h => ?_) (fun cw A outer s H vs Q E hr h => ?_)
 ·obtain ⟨H0, v, r, rfl, _⟩ := h
  rfl
 obtain ⟨H0, v, r, rfl, hR, q⟩ := h
 obtain ⟨a, dx, fs, rfl, n, h1, RF⟩ := hR
 obtain ⟨vt, ev, lt, us, rfl, nt, ht, pt⟩ := RF.taken
 have zl := Paired.length pt
 refine ⟨_, (ah (aC (c8 cR (aJ ar rfl aV PySem.boot_len (aa (pe_fld (pv 0) rfl) af)) ai (aI _)))), ?_⟩
 refine ⟨_, rfl, a, c.rule, dx, fs, _, rfl, h1, T.cl, T.n2, ev, lt, _, rfl, .inl (ax.of ht), rfl, ?_⟩
 have e : decide (V.int (us.length : Int) = V.int 0) = decide (r.take = []) := by
  rw [decide_eq_decide]
  constructor
  ·intro z
   have z' : (us.length : Int) = 0 := by injection z
   exact List.eq_nil_of_length_eq_zero (by omega)
  ·intro z
   rw [z] at zl
   rw [← zl]
   rfl
 rw [e]
 exact q
theorem zP : av ["self", "kinds", "rules"] ["self", "kinds", "rules"] (ao lM) := ⟨rfl, rfl, rfl, by decide +kernel, rfl, by decide +kernel, by decide +kernel⟩
theorem zQ (F : bz K "__init__" "Book.__init__" lM f fd) (T : Mn K c.book) : aW P w K mg base cS 1 f fd ["self", "kinds", "rules"] (sy K c) := by
 refine F.ok zP (fun vs H Q E h => ?_) (fun cw A outer s H vs Q E hr h => ?_)
 ·obtain ⟨p, dx, l, r, rfl, _⟩ := h
  rfl
 obtain ⟨p, dx, l, r, rfl, hp, q⟩ := h
 refine ⟨_, (ab (ps_fld (pv 0) (pv 1) rfl)
 (ah (ps_fld (pv 0) (pv 2) rfl))), ?_⟩
 refine ⟨_, rfl, _, rfl, p, c.book, dx, [], rfl, hp, T.cl, T.n1, (by show 0 < 1000; decide), _, rfl, _, rfl, p, c.book, dx, _, rfl, ae, T.cl, T.n2, (by show 1 < 1000; decide), ?_⟩
 refine q _ _ ae ?_ ?_ fun b o e hb => ?_
 ·rw [aQ, if_neg (by decide +kernel), aQ, if_pos rfl]
 ·rw [aQ, if_pos rfl]
 ·rw [aq hb, aq hb]
  exact e
end
end gg
namespace gg
open PySem L2 f9 Bk
set_option maxHeartbeats 4000000
section
variable {P : Program} {w : World} {K : PySem.W.Frag} {mg : Str → Option Value} {base : Heap} {f : Addr} {fd : FuncData} {c : Cl}
theorem aA {α : Type} {l : List α} {i : Nat} {x : α} (h : l[i]? = some x) : ∃ hi : i < l.length, l[i] = x := List.getElem?_eq_some_iff.mp h
theorem gh : av ["kinds", "rules", "line", "found", "reading", "kind"] ["kinds", "rules", "line"] (ao lO) := ⟨rfl, rfl, rfl, by decide +kernel, rfl, by decide +kernel, by decide +kernel⟩
theorem zR {u1 : Value} (F : bz K "hear_line" "hear_line" lO f fd) (T : yF K c.rule) (iF : bf P w K mg base "line_pieces" 4 ["line"] DE) (lZ : bf P w K mg base "read_rule" 7 ["found"] (DJ K c)) (l8 : bf P w K mg base "read_kind" 4 ["found"] (DF K))
  (Es : L4 P w K mg base "Rule" c.rule 3 ["self", "title", "parts"] (sx K c)) (lX : mg "RULE_WORD" = some u1) (lY : RelV (tx gr) u1) : aW P w K mg base cS 8 f fd ["kinds", "rules", "line"] (DL K c) := by
 refine F.ok gh (fun vs H Q E h => ?_) (fun cw A outer s H vs Q E hr h => ?_)
 ·obtain ⟨H0, lk, lr, ks, rs, kvs, pQ, p, rfl, _⟩ := h
  rfl
 obtain ⟨H0, lk, lr, ks, rs, kvs, pQ, p, rfl, I, fk1, fr1, hz, bB, alt⟩ := h
 refine ⟨_, (ab (au (i := 3) gh.nd rfl (Or.inl rfl) (ak iF (hr.mono (by decide)) rfl (aa (pv 2) af)))
 (ah (aX (aw cR (ay az (pv 3) ai (fun _ _ => rfl)) (c7 rfl lX lY) (aI _))
 (ab (au (i := 4) gh.nd rfl (Or.inl rfl) (ak lZ (hr.mono (by decide)) rfl (aa (pv 3) af)))
 (ab (aX (aw pX (ay a6 (pv 4) ai (fun _ _ => rfl)) (bK [] rfl (by kernel_rfl) (aK (pv 1)) (fun _ _ _ _ _ => bu) (fun _ _ _ _ _ => (L8 (K := K) rfl (pv 0) rfl))) (by with_unfolding_all rfl))
 aY
 aG)
 (ah (a8 (cq PySem.F.plainAttrs_list PySem.F.slot_list_append PySem.F.type_list_append a9 (pv 1) (aa (oJ Es (hr.mono (by decide)) rfl (aa (ay a6 (pv 4) ai (fun _ _ => rfl)) (aa (ay a6 (pv 4) ai (fun _ _ => rfl)) af))) af))))))
 (ab (au (i := 5) gh.nd rfl (Or.inl rfl) (ak l8 (hr.mono (by decide)) rfl (aa (pv 3) af)))
 (ab (aX (aw pX (ay a6 (pv 5) ai (fun _ _ => rfl)) (bK [] rfl (by kernel_rfl) (aK (pv 0)) (fun _ _ _ _ _ => bu) (fun _ _ _ _ _ => (ay (r := rL K) a6 (pv 0) ai (fun _ _ => rfl)))) (by with_unfolding_all rfl))
 aY
 aG)
 (ah (a8 (cq PySem.F.plainAttrs_list PySem.F.slot_list_append PySem.F.type_list_append a9 (pv 0) (aa (pv 5) af))))))))), ?_⟩
 refine ⟨_, rfl, p, rfl, hz, bB, fun v H1 s1 T1 => ?_⟩
 obtain ⟨l, rfl, Hh, hl⟩ := T1
 have WX : (toks p).length ≤ 20000 := Nat.le_trans (BC p) hz
 rcases alt with ⟨k, XB, Zc, XC, q⟩ | ⟨title, L, XB, R, Su, XD, q⟩
 ·rw [XB] at hl
  have hl' : H1 l = some (.lst [tx (if k.l = true then bZ else bT), tx k.n, tx [48 + k.c]]) := hl
  refine ⟨_, rfl, l, _, 0, _, rfl, rfl, ax.of hl', rfl, rfl, _, rfl, ?_⟩
  have e0 : decide (tx (if k.l = true then bZ else bT) = tx gr) = false := by cases k.l <;> decide +kernel
  rw [e0]
  refine bO ⟨_, rfl, l, k, rfl, hl, Zc.1, Zc.2, fun v H2 s2 hK => ?_⟩
  have MZ := ag.trans s1 s2
  obtain ⟨t, rfl, ht⟩ := hK
  refine ⟨_, rfl, t, _, 0, _, rfl, rfl, ht, rfl, _, rfl, lk, rfl, ⟨_, ax.of (MZ _ _ I.hk)⟩, fun D hD => ?_⟩
  have zl := Paired.length I.pk
  refine bI (K := K) (xs := kvs) (ks.map (·.n)) (fun _ _ b y => y = tx b) (fun _ _ _ _ _ _ h => h) (fun _ _ _ _ _ _ h => h) (f6 (by have := I.fk; omega)) hD (ax.of (MZ _ _ I.hk)) (by rw [Lm9]; exact zl) (fun i x b H' R hx hb sm hQ => ?_) (fun H3 ys sm hL po => ?_)
  ·obtain ⟨hi, ex⟩ := aA hx
   obtain ⟨dq, eb⟩ := aA hb
   rw [Lm9] at dq
   rw [List.getElem_map] at eb
   obtain ⟨tk, SO, hk⟩ := paired_at I.pk i dq hi
   rw [ex] at SO
   subst SO
   refine ⟨_, rfl, tk, _, 0, _, rfl, rfl, hk.same (ag.trans MZ sm), rfl, hQ _ _ (ag.refl _) ?_⟩
   rw [eb]
  ·rw [dQ po] at hL
   refine ⟨D, _, rfl, .inl (ax.of hL), rfl, lb _, _, rfl, ?_⟩
   rw [oU, decide_eq_false XC]
   refine bO ?_
   have sA := ag.trans MZ sm
   have XE := sA _ _ I.hk
   refine ⟨_, rfl, .inl ⟨rfl, _, ax.of XE⟩, _, rfl, lk, _, _, rfl, rfl, XE, f6 (by have := I.fk; omega), ?_⟩
   obtain ⟨u0, hu0⟩ := I.ok
   have kp : Kp H0 H3 (upd H3 lk (.lst (kvs ++ [V.ref t]))) := Kp.upd hu0 XE (by intro xs z; cases z) (by intro o u z; cases z)
   have Ho : Kp H0 H (upd H3 lk (.lst (kvs ++ [V.ref t]))) := (Kp.same sA).trans kp
   refine q (.ref t) _ (fun b o hb e => by rw [aq hb]; exact sA _ _ e) ⟨ae, ?_, ?_, L2.Paired.bY I.pr fun _ _ z => z.keep Ho, I.ne, I.ok, I.or, fun b h => I.tM b (Ho.tM b h), ?_, I.fr⟩
   ·exact (L2.Paired.bY I.pk fun _ _ z => z.keep Ho).snoc (Kind.keep kp ⟨t, rfl, ht.same sm⟩)
   ·rw [aq (Ne.symm I.ne)]
    exact sA _ _ I.hr
   ·rw [List.length_append, List.length_singleton]
    omega
 ·rw [XB] at hl WX
  refine ⟨_, rfl, l, _, 0, tx gr, rfl, rfl, ax.of hl, bP (j := 0) rfl, rfl, _, rfl, ?_⟩
  rw [decide_eq_true rfl]
  refine nE ⟨_, rfl, l, title, L, rfl, hl, WX, R, fun t d kd H2 s2 ht XF hd pa => ?_⟩
  have MZ := ag.trans s1 s2
  refine ⟨_, rfl, t, _, 0, _, rfl, rfl, cM.of ht, rfl, _, rfl, lr, rfl, ⟨_, ax.of (MZ _ _ I.hr)⟩, fun D hD => ?_⟩
  have zl := Paired.length I.pr
  refine bI (K := K) (xs := pQ) (rs.map (·.title)) (fun _ _ b y => y = tx b) (fun _ _ _ _ _ _ h => h) (fun _ _ _ _ _ _ h => h) (f6 (by have := I.fr; omega)) hD (ax.of (MZ _ _ I.hr)) (by rw [Lm9]; exact zl) (fun i x b H' R hx hb sm hQ => ?_) (fun H3 ys sm hL po => ?_)
  ·obtain ⟨hi, ex⟩ := aA hx
   obtain ⟨dq, eb⟩ := aA hb
   rw [Lm9] at dq
   rw [List.getElem_map] at eb
   obtain ⟨a, dx, fs, ea, na, ha, RF⟩ := paired_at I.pr i dq hi
   rw [ex] at ea
   subst ea
   refine ⟨_, rfl, a, c.rule, dx, fs, _, rfl, (ag.trans MZ sm) _ _ ha, T.cl, T.n1, RF.title, hQ _ _ (ag.refl _) ?_⟩
   rw [eb]
  ·rw [dQ po] at hL
   refine ⟨D, _, rfl, .inl (ax.of hL), rfl, lb _, _, rfl, ?_⟩
   rw [oU, decide_eq_false XD]
   refine bO ?_
   have sA := ag.trans MZ sm
   have Zd := sA _ _ I.hr
   have Ze := sm _ _ ht
   have Vb := sm _ _ hd
   refine ⟨_, rfl, .inl ⟨rfl, _, ax.of Zd⟩, _, rfl, t, _, 0, _, rfl, rfl, cM.of Ze, rfl, _, rfl, t, _, 1, _, rfl, rfl, cM.of Ze, rfl, fun x dx hx Sn WW => ?_⟩
   have Zf : H x = none := sA.free hx
   have XG : H0 x = none := I.tM x Zf
   have sM : ag H3 (upd (upd H3 dx (.own x)) x (.ins c.rule dx [])) := ag.trans (aj Sn _) (ag.aS (ag.refl _) (by rw [aq (Ne.symm WW)]; exact hx) _)
   have pa3 : cC K c (upd H0 x (.own x)) (upd (upd H3 dx (.own x)) x (.ins c.rule dx [])) L kd := by
    refine L2.Paired.bY pa fun y kv z => ⟨z.1, ?_⟩
    have z1 := cB.bj (H0 := H0) (fun b h => I.tM b (s1.free h)) z.2
    exact cB.keep (Kp.same sM) (cB.apart hx (cB.keep (Kp.same sm) z1))
   obtain ⟨ur, Zg⟩ := I.or
   have Zh : lr ≠ x := aH Zd hx
   refine ⟨upd H0 x (.own x), x, dx, d, title, L, kd, _, rfl, ae, ae, fun b h => ?_, sM _ _ Vb, pa3, fun y hy => (qe R.inc y hy).2, R.ok, Su, fun H4 fs h4 RF kp4 => ⟨rfl, ?_⟩⟩
   ·have XH : b ≠ x := fun z => by rw [z, ae] at h; cases h
    rw [aq XH]
    exact I.tM b (ag.free (ag.trans sA sM) h)
   have s4 : ag H H4 := fun b o e => kp4 b o ((ag.trans sA sM) b o e) (aH e Zf)
   have XI := s4 _ _ I.hr
   refine ⟨lr, _, _, rfl, rfl, XI, f6 (by have := I.fr; omega), ?_⟩
   have kp : Kp H0 H4 (upd H4 lr (.lst (pQ ++ [V.ref x]))) := Kp.upd Zg XI (by intro xs z; cases z) (by intro o u z; cases z)
   have kpX : Kp (upd H0 x (.own x)) H4 (upd H4 lr (.lst (pQ ++ [V.ref x]))) := Kp.upd (by rw [aq Zh]; exact Zg) XI (by intro xs z; cases z) (by intro o u z; cases z)
   have Ho : Kp H0 H (upd H4 lr (.lst (pQ ++ [V.ref x]))) := (Kp.same s4).trans kp
   refine q (.ref x) _ (fun b o hb e => by rw [aq hb]; exact s4 _ _ e) ⟨?_, L2.Paired.bY I.pk fun _ _ z => z.keep Ho, ae, ?_, I.ne, I.ok, I.or, fun b h => I.tM b (Ho.tM b h), I.fk, ?_⟩
   ·rw [aq I.ne]
    exact s4 _ _ I.hk
   ·refine (L2.Paired.bY I.pr fun _ _ z => z.keep Ho).snoc ⟨x, dx, fs, rfl, XG, by rw [aq (Ne.symm Zh)]; exact h4, ?_⟩
    refine oO.bj (fun b h => ?_) (RF.keep kpX)
    have XH : b ≠ x := fun z => by rw [z, ae] at h; cases h
    rw [aq XH] at h
    exact h
   ·rw [List.length_append, List.length_singleton]
    omega
end
end gg
namespace gg
open PySem L2 f9 Bk
set_option maxHeartbeats 4000000
section
variable {P : Program} {w : World} {K : PySem.W.Frag} {mg : Str → Option Value} {base : Heap} {f : Addr} {fd : FuncData} {c : Cl}
theorem gJ : av ["kinds", "facts", "counts", "fact"] ["kinds", "facts"] (ao iA) := ⟨rfl, rfl, rfl, by decide +kernel, rfl, by decide +kernel, by decide +kernel⟩
theorem uL (F : bz K "check_facts" "check_facts" iA f fd) (PU : mg "dict" = none) (aV : mg "len" = none) : aW P w K mg base cS 1 f fd ["kinds", "facts"] (tY K) := by
 refine F.ok gJ (fun vs H Q E h => ?_) (fun cw A outer s H vs Q E hr h => ?_)
 ·obtain ⟨lk, lf, kvs, Jp, ks, fs, rfl, _⟩ := h
  rfl
 obtain ⟨lk, lf, kvs, Jp, ks, fs, rfl, hk, pk, nd, fk, hf, pf, OA, q⟩ := h
 have hu := Fu hr
 refine ⟨_, (ab (au (i := 2) gJ.nd rfl (Or.inl rfl) (c9 (rO rfl) rfl PU PyProof.Rows.Boot.«dict» (aa (bK [] rfl (by kernel_rfl) (aK (pv 0)) (fun _ _ _ _ _ => bu) (fun _ _ _ _ _ => (dU (aa (ay (r := rL K) a6 (pv 0) ai (fun _ _ => rfl)) (aa (ay (r := rL K) a6 (pv 0) ai (fun _ _ => rfl)) af))))) af)))
 (ah (bF PassesOwn.never rfl (aK (pv 1)) (aL (i := 3) gJ.nd rfl (Or.inl rfl))
 (ab (aX (Df (p8 hu (ay a6 (pv 3) ai (fun _ _ => rfl)) (pv 2)))
 aY
 aG)
 (ah (aX (aw fA (aJ ar rfl aV PySem.boot_len (aa (ay a6 (pv 3) ai (fun _ _ => rfl)) af)) (Mc hu (pv 2) (ay a6 (pv 3) ai (fun _ _ => rfl)) (fun _ _ => rfl)) (aI _))
 aY
 aG)))))), ?_⟩
 have zl := Paired.length pk
 have zf := Paired.length pf
 refine ⟨_, rfl, lk, rfl, ⟨_, ax.of hk⟩, fun D hD => ?_⟩
 refine bI (K := K) (xs := kvs) ks (fun _ H k y => ∃ t, y = .ref t ∧ cM K H t [tx k.n, .int k.c]) (fun _ _ _ _ _ k ⟨t, e, h⟩ => ⟨t, e, cM.keep k h⟩) (fun _ _ _ _ _ _ h => h) (f6 (by omega)) hD (ax.of hk) zl (fun i x b H' R hx hb sm hQ => ?_) (fun H1 ys s1 hL po => ?_)
 ·obtain ⟨hi, ex⟩ := aA hx
  obtain ⟨dq, eb⟩ := aA hb
  obtain ⟨t, et, ht⟩ := paired_at pk i dq hi
  rw [ex] at et
  rw [eb] at ht
  subst et
  have Zi := ht.same sm
  exact ⟨_, rfl, t, _, 0, _, rfl, rfl, Zi, rfl, _, rfl, t, _, 1, _, rfl, rfl, Zi, rfl, (by show 2 ≤ sizeLine; decide), fun t2 DS => hQ _ _ (aj DS _) ⟨t2, rfl, cM.of ae⟩⟩
 refine ⟨D, ys, ks.map rn, rfl, hL, rp po, (by rw [Lm9]; omega), fun d hd => ?_⟩
 rw [oW _ _ (rq nd), List.nil_append]
 have s2 : ag H (upd H1 d (.dK (ks.map rn))) := ag.trans s1 (aj hd _)
 have XJ := ae (H := H1) (a := d) (o := .dK (ks.map rn))
 generalize upd H1 d (.dK (ks.map rn)) = H2 at s2 XJ ⊢
 refine ⟨_, rfl, lf, rfl, ⟨_, ax.of (s2 _ _ hf)⟩, bt (K := K) (a := lf) (xs := Jp) (fun i σ H' => H' = H2 ∧ ∃ o, σ = [some (.ref lk), some (.ref lf), some (.ref d), o]) ⟨rfl, none, rfl⟩ (fun i σ H' _ ⟨e, _⟩ => by rw [e]; exact ax.of (s2 _ _ hf)) ?_ ?_⟩
 ·rintro i y σ H' hi ⟨rfl, o, rfl⟩
  obtain ⟨KC, ey⟩ := aA hi
  have NS : i < fs.length := by omega
  obtain ⟨t, t2, et, h1, h2⟩ := paired_at pf i NS KC
  rw [ey] at et
  subst et
  obtain ⟨k, hkm, ekn, ekc⟩ := OA fs[i] (List.getElem_mem NS)
  have SQ : bG (ks.map rn) (Sum.inr (S fs[i].k) : Key) = some (.int k.c) := by
   rw [← ekn]
   exact xG (rq nd) (List.mem_map.mpr ⟨k, hkm, rfl⟩)
  have Ss := h1.same s2
  have h2' := h2.same s2
  refine ⟨_, rfl, t, _, 0, _, rfl, rfl, Ss, rfl, _, rfl, d, _, rfl, jy.k (k := (Sum.inr (S fs[i].k) : Key)) XJ, _, rfl, ?_⟩
  rw [SQ]
  refine bO ?_
  refine ⟨_, rfl, t, _, 1, _, rfl, rfl, Ss, rfl, t2, _, rfl, .inr h2', _, rfl, _, rfl, t, _, 0, _, rfl, rfl, Ss, rfl, d, _, rfl, (by have z := jy.k (k := (Sum.inr (S fs[i].k) : Key)) XJ; rw [SQ] at z; exact z), rfl, _, rfl, ?_⟩
  rw [Lm9, ekc, decide_eq_true rfl]
  exact bO ⟨rfl, _, rfl⟩
 ·rintro σ H' ⟨rfl, o, rfl⟩
  exact q _ s2
theorem l9 : av ["lasts", "taken", "fact"] ["lasts", "taken"] (ao iB) := ⟨rfl, rfl, rfl, by decide +kernel, rfl, by decide +kernel, by decide +kernel⟩
theorem uM (F : bz K "check_taken" "check_taken" iB f fd) : aW P w K mg base cS 1 f fd ["lasts", "taken"] (tZ K) := by
 refine F.ok l9 (fun vs H Q E h => ?_) (fun cw A outer s H vs Q E hr h => ?_)
 ·obtain ⟨ll, lf, Jp, ls, fs, rfl, _⟩ := h
  rfl
 obtain ⟨ll, lf, Jp, ls, fs, rfl, hl, hf, pf, Oq, q⟩ := h
 refine ⟨_, (ah (bF PassesOwn.never rfl (aK (pv 1)) (aL (i := 2) l9.nd rfl (Or.inl rfl))
 (ah (aX (aw pX (ay a6 (pv 2) ai (fun _ _ => rfl)) (pv 0) (by with_unfolding_all rfl))
 aY
 aG)))), ?_⟩
 have zf := Paired.length pf
 refine ⟨_, rfl, lf, rfl, ⟨_, ax.of hf⟩, bt (K := K) (a := lf) (xs := Jp) (fun i σ H' => H' = H ∧ ∃ o, σ = [some (.ref ll), some (.ref lf), o]) ⟨rfl, none, rfl⟩ (fun i σ H' _ ⟨e, _⟩ => by rw [e]; exact ax.of hf) ?_ ?_⟩
 ·rintro i y σ H' hi ⟨rfl, o, rfl⟩
  obtain ⟨KC, ey⟩ := aA hi
  have NS : i < fs.length := by omega
  obtain ⟨t, t2, et, h1, h2⟩ := paired_at pf i NS KC
  rw [ey] at et
  subst et
  refine ⟨_, rfl, t, _, 0, _, rfl, rfl, h1, rfl, _, rfl, ll, _, rfl, .inl (ax.of hl), rfl, lb _, _, rfl, ?_⟩
  rw [oU, decide_eq_false (Oq _ (List.getElem_mem NS))]
  exact bO ⟨rfl, _, rfl⟩
 ·rintro σ H' ⟨rfl, o, rfl⟩
  exact q
theorem nh : av ["lasts", "rule", "fact"] ["lasts", "rule"] (ao jM) := ⟨rfl, rfl, rfl, by decide +kernel, rfl, by decide +kernel, by decide +kernel⟩
theorem wb (F : bz K "check_call" "check_call" jM f fd) (T : yF K c.rule) (qE : Met P w K mg base c.rule "calls" 1 ["self"] (yG K c)) : aW P w K mg base cS 2 f fd ["lasts", "rule"] (t4 K c) := by
 refine F.ok nh (fun vs H Q E h => ?_) (fun cw A outer s H vs Q E hr h => ?_)
 ·obtain ⟨H0, ll, v, ls, r, rfl, _⟩ := h
  rfl
 obtain ⟨H0, ll, v, ls, r, rfl, hl, hR, Qj, q⟩ := h
 refine ⟨_, (ab (aX (kS (dH (GL (pv 1) qE (hr.mono (by decide)))))
 (ah LK)
 aG)
 (ah (bF PassesOwn.never rfl (aK (pe_fld (pv 1) rfl)) (aL (i := 2) nh.nd rfl (Or.inl rfl))
 (ah (aX (aw da (ay a6 (pv 2) ai (fun _ _ => rfl)) (pv 0) (by with_unfolding_all rfl))
 aY
 aG))))), ?_⟩
 obtain ⟨a, dx, fs, rfl, na, ha, RF⟩ := id hR
 refine ⟨_, rfl, a, dx, fs, rfl, ha, RF.calls, H0, _, r, rfl, hR, _, rfl, ?_⟩
 by_cases e : r.take = []
 ·rw [decide_eq_true e]
  refine bO ?_
  obtain ⟨vg, ev, lg, us, rfl, ng, hg, pg⟩ := RF.given
  have zg := Paired.length pg
  refine ⟨_, rfl, a, c.rule, dx, fs, _, rfl, ha, T.cl, T.n5, ev, lg, rfl, ⟨_, ax.of hg⟩, bt (K := K) (a := lg) (xs := us) (fun i σ H' => H' = H ∧ ∃ o, σ = [some (.ref ll), some (.ref a), o]) ⟨rfl, none, rfl⟩ (fun i σ H' _ ⟨e, _⟩ => by rw [e]; exact ax.of hg) ?_ ?_⟩
  ·rintro i y σ H' hi ⟨rfl, o, rfl⟩
   obtain ⟨KC, ey⟩ := aA hi
   have NS : i < r.put.length := by omega
   obtain ⟨t, t2, et, h1, h2⟩ := paired_at pg i NS KC
   rw [ey] at et
   subst et
   refine ⟨_, rfl, t, _, 0, _, rfl, rfl, h1, rfl, _, rfl, ll, _, rfl, .inl (ax.of hl), rfl, lb _, _, rfl, ?_⟩
   rw [oU, decide_eq_true (Qj e _ (List.getElem_mem NS))]
   exact bO ⟨rfl, _, rfl⟩
  ·rintro σ H' ⟨rfl, o, rfl⟩
   exact q
 ·rw [decide_eq_false e]
  exact nE q
theorem dw : av ["rule", "said", "look", "fact", "pair"] ["rule"] (ao jN) := ⟨rfl, rfl, rfl, by decide +kernel, rfl, by decide +kernel, by decide +kernel⟩
theorem wc (F : bz K "said_names" "said_names" jN f fd) (T : yF K c.rule) (Ts : BI K c.same) (Tu : BI K c.unlike) : aW P w K mg base cS 1 f fd ["rule"] (DM K c) := by
 refine F.ok dw (fun vs H Q E h => ?_) (fun cw A outer s H vs Q E hr h => ?_)
 ·obtain ⟨H0, v, r, rfl, _⟩ := h
  rfl
 obtain ⟨H0, v, r, rfl, hR, hz, q⟩ := h
 refine ⟨_, (ab (au (i := 1) dw.nd rfl (Or.inl rfl) (bc af))
 (ab (bF PassesOwn.never rfl (aK (pe_fld (pv 0) rfl)) (aL (i := 2) dw.nd rfl (Or.inl rfl))
 (ah (a8 (cq PySem.F.plainAttrs_list PySem.F.slot_list_extend PySem.F.type_list_extend xo (pv 1) (aa (bc (aa (pe_fld (pv 2) rfl) (aa (pe_fld (pv 2) rfl) af))) af)))))
 (ab (bF PassesOwn.never rfl (aK (pe_fld (pv 0) rfl)) (aL (i := 3) dw.nd rfl (Or.inl rfl))
 (ah (a8 (cq PySem.F.plainAttrs_list PySem.F.slot_list_extend PySem.F.type_list_extend tE (pv 1) (aa (ay a6 (pv 3) ai (fun _ _ => rfl)) af)))))
 (ab (bF PassesOwn.never rfl (aK (pe_fld (pv 0) rfl)) (aL (i := 4) dw.nd rfl (Or.inl rfl))
 (ah (a8 (cq PySem.F.plainAttrs_list PySem.F.slot_list_extend PySem.F.type_list_extend tE (pv 1) (aa (pv 4) af)))))
 (ah (aC (pv 1))))))), ?_⟩
 obtain ⟨a, dx, fs, rfl, na, ha, RF⟩ := id hR
 obtain ⟨vl, el, ll, ul, rfl, nl, hl, pl⟩ := RF.dX
 obtain ⟨vg, eg, lg, ug, rfl, ng, hg, pg⟩ := RF.given
 obtain ⟨vt, et, lt, ut, rfl, nt, ht, pt⟩ := RF.told
 have FK := hz
 unfold dM at FK
 rw [List.length_append, List.length_append] at FK
 refine ⟨(by show 0 ≤ sizeLine; decide), fun ls SR => ?_⟩
 have s0 := aj SR (.lst [])
 have zl := Paired.length pl
 have zg := Paired.length pg
 have zt := Paired.length pt
 have KP : ∀ b, C8 K (c.look b) ∧ cA K (c.look b) "left" ∧ cA K (c.look b) "right" := fun b => by
  cases b with
  | true => exact ⟨Ts.cl, Ts.nL, Ts.nR⟩
  | false => exact ⟨Tu.cl, Tu.nL, Tu.nR⟩
 refine ⟨_, rfl, a, c.rule, dx, fs, _, rfl, s0 _ _ ha, T.cl, T.n4, el, ll, rfl, ⟨_, ax.of (s0 _ _ hl)⟩, bt (K := K) (a := ll) (xs := ul) (fun i σ H' => ag H H' ∧ H' ls = some (.lst (((r.dX.take i).flatMap fun k => [k.l, k.r]).map tx)) ∧ ((r.dX.take i).flatMap fun k => [k.l, k.r]).length ≤ (r.dX.flatMap fun k => [k.l, k.r]).length ∧ ∃ o2 o3 o4, σ = [some (.ref a), some (.ref ls), o2, o3, o4])
  ⟨s0, ae, Nat.zero_le _, none, none, none, rfl⟩ (fun i σ H' _ ⟨sm, _⟩ => ax.of (sm _ _ hl)) ?_ ?_⟩
 ·rintro i y σ H' hi ⟨sm, hs, hlen, o2, o3, o4, rfl⟩
  obtain ⟨kO, ey⟩ := aA hi
  have Ep : i < r.dX.length := by omega
  obtain ⟨b, Zj, fb, eb, nb, hb, f1, f2, f3, f4⟩ := paired_at pl i Ep kO
  rw [ey] at eb
  subst eb
  obtain ⟨C1, C2, C3⟩ := KP r.dX[i].same
  have oB := sm _ _ hb
  refine ⟨_, rfl, .inl ⟨rfl, _, ax.of hs⟩, _, rfl, b, _, Zj, fb, _, rfl, oB, C1, C2, f1, _, rfl, b, _, Zj, fb, _, rfl, oB, C1, C3, f2, (by show 2 ≤ sizeLine; decide), fun l2 rg => ?_⟩
  have n2 : ls ≠ l2 := aH hs rg
  have sW : upd H' l2 (.lst [tx r.dX[i].l, tx r.dX[i].r]) ls = some (.lst (((r.dX.take i).flatMap fun k => [k.l, k.r]).map tx)) := by rw [aq n2]; exact hs
  have PD : H l2 = none := sm.free rg
  have e1 : (r.dX.take (i + 1)).flatMap (fun k => [k.l, k.r]) = (r.dX.take i).flatMap (fun k => [k.l, k.r]) ++ [r.dX[i].l, r.dX[i].r] := by
   rw [List.take_succ_eq_append_getElem Ep, List.flatMap_append]
   simp
  have e2 := qg (fun k : Lk => [k.l, k.r]) r.dX (i + 1)
  refine ⟨ls, l2, _, _, rfl, rfl, sW, ae, (by rw [Lm9]; exact sz (by simp only [List.length_cons, List.length_nil]; omega)), ag.aS (ag.aS sm PD _) SR _, ?_, e2, _, _, _, rfl⟩
  rw [ae, e1, List.map_append]
  rfl
 rintro σ H1 ⟨s1, U2, -, o2, o3, o4, rfl⟩
 have zul : ul.length = r.dX.length := zl.symm
 rw [zul, List.take_length] at U2
 generalize hA : (r.dX.flatMap fun k => [k.l, k.r]) = LA at U2 FK
 refine ⟨_, rfl, a, c.rule, dx, fs, _, rfl, s1 _ _ ha, T.cl, T.n5, eg, lg, rfl, ⟨_, ax.of (s1 _ _ hg)⟩, bt (K := K) (a := lg) (xs := ug) (fun i σ H' => ag H H' ∧ H' ls = some (.lst ((LA ++ ((r.put.take i).flatMap (·.as))).map tx)) ∧ ∃ o2 o3 o4, σ = [some (.ref a), some (.ref ls), o2, o3, o4])
  ⟨s1, by rw [List.take_zero, List.flatMap_nil, List.append_nil]; exact U2, _, _, _, rfl⟩ (fun i σ H' _ ⟨sm, _⟩ => ax.of (sm _ _ hg)) ?_ ?_⟩
 ·rintro i y σ H' hi ⟨sm, hs, o2, o3, o4, rfl⟩
  obtain ⟨kO, ey⟩ := aA hi
  have Ep : i < r.put.length := by omega
  obtain ⟨t, t2, e3, h1, h2⟩ := paired_at pg i Ep kO
  rw [ey] at e3
  subst e3
  have e1 : (r.put.take (i + 1)).flatMap (·.as) = (r.put.take i).flatMap (·.as) ++ r.put[i].as := by
   rw [List.take_succ_eq_append_getElem Ep, List.flatMap_append]
   simp
  have e2 := qg (fun f : Fc => f.as) r.put (i + 1)
  rw [e1, List.length_append] at e2
  refine ⟨_, rfl, .inl ⟨rfl, _, ax.of hs⟩, _, rfl, t, _, 1, _, rfl, rfl, h1.same sm, rfl, ls, t2, _, _, rfl, rfl, hs, h2.same sm, (by rw [Lm9, Lm9, List.length_append]; exact sz (by omega)), ag.aS sm SR _, ?_, _, _, _, rfl⟩
  rw [ae, e1, ← List.append_assoc, List.map_append (l₁ := LA ++ _)]
 rintro σ H2 ⟨s2, sW, o2, o3, o4, rfl⟩
 have zug : ug.length = r.put.length := zg.symm
 rw [zug, List.take_length] at sW
 generalize hB : r.put.flatMap (·.as) = LB at sW FK
 refine ⟨_, rfl, a, c.rule, dx, fs, _, rfl, s2 _ _ ha, T.cl, T.n6, et, lt, rfl, ⟨_, ax.of (s2 _ _ ht)⟩, bt (K := K) (a := lt) (xs := ut) (fun i σ H' => ag H H' ∧ H' ls = some (.lst ((LA ++ (LB ++ ((r.tell.take i).flatMap fun p => [p.1, p.2]))).map tx)) ∧ ∃ o2 o3 o4, σ = [some (.ref a), some (.ref ls), o2, o3, o4])
  ⟨s2, by rw [List.take_zero, List.flatMap_nil, List.append_nil]; exact sW, _, _, _, rfl⟩ (fun i σ H' _ ⟨sm, _⟩ => ax.of (sm _ _ ht)) ?_ ?_⟩
 ·rintro i y σ H' hi ⟨sm, hs, o2, o3, o4, rfl⟩
  obtain ⟨kO, ey⟩ := aA hi
  have Ep : i < r.tell.length := by omega
  obtain ⟨t, e3, h1⟩ := paired_at pt i Ep kO
  rw [ey] at e3
  subst e3
  have e1 : (r.tell.take (i + 1)).flatMap (fun p => [p.1, p.2]) = (r.tell.take i).flatMap (fun p => [p.1, p.2]) ++ [r.tell[i].1, r.tell[i].2] := by
   rw [List.take_succ_eq_append_getElem Ep, List.flatMap_append]
   simp
  have e2 := qg (fun p : Cs × Cs => [p.1, p.2]) r.tell (i + 1)
  rw [e1, List.length_append] at e2
  refine ⟨_, rfl, .inl ⟨rfl, _, ax.of hs⟩, _, rfl, ls, t, _, _, rfl, rfl, hs, h1.same sm, (by rw [Lm9, List.length_append, List.length_append]; exact sz (by simp only [List.length_cons, List.length_nil] at e2 ⊢; omega)), ag.aS sm SR _, ?_, _, _, _, rfl⟩
  rw [ae, e1, ← List.append_assoc, ← List.append_assoc, ← List.append_assoc, List.map_append (l₁ := LA ++ LB ++ _)]
  rfl
 rintro σ H3 ⟨s3, Zk, o2, o3, o4, rfl⟩
 have zut : ut.length = r.tell.length := zt.symm
 rw [zut, List.take_length] at Zk
 refine ⟨_, rfl, q _ _ s3 ⟨ls, rfl, SR, ?_⟩⟩
 unfold dM
 rw [hA, hB]
 exact Zk
theorem me : av ["rule", "name"] ["rule"] (ao iD) := ⟨rfl, rfl, rfl, by decide +kernel, rfl, by decide +kernel, by decide +kernel⟩
theorem uN (F : bz K "check_names" "check_names" iD f fd) (T : yF K c.rule) (jU : bf P w K mg base "said_names" 1 ["rule"] (DM K c)) (e9 : bf P w K mg base "is_great" 1 ["name"] sv) : aW P w K mg base cS 2 f fd ["rule"] (t5 K c) := by
 refine F.ok me (fun vs H Q E h => ?_) (fun cw A outer s H vs Q E hr h => ?_)
 ·obtain ⟨H0, v, r, rfl, _⟩ := h
  rfl
 obtain ⟨H0, v, r, rfl, hR, hz, MS, hgr, q⟩ := h
 refine ⟨_, (ah (bF PassesOwn.never rfl (aK (ak jU (hr.mono (by decide)) rfl (aa (pv 0) af))) (aL (i := 1) me.nd rfl (Or.inl rfl))
 (ah (aX (PW.pt (kR (dH (ak e9 (hr.mono (by decide)) rfl (aa (pv 1) af))) (jo (aw da (pv 1) (pe_fld (pv 0) rfl) (by with_unfolding_all rfl)))))
 aY
 aG)))), ?_⟩
 refine ⟨_, rfl, H0, v, r, rfl, hR, hz, fun u H1 s1 T1 => ?_⟩
 obtain ⟨l, rfl, Hh, hl⟩ := T1
 obtain ⟨a, dx, fs, rfl, na, ha, RF⟩ := id hR
 obtain ⟨vn, en, ln, rfl, nn, hn⟩ := RF.names
 refine ⟨l, rfl, ⟨_, ax.of hl⟩, bt (K := K) (a := l) (xs := (dM r).map tx) (fun i σ H' => H' = H1 ∧ ∃ o, σ = [some (.ref a), o]) ⟨rfl, none, rfl⟩ (fun i σ H' _ ⟨e, _⟩ => by rw [e]; exact ax.of hl) ?_ ?_⟩
 ·rintro i y σ H' hi ⟨rfl, o, rfl⟩
  obtain ⟨kO, ey⟩ := aA hi
  rw [Lm9] at kO
  rw [List.getElem_map] at ey
  subst ey
  have SS : (dM r)[i] ∈ dM r := List.getElem_mem kO
  have hlen := i8 (MS _ SS)
  refine ⟨_, rfl, (dM r)[i], rfl, (fun z => by rw [z] at hlen; simp at hlen), by omega, _, rfl, ?_⟩
  refine cI (fun g => ?_) (fun g => bO ⟨rfl, _, rfl⟩)
  refine ⟨_, rfl, _, rfl, a, c.rule, dx, fs, _, rfl, s1 _ _ ha, T.cl, T.n7, en, ln, _, rfl, .inl (ax.of (s1 _ _ hn)), rfl, lb _, _, rfl, ?_⟩
  rw [oU, decide_eq_true (hgr _ SS g)]
  exact bO ⟨rfl, _, rfl⟩
 ·rintro σ H' ⟨rfl, o, rfl⟩
  exact q _ s1
end
end gg
namespace gg
open PySem L2 f9 Bk
set_option maxHeartbeats 4000000
section
variable {P : Program} {w : World} {K : PySem.W.Frag} {mg : Str → Option Value} {base : Heap} {f : Addr} {fd : FuncData} {c : Cl}
theorem iG : av ["kinds", "rules", "lasts", "rule"] ["kinds", "rules"] (ao jL) := ⟨rfl, rfl, rfl, by decide +kernel, rfl, by decide +kernel, by decide +kernel⟩
theorem wd (F : bz K "whole_book" "whole_book" jL f fd) (T : yF K c.rule) (iH : bf P w K mg base "check_facts" 1 ["kinds", "facts"] (tY K)) (iI : bf P w K mg base "check_taken" 1 ["lasts", "taken"] (tZ K)) (jV : bf P w K mg base "check_call" 2 ["lasts", "rule"] (t4 K c))
  (iJ : bf P w K mg base "check_names" 2 ["rule"] (t5 K c)) (Et : L4 P w K mg base "Book" c.book 1 ["self", "kinds", "rules"] (sy K c)) : aW P w K mg base cS 3 f fd ["kinds", "rules"] (yH K c) := by
 refine F.ok iG (fun vs H Q E h => ?_) (fun cw A outer s H vs Q E hr h => ?_)
 ·obtain ⟨H0, lk, lr, ks, rs, kvs, pQ, rfl, _⟩ := h
  rfl
 obtain ⟨H0, lk, lr, ks, rs, kvs, pQ, rfl, I, nd, good, q⟩ := h
 refine ⟨_, (ab (f7 (i := 2) [] iG.nd rfl (Or.inl rfl) rfl (by kernel_rfl) (aK (pv 0)) (fun _ _ _ _ _ => (jw (dH (ay (r := rL K) a6 (pv 0) ai (fun _ _ => rfl))))) (fun _ _ _ _ _ => (ay (r := rL K) a6 (pv 0) ai (fun _ _ => rfl))))
 (ab (bF PassesOwn.never rfl (aK (pv 1)) (aL (i := 3) iG.nd rfl (Or.inl rfl))
 (ab (a8 (ak iH (hr.mono (by decide)) rfl (aa (pv 0) (aa (aB nD (aB nD (pe_fld (pv 3) rfl) (pe_fld (pv 3) rfl)) (pe_fld (pv 3) rfl)) af))))
 (ab (a8 (ak iI (hr.mono (by decide)) rfl (aa (pv 2) (aa (pe_fld (pv 3) rfl) af))))
 (ab (a8 (ak jV (hr.mono (by decide)) rfl (aa (pv 2) (aa (pv 3) af))))
 (ah (a8 (ak iJ (hr.mono (by decide)) rfl (aa (pv 3) af))))))))
 (ah (aC (oJ Et (hr.mono (by decide)) rfl (aa (pv 0) (aa (pv 1) af))))))), ?_⟩
 have zk := Paired.length I.pk
 have zr := Paired.length I.pr
 refine ⟨_, rfl, lk, rfl, ⟨_, ax.of I.hk⟩, fun D hD => ?_⟩
 refine ja (K := K) (xs := kvs) ks (·.l) (·.n) (fun _ _ b y => y = tx b) (fun _ _ _ _ _ _ h => h) (fun _ _ _ _ _ _ h => h) (f6 (by have := I.fk; omega)) hD (ax.of I.hk) zk (fun i x b H' R hx hb sm hQ => ?_) (fun i x b H' R hx hb hk sm hQ => ?_) (fun H1 ys s1 hL po => ?_)
 ·obtain ⟨hi, ex⟩ := aA hx
  obtain ⟨dq, eb⟩ := aA hb
  obtain ⟨t, et, ht⟩ := paired_at I.pk i dq hi
  rw [ex] at et
  rw [eb] at ht
  subst et
  exact ⟨_, rfl, t, _, 2, _, rfl, rfl, ht.same sm, rfl, _, rfl, hQ _ (ag.refl _)⟩
 ·obtain ⟨hi, ex⟩ := aA hx
  obtain ⟨dq, eb⟩ := aA hb
  obtain ⟨t, et, ht⟩ := paired_at I.pk i dq hi
  rw [ex] at et
  rw [eb] at ht
  subst et
  exact ⟨_, rfl, t, _, 0, _, rfl, rfl, ht.same sm, rfl, hQ _ _ (ag.refl _) rfl⟩
 rw [dQ po] at hL
 refine ⟨_, rfl, lr, rfl, ⟨_, ax.of (s1 _ _ I.hr)⟩, bt (K := K) (a := lr) (xs := pQ) (fun i σ H' => ag H1 H' ∧ ∃ o, σ = [some (.ref lk), some (.ref lr), some (.ref D), o]) ⟨ag.refl _, none, rfl⟩ (fun i σ H' _ ⟨sm, _⟩ => ax.of (sm _ _ (s1 _ _ I.hr))) ?_ ?_⟩
 ·rintro i y σ H' hi ⟨sm, o, rfl⟩
  obtain ⟨kO, ey⟩ := aA hi
  have Gb : i < rs.length := by omega
  have sA := ag.trans s1 sm
  have XM := paired_at I.pr i Gb kO
  rw [ey] at XM
  have g := good _ (List.getElem_mem Gb)
  generalize rs[i] = r at XM g
  have hR := XM.keep (Kp.same sA)
  obtain ⟨a, dx, fs, rfl, na, ha, RF⟩ := id hR
  obtain ⟨vt, ev, lt, ut, rfl, nt, ht, pt⟩ := RF.taken
  obtain ⟨vk, ek, lp, uk, rfl, nk, hk, pk⟩ := RF.kept
  obtain ⟨vg, eg, lg, ug, rfl, ng, hg, pg⟩ := RF.given
  have zt := Paired.length pt
  have zk2 := Paired.length pk
  have zg := Paired.length pg
  have hfew := g.Wl
  rw [List.length_append, List.length_append] at hfew
  refine ⟨_, rfl, _, rfl, a, c.rule, dx, fs, _, rfl, ha, T.cl, T.n2, ev, _, rfl, a, c.rule, dx, fs, _, rfl, ha, T.cl, T.n3, ek, lt, lp, _, _, rfl, rfl, ht, hk, sz (by omega), fun p1 KQ => ?_⟩
  have Ig := aj KQ (.lst (ut ++ uk))
  refine ⟨_, rfl, a, c.rule, dx, fs, _, rfl, Ig _ _ ha, T.cl, T.n5, eg, p1, lg, _, _, rfl, rfl, ae, Ig _ _ hg, sz (by rw [List.length_append]; omega), fun p2 Fw => ?_⟩
  have LC := ag.trans Ig (aj Fw (.lst ((ut ++ uk) ++ ug)))
  have sB := ag.trans sA LC
  refine ⟨lk, p2, kvs, _, ks, r.take ++ r.keep ++ r.put, rfl, sB _ _ I.hk, L2.Paired.bY I.pk fun _ _ z => z.keep (H0 := H0) (Kp.same sB), nd, I.fk, ae, ?_, g.fits, fun H2 s2 => ?_⟩
  ·exact jB (jB (L2.Paired.bY pt fun _ _ z => z.keep (H0 := H0) (Kp.same LC)) (L2.Paired.bY pk fun _ _ z => z.keep (H0 := H0) (Kp.same LC))) (L2.Paired.bY pg fun _ _ z => z.keep (H0 := H0) (Kp.same LC))
  have sC := ag.trans LC s2
  have Zl := hR.keep (Kp.same sC)
  have k0 := sC _ _ (sm _ _ hL)
  refine ⟨_, rfl, _, rfl, a, c.rule, dx, fs, _, rfl, sC _ _ ha, T.cl, T.n2, ev, D, lt, _, _, r.take, rfl, k0, sC _ _ ht, L2.Paired.bY pt fun _ _ z => z.keep (H0 := H0) (Kp.same sC), g.takes, ?_⟩
  refine ⟨_, rfl, _, rfl, H0, D, _, _, r, rfl, k0, Zl, g.calls, ?_⟩
  exact ⟨_, rfl, H0, _, r, rfl, Zl, g.few, g.names, g.Wk, fun H3 s3 => ⟨ag.trans sm (ag.trans sC s3), _, rfl⟩⟩
 ·rintro σ H' ⟨sm, o, rfl⟩
  have sA := ag.trans s1 sm
  refine ⟨_, rfl, _, rfl, fun x dx hx Sn WW => ?_⟩
  refine ⟨x, dx, _, _, rfl, ae, fun H2 fs h1 h2 h3 kp => ⟨rfl, q x dx fs H2 (fun b o e => kp b o ?_ (aH (sA _ _ e) hx)) (sA.free hx) h1 h2 h3⟩⟩
  rw [aq (aH (sA _ _ e) hx), aq (aH (sA _ _ e) Sn)]
  exact sA _ _ e
theorem gi : av ["text", "kinds", "rules", "line"] ["text"] (ao lN) := ⟨rfl, rfl, rfl, by decide +kernel, rfl, by decide +kernel, by decide +kernel⟩
theorem zS (F : bz K "read_book" "read_book" lN f fd) (jW : bf P w K mg base "told_lines" 2 ["text"] yB) (mh : bf P w K mg base "hear_line" 8 ["kinds", "rules", "line"] (DL K c)) (jX : bf P w K mg base "whole_book" 3 ["kinds", "rules"] (yH K c)) :
  aW P w K mg base cS 9 f fd ["text"] (DO K c) := by
 refine F.ok gi (fun vs H Q E h => ?_) (fun cw A outer s H vs Q E hr h => ?_)
 ·obtain ⟨ls, its, rfl, _⟩ := h
  rfl
 obtain ⟨ls, its, rfl, h0, hN, hx, B, q⟩ := h
 refine ⟨_, (ab (au (i := 1) gi.nd rfl (Or.inl rfl) (bc af))
 (ab (au (i := 2) gi.nd rfl (Or.inl rfl) (bc af))
 (ab (bF PassesOwn.never rfl (aK (ak jW (hr.mono (by decide)) rfl (aa (pv 0) af))) (aL (i := 3) gi.nd rfl (Or.inl rfl))
 (ah (a8 (ak mh (hr.mono (by decide)) rfl (aa (pv 1) (aa (pv 2) (aa (pv 3) af)))))))
 (ah (aC (ak jX (hr.mono (by decide)) rfl (aa (pv 1) (aa (pv 2) af)))))))), ?_⟩
 refine ⟨(by show 0 ≤ sizeLine; decide), fun lk Ve => ⟨(by show 0 ≤ sizeLine; decide), fun lr tH => ?_⟩⟩
 have Zm : lk ≠ lr := fun z => by rw [← z, ae] at tH; cases tH
 have SU : H lr = none := (aj Ve _).free tH
 have s0 : ag H (upd (upd H lk (.lst [])) lr (.lst [])) := ag.trans (aj Ve _) (aj tH _)
 have Qv : upd (upd H lk (.lst [])) lr (.lst []) lk = some (.lst []) := by rw [aq Zm]; exact ae
 have SV : upd (upd H lk (.lst [])) lr (.lst []) lr = some (.lst []) := ae
 generalize upd (upd H lk (.lst [])) lr (.lst []) = B0 at s0 Qv SV
 refine ⟨_, rfl, ls, rfl, h0, hN, hx, fun v H1 s1 T1 => ?_⟩
 obtain ⟨l, rfl, Hh, hl⟩ := T1
 rw [B.lines] at hl
 have nlk : l ≠ lk := fun z => by rw [z, Qv] at Hh; cases Hh
 have nlr : l ≠ lr := fun z => by rw [z, SV] at Hh; cases Hh
 refine ⟨l, rfl, ⟨_, ax.of hl⟩, bt (K := K) (a := l) (xs := (its.map (·.1)).map tx) (fun i σ H' => ∃ (kvs pQ : List V) (o : Option V), σ = [some (tx (cu ls)), some (.ref lk), some (.ref lr), o] ∧ (∀ b o, b ≠ lk → b ≠ lr → H1 b = some o → H' b = some o) ∧
   nH K c B0 H' lk lr (kL ((its.take i).map (·.2))) (kM ((its.take i).map (·.2))) kvs pQ)
  ⟨[], [], none, rfl, fun _ _ _ _ h => h, ⟨s1 _ _ Qv, .nil, s1 _ _ SV, .nil, Zm, ⟨_, Qv⟩, ⟨_, SV⟩, fun b h => s1.free h, Nat.zero_le _, Nat.zero_le _⟩⟩ (fun i σ H' _ ⟨_, _, _, _, k1, _⟩ => ax.of (k1 _ _ nlk nlr hl)) ?_ ?_⟩
 ·rintro i y σ H' hi ⟨kvs, pQ, o, rfl, k1, I⟩
  obtain ⟨kO, ey⟩ := aA hi
  rw [Lm9, Lm9] at kO
  rw [List.getElem_map, List.getElem_map] at ey
  subst ey
  have hm := List.getElem_mem kO
  have Zn := B.ok _ hm
  have WT := t6 ((its.take i).map (·.2))
  have Hl := t7 ((its.take i).map (·.2))
  rw [Lm9, List.length_take] at WT Hl
  have hfew := B.few
  have NH : its[i].1.length ≤ 20000 := by
   have z : its[i].1 ∈ ls := by
    have z2 : its[i].1 ∈ ls.filter told := by rw [B.lines]; exact List.mem_map.mpr ⟨_, hm, rfl⟩
    exact (List.mem_filter.mp z2).1
   have := qd ls _ z
   omega
  have KR : (its.take (i + 1)).map (·.2) = (its.take i).map (·.2) ++ [its[i].2] := by
   rw [List.take_succ_eq_append_getElem kO, List.map_append]
   rfl
  have XN : its.map (·.2) = (its.take i).map (·.2) ++ ([its[i].2] ++ (its.drop (i + 1)).map (·.2)) := by
   rw [List.singleton_append, ← List.map_cons (f := (·.2)) (a := its[i]) (l := its.drop (i + 1)), ← List.map_append, ← List.drop_eq_getElem_cons kO, List.take_append_drop]
  refine ⟨_, rfl, _, rfl, _, rfl, B0, lk, lr, _, _, kvs, pQ, its[i].1, rfl, I, by omega, by omega, NH, Zn.1, ?_⟩
  have SW := B.nk
  have SX := B.nr
  rw [XN] at SW SX
  rw [lh, lh] at SW
  rw [lj, lj] at SX
  rcases Zn with ⟨-, XO, Vf⟩
  generalize its[i].2 = it at XO Vf KR SW SX
  cases it with
  | kind k =>
   refine .inl ⟨k, XO, Vf, ?_, fun v H2 k2 I2 => ⟨kvs ++ [v], pQ, _, rfl, fun b o b1 b2 e => k2 b o b1 (k1 b o b1 b2 e), ?_⟩⟩
   ·intro Qj
    rw [List.map_append, List.map_append, List.nodup_append] at SW
    exact SW.2.2 k.n Qj k.n (List.mem_append_left _ (by simp [kL])) rfl
   ·rw [KR, lh, lj]
    show nH K c B0 H2 lk lr (_ ++ [k]) (_ ++ []) _ _
    rw [List.append_nil]
    exact I2
  | rule t L =>
   refine .inr ⟨t, L, XO, Vf.1, Vf.2, ?_, fun v H2 k2 I2 => ⟨kvs, pQ ++ [v], _, rfl, fun b o b1 b2 e => k2 b o b2 (k1 b o b1 b2 e), ?_⟩⟩
   ·intro Qj
    rw [List.map_append, List.map_append, List.nodup_append] at SX
    exact SX.2.2 t Qj t (List.mem_append_left _ (by simp [kM, hZ])) rfl
   ·rw [KR, lh, lj]
    show nH K c B0 H2 lk lr (_ ++ []) (_ ++ [hZ t L]) _ _
    rw [List.append_nil]
    exact I2
 ·rintro σ H' ⟨kvs, pQ, o, rfl, k1, I⟩
  rw [Lm9, Lm9, List.take_length] at I
  refine ⟨_, rfl, _, rfl, B0, lk, lr, _, _, kvs, pQ, rfl, I, B.nk, B.good, fun x dx fs H2 s2 hx h1 h2 h3 => ?_⟩
  have sH : ag H H2 := fun b o e => s2 b o (k1 b o (aH e Ve) (aH e SU) (s1 _ _ (s0 _ _ e)))
  have SY : ∀ b, B0 b = none → H b = none := fun b h => s0.free h
  refine q _ _ sH ⟨x, dx, fs, rfl, SY x (I.tM x hx), h1, ⟨_, h2, lk, kvs, rfl, Ve, s2 _ _ I.hk, L2.Paired.bY I.pk fun _ _ z => z.keep (H0 := H) (Kp.same s2)⟩, ⟨_, h3, lr, pQ, rfl, SU, s2 _ _ I.hr, L2.Paired.bY I.pr fun _ _ z => ie.bj SY (z.keep (Kp.same s2))⟩⟩
end
end gg
namespace gg
open PySem L2 f9 Bk
set_option maxHeartbeats 4000000
section
variable {P : Program} {w : World} {K : PySem.W.Frag} {mg : Str → Option Value} {base : Heap} {f : Addr} {fd : FuncData} {c : Cl}
theorem qF : av ["book"] ["book"] (ao fU) := ⟨rfl, rfl, rfl, by decide +kernel, rfl, by decide +kernel, by decide +kernel⟩
theorem qG (F : bz K "passing_kinds" "passing_kinds" fU f fd) (T : Mn K c.book) : aW P w K mg base cS 1 f fd ["book"] (yU K c) := by
 refine F.ok qF (fun vs H Q E h => ?_) (fun cw A outer s H vs Q E hr h => ?_)
 ·obtain ⟨v, H0, ks, rs, rfl, _⟩ := h
  rfl
 obtain ⟨v, H0, ks, rs, rfl, ⟨x, dx, fs, rfl, XG, hx, ⟨v1, e1, lk, kvs, rfl, Qv, hk, pk⟩, _⟩, hfew, q⟩ := h
 refine ⟨_, (ah (aC (bK [] rfl (by kernel_rfl) (aK (pe_fld (pv 0) rfl)) (fun _ _ _ _ _ => (jw (kS (dH (ay (r := rL K) a6 (pv 0) ai (fun _ _ => rfl)))))) (fun _ _ _ _ _ => (ay (r := rL K) a6 (pv 0) ai (fun _ _ => rfl)))))), ?_⟩
 have zk := Paired.length pk
 refine ⟨_, rfl, x, c.book, dx, fs, _, rfl, hx, T.cl, T.n1, e1, lk, rfl, ⟨_, ax.of hk⟩, fun D hD => ?_⟩
 refine ja (K := K) (xs := kvs) ks (fun k => !k.l) (·.n) (fun _ _ b y => y = tx b) (fun _ _ _ _ _ _ h => h) (fun _ _ _ _ _ _ h => h) (f6 (by omega)) hD (ax.of hk) zk (fun i x b H' R hx hb sm hQ => ?_) (fun i x b H' R hx hb hk sm hQ => ?_) (fun H1 ys s1 hL po => ?_)
 ·obtain ⟨hi, ex⟩ := aA hx
  obtain ⟨dq, eb⟩ := aA hb
  obtain ⟨t, et, ht⟩ := paired_at pk i dq hi
  rw [ex] at et
  rw [eb] at ht
  subst et
  exact ⟨_, rfl, t, _, 2, _, rfl, rfl, ht.same sm, rfl, _, rfl, hQ _ (ag.refl _)⟩
 ·obtain ⟨hi, ex⟩ := aA hx
  obtain ⟨dq, eb⟩ := aA hb
  obtain ⟨t, et, ht⟩ := paired_at pk i dq hi
  rw [ex] at et
  rw [eb] at ht
  subst et
  exact ⟨_, rfl, t, _, 0, _, rfl, rfl, ht.same sm, rfl, hQ _ _ (ag.refl _) rfl⟩
 rw [dQ po] at hL
 exact q _ _ s1 ⟨D, rfl, hD, hL⟩
theorem qH : av ["rule", "kind", "given", "taken"] ["rule", "kind"] (ao uC) := ⟨rfl, rfl, rfl, by decide +kernel, rfl, by decide +kernel, by decide +kernel⟩
theorem Hq (F : bz K "effect" "effect" uC f fd) (T : yF K c.rule) (aV : mg "len" = none) : aW P w K mg base cS 1 f fd ["rule", "kind"] (JX K c) := by
 refine F.ok qH (fun vs H Q E h => ?_) (fun cw A outer s H vs Q E hr h => ?_)
 ·obtain ⟨v, H0, r, z, rfl, _⟩ := h
  rfl
 obtain ⟨v, H0, r, z, rfl, ⟨a, dx, fs, rfl, na, ha, RF⟩, hf1, MV, q⟩ := h
 obtain ⟨vt, ev, lt, ut, rfl, nt, ht, pt⟩ := RF.taken
 obtain ⟨vg, eg, lg, ug, rfl, ng, hg, pg⟩ := RF.given
 refine ⟨_, (ab (f7 (i := 2) [1] qH.nd rfl (Or.inl rfl) rfl (by kernel_rfl) (aK (pe_fld (pv 0) rfl)) (fun _ _ _ _ _ => (jw (aw cR (ay (r := rL K) a6 (pv 0) ai (fun _ _ => rfl)) (pv 1) (aI _)))) (fun _ _ _ _ _ => (pv 0)))
 (ab (f7 (i := 3) [1] qH.nd rfl (Or.inl rfl) rfl (by kernel_rfl) (aK (pe_fld (pv 0) rfl)) (fun _ _ _ _ _ => (jw (aw cR (ay (r := rL K) a6 (pv 0) ai (fun _ _ => rfl)) (pv 1) (aI _)))) (fun _ _ _ _ _ => (pv 0)))
 (ah (aC (aB fR (aJ ar rfl aV PySem.boot_len (aa (pv 2) af)) (aJ ar rfl aV PySem.boot_len (aa (pv 3) af))))))), ?_⟩
 have zt := Paired.length pt
 have zg := Paired.length pg
 have one : ∀ (fc : Fc) (u : V) (H1 : Hp), Fact K H1 fc u → ∃ t t2, u = .ref t ∧ cM K H1 t [tx fc.k, .ref t2] := fun fc u H1 ⟨t, t2, e, h1, _⟩ => ⟨t, t2, e, h1⟩
 refine ⟨_, rfl, a, c.rule, dx, fs, _, rfl, ha, T.cl, T.n5, eg, lg, rfl, ⟨_, ax.of hg⟩, fun D hD => ?_⟩
 refine ja (K := K) (xs := ug) r.put (fun f => decide (f.k = z)) id (fun _ _ _ _ => True) (fun _ _ _ _ _ _ h => h) (fun _ _ _ _ _ _ h => h) (f6 (by omega)) hD (ax.of hg) zg (fun i x b H' R hx hb sm hQ => ?_) (fun i x b H' R hx hb hk sm hQ => ?_) (fun H1 ys s1 hL po => ?_)
 ·obtain ⟨hi, ex⟩ := aA hx
  obtain ⟨dq, eb⟩ := aA hb
  have hF := paired_at pg i dq hi
  rw [ex, eb] at hF
  obtain ⟨t, t2, et, h1⟩ := one _ _ _ hF
  subst et
  refine ⟨_, rfl, t, _, 0, _, rfl, rfl, h1.same sm, rfl, _, rfl, rfl, _, rfl, ?_⟩
  have z := hQ _ (ag.refl _)
  rw [← yy] at z
  exact z
 ·exact ⟨_, rfl, hQ _ _ (ag.refl _) trivial⟩
 have zy := Paired.length po
 refine ⟨_, rfl, a, c.rule, dx, fs, _, rfl, s1 _ _ ha, T.cl, T.n2, ev, lt, rfl, ⟨_, ax.of (s1 _ _ ht)⟩, fun D2 k0 => ?_⟩
 refine ja (K := K) (xs := ut) r.take (fun f => decide (f.k = z)) id (fun _ _ _ _ => True) (fun _ _ _ _ _ _ h => h) (fun _ _ _ _ _ _ h => h) (f6 (by omega)) k0 (ax.of (s1 _ _ ht)) zt (fun i x b H' R hx hb sm hQ => ?_) (fun i x b H' R hx hb hk sm hQ => ?_) (fun H2 ys2 s2 Sg po2 => ?_)
 ·obtain ⟨hi, ex⟩ := aA hx
  obtain ⟨dq, eb⟩ := aA hb
  have hF := paired_at pt i dq hi
  rw [ex, eb] at hF
  obtain ⟨t, t2, et, h1⟩ := one _ _ _ hF
  subst et
  refine ⟨_, rfl, t, _, 0, _, rfl, rfl, h1.same (ag.trans s1 sm), rfl, _, rfl, rfl, _, rfl, ?_⟩
  have z := hQ _ (ag.refl _)
  rw [← yy] at z
  exact z
 ·exact ⟨_, rfl, hQ _ _ (ag.refl _) trivial⟩
 have Zo := Paired.length po2
 refine ⟨_, rfl, D, _, rfl, .inl (ax.of (s2 _ _ hL)), _, rfl, D2, _, rfl, .inl (ax.of Sg), _, _, rfl, rfl, ?_⟩
 have e := q _ (ag.trans s1 s2)
 unfold JW at e
 rw [Lm9] at zy Zo
 rw [zy, Zo] at e
 exact e
theorem uO : av ["book", "kinds"] ["book"] (ao qt) := ⟨rfl, rfl, rfl, by decide +kernel, rfl, by decide +kernel, by decide +kernel⟩
theorem Eu (F : bz K "effects" "effects" qt f fd) (T : Mn K c.book) (b6 : bf P w K mg base "passing_kinds" 1 ["book"] (yU K c)) (uP : bf P w K mg base "effect" 1 ["rule", "kind"] (JX K c)) : aW P w K mg base cS 4 f fd ["book"] (D7 K c) := by
 refine F.ok uO (fun vs H Q E h => ?_) (fun cw A outer s H vs Q E hr h => ?_)
 ·obtain ⟨v, H0, ks, rs, rfl, _⟩ := h
  rfl
 obtain ⟨v, H0, ks, rs, rfl, B, hfew, rN, Zp, q⟩ := h
 refine ⟨_, (ab (au (i := 1) uO.nd rfl (Or.inr rfl) (ak b6 (hr.mono (by decide)) rfl (aa (pv 0) af)))
 (ah (aC (Jz [1] rfl (by kernel_rfl) (aK (pe_fld (pv 0) rfl)) (fun _ _ _ _ _ => bu) (fun _ _ _ _ _ => (bK [0] rfl (by kernel_rfl) (JA (K := K) rfl (pv 1)) (fun _ _ _ _ _ => bu) (fun _ _ _ _ _ => (ak uP (hr.mono (by decide)) rfl (aa (pv 1) (aa (pv 0) af)))))))))), ?_⟩
 refine ⟨_, rfl, v, H0, ks, rs, rfl, B, hfew, fun u H1 s1 T1 => ?_⟩
 obtain ⟨lp, rfl, abS, S0⟩ := T1
 obtain ⟨x, dx, fs, rfl, XG, hx, ⟨v1, e1, lk, kvs, rfl, Qv, hk, pk⟩, ⟨v2, e2, lr, pQ, rfl, SV, Zq, pr⟩⟩ := B.keep (Kp.same s1)
 have zr := Paired.length pr
 have zp : (Bk.passing ks).length ≤ 10000 := by
  unfold Bk.passing
  rw [Lm9]
  exact Nat.le_trans (List.length_filter_le _ _) hfew
 refine ⟨_, rfl, x, c.book, dx, fs, _, rfl, hx, T.cl, T.n2, e2, lr, rfl, ⟨_, ax.of Zq⟩, fun D hD => ?_⟩
 refine bI (K := K) (xs := pQ) (uq ks rs) (fun H0 H b y => kN H0 H b y) (fun _ _ _ _ _ k h => h.keep k) (fun _ _ _ _ _ d h => h.bj d) (f6 (by omega)) hD (ax.of Zq) (by unfold uq; rw [Lm9]; exact zr) (fun i y b H' R hy hb sm hQ => ?_) (fun H2 ys s2 hL po => ?_)
 ·obtain ⟨hi, ey⟩ := aA hy
  obtain ⟨dq, eb⟩ := aA hb
  unfold uq at dq eb
  rw [Lm9] at dq
  rw [List.getElem_map] at eb
  have hR := (paired_at pr i dq hi).keep (Kp.same sm)
  rw [ey] at hR
  have MV := Zp _ (List.getElem_mem dq)
  generalize rs[i] = r at eb hR MV
  refine ⟨_, rfl, lp, rfl, ⟨_, ax.of (sm _ _ S0)⟩, fun D2 k0 => ?_⟩
  refine bI (K := K) (xs := (Bk.passing ks).map tx) ((Bk.passing ks).map (JW r)) (fun _ _ b y => y = V.int b) (fun _ _ _ _ _ _ h => h) (fun _ _ _ _ _ _ h => h) (f6 (by rw [Lm9]; omega)) k0 (ax.of (sm _ _ S0)) (by rw [Lm9, Lm9]) (fun j z b2 H3 R2 hz FJ Ib hQ2 => ?_) (fun H3 zs s3 MT po3 => ?_)
  ·obtain ⟨hj, ez⟩ := aA hz
   obtain ⟨hjb, Zr⟩ := aA FJ
   rw [Lm9] at hj
   rw [List.getElem_map] at ez Zr
   subst ez
   exact ⟨_, rfl, _, rfl, y, H0, r, _, rfl, hR.keep (Kp.same Ib), MV.1, MV.2, fun H4 s4 => hQ2 _ _ s4 (by rw [← Zr])⟩
  ·rw [paired_ints po3] at MT
   refine hQ _ _ s3 ⟨D2, rfl, k0, ?_⟩
   rw [MT, ← eb]
 ·exact q _ _ (ag.trans s1 s2) ⟨D, ys, rfl, s1.free hD, hL, L2.Paired.bY po fun _ _ z => z.bj (fun b h => s1.free h)⟩
end
end gg
namespace gg
open PySem L2 f9 Bk
set_option maxHeartbeats 4000000
section
variable {P : Program} {w : World} {K : PySem.W.Frag} {mg : Str → Option Value} {base : Heap} {f : Addr} {fd : FuncData} {c : Cl}
theorem zT : av ["_law_script", "_law_k"] ["_law_script", "_law_k"] (ao lP) := ⟨rfl, rfl, rfl, by decide +kernel, rfl, by decide +kernel, by decide +kernel⟩
theorem zU (F : bz K "_law_cell" "_law_cell" lP f fd) (aV : mg "len" = none) : aW P w K mg base cS 1 f fd ["_law_script", "_law_k"] (yI K) := by
 refine F.ok zT (fun vs H Q E h => ?_) (fun cw A outer s H vs Q E hr h => ?_)
 ·obtain ⟨a, ns, k, rfl, _⟩ := h
  rfl
 obtain ⟨a, ns, k, rfl, hS, h0, q⟩ := h
 refine ⟨_, (ab (aX (aw Bn (pv 1) (aJ ar rfl aV PySem.boot_len (aa (pv 0) af)) (aI _))
 (ah (aC (ay az (pv 0) (pv 1) (fun _ _ => rfl))))
 aG)
 (ah (aC ai))), ?_⟩
 refine ⟨_, rfl, _, rfl, a, _, rfl, .inl hS, _, _, rfl, rfl, _, rfl, ?_⟩
 refine cI (fun c => ?_) (fun c => ?_)
 ·have c' : k < (((ns.map V.int).length : Nat) : Int) := of_decide_eq_true c
  have hk : k.toNat < ns.length := by rw [Lm9] at c'; omega
  have e : pV (ns.map V.int) k = some (.int ns[k.toNat]) := by
   have z := bP (xs := ns.map V.int) (j := k.toNat) (v := .int ns[k.toNat]) (by simp [hk])
   rw [show ((k.toNat : Nat) : Int) = k by omega] at z
   exact z
  exact ⟨_, rfl, _, rfl, a, _, k, _, rfl, rfl, hS, e, q _⟩
 ·exact q 0
theorem cV : av ["_law_cell_here", "_law_sizes", "_law_number", "_law_found", "_law_size"] ["_law_cell_here", "_law_sizes"] (ao iE) := ⟨rfl, rfl, rfl, by decide +kernel, rfl, by decide +kernel, by decide +kernel⟩
theorem uQ (F : bz K "_law_digits" "_law_digits" iE f fd) : aW P w K mg base cS 1 f fd ["_law_cell_here", "_law_sizes"] (JU K) := by
 refine F.ok cV (fun vs H Q E h => ?_) (fun cw A outer s H vs Q E hr h => ?_)
 ·obtain ⟨cc, l, ms, rfl, _⟩ := h
  rfl
 obtain ⟨cc, l, ms, rfl, hS, hfew, XQ, q⟩ := h
 refine ⟨_, (ab (au (i := 2) cV.nd rfl (Or.inl rfl) (aB dh (aB Iy (aB dh (pv 0) ai) ai) ai))
 (ab (au (i := 3) cV.nd rfl (Or.inl rfl) (bc af))
 (ab (bF PassesOwn.never rfl (aK (pv 1)) (aL (i := 4) cV.nd rfl (Or.inl rfl))
 (ab (a8 (cq PySem.F.plainAttrs_list PySem.F.slot_list_append PySem.F.type_list_append a9 (pv 3) (aa (aB dh (pv 2) (pv 4)) af)))
 (ah (au (i := 2) cV.nd rfl (Or.inl rfl) (aB sr (pv 2) (pv 4))))))
 (ah (aC (pv 3)))))), ?_⟩
 refine ⟨_, rfl, _, _, rfl, rfl, (by show (0 : Int) < 2147483647; decide), _, _, rfl, rfl, .inr ⟨by decide, by decide⟩, _, _, rfl, rfl, (by show (0 : Int) < 2147483647; decide), ?_⟩
 refine ⟨(by show 0 ≤ sizeLine; decide), fun p hp => ?_⟩
 refine ⟨_, rfl, l, rfl, ⟨_, (aj hp _).seq hS⟩, bt (K := K) (a := l) (xs := ms.map V.int) (fun i σ H' => ∃ (n : Int) (o : Option V) (ds : List Int), σ = [some (.int cc), some (.ref l), some (.int n), some (.ref p), o] ∧ ag H H' ∧ H' p = some (.lst (ds.map V.int)) ∧ Paired (fun m d : Int => 0 ≤ d ∧ d < m) (ms.take i) ds)
  ⟨_, none, [], rfl, aj hp _, ae, by rw [List.take_zero]; exact .nil⟩ (fun i σ H' _ ⟨_, _, _, _, sm, _⟩ => sm.seq hS) ?_ ?_⟩
 ·rintro i y σ H' hi ⟨n, o, ds, rfl, sm, hd, pr⟩
  rw [List.getElem?_map] at hi
  cases hq : ms[i]? with
  | none => rw [hq] at hi; cases hi
  | some m =>
   rw [hq] at hi
   obtain rfl : V.int m = y := Option.some.inj hi
   obtain ⟨vR, em⟩ := List.getElem?_eq_some_iff.mp hq
   have hm := XQ m (List.mem_of_getElem? hq)
   have zl := Paired.length pr
   rw [List.length_take] at zl
   have md := mid (a := n) (b := m) hm.1
   refine ⟨_, rfl, .inl ⟨rfl, _, ax.of hd⟩, _, rfl, _, rfl, _, _, rfl, rfl, hm.1, p, _, _, rfl, rfl, hd, f6 (by rw [Lm9]; omega), ?_⟩
   refine ⟨_, rfl, _, rfl, _, _, rfl, rfl, ⟨by omega, by omega⟩, ?_⟩
   refine ⟨_, _, ds ++ [n % m], rfl, ag.aS sm hp _, ?_, ?_⟩
   ·rw [ae, List.map_append]
    rfl
   ·rw [List.take_succ_eq_append_getElem vR, em]
    exact pr.snoc md
 ·rintro σ H' ⟨n, o, ds, rfl, sm, hd, pr⟩
  rw [Lm9, List.take_length] at pr
  exact ⟨_, rfl, q p ds H' sm hp hd pr⟩
theorem jY : av ["_law_style", "_law_k", "_law_size", "_law_at"] ["_law_style", "_law_k"] (ao lQ) := ⟨rfl, rfl, rfl, by decide +kernel, rfl, by decide +kernel, by decide +kernel⟩
theorem zV (F : bz K "_law_name" "_law_name" lQ f fd) : aW P w K mg base cS 1 f fd ["_law_style", "_law_k"] D5 := by
 refine F.ok jY (fun vs H Q E h => ?_) (fun cw A outer s H vs Q E hr h => ?_)
 ·obtain ⟨st, k, rfl, _⟩ := h
  rfl
 obtain ⟨st, k, rfl, h0, hk, q⟩ := h
 refine ⟨_, (ab (au (i := 2) jY.nd rfl (Or.inl rfl) (aB dI ai (aB dh (pv 0) ai)))
 (ab (au (i := 3) jY.nd rfl (Or.inl rfl) (aB dh (aB sr (pv 0) ai) (pv 2)))
 (ah (aC (aB bV (aB bV (aB FL aR (pv 3)) (ay pW aR (pv 1) (fun _ _ => rfl))) (aB FL aR (aB fR (aB fR (pv 2) ai) (pv 3)))))))), ?_⟩
 have m1 := mid (a := st) (b := 5) (by decide)
 have m2 := mid (a := st / 5) (b := 1 + st % 5) (by omega)
 refine ⟨_, rfl, _, _, rfl, rfl, (by show (0 : Int) < 5; decide), _, _, rfl, rfl, ?_⟩
 refine ⟨_, rfl, _, _, rfl, rfl, ⟨by decide, by decide⟩, _, rfl, _, _, rfl, rfl, (by show (0 : Int) < 1 + st % 5; omega), ?_⟩
 have em : (Str.ofString "m") = ⟨#[109]⟩ := by decide +kernel
 have e8 : (Str.ofString "abcdefgh") = S cU := by decide +kernel
 rw [em, e8]
 refine ⟨_, rfl, 109, _, rfl, rfl, by omega, by omega, ?_⟩
 have S3 : pV (S cU).cps.toList (k : Int) = some (cU.getD k 0) := by
  rw [cv]
  exact bP (getD_get hk)
 refine ⟨_, rfl, S cU, _, _, rfl, rfl, (by rw [aZ]; exact sz (by decide)), S3, ?_⟩
 have z1 := Int.toNat_of_nonneg m2.1
 have z2 : (st / 5 % (1 + st % 5)).toNat + (1 + st % 5 - 1 - st / 5 % (1 + st % 5)).toNat ≤ 4 := by omega
 have qq := q _ _ rfl rfl z2
 refine ⟨_, _, rfl, rfl, ?_, ?_⟩
 ·rw [aZ]
  show _ + 1 ≤ _
  exact sz (by rw [List.length_replicate]; omega)
 refine ⟨_, rfl, _, _, rfl, rfl, _, rfl, _, _, rfl, rfl, 109, _, rfl, rfl, by omega, by omega, ?_⟩
 rw [show (⟨#[cU.getD k 0]⟩ : Str) = S [cU.getD k 0] from rfl, gu]
 refine ⟨_, _, rfl, rfl, ?_, ?_⟩
 ·rw [aZ, aZ, List.length_append, List.length_replicate, List.length_replicate]
  exact sz (by simp only [List.length_cons, List.length_nil]; omega)
 rw [gu, List.append_assoc]
 exact qq
end
end gg
namespace gg
open PySem L2 f9 Bk
set_option maxHeartbeats 4000000
section
variable {P : Program} {w : World} {K : PySem.W.Frag} {mg : Str → Option Value} {base : Heap} {f : Addr} {fd : FuncData} {c : Cl}
theorem bC : av ["_law_script", "_law_d", "_law_many", "_law_rules", "_law_at", "_law_cell_here", "_law_side", "_law_row_here", "_law_names"] ["_law_script"] (ao jO) := ⟨rfl, rfl, rfl, by decide +kernel, rfl, by decide +kernel, by decide +kernel⟩
theorem we (F : bz K "_law_sheet" "_law_sheet" jO f fd) (cW : bf P w K mg base "_law_cell" 1 ["_law_script", "_law_k"] (yI K)) (fj : bf P w K mg base "_law_digits" 1 ["_law_cell_here", "_law_sizes"] (JU K)) (mi : bf P w K mg base "_law_name" 1 ["_law_style", "_law_k"] D5)
  (cO : mg "range" = none) (aV : mg "len" = none) (oe : mg "list" = none) (Ew : mg "reversed" = none) (cz : mg "enumerate" = none) : aW P w K mg base cS 4 f fd ["_law_script"] (yV K) := by
 refine F.ok bC (fun vs H Q E h => ?_) (fun cw A outer s H vs Q E hr h => ?_)
 ·obtain ⟨a, ns, rfl, _⟩ := h
  rfl
 obtain ⟨s0, ns, rfl, hS, hfew, q⟩ := h
 refine ⟨_, (ab (au (i := 1) bC.nd rfl (Or.inr rfl) (ak fj (hr.mono (by decide)) rfl (aa (ak cW (hr.mono (by decide)) rfl (aa (pv 0) (aa ai af))) (aa (bc (aa ai (aa ai (aa ai (aa ai (aa ai af)))))) af))))
 (ab (au (i := 2) bC.nd rfl (Or.inl rfl) (aB sr (aB dI (ay az (pv 1) ai (fun _ _ => rfl)) ai) ai))
 (ab (f7 (i := 3) [] bC.nd rfl (Or.inl rfl) rfl (by kernel_rfl) (dP rfl cO (aa (aB sr (aB dI (ay az (pv 1) ai (fun _ _ => rfl)) ai) ai) af)) (fun _ _ _ _ _ => bu) (fun _ _ _ _ _ => (dU (aa (bc af) (aa (bc af) af)))))
 (ab (bF PassesOwn.never rfl (oX (dW jr (pv 0) (dF ai) (dF ai)) rfl cz PyProof.Rows.boot_enumerate) (ny rfl (bU (aL (i := 4) bC.nd rfl (Or.inl rfl)) (bU (aL (i := 5) bC.nd rfl (Or.inl rfl)) jq)))
 (ab (au (i := 6) bC.nd rfl (Or.inl rfl) (ak fj (hr.mono (by decide)) rfl (aa (pv 5) (aa (bc (aa ai (aa ai (aa ai af)))) af))))
 (ah (aX (PW.pt (kR (aw m7 (pv 2) ai (aI _)) (kR (aw m7 (aJ ar rfl aV PySem.boot_len (aa (pv 3) af)) ai (aI _)) (jo (aw m7 (ay az (pv 6) ai (fun _ _ => rfl)) ai (aI _))))))
 (ab (au (i := 7) bC.nd rfl (Or.inl rfl) (ay a6 (ay az (pv 3) (aB dh (pv 4) (aJ ar rfl aV PySem.boot_len (aa (pv 3) af))) (fun _ _ => rfl)) (ay az (pv 6) ai (fun _ _ => rfl)) (fun _ _ => rfl)))
 (ah (a8 (cq PySem.F.plainAttrs_list PySem.F.slot_list_extend PySem.F.type_list_extend xo (pv 7) (aa (dW jr (bc (aa (aB dh (ay az (pv 6) ai (fun _ _ => rfl)) (pv 2)) af)) mP (dF (aB fR ai (aJ ar rfl aV PySem.boot_len (aa (pv 7) af))))) af)))))
 aG))))
 (ab (f7 (i := 8) [1] bC.nd rfl (Or.inl rfl) rfl (by kernel_rfl) (dP rfl cO (aa (pv 2) af)) (fun _ _ _ _ _ => bu) (fun _ _ _ _ _ => (ak mi (hr.mono (by decide)) rfl (aa (ay (r := Bp K) az (pv 1) ai (fun _ _ => rfl)) (aa (pv 0) af)))))
 (ab (aX (aw cR (ay az (pv 1) ai (fun _ _ => rfl)) ai (aI _))
 (ah (au (i := 8) bC.nd rfl (Or.inl rfl) (DT rfl (pv 8) rfl oe PyProof.Rows.Boot.«list» rfl Ew PyProof.Rows.boot_reversed)))
 aG)
 (ah (aC (dU (aa (pv 8) (aa (aB dh (ay az (pv 1) ai (fun _ _ => rfl)) (aB dI (pv 2) ai)) (aa (pv 3) af)))))))))))), ?_⟩
 refine ⟨_, rfl, s0, ns, 0, rfl, hS, by decide, fun v0 => ⟨by show 5 ≤ sizeLine; decide, fun p5 Zs => ⟨v0, p5, [25, 11, 6, 16, 2], rfl, ax.of ae, by decide, by decide, fun d ds H1 s1 XF hd pr => ?_⟩⟩⟩
 have s1 := ag.trans (aj Zs _) s1
 have XF : H d = none := (aj Zs _).free XF
 obtain ⟨d0, d1, d2, d3, d4, rfl, b0, b1, b2, b3, b4⟩ := MF pr
 refine ⟨_, rfl, d, _, 1, _, rfl, rfl, ax.of hd, rfl, _, _, rfl, rfl, _, _, rfl, rfl, ⟨by decide, by decide⟩, ?_⟩
 have mM : 0 ≤ (d1 + 1) / 2 ∧ (d1 + 1) / 2 ≤ 5 := by omega
 refine ⟨_, rfl, d, _, 3, _, rfl, rfl, ax.of hd, rfl, _, _, rfl, rfl, _, _, rfl, rfl, ⟨by decide, by decide⟩, (d3 + 1) / 2, rfl, by omega, by omega, fun D hD => ?_⟩
 have mN : ((d3 + 1) / 2).toNat ≤ 8 := by omega
 generalize hN : ((d3 + 1) / 2).toNat = N at mN
 refine eV (lo := 0) (n := N) (f6 (by omega)) (fun i ys H' => ag H1 H' ∧ H' D = some (.lst ys) ∧ ∃ T A R, ys = (List.range i).map (fun k => V.ref (T k)) ∧ Cells H' i T A R ∧ (∀ j u, R j u = []) ∧ ∀ j u, j < i → u < 2 → A j u ≠ D ∧ H1 (A j u) = none)
  ⟨aj hD _, ae, fun _ => 0, fun _ _ => 0, fun _ _ => [], rfl, ⟨fun i hi => absurd hi (by omega), fun i u hi => absurd hi (by omega), fun i u j v hi => absurd hi (by omega)⟩, fun _ _ => rfl, fun i u hi => absurd hi (by omega)⟩ (fun i ys H' p => ⟨p.2.1, ?_⟩) (fun i ys H' hi p => ?_) (fun ys H2 p => ?_)
 ·obtain ⟨T, A, R, rfl, _⟩ := p.2.2
  rw [Lm9, List.length_range]
  exact Nat.le_refl _
 ·obtain ⟨sm, hU, T, A, R, rfl, C, hR, ap⟩ := p
  refine ⟨(by show 0 ≤ sizeLine; decide), fun a ha => ⟨(by show 0 ≤ sizeLine; decide), fun b hb => ⟨(by show 2 ≤ sizeLine; decide), fun t ht => ?_⟩⟩⟩
  have sa := aj ha (.lst [])
  have sb := aj hb (.lst [])
  have st := aj ht (.tup [.ref a, .ref b])
  have sab := ag.trans sa sb
  have sA := ag.trans sab st
  have Kw : H' b = none := sa.free hb
  have aD : a ≠ D := fun z => by rw [z, hU] at ha; cases ha
  have bD : b ≠ D := fun z => by rw [z, hU] at Kw; cases Kw
  have Mw : a ≠ b := fun z => by rw [← z, ae] at hb; cases hb
  have C2 := C.snoc sA ha Kw Mw (st _ _ (sb _ _ ae)) (st _ _ ae) ae
  refine ⟨sA _ _ hU, ag.aS (ag.trans sm sA) hD _, ae, _, _, _, G7.symm, C2.other (sA _ _ hU) (fun j u hj hu => ?_) _, fun j u => ?_, fun j u hj hu => ?_⟩
  ·by_cases e : j = i
   ·simp only [if_pos e]
    by_cases e2 : u = 0
    ·rw [if_pos e2]; exact aD
    ·rw [if_neg e2]; exact bD
   ·simp only [if_neg e]
    exact (ap j u (by omega) hu).1
  ·by_cases e : j = i
   ·simp only [if_pos e]
   ·simp only [if_neg e]
    exact hR j u
  ·by_cases e : j = i
   ·simp only [if_pos e]
    by_cases e2 : u = 0
    ·rw [if_pos e2]; exact ⟨aD, sm.free ha⟩
    ·rw [if_neg e2]; exact ⟨bD, sm.free Kw⟩
   ·simp only [if_neg e]
    exact ap j u (by omega) hu
 obtain ⟨sm, hU, T, A, R, rfl, C, hR, ap⟩ := p
 have s2 := ag.trans s1 sm
 refine ⟨_, rfl, _, rfl, _, rfl, s0, _, rfl, s2.seq hS, fun p hp => ?_⟩
 obtain ⟨ms, XR, XQ⟩ := BN ns (some 1) (some 63)
 rw [XR]
 refine ⟨p, rfl, ⟨_, ax.of ae⟩, ?_⟩
 have sp := aj hp (.lst (ms.map V.int))
 have apd : ∀ j u, j < N → u < 2 → A j u ≠ d ∧ A j u ≠ D ∧ A j u ≠ p ∧ H (A j u) = none := fun j u hj hu => by
  have z := ap j u hj hu
  refine ⟨fun e => ?_, z.1, fun e => ?_, s1.free z.2⟩
  ·rw [e, hd] at z
   cases z.2
  ·have y := C.lst j u hj hu
   rw [e, hp] at y
   cases y
 refine lu (K := K) (a := p) (xs := ms.map V.int) (fun i σ H' => ∃ o4 o5 o6 o7 R, σ = [some (.ref s0), some (.ref d), some (.int ((d1 + 1) / 2)), some (.ref D), o4, o5, o6, o7, none] ∧ ag H H' ∧ H' d = some (.lst ([d0, d1, d2, d3, d4].map V.int)) ∧ H' D = some (.lst ((List.range N).map fun k => V.ref (T k))) ∧ H' p = some (.lst (ms.map V.int)) ∧
   Cells H' N T A R ∧ ∀ j u, (R j u).length ≤ 4 ∧ ∀ n ∈ R j u, n < ((d1 + 1) / 2).toNat)
  ⟨none, none, none, none, R, rfl, ag.trans s2 sp, sp _ _ (sm _ _ hd), sp _ _ hU, ae, C.same sp, fun j u => by rw [hR]; exact ⟨by decide, fun _ z => nomatch z⟩⟩ (fun i σ H' _ ⟨_, _, _, _, _, _, _, _, _, h, _⟩ => ax.of h) ?_ ?_
 ·rintro i y σ H' t hi ⟨o4, o5, o6, o7, R, rfl, sH, hd, hU, Qw, C, hR⟩ ht
  rw [List.getElem?_map] at hi
  cases hq : ms[i]? with
  | none => rw [hq] at hi; cases hi
  | some m =>
   rw [hq] at hi
   obtain rfl : V.int m = y := Option.some.inj hi
   have st := aj ht (.tup [.int (i : Int), .int m])
   refine ⟨t, _, rfl, cM.of ae, rfl, _, _, rfl, _, _, rfl, rfl, ?_⟩
   refine ⟨_, rfl, by show 3 ≤ sizeLine; decide, fun p3 M0 => ⟨m, p3, [2, 7, 5], rfl, ax.of ae, by decide, by decide, fun sd es H3 s3 hs0 XS pr3 => ?_⟩⟩
   have s3 := ag.trans (ag.trans st (aj M0 _)) s3
   obtain ⟨e0, e1, e2, rfl, c0, c1, c2⟩ := ME pr3
   have b7 : ∀ (σ' : St), σ' = [some (.ref s0), some (.ref d), some (.int ((d1 + 1) / 2)), some (.ref D), some (.int (i : Int)), some (.int m), some (.ref sd), o7, none] → ∃ o4 o5 o6 o7 R, σ' = [some (.ref s0), some (.ref d), some (.int ((d1 + 1) / 2)), some (.ref D), o4, o5, o6, o7, none] ∧ ag H H3 ∧ H3 d = some (.lst ([d0, d1, d2, d3, d4].map V.int)) ∧ H3 D = some (.lst ((List.range N).map fun k => V.ref (T k))) ∧ H3 p = some (.lst (ms.map V.int)) ∧
    Cells H3 N T A R ∧ ∀ j u, (R j u).length ≤ 4 ∧ ∀ n ∈ R j u, n < ((d1 + 1) / 2).toNat := fun σ' e => ⟨_, _, _, _, R, e, ag.trans sH s3, s3 _ _ hd, s3 _ _ hU, s3 _ _ Qw, C.same s3, hR⟩
   refine ⟨_, rfl, _, _, rfl, rfl, _, rfl, cI (fun k1 => ?_) (fun k1 => bO (b7 _ rfl))⟩
   have k1 : (0 : Int) < (d1 + 1) / 2 := of_decide_eq_true k1
   refine ⟨_, rfl, D, _, rfl, .inl (ax.of (s3 _ _ hU)), _, _, rfl, rfl, _, rfl, cI (fun k2 => ?_) (fun k2 => bO (b7 _ rfl))⟩
   have k2 : (0 : Int) < ((((List.range N).map fun k => V.ref (T k)).length : Nat) : Int) := of_decide_eq_true k2
   have eN : ((((List.range N).map fun k => V.ref (T k)).length : Nat) : Int) = (N : Int) := by rw [Lm9, List.length_range]
   refine ⟨_, rfl, sd, _, 1, _, rfl, rfl, ax.of XS, rfl, _, _, rfl, rfl, _, rfl, cI (fun k3 => ?_) (fun k3 => b7 _ rfl)⟩
   have md := mid (a := (i : Int)) (b := ((((List.range N).map fun k => V.ref (T k)).length : Nat) : Int)) k2
   have md2 := md
   rw [eN] at md2
   have hk : ((i : Int) % (N : Int)).toNat < N := by omega
   have hu : e0.toNat < 2 := by omega
   have ha := JY (n := N) (T := T) (j := (i : Int) % ((((List.range N).map fun k => V.ref (T k)).length : Nat) : Int)) md.1 (by rw [← eN]; exact md.2)
   have ek : ((i : Int) % ((((List.range N).map fun k => V.ref (T k)).length : Nat) : Int)).toNat = ((i : Int) % (N : Int)).toNat := by rw [eN]
   rw [ek] at ha
   have C3 := C.same s3
   generalize hkk : ((i : Int) % (N : Int)).toNat = k at ha hk
   have al := Ph (A := fun u => A k u) (j := e0) rfl rfl c0.1 c0.2
   have m6 := C3.lst k e0.toNat hk hu
   refine ⟨_, rfl, _, rfl, _, rfl, D, _, rfl, .inl (ax.of (s3 _ _ hU)), _, _, rfl, rfl, k2, D, _, _, _, rfl, rfl, ax.of (s3 _ _ hU), ha, _, rfl, sd, _, 0, _, rfl, rfl, ax.of XS, rfl, T k, _, e0, _, rfl, rfl, cM.of (C3.tup k hk), al, ?_⟩
   refine ⟨_, rfl, .inl ⟨rfl, _, ax.of m6⟩, _, rfl, sd, _, 2, _, rfl, rfl, ax.of XS, rfl, _, rfl, _, _, rfl, rfl, k1, by show 1 ≤ sizeLine; decide, fun p4 S4 => ?_⟩
   have s4 := aj S4 (.lst [V.int (e2 % ((d1 + 1) / 2))])
   have Xm := (hR k e0.toNat).1
   have em := mid (a := e2) (b := (d1 + 1) / 2) k1
   refine ⟨_, rfl, A k e0.toNat, _, rfl, .inl (ax.of (s4 _ _ m6)), _, _, rfl, rfl, _, rfl, p4, _, rfl, ax.of ae, fun p6 XT => ?_⟩
   have eL : (((nI (R k e0.toNat)).length : Nat) : Int) = ((R k e0.toNat).length : Nat) := by rw [Lm9]
   have ec := MG (v := V.int (e2 % ((d1 + 1) / 2))) (k := 4 - (((nI (R k e0.toNat)).length : Nat) : Int)) (by rw [eL]; omega)
   have OD : V.int (e2 % ((d1 + 1) / 2)) = V.int (((e2 % ((d1 + 1) / 2)).toNat : Nat) : Int) := congrArg V.int (by omega)
   have en : (if (4 - (((nI (R k e0.toNat)).length : Nat) : Int)) = 0 then [] else [V.int (e2 % ((d1 + 1) / 2))]) = nI (if (R k e0.toNat).length = 4 then [] else [(e2 % ((d1 + 1) / 2)).toNat]) := by
    by_cases z : (R k e0.toNat).length = 4
    ·rw [if_pos z, if_pos (by rw [eL]; omega)]
     rfl
    ·rw [if_neg z, if_neg (by rw [eL]; omega), OD]
     rfl
   rw [en] at ec
   have s5 := aj XT (.lst (hV [V.int (e2 % ((d1 + 1) / 2))] none (some (4 - (((nI (R k e0.toNat)).length : Nat) : Int)))))
   have s6 := ag.trans s4 s5
   have s7 := ag.trans s3 s6
   refine ⟨A k e0.toNat, p6, _, _, rfl, rfl, s6 _ _ m6, ae, ?_, ?_⟩
   ·show (nI (R k e0.toNat)).length + (hV [V.int (e2 % ((d1 + 1) / 2))] none (some (4 - (((nI (R k e0.toNat)).length : Nat) : Int)))).length ≤ _
    have zL : (nI (R k e0.toNat)).length ≤ 4 := by rw [Lm9]; exact Xm
    have z := kU [V.int (e2 % ((d1 + 1) / 2))] none (some (4 - (((nI (R k e0.toNat)).length : Nat) : Int)))
    rw [List.length_singleton] at z
    exact sz (by omega)
   have C4 := (C.same s7).write hk hu (R k e0.toNat ++ (if (R k e0.toNat).length = 4 then [] else [(e2 % ((d1 + 1) / 2)).toNat]))
   have eW : nI (R k e0.toNat) ++ hV [V.int (e2 % ((d1 + 1) / 2))] none (some (4 - (((nI (R k e0.toNat)).length : Nat) : Int))) = nI (R k e0.toNat ++ (if (R k e0.toNat).length = 4 then [] else [(e2 % ((d1 + 1) / 2)).toNat])) := by
    rw [ec, ← List.map_append]
   rw [← eW] at C4
   obtain ⟨n1, n2, n3, n4⟩ := apd k e0.toNat hk hu
   refine ⟨_, _, _, _, _, rfl, ag.aS (ag.trans sH s7) n4 _, ?_, ?_, ?_, C4, fun j u => ?_⟩
   ·rw [aq n1.symm]; exact s7 _ _ hd
   ·rw [aq n2.symm]; exact s7 _ _ hU
   ·rw [aq n3.symm]; exact s7 _ _ Qw
   ·by_cases e : j = k ∧ u = e0.toNat
    ·simp only [if_pos e]
     refine ⟨?_, fun n hn => ?_⟩
     ·rw [List.length_append]
      by_cases z : (R k e0.toNat).length = 4
      ·rw [if_pos z, z]
       decide
      ·rw [if_neg z, List.length_singleton]
       omega
     ·rcases List.mem_append.mp hn with hn | hn
      ·exact (hR _ _).2 n hn
      ·by_cases z : (R k e0.toNat).length = 4
       ·rw [if_pos z] at hn
        cases hn
       ·rw [if_neg z] at hn
        rw [List.mem_singleton.mp hn]
        omega
    ·simp only [if_neg e]
     exact hR j u
 rintro σ H4 ⟨o4, o5, o6, o7, R, rfl, sH, hd, hU, Qw, C, hR⟩
 refine ⟨_, rfl, (d1 + 1) / 2, rfl, by omega, by omega, fun D2 k0 => ?_⟩
 have ma := mid (a := d0) (b := 5) (by decide)
 have mb := mid (a := d0 / 5) (b := 1 + d0 % 5) (by omega)
 obtain ⟨na, ena⟩ : ∃ na : Nat, na = (d0 / 5 % (1 + d0 % 5)).toNat := ⟨_, rfl⟩
 obtain ⟨nb, enb⟩ : ∃ nb : Nat, nb = (1 + d0 % 5 - 1 - d0 / 5 % (1 + d0 % 5)).toNat := ⟨_, rfl⟩
 have Mw : na + nb ≤ 4 := by omega
 refine eV (lo := 0) (n := ((d1 + 1) / 2).toNat) (f6 (by omega)) (fun i ys H' => ag H4 H' ∧ H' D2 = some (.lst ys) ∧ ys = ((List.range i).map (nameOf na nb)).map tx) ⟨aj k0 _, ae, rfl⟩ (fun i ys H' p => ⟨p.2.1, ?_⟩) (fun i ys H' hi p => ?_) (fun ys H5 p => ?_)
 ·rw [p.2.2, Lm9, Lm9, List.length_range]
  exact Nat.le_refl _
 ·obtain ⟨PV, S5, rfl⟩ := p
  refine ⟨_, rfl, d, _, 0, _, rfl, rfl, ax.of (PV _ _ hd), rfl, _, rfl, d0, i, (by show [V.int d0, V.int (0 + (i : Int))] = [V.int d0, V.int (i : Int)]; rw [Int.zero_add]), b0.1, by omega, fun a b ea eb _ => ⟨S5, ag.aS PV k0 _, ae, ?_⟩⟩
  rw [ea, eb, ← ena, ← enb, List.range_succ, List.map_append, List.map_append]
  rfl
 obtain ⟨PV, S5, rfl⟩ := p
 have s5 := ag.trans sH PV
 have C5 := C.same PV
 have fin : ∀ (ln : Addr) (zs : List Cs) (H6 : Hp), ag H5 H6 → H6 ln = some (.lst (zs.map tx)) → zs.length = ((d1 + 1) / 2).toNat → zs.Nodup → (∀ z ∈ zs, aN z = true ∧ z ≠ zz) → ∀ t, H6 t = none → Q (.ref t) (upd H6 t (.tup [.ref ln, .int (d2 % ((d1 + 1) / 2 + 1)), .ref D])) := fun ln zs H6 s6 Be U3 WJ hz t ht => by
  have st := aj ht (.tup [.ref ln, .int (d2 % ((d1 + 1) / 2 + 1)), .ref D])
  have mp := mid (a := d2) (b := (d1 + 1) / 2 + 1) (by omega)
  refine q t ln D zs (d2 % ((d1 + 1) / 2 + 1)).toNat ((List.range N).map fun i => (R i 0, R i 1)) _ _ (ag.trans (ag.trans s5 s6) st) ?_ (st _ _ Be) (st _ _ (s6 _ _ (PV _ _ hU))) ((C5.same (ag.trans s6 st)).paired) ?_
  ·rw [ae, Int.toNat_of_nonneg mp.1]
  ·refine ⟨by omega, by omega, by rw [Lm9, List.length_range]; exact mN, WJ, fun z h => (hz z h).1, fun z h => (hz z h).2, fun r hr => ?_⟩
   obtain ⟨i, _, rfl⟩ := List.mem_map.mp hr
   rw [U3]
   exact ⟨(hR i 0).1, (hR i 1).1, (hR i 0).2, (hR i 1).2⟩
 have zl : ((List.range ((d1 + 1) / 2).toNat).map (nameOf na nb)).length = ((d1 + 1) / 2).toNat := by rw [Lm9, List.length_range]
 have zn : ((List.range ((d1 + 1) / 2).toNat).map (nameOf na nb)).Nodup := rS fun i j hi hj e => JV (by omega) (by omega) e
 have zg : ∀ z ∈ ((List.range ((d1 + 1) / 2).toNat).map (nameOf na nb)), aN z = true ∧ z ≠ zz := fun z hz => by
  obtain ⟨k, hk, rfl⟩ := List.mem_map.mp hz
  have hk := List.mem_range.mp hk
  exact ⟨D6 (by omega) Mw, MD (by omega)⟩
 generalize ((List.range ((d1 + 1) / 2).toNat).map (nameOf na nb)) = zs at S5 zl zn zg
 have Qt := PV _ _ hd
 refine ⟨_, rfl, d, _, 4, _, rfl, rfl, ax.of Qt, rfl, rfl, _, rfl, cI (fun k => ?_) (fun k => ?_)⟩
 ·refine ⟨_, rfl, D2, _, rfl, ax.of S5, fun p7 hp7 => ?_⟩
  have s7 := aj hp7 (.lst ((zs.map tx).reverse))
  refine ⟨_, rfl, _, rfl, d, _, 2, _, rfl, rfl, ax.of (s7 _ _ Qt), rfl, _, rfl, _, _, rfl, rfl, _, _, rfl, rfl, (by show (0 : Int) < (d1 + 1) / 2 + 1; omega), _, rfl, by show 3 ≤ sizeLine; decide, fun t ht => ?_⟩
  exact fin p7 zs.reverse _ s7 (by rw [ae, List.map_reverse]) (by rw [List.length_reverse, zl]) (G8 zn) (fun z hz => zg z (List.mem_reverse.mp hz)) t ht
 ·refine ⟨_, rfl, _, rfl, d, _, 2, _, rfl, rfl, ax.of Qt, rfl, _, rfl, _, _, rfl, rfl, _, _, rfl, rfl, (by show (0 : Int) < (d1 + 1) / 2 + 1; omega), _, rfl, by show 3 ≤ sizeLine; decide, fun t ht => ?_⟩
  exact fin D2 zs _ (ag.refl _) S5 zl zn zg t ht
end
end gg
namespace gg
open PySem L2 f9 Bk
set_option maxHeartbeats 4000000
section
variable {P : Program} {w : World} {K : PySem.W.Frag} {mg : Str → Option Value} {base : Heap} {f : Addr} {fd : FuncData} {c : Cl}
theorem cm : av ["_law_names", "_law_place_here", "_law_rules", "_law_lines_here", "_law_number", "_law_rule", "_law_parts"] ["_law_names", "_law_place_here", "_law_rules"] (ao jP) := ⟨rfl, rfl, rfl, by decide +kernel, rfl, by decide +kernel, by decide +kernel⟩
theorem wg (F : bz K "_law_lines" "_law_lines" jP f fd) (aV : mg "len" = none) (S6 : mg "str" = none) (cz : mg "enumerate" = none) : aW P w K mg base cS 1 f fd ["_law_names", "_law_place_here", "_law_rules"] (ux K) := by
 refine F.ok cm (fun vs H Q E h => ?_) (fun cw A outer s H vs Q E hr h => ?_)
 ·obtain ⟨ln, lr, zs, place, rs, us, rfl, _⟩ := h
  rfl
 obtain ⟨ln, lr, zs, place, rs, us, rfl, Be, tH, pr, T, q⟩ := h
 refine ⟨_, (ab (f7 (i := 3) [] cm.nd rfl (Or.inl rfl) rfl (by kernel_rfl) (aK (pv 0)) (fun _ _ _ _ _ => bu) (fun _ _ _ _ _ => (aB bV (aB bV aR (pv 0)) aR)))
 (ab (au (i := 3) cm.nd rfl (Or.inl rfl) (aB nD (aB nD (dW jr (pv 3) mP (dF (pv 1))) (bc (aa aR af))) (dW jr (pv 3) (dF (pv 1)) mP)))
 (ab (bF PassesOwn.never rfl (oX (pv 2) rfl cz PyProof.Rows.boot_enumerate) (ny rfl (bU (aL (i := 4) cm.nd rfl (Or.inl rfl)) (bU (aL (i := 5) cm.nd rfl (Or.inl rfl)) jq)))
 (ab (au (i := 6) cm.nd rfl (Or.inl rfl) (bc (aa (aB bV aR (ay az (aB nD (pv 0) (bc (aa aR af))) ai (fun _ _ => rfl))) af)))
 (ab (aX (aw m7 (aJ ar rfl aV PySem.boot_len (aa (ay a6 (pv 5) ai (fun _ _ => rfl)) af)) ai (aI _))
 (ab (au (i := 6) cm.nd rfl (Or.inl rfl) (bc (aa (aB bV aR (cq PySem.F.plainAttrs_str PySem.F.slot_str_join PySem.F.type_str_join su aR (aa (bK [0] rfl (by kernel_rfl) (aK (ay a6 (pv 5) ai (fun _ _ => rfl))) (fun _ _ _ _ _ => bu) (fun _ _ _ _ _ => (ay (r := Bp K) az (pv 1) (pv 0) (fun _ _ => rfl)))) af))) af)))
 (ah (aX (aw cR (aB dh (pv 4) ai) ai (aI _))
 (ah (a8 (cq PySem.F.plainAttrs_list PySem.F.slot_list_append PySem.F.type_list_append a9 (pv 6) (aa (aB bV aR (ay az (pv 0) (aB fR (aJ ar rfl aV PySem.boot_len (aa (pv 0) af)) ai) (fun _ _ => rfl))) af))))
 aG)))
 aG)
 (ab (aX (PW.pt (kR (aw m7 (aJ ar rfl aV PySem.boot_len (aa (ay a6 (pv 5) ai (fun _ _ => rfl)) af)) ai (aI _)) (jo (aw m7 (aJ ar rfl aV PySem.boot_len (aa (ay a6 (pv 5) ai (fun _ _ => rfl)) af)) ai (aI _)))))
 (ah (a8 (cq PySem.F.plainAttrs_list PySem.F.slot_list_append PySem.F.type_list_append a9 (pv 6) (aa (aB bV aR (cq PySem.F.plainAttrs_str PySem.F.slot_str_join PySem.F.type_str_join su aR (aa (bK [0] rfl (by kernel_rfl) (aK (ay a6 (pv 5) ai (fun _ _ => rfl))) (fun _ _ _ _ _ => bu) (fun _ _ _ _ _ => (ay (r := Bp K) az (pv 1) (pv 0) (fun _ _ => rfl)))) af))) af))))
 aG)
 (ab (aX (PW.pt (kR (aw cR (aJ ar rfl aV PySem.boot_len (aa (ay a6 (pv 5) ai (fun _ _ => rfl)) af)) ai (aI _)) (jo (aw m7 (aJ ar rfl aV PySem.boot_len (aa (ay a6 (pv 5) ai (fun _ _ => rfl)) af)) ai (aI _)))))
 (ah (a8 (cq PySem.F.plainAttrs_list PySem.F.slot_list_append PySem.F.type_list_append a9 (pv 6) (aa aR af))))
 aG)
 (ah (a8 (cq PySem.F.plainAttrs_list PySem.F.slot_list_append PySem.F.type_list_append a9 (pv 3) (aa (aB bV (aB bV (aB bV aR (c9 yi rfl S6 PyProof.Rows.Boot.«str» (aa (pv 4) af))) aR) (cq PySem.F.plainAttrs_str PySem.F.slot_str_join PySem.F.type_str_join su aR (aa (pv 6) af))) af)))))))))
 (ah (aC (cq PySem.F.plainAttrs_str PySem.F.slot_str_join PySem.F.type_str_join su aR (aa (pv 3) af))))))), ?_⟩
 have ab2 := T.few
 have Zt := T.pl
 have zr := Paired.length pr
 have z8 := T.many
 have e_p : (Str.ofString "passing ") = S (bT ++ [32]) := by decide +kernel
 have e_0 : (Str.ofString " 0") = S [32, 48] := by decide +kernel
 have e_z : (Str.ofString "lasting zz 0") = S (bH R7) := by decide +kernel
 have XU : (Str.ofString "zz") = S zz := by decide +kernel
 have zW : (Str.ofString "keep ") = S (wordAt 1 ++ [32]) := by decide +kernel
 have KS : (Str.ofString "take ") = S (wordAt 0 ++ [32]) := by decide +kernel
 have NT : (Str.ofString "put ") = S (wordAt 3 ++ [32]) := by decide +kernel
 have PX : (Str.ofString "put zz") = S (aP (3, [zz])) := by decide +kernel
 have M3 : (Str.ofString ", ") = S [44, 32] := by decide +kernel
 have M4 : (Str.ofString "; ") = S [59, 32] := by decide +kernel
 have Cp : (Str.ofString "rule r") = S (gr ++ [32, 114]) := by decide +kernel
 have Hr : (Str.ofString ": ") = S [58, 32] := by decide +kernel
 have S7 : (Str.ofString "\n") = ⟨#[10]⟩ := by decide +kernel
 refine ⟨_, rfl, ln, rfl, ⟨_, ax.of Be⟩, fun D hD => ?_⟩
 refine bI (K := K) (xs := zs.map tx) (zs.map fun z => bH (kdOf z)) (fun _ _ b y => y = tx b) (fun _ _ _ _ _ _ h => h) (fun _ _ _ _ _ _ h => h) (f6 (by rw [Lm9]; omega)) hD (ax.of Be) (by rw [Lm9, Lm9]) (fun i y b H' R hy hb sm hQ => ?_) (fun H1 ys s1 hL po => ?_)
 ·obtain ⟨hi, ey⟩ := aA hy
  obtain ⟨dq, eb⟩ := aA hb
  rw [Lm9] at hi
  rw [List.getElem_map] at ey eb
  subst ey
  have hl := (ck (T.sm _ (List.getElem_mem hi))).2
  rw [e_p, e_0]
  refine ⟨_, rfl, _, _, rfl, rfl, ?_, _, _, rfl, rfl, ?_, hQ _ _ (ag.refl _) ?_⟩
  ·rw [aZ, aZ]
   exact sz (by simp only [List.length_append, List.length_cons, List.length_nil]; omega)
  ·rw [gu, aZ, aZ]
   exact sz (by simp only [List.length_append, List.length_cons, List.length_nil]; omega)
  ·rw [gu, gu, ← eb]
   rfl
 rw [dQ po] at hL
 have lK : ((zs.map fun z => bH (kdOf z)).map tx).length = zs.length := by rw [Lm9, Lm9]
 refine ⟨_, rfl, _, rfl, _, rfl, D, _, rfl, ax.of hL, fun p hp => ?_⟩
 rw [JZ (by rw [lK]; exact Zt)]
 rw [e_z]
 refine ⟨by show 1 ≤ sizeLine; decide, fun p2 Fw => ?_⟩
 have sA := ag.trans (aj hp (.lst (((zs.map fun z => bH (kdOf z)).map tx).take place))) (aj Fw (.lst [V.str (S (bH R7))]))
 refine ⟨p, p2, _, _, rfl, rfl, aj Fw _ _ _ ae, ae, ?_, fun p3 M0 => ?_⟩
 ·rw [List.length_take, List.length_singleton]
  exact sz (by omega)
 refine ⟨_, rfl, _, rfl, _, rfl, D, _, rfl, ax.of (aj M0 _ _ _ (sA _ _ hL)), fun p4 S4 => ?_⟩
 rw [tw (by rw [lK]; exact Zt)]
 refine ⟨p3, p4, _, _, rfl, rfl, aj S4 _ _ _ ae, ae, ?_, fun LL KU => ?_⟩
 ·rw [List.length_append, List.length_take, List.length_singleton, List.length_drop]
  exact sz (by omega)
 have eK : (((zs.map fun z => bH (kdOf z)).map tx).take place ++ [V.str (S (bH R7))]) ++ ((zs.map fun z => bH (kdOf z)).map tx).drop place = ((oC zs place).map bH).map tx := by
  unfold oC
  simp only [List.map_append, List.map_take, List.map_drop, List.map_map, List.map_cons, List.map_nil, Function.comp_def]
 rw [eK]
 have sB : ag H _ := ag.trans (ag.trans s1 (ag.trans (ag.trans sA (aj M0 _)) (aj S4 _))) (aj KU (.lst (((oC zs place).map bH).map tx)))
 have S8 := (ag.trans s1 (ag.trans (ag.trans sA (aj M0 _)) (aj S4 _))).free KU
 have kl : (oC zs place).length ≤ 6 := by
  unfold oC
  simp only [List.length_append, Lm9, List.length_take, List.length_drop, List.length_cons, List.length_nil]
  omega
 refine ⟨_, rfl, lr, rfl, ⟨_, ax.of (sB _ _ tH)⟩, lu (K := K) (a := lr) (xs := us) (fun i σ H' => ∃ o4 o5 o6, σ = [some (.ref ln), some (.int (place : Int)), some (.ref lr), some (.ref LL), o4, o5, o6] ∧ ag H H' ∧ H' LL = some (.lst (((oC zs place).map bH ++ dn zs rs i).map tx)))
  ⟨none, none, none, rfl, sB, by rw [ae]; unfold dn; rw [List.range_zero, List.map_nil, List.append_nil]⟩ (fun i σ H' _ ⟨_, _, _, _, sm, _⟩ => ax.of (sm _ _ tH)) ?_ ?_⟩
 ·rintro i y σ H' t hi ⟨o4, o5, o6, rfl, sH, KU⟩ ht
  obtain ⟨kO, ey⟩ := aA hi
  have Sq : i < rs.length := by omega
  obtain ⟨tt, a, b, Zu, LD, ha, hb⟩ := paired_at pr i Sq kO
  rw [ey] at Zu
  subst Zu
  have ok := T.ok _ (List.getElem_mem Sq)
  have XW : rs.getD i ([], []) = rs[i] := by rw [Gd9, Ge9 Sq]; rfl
  have KW : dn zs rs (i + 1) = dn zs rs i ++ [uw zs i rs[i]] := by
   unfold dn
   rw [List.range_succ, List.map_append, ← XW]
   rfl
  generalize rs[i] = r at LD ha hb ok KW
  have st := aj ht (.tup [.int (i : Int), .ref tt])
  have sI := ag.trans sH st
  refine ⟨t, _, rfl, cM.of ae, rfl, _, _, rfl, _, _, rfl, rfl, ?_⟩
  have S3 := Ka (zs := zs) XU
  have hX := ck (rE T.sm)
  refine ⟨_, rfl, by show 1 ≤ sizeLine; decide, fun p1 KQ => ⟨ln, p1, _, _, rfl, rfl, aj KQ _ _ _ (sI _ _ Be), ae, by rw [Lm9, List.length_singleton]; exact sz (by omega), fun p2 Fw => ⟨p2, _, 0, _, rfl, rfl, ax.of ae, S3, _, _, rfl, rfl, ?_, by show 1 ≤ sizeLine; decide, fun pp Qw => ?_⟩⟩⟩
  ·rw [zW, aZ, aZ]
   exact sz (by simp only [List.length_append, List.length_cons, List.length_nil]; have := (jE 1).2.2; omega)
  have e1 : (Str.ofString "keep " ++ S ((zs ++ [zz]).getD 0 [])) = S (aP (1, [(zs ++ [zz]).getD 0 []])) := mV (ns := [(zs ++ [zz]).getD 0 []]) zW
  rw [e1]
  have s3 := ag.trans (aj KQ (.lst [V.str (Str.ofString "zz")])) (ag.trans (aj Fw (.lst (zs.map tx ++ [V.str (Str.ofString "zz")]))) (aj Qw (.lst [V.str (S (aP (1, [(zs ++ [zz]).getD 0 []])))])))
  have n3 : upd H' t (.tup [.int (i : Int), .ref tt]) pp = none := (ag.trans (aj KQ (.lst [V.str (Str.ofString "zz")])) (aj Fw (.lst (zs.map tx ++ [V.str (Str.ofString "zz")])))).free Qw
  have h3 : ∀ H3, H3 = upd (upd (upd (upd H' t (.tup [.int (i : Int), .ref tt])) p1 (.lst [V.str (Str.ofString "zz")])) p2 (.lst (zs.map tx ++ [V.str (Str.ofString "zz")]))) pp (.lst [V.str (S (aP (1, [(zs ++ [zz]).getD 0 []])))]) → ag (upd H' t (.tup [.int (i : Int), .ref tt])) H3 ∧ H3 pp = some (.lst (([((1 : Nat), [(zs ++ [zz]).getD 0 []])].map aP).map tx)) := fun H3 e => by
   rw [e]
   exact ⟨s3, ae⟩
  generalize hG : upd (upd (upd (upd H' t (.tup [.int (i : Int), .ref tt])) p1 (.lst [V.str (Str.ofString "zz")])) p2 (.lst (zs.map tx ++ [V.str (Str.ofString "zz")]))) pp (.lst [V.str (S (aP (1, [(zs ++ [zz]).getD 0 []])))]) = H3
  obtain ⟨s3, M0⟩ := h3 H3 hG.symm
  have s4 := ag.trans st s3
  have s5 := ag.trans sH s4
  have XX : H' pp = none := st.free n3
  have XY : i < 8 := by omega
  obtain ⟨f1, f2⟩ := WM XY
  have hR := xY (i := i) T.sm ok
  have pOk := jf (i := i) T.sm ok
  obtain ⟨g1, g2, g3⟩ := Kb pOk
  have lR : (dn zs rs i).length = i := by unfold dn; rw [Lm9, List.length_range]
  refine ⟨_, rfl, tt, _, 0, _, rfl, rfl, LD.same s5, rfl, a, _, rfl, .inl (ax.of (s5 _ _ ha)), _, _, rfl, rfl, _, rfl, ?_⟩
  by_cases c1 : r.1 = []
  ·refine cI (fun k => absurd (of_decide_eq_true k) (Pl c1)) (fun k => ?_)
   refine ⟨_, rfl, tt, _, 0, _, rfl, rfl, LD.same s5, rfl, a, _, rfl, .inl (ax.of (s5 _ _ ha)), _, _, rfl, rfl, _, rfl, cI (fun k => absurd (of_decide_eq_true k) (Pl c1)) (fun k => bO ?_)⟩
   refine ⟨_, rfl, tt, _, 0, _, rfl, rfl, LD.same s5, rfl, a, _, rfl, .inl (ax.of (s5 _ _ ha)), rfl, _, rfl, cI (fun k => ?_) (fun k => absurd (len0.trans (decide_eq_true c1)) k)⟩
   refine ⟨_, rfl, tt, _, 1, _, rfl, rfl, LD.same s5, rfl, b, _, rfl, .inl (ax.of (s5 _ _ hb)), _, _, rfl, rfl, _, rfl, br (H0 := H3) (fun H4 => ag H' H4 ∧ H4 pp = some (.lst (((aT zs i r).map aP).map tx))) (fun k next => ?_) (fun k => ?_) (fun H4 hc => ?_)⟩
   ·have k : r.2 ≠ [] := xZ (of_decide_eq_true k)
    refine ⟨_, rfl, .inl ⟨rfl, _, ax.of M0⟩, pp, _, _, rfl, rfl, M0, f6 (by show 1 ≤ _; decide), next _ ⟨ag.aS s4 XX _, ?_⟩⟩
    rw [ae, PX]
    unfold aT
    rw [if_pos c1, if_neg k]
    rfl
   ·have k : r.2 = [] := Classical.byContradiction fun z => k (decide_eq_true (MH z))
    refine ⟨s4, ?_⟩
    unfold aT
    rw [if_pos c1, if_pos k]
    exact M0
   ·obtain ⟨s6, XT⟩ := hc
    have S9 : Txt.join (Str.ofString "; ") (((aT zs i r).map aP).map S) = S (b9 [59, 32] ((aT zs i r).map aP)) := by rw [M4, sQ]
    have XZ := F2 XY (aT zs i r) Cp f1 Hr S9
    have hLp : LL ≠ pp := fun e => by rw [← e, KU] at XX; cases XX
    refine ⟨_, rfl, .inl ⟨rfl, _, ax.of (s6 _ _ KU)⟩, _, rfl, _, rfl, f2, _, _, rfl, rfl, ?_, _, _, rfl, rfl, ?_, rfl, _, rfl, _, pp, ((aT zs i r).map aP).map S, rfl, rfl, .inl (ax.of (by rw [← uy]; exact XT)), ?_, _, _, rfl, rfl, ?_, LL, _, _, rfl, rfl, s6 _ _ KU, ?_, ?_⟩
    ·rw [Cp, f1, aZ, aZ]
     exact sz (by simp only [List.length_append, List.length_cons, List.length_nil]; omega)
    ·rw [Cp, f1, Hr, gu, aZ, aZ]
     exact sz (by simp only [List.length_append, List.length_cons, List.length_nil]; omega)
    ·rw [M4, aZ]
     simp only [List.length_cons, List.length_nil]
     omega
    ·rw [Cp, f1, Hr, S9, gu, gu, aZ, aZ]
     exact sz (by simp only [List.length_append, List.length_cons, List.length_nil]; omega)
    ·rw [Lm9, List.length_append, Lm9, lR]
     exact f6 (by omega)
    ·refine ⟨_, _, _, rfl, ag.aS (ag.trans sH s6) S8 _, ?_⟩
     rw [ae, XZ, KW, ← List.append_assoc, List.map_append (l₂ := [uw zs i r])]
     rfl
  ·refine cI (fun _ => ?_) (fun k => absurd (decide_eq_true (MH c1)) k)
   obtain ⟨w1, w2, w3⟩ := NI T.sm ok.m1 ok.l1
   refine ⟨rfl, _, rfl, tt, _, 0, _, rfl, rfl, LD.same s5, rfl, a, rfl, ⟨_, ax.of (s5 _ _ ha)⟩, fun D2 k0 => ?_⟩
   refine bI (K := K) (xs := nI r.1) (nm zs r.1) (fun _ _ b y => y = tx b) (fun _ _ _ _ _ _ h => h) (fun _ _ _ _ _ _ h => h) (f6 (by rw [Lm9]; have := ok.l1; omega)) k0 (ax.of (s5 _ _ ha)) (by unfold nm; rw [Lm9, Lm9]) (fun j y b H4 R hy hb sm hQ => ?_) (fun H4 ys s6 Ta X0 => ?_)
   ·obtain ⟨n, hn, rfl, rfl⟩ := Ke hy hb
    have fz := ok.m1 n hn
    exact ⟨_, rfl, _, rfl, ln, _, _, _, rfl, rfl, ax.of (sm _ _ (s5 _ _ Be)), yJ (by omega) (by omega), hQ _ _ (ag.refl _) rfl⟩
   rw [dQ X0] at Ta
   have S9 : Txt.join (Str.ofString ", ") ((nm zs r.1).map S) = S (b9 [44, 32] (nm zs r.1)) := by rw [M3, sQ]
   refine ⟨_, D2, (nm zs r.1).map S, rfl, rfl, .inl (ax.of (by rw [← uy]; exact Ta)), ?_, _, _, rfl, rfl, ?_, by show 1 ≤ sizeLine; decide, fun qq Zv => ?_⟩
   ·rw [M3, aZ]
    simp only [List.length_cons, List.length_nil]
    omega
   ·rw [KS, S9, aZ, aZ]
    have := (jE 0).2.2
    exact sz (by simp only [List.length_append, List.length_cons, List.length_nil]; omega)
   have e_t : Str.ofString "take " ++ Txt.join (Str.ofString ", ") ((nm zs r.1).map S) = S (aP (0, nm zs r.1)) := by rw [S9]; exact mV KS
   rw [e_t]
   have Zw : H' qq = none := (ag.trans s4 s6).free Zv
   have s7 := ag.trans (ag.trans s4 s6) (aj Zv (.lst [V.str (S (aP (0, nm zs r.1)))]))
   have h7 : upd H4 qq (.lst [V.str (S (aP (0, nm zs r.1)))]) qq = some (.lst (([((0 : Nat), nm zs r.1)].map aP).map tx)) := ae
   generalize upd H4 qq (.lst [V.str (S (aP (0, nm zs r.1)))]) = H7 at s7 h7
   have h0 : 0 < zs.length := by
    obtain ⟨x, t, e⟩ := List.exists_cons_of_ne_nil c1
    exact Nat.lt_of_le_of_lt (Nat.zero_le _) (ok.m1 x (by rw [e]; simp))
   refine ⟨_, rfl, _, _, rfl, rfl, (by show (0 : Int) < 2; decide), rfl, _, rfl, br (H0 := H7) (fun H8 => ag H' H8 ∧ H8 qq = some (.lst (([((0 : Nat), nm zs r.1)] ++ (if i % 2 = 1 then [(1, [zs.getD (zs.length - 1) []])] else [])).map aP |>.map tx))) (fun k next => ?_) (fun k => ?_) (fun H8 hc => ?_)⟩
   ·have k : i % 2 = 1 := of_decide_eq_true (Kc.symm.trans k)
    have s8 := ag.trans sH s7
    have hx := ck (uA T.sm h0)
    have Px : pV (zs.map tx) ((((zs.map tx).length : Nat) : Int) - 1) = some (tx (zs.getD (zs.length - 1) [])) := by
     have z := yJ (zs := zs) (i := (((zs.map tx).length : Nat) : Int) - 1) (by rw [Lm9]; omega) (by rw [Lm9]; omega)
     rw [z, Lm9]
     congr 3
     omega
    refine ⟨_, rfl, .inl ⟨rfl, _, ax.of h7⟩, _, rfl, _, rfl, ln, _, rfl, .inl (ax.of (s8 _ _ Be)), _, _, rfl, rfl, ln, _, _, _, rfl, rfl, ax.of (s8 _ _ Be), Px, _, _, rfl, rfl, ?_, qq, _, _, rfl, rfl, h7, f6 (by show 1 ≤ _; decide), next _ ⟨ag.aS s7 Zw _, ?_⟩⟩
    ·rw [zW, aZ, aZ]
     have := (jE 1).2.2
     exact sz (by simp only [List.length_append, List.length_cons, List.length_nil]; omega)
    ·have e_k : Str.ofString "keep " ++ S (zs.getD (zs.length - 1) []) = S (aP (1, [zs.getD (zs.length - 1) []])) := mV (ns := [zs.getD (zs.length - 1) []]) zW
     rw [ae, if_pos k, e_k]
     rfl
   ·have k : ¬ i % 2 = 1 := fun z => k (Kc.trans (decide_eq_true z))
    refine ⟨s7, ?_⟩
    rw [if_neg k, List.append_nil]
    exact h7
   obtain ⟨s8, h8⟩ := hc
   have s9 := ag.trans sH s8
   refine ⟨_, rfl, tt, _, 0, _, rfl, rfl, LD.same s9, rfl, a, _, rfl, .inl (ax.of (s9 _ _ ha)), _, _, rfl, rfl, _, rfl, cI (fun _ => ?_) (fun k => absurd (decide_eq_true (MH c1)) k)⟩
   refine ⟨_, rfl, tt, _, 1, _, rfl, rfl, LD.same s9, rfl, b, _, rfl, .inl (ax.of (s9 _ _ hb)), _, _, rfl, rfl, _, rfl, br (H0 := H8) (fun H9 => ag H' H9 ∧ H9 qq = some (.lst (((aT zs i r).map aP).map tx))) (fun k next => ?_) (fun k => ?_) (fun H9 hc => ?_)⟩
   ·have k : r.2 ≠ [] := xZ (of_decide_eq_true k)
    obtain ⟨y1, y2, y3⟩ := NI T.sm ok.m2 ok.l2
    refine ⟨_, rfl, .inl ⟨rfl, _, ax.of h8⟩, rfl, _, rfl, tt, _, 1, _, rfl, rfl, LD.same s9, rfl, b, rfl, ⟨_, ax.of (s9 _ _ hb)⟩, fun D3 Dc => ?_⟩
    refine bI (K := K) (xs := nI r.2) (nm zs r.2) (fun _ _ b y => y = tx b) (fun _ _ _ _ _ _ h => h) (fun _ _ _ _ _ _ h => h) (f6 (by rw [Lm9]; have := ok.l2; omega)) Dc (ax.of (s9 _ _ hb)) (by unfold nm; rw [Lm9, Lm9]) (fun j y b H4 R hy hb sm hQ => ?_) (fun H10 ys PY Tb X1 => ?_)
    ·obtain ⟨n, hn, rfl, rfl⟩ := Ke hy hb
     have fz := ok.m2 n hn
     exact ⟨_, rfl, _, rfl, ln, _, _, _, rfl, rfl, ax.of (sm _ _ (s9 _ _ Be)), yJ (by omega) (by omega), hQ _ _ (ag.refl _) rfl⟩
    rw [dQ X1] at Tb
    have Tc : Txt.join (Str.ofString ", ") ((nm zs r.2).map S) = S (b9 [44, 32] (nm zs r.2)) := by rw [M3, sQ]
    refine ⟨_, D3, (nm zs r.2).map S, rfl, rfl, .inl (ax.of (by rw [← uy]; exact Tb)), ?_, _, _, rfl, rfl, ?_, qq, _, _, rfl, rfl, PY _ _ h8, ?_, next _ ⟨ag.aS (ag.trans s8 PY) Zw _, ?_⟩⟩
    ·rw [M3, aZ]
     simp only [List.length_cons, List.length_nil]
     omega
    ·rw [NT, Tc, aZ, aZ]
     have := (jE 3).2.2
     exact sz (by simp only [List.length_append, List.length_cons, List.length_nil]; omega)
    ·by_cases z : i % 2 = 1
     ·rw [if_pos z]; exact f6 (by show 2 ≤ _; decide)
     ·rw [if_neg z]; exact f6 (by show 1 ≤ _; decide)
    ·rw [ae, Tc, mV NT]
     unfold aT
     rw [if_neg c1, if_neg k, List.map_append (l₂ := [(3, nm zs r.2)]), List.map_append (l₂ := [(3, nm zs r.2)].map aP)]
     rfl
   ·have k : r.2 = [] := Classical.byContradiction fun z => k (decide_eq_true (MH z))
    refine ⟨s8, ?_⟩
    unfold aT
    rw [if_neg c1, if_pos k, List.append_nil]
    exact h8
   obtain ⟨PY, Sj⟩ := hc
   have Zx := ag.trans sH PY
   refine ⟨_, rfl, tt, _, 0, _, rfl, rfl, LD.same Zx, rfl, a, _, rfl, .inl (ax.of (Zx _ _ ha)), rfl, _, rfl, cI (fun k => absurd (of_decide_eq_true (len0.symm.trans k)) c1) (fun _ => bO ?_)⟩
   have Td : Txt.join (Str.ofString "; ") (((aT zs i r).map aP).map S) = S (b9 [59, 32] ((aT zs i r).map aP)) := by rw [M4, sQ]
   have XZ := F2 XY (aT zs i r) Cp f1 Hr Td
   refine ⟨_, rfl, .inl ⟨rfl, _, ax.of (PY _ _ KU)⟩, _, rfl, _, rfl, f2, _, _, rfl, rfl, ?_, _, _, rfl, rfl, ?_, rfl, _, rfl, _, qq, ((aT zs i r).map aP).map S, rfl, rfl, .inl (ax.of (by rw [← uy]; exact Sj)), ?_, _, _, rfl, rfl, ?_, LL, _, _, rfl, rfl, PY _ _ KU, ?_, ?_⟩
   ·rw [Cp, f1, aZ, aZ]
    exact sz (by simp only [List.length_append, List.length_cons, List.length_nil]; omega)
   ·rw [Cp, f1, Hr, gu, aZ, aZ]
    exact sz (by simp only [List.length_append, List.length_cons, List.length_nil]; omega)
   ·rw [M4, aZ]
    simp only [List.length_cons, List.length_nil]
    omega
   ·rw [Cp, f1, Hr, Td, gu, gu, aZ, aZ]
    exact sz (by simp only [List.length_append, List.length_cons, List.length_nil]; omega)
   ·rw [Lm9, List.length_append, Lm9, lR]
    exact f6 (by omega)
   ·refine ⟨_, _, _, rfl, ag.aS (ag.trans sH PY) S8 _, ?_⟩
    rw [ae, XZ, KW, ← List.append_assoc, List.map_append (l₂ := [uw zs i r])]
    rfl
 ·rintro σ H' ⟨o4, o5, o6, rfl, sH, KU⟩
  rw [← zr] at KU
  have lR : (dn zs rs rs.length).length = rs.length := by unfold dn; rw [Lm9, List.length_range]
  have hle : ∀ x ∈ cx zs place rs, x.length ≤ 250 := Ce T
  have Mt : (cx zs place rs).length ≤ 14 := by
   unfold cx
   rw [List.length_append, Lm9, lR]
   omega
  have z := sE (as := cx zs place rs) (B := 250) hle
  refine ⟨rfl, _, rfl, _, LL, (cx zs place rs).map S, rfl, rfl, .inl (ax.of (by rw [← uy]; exact KU)), ?_, ?_⟩
  ·rw [S7, Lm9]
   show _ + _ * 1 ≤ _
   omega
  ·rw [S7, Mp, FI]
   exact q _ sH
end
end gg
namespace gg
open PySem L2 f9 Bk
set_option maxHeartbeats 4000000
section
variable {P : Program} {w : World} {K : PySem.W.Frag} {mg : Str → Option Value} {base : Heap} {f : Addr} {fd : FuncData} {c : Cl}
theorem fW : av ["_law_names", "_law_rules", "_law_table", "_law_rule"] ["_law_names", "_law_rules"] (ao gE) := ⟨rfl, rfl, rfl, by decide +kernel, rfl, by decide +kernel, by decide +kernel⟩
theorem rZ (F : bz K "_law_effects" "_law_effects" gE f fd) (aV : mg "len" = none) (cO : mg "range" = none) : aW P w K mg base cS 1 f fd ["_law_names", "_law_rules"] (Km K) := by
 refine F.ok fW (fun vs H Q E h => ?_) (fun cw A outer s H vs Q E hr h => ?_)
 ·obtain ⟨ln, lr, zs, rs, us, rfl, _⟩ := h
  rfl
 obtain ⟨ln, lr, zs, rs, us, rfl, hn, hl, pr, hz, Zy, h4, q⟩ := h
 refine ⟨_, (ab (au (i := 2) fW.nd rfl (Or.inl rfl) (bc af))
 (ab (bF PassesOwn.never rfl (aK (pv 1)) (aL (i := 3) fW.nd rfl (Or.inr rfl))
 (ah (aX (aw cR (aJ ar rfl aV PySem.boot_len (aa (ay a6 (pv 3) ai (fun _ _ => rfl)) af)) ai (aI _))
 (ah (a8 (cq PySem.F.plainAttrs_list PySem.F.slot_list_append PySem.F.type_list_append a9 (pv 2) (aa (aB yp (bc (aa ai af)) (aJ ar rfl aV PySem.boot_len (aa (pv 0) af))) af))))
 (ah (a8 (cq PySem.F.plainAttrs_list PySem.F.slot_list_append PySem.F.type_list_append a9 (pv 2) (aa (bK [3] rfl (by kernel_rfl) (dP rfl cO (aa (aJ ar rfl aV PySem.boot_len (aa (pv 0) af)) af)) (fun _ _ _ _ _ => bu) (fun _ _ _ _ _ => (aB fR (id (α := PE _ _ (VX K "list" (DU K) _ _)) (cq PySem.F.plainAttrs_list PySem.F.slot_list_count PySem.F.type_list_count BQ (ay (r := rL K) a6 (pv 1) ai (fun _ _ => rfl)) (aa (pv 0) af))) (id (α := PE _ _ (VX K "list" (DU K) _ _)) (cq PySem.F.plainAttrs_list PySem.F.slot_list_count PySem.F.type_list_count BQ (ay (r := rL K) a6 (pv 1) ai (fun _ _ => rfl)) (aa (pv 0) af)))))) af)))))))
 (ah (aC (pv 2))))), ?_⟩
 refine ⟨(by show 0 ≤ sizeLine; decide), fun D hD => ?_⟩
 have zu := Paired.length pr
 have sD := aj hD (.lst [])
 refine ⟨_, rfl, lr, rfl, ⟨_, ax.of (sD _ _ hl)⟩, bt (K := K) (a := lr) (xs := us) (fun i σ H' => ∃ (o : Option V) (vs : List V), σ = [some (.ref ln), some (.ref lr), some (.ref D), o] ∧ ag H H' ∧ H' D = some (.lst vs) ∧ Paired (kN H H') ((rs.take i).map (lC zs.length)) vs ∧ ∀ v ∈ vs, v ≠ .ref D)
  ⟨none, [], rfl, sD, ae, by rw [List.take_zero]; exact .nil, fun _ h => nomatch h⟩ (fun i σ H' _ ⟨_, _, _, sm, _⟩ => ax.of (sm _ _ hl)) ?_ ?_⟩
 ·rintro i y σ H' hi ⟨o, vs, rfl, sm, hU, po, ap⟩
  obtain ⟨kO, ey⟩ := aA hi
  have Gb : i < rs.length := by omega
  have hR := (paired_at pr i Gb kO).same sm
  rw [ey] at hR
  have h4i := h4 _ (List.getElem_mem Gb)
  have ts : rs.take (i + 1) = rs.take i ++ [rs[i]] := by rw [List.take_succ, Ge9 Gb]; rfl
  generalize rs[i] = r at hR h4i ts
  obtain ⟨t, a, b, rfl, ht, ha, hb⟩ := hR
  have zo := Paired.length po
  rw [Lm9, List.length_take] at zo
  have step : ∀ (H2 : Hp) (p : Addr) (o : Option V), ag H' H2 → H' p = none → H2 p = some (.lst ((lC zs.length r).map V.int)) → ∃ (o' : Option V) (X2 : List V), [some (V.ref ln), some (.ref lr), some (.ref D), o] = [some (.ref ln), some (.ref lr), some (.ref D), o'] ∧ ag H (upd H2 D (.lst (vs ++ [.ref p]))) ∧ (upd H2 D (.lst (vs ++ [.ref p]))) D = some (.lst X2) ∧ Paired (kN H (upd H2 D (.lst (vs ++ [.ref p])))) ((rs.take (i + 1)).map (lC zs.length)) X2 ∧ ∀ v ∈ X2, v ≠ .ref D := by
   intro H2 p o s2 X3 hp
   have pD : p ≠ D := fun z => by rw [z, hU] at X3; cases X3
   refine ⟨o, _, rfl, ag.aS (ag.trans sm s2) hD _, ae, ?_, fun v hv => ?_⟩
   ·rw [ts, List.map_append]
    refine Paired.snoc ?_ ⟨p, rfl, sm.free X3, by rw [aq pD]; exact hp⟩
    refine k7 po fun row v hv hI => ?_
    obtain ⟨a1, rfl, n1, h1⟩ := hI
    exact ⟨a1, rfl, n1, by rw [aq fun z => ap _ hv (by rw [z])]; exact s2 _ _ h1⟩
   ·rcases List.mem_append.mp hv with hv | hv
    ·exact ap v hv
    ·rw [List.mem_singleton.mp hv]
     exact fun z => pD (V.ref.inj z)
  refine ⟨_, rfl, t, _, 0, _, rfl, rfl, ht, rfl, a, _, rfl, .inl (ax.of ha), rfl, _, rfl, ?_⟩
  refine cI (fun k => ?_) (fun k => ?_)
  ·have e1 : r.1 = [] := of_decide_eq_true (len0.symm.trans k)
   refine ⟨_, rfl, .inl ⟨rfl, _, ax.of hU⟩, (by show 1 ≤ sizeLine; decide), fun p hp => ?_⟩
   have sp := aj hp (.lst [V.int 0])
   refine ⟨_, rfl, ln, _, rfl, .inl (ax.of (sp _ _ (sm _ _ hn))), p, _, _, rfl, rfl, ae, by rw [Lm9]; omega, by rw [Lm9]; omega, ?_, fun p2 Fw => ?_⟩
   ·rw [Lm9]
    exact sz (by show 1 * _ ≤ _; omega)
   ·have LC := aj Fw (.lst (List.replicate ((((zs.map tx).length : Nat) : Int)).toNat [V.int 0]).flatten)
    refine ⟨D, _, _, rfl, rfl, LC _ _ (sp _ _ hU), f6 (by omega), step _ p2 _ (ag.trans sp LC) (sp.free Fw) ?_⟩
    rw [ae, pB, Lm9]
    unfold lC
    rw [if_pos e1]
    rfl
  ·have e1 : ¬ r.1 = [] := fun z => k (len0.trans (decide_eq_true z))
   refine ⟨_, rfl, .inl ⟨rfl, _, ax.of hU⟩, _, rfl, ln, _, rfl, .inl (ax.of (sm _ _ hn)), ?_⟩
   refine ⟨_, rfl, by rw [Lm9]; omega, by rw [Lm9]; omega, fun D2 k0 => ?_⟩
   have en : ((((zs.map tx).length : Nat) : Int)).toNat = zs.length := by rw [Lm9]; omega
   rw [en]
   refine eV (lo := 0) (n := zs.length) (f6 (by omega)) (fun i ys H2 => ag H' H2 ∧ H2 D2 = some (.lst ys) ∧ ys = ((List.range i).map fun k => (r.2.count k : Int) - (r.1.count k : Int)).map V.int) ⟨aj k0 _, ae, rfl⟩ (fun i ys H2 p => ⟨p.2.1, by rw [p.2.2]; simp⟩) (fun k ys H2 hk p => ?_) (fun ys H2 p => ?_)
   ·obtain ⟨s2, Dc, rfl⟩ := p
    have e0 : (0 : Int) + (k : Int) = (k : Int) := by omega
    rw [e0]
    refine ⟨_, rfl, t, _, 1, _, rfl, rfl, ht.same s2, rfl, .inl ⟨rfl, _, ax.of (s2 _ _ hb)⟩, _, rfl, b, _, _, rfl, rfl, ax.of (s2 _ _ hb), rfl, F6 _, _, rfl, t, _, 0, _, rfl, rfl, ht.same s2, rfl, .inl ⟨rfl, _, ax.of (s2 _ _ ha)⟩, _, rfl, a, _, _, rfl, rfl, ax.of (s2 _ _ ha), rfl, F6 _, _, _, rfl, rfl, ?_⟩
    rw [Cg, Cg]
    refine ⟨Dc, ag.aS s2 k0 _, ae, ?_⟩
    rw [List.range_succ, List.map_append, List.map_append]
    rfl
   ·obtain ⟨s2, Dc, rfl⟩ := p
    refine ⟨D, _, _, rfl, rfl, s2 _ _ hU, f6 (by omega), step _ D2 _ s2 k0 ?_⟩
    rw [Dc]
    unfold lC
    rw [if_neg e1]
 ·rintro σ H' ⟨o, vs, rfl, sm, hU, po, ap⟩
  rw [← zu, List.take_length] at po
  exact ⟨_, rfl, q _ _ sm ⟨D, vs, rfl, hD, hU, po⟩⟩
end
end gg
namespace gg
open PySem L2 f9 Bk
set_option maxHeartbeats 4000000
section
variable {P : Program} {w : World} {K : PySem.W.Frag} {mg : Str → Option Value} {base : Heap} {f : Addr} {fd : FuncData} {c : Cl}
theorem gK : av ["row", "place", "number"] ["row"] (ao iy) := ⟨rfl, rfl, rfl, by decide +kernel, rfl, by decide +kernel, by decide +kernel⟩
theorem uR (F : bz K "first_place" "first_place" iy f fd) (cz : mg "enumerate" = none) : aW P w K mg base cS 1 f fd ["row"] Ee := by
 refine F.ok gK (fun vs H Q E h => ?_) (fun cw A outer s H vs Q E hr h => ?_)
 ·obtain ⟨a, r, rfl, _⟩ := h
  rfl
 obtain ⟨a, r, rfl, ha, hl, q⟩ := h
 refine ⟨_, (ab (bF PassesOwn.never rfl (oX (pv 0) rfl cz PyProof.Rows.boot_enumerate) (ny rfl (bU (aL (i := 1) gK.nd rfl (Or.inl rfl)) (bU (aL (i := 2) gK.nd rfl (Or.inl rfl)) jq)))
 (ah (aX (aw fA (pv 2) ai (aI _))
 (ah (aC (pv 1)))
 aG)))
 (ah (aC Io))), ?_⟩
 refine ⟨_, rfl, a, rfl, ⟨_, ax.of ha⟩, lu (K := K) (a := a) (xs := r.map V.int) (fun i σ H' => ∃ o1 o2, σ = [some (.ref a), o1, o2] ∧ ag H H' ∧ ∀ j, j < i → r.getD j 0 = 0)
  ⟨none, none, rfl, ag.refl _, fun j hj => absurd hj (by omega)⟩ (fun i σ H' _ ⟨_, _, _, sm, _⟩ => ax.of (sm _ _ ha)) ?_ ?_⟩
 ·rintro i y σ H' t hi ⟨o1, o2, rfl, sm, hz⟩ ht
  obtain ⟨vR, ey⟩ := aA hi
  rw [Lm9] at vR
  rw [List.getElem_map] at ey
  subst ey
  have st := aj ht (.tup [.int (i : Int), .int r[i]])
  have eg : r.getD i 0 = r[i] := by rw [Gd9, Ge9 vR]; rfl
  refine ⟨t, _, rfl, cM.of ae, rfl, _, _, rfl, _, _, rfl, rfl, ?_⟩
  refine ⟨_, rfl, rfl, _, rfl, cI (fun k => ?_) (fun k => ?_)⟩
  ·have mZ : r.getD i 0 ≠ 0 := fun z => by
    rw [eg] at z
    rw [z] at k
    cases k
   have e : La.fp r = i := La.FT hz mZ
   refine ⟨_, rfl, ?_⟩
   have y := q _ (ag.trans sm st)
   unfold Ed at y
   rw [e, if_pos vR] at y
   exact y
  ·have he : r.getD i 0 = 0 := by
    rw [eg]
    by_cases z : r[i] = 0
    ·exact z
    ·exact absurd (by rw [decide_eq_false fun y => z (V.int.inj y)]; rfl) k
   exact ⟨_, _, rfl, ag.trans sm st, fun j hj => by
    by_cases z : j = i
    ·rw [z]; exact he
    ·exact hz j (by omega)⟩
 ·rintro σ H' ⟨o1, o2, rfl, sm, hz⟩
  rw [Lm9] at hz
  have y := q _ sm
  unfold Ed at y
  rw [La.sN fun i => by
   by_cases z : i < r.length
   ·exact hz i z
   ·rw [Gd9, List.getElem?_eq_none (by omega)]; rfl, if_neg (Nat.lt_irrefl _)] at y
  exact y
theorem dN : av ["row", "found", "number", "rest", "later"] ["row"] (ao qo) := ⟨rfl, rfl, rfl, by decide +kernel, rfl, by decide +kernel, by decide +kernel⟩
theorem Ex (F : bz K "divisor" "divisor" qo f fd) (Te : mg "abs" = none) : aW P w K mg base cS 1 f fd ["row"] Kq := by
 refine F.ok dN (fun vs H Q E h => ?_) (fun cw A outer s H vs Q E hr h => ?_)
 ·obtain ⟨a, r, rfl, _⟩ := h
  rfl
 obtain ⟨a, r, rfl, ha, q⟩ := h
 refine ⟨_, (ab (au (i := 1) dN.nd rfl (Or.inl rfl) ai)
 (ab (bF PassesOwn.never rfl (aK (pv 0)) (aL (i := 2) dN.nd rfl (Or.inl rfl))
 (ab (au (i := 3) dN.nd rfl (Or.inl rfl) (aJ IC rfl Te PyProof.Rows.boot_abs (aa (pv 2) af)))
 (ah (iZ PassesOwn.never (aw fA (pv 3) ai (aI _))
 (ab (au (i := 4) dN.nd rfl (Or.inl rfl) (aB dh (pv 1) (pv 3)))
 (ab (au (i := 1) dN.nd rfl (Or.inl rfl) (pv 3))
 (ah (au (i := 3) dN.nd rfl (Or.inl rfl) (pv 4)))))))))
 (ah (aC (pv 1))))), ?_⟩
 refine ⟨_, rfl, a, rfl, ⟨_, ax.of ha⟩, bt (K := K) (a := a) (xs := r.map V.int) (fun i σ H' => H' = H ∧ ∃ o2 o3 o4, σ = [some (.ref a), some (.int (((r.take i).foldl (fun f n => Nat.gcd f n.natAbs) 0 : Nat) : Int)), o2, o3, o4])
  ⟨rfl, none, none, none, rfl⟩ (fun i σ H' _ ⟨e, _⟩ => by rw [e]; exact ax.of ha) ?_ ?_⟩
 ·rintro i y σ H' hi ⟨rfl, o2, o3, o4, rfl⟩
  obtain ⟨vR, ey⟩ := aA hi
  rw [Lm9] at vR
  rw [List.getElem_map] at ey
  subst ey
  have ts : (r.take (i + 1)).foldl (fun f n => Nat.gcd f n.natAbs) 0 = Nat.gcd ((r.take i).foldl (fun f n => Nat.gcd f n.natAbs) 0) r[i].natAbs := by
   rw [List.take_succ, Ge9 vR]
   show (r.take i ++ [r[i]]).foldl _ 0 = _
   rw [List.foldl_append]
   rfl
  generalize (r.take i).foldl (fun f n => Nat.gcd f n.natAbs) 0 = g at ts
  have ea : (if r[i] < 0 then -r[i] else r[i]) = ((r[i].natAbs : Nat) : Int) := by split <;> omega
  refine ⟨_, rfl, _, rfl, ?_⟩
  rw [ea]
  refine Bm (fun σ H2 => H2 = H' ∧ ∃ (a1 b1 : Nat) (o4 : Option V), σ = [some (.ref a), some (.int (a1 : Int)), some (.int r[i]), some (.int (b1 : Int)), o4] ∧ Nat.gcd a1 b1 = Nat.gcd g r[i].natAbs) (fun (σ : St) _ => match σ[3]? with | some (some (V.int b)) => b.toNat | _ => 0) ⟨rfl, g, r[i].natAbs, o4, rfl, rfl⟩ ?_ ?_
  ·rintro σ H2 ⟨rfl, a1, b1, o4, rfl, eg⟩
   refine ⟨_, rfl, rfl, _, rfl, cI (fun k => ?_) (fun k => ?_)⟩
   ·have hb : b1 ≠ 0 := fun z => by
     rw [z] at k
     cases k
    have hp : (0 : Int) < (b1 : Int) := by omega
    refine ⟨_, rfl, _, rfl, _, _, rfl, rfl, hp, _, rfl, _, rfl, ⟨rfl, b1, a1 % b1, _, rfl, ?_⟩, ?_⟩
    ·rw [← eg, Nat.gcd_comm b1, ← Nat.gcd_rec, Nat.gcd_comm]
    ·show ((a1 : Int) % (b1 : Int)).toNat < (b1 : Int).toNat
     have := Nat.mod_lt a1 (Nat.pos_of_ne_zero hb)
     omega
   ·have hb : b1 = 0 := by
     by_cases z : b1 = 0
     ·exact z
     ·exact absurd (by rw [decide_eq_false fun y => z (by have := V.int.inj y; omega)]; rfl) k
    refine ⟨rfl, some (.int r[i]), some (.int (b1 : Int)), o4, ?_⟩
    rw [ts, ← eg, hb, Nat.gcd_zero_right]
  ·rintro σ H2 Q1 Q2 hm ⟨x, e1, h1, b, e2, h2⟩
   exact ⟨x, e1, h1, b, e2, hm _ _ h2⟩
 ·rintro σ H' ⟨rfl, o2, o3, o4, rfl⟩
  rw [Lm9, List.take_length]
  exact ⟨_, rfl, q⟩
end
end gg
namespace gg
open PySem L2 f9 Bk
set_option maxHeartbeats 4000000
section
variable {P : Program} {w : World} {K : PySem.W.Frag} {mg : Str → Option Value} {base : Heap} {f : Addr} {fd : FuncData} {c : Cl}
theorem uS : av ["row", "common"] ["row"] (ao qp) := ⟨rfl, rfl, rfl, by decide +kernel, rfl, by decide +kernel, by decide +kernel⟩
theorem Ey (F : bz K "slimmed" "slimmed" qp f fd) (qI : bf P w K mg base "divisor" 1 ["row"] Kq) (oe : mg "list" = none) : aW P w K mg base cS 2 f fd ["row"] yZ := by
 refine F.ok uS (fun vs H Q E h => ?_) (fun cw A outer s H vs Q E hr h => ?_)
 ·obtain ⟨a, r, B, rfl, _⟩ := h
  rfl
 obtain ⟨a, r, B, rfl, ha, hb, hB, hl, q⟩ := h
 refine ⟨_, (ab (au (i := 1) uS.nd rfl (Or.inr rfl) (ak qI (hr.mono (by decide)) rfl (aa (pv 0) af)))
 (ab (aX (aw cR (pv 1) ai (aI _))
 (ah (aC (c9 oI rfl oe PyProof.Rows.Boot.«list» (aa (pv 0) af))))
 aG)
 (ah (aC (bK [1] rfl (by kernel_rfl) (aK (pv 0)) (fun _ _ _ _ _ => bu) (fun _ _ _ _ _ => (aB BV (pv 0) (pv 1)))))))), ?_⟩
 refine ⟨_, rfl, a, r, rfl, ha, _, rfl, rfl, _, rfl, cI (fun k => ?_) (fun k => ?_)⟩
 ·have e : La.ua r = 0 := by
   have := V.int.inj (of_decide_eq_true k)
   omega
  refine ⟨_, rfl, a, _, rfl, .inl (ax.of ha), fun l hl => q l _ (aj hl _) hl ?_⟩
  rw [ae]
  unfold La.slim
  rw [if_pos e]
 ·have e : ¬ La.ua r = 0 := fun z => k (decide_eq_true (by rw [z]; rfl))
  have hg := La.Pd hb
  refine ⟨_, rfl, a, rfl, ⟨_, ax.of ha⟩, fun D hD => ?_⟩
  refine bI (K := K) (xs := r.map V.int) (r.map fun (n : Int) => n / ((La.ua r : Nat) : Int)) (fun _ _ b y => y = V.int b) (fun _ _ _ _ _ _ h => h) (fun _ _ _ _ _ _ h => h) (f6 (by rw [Lm9]; omega)) hD (ax.of ha) (by rw [Lm9, Lm9]) (fun i x b H2 R hx FJ s2 hQ => ?_) (fun H2 zs s2 hL po => ?_)
  ·obtain ⟨hi, ex⟩ := aA hx
   obtain ⟨dq, eb⟩ := aA FJ
   rw [List.getElem_map] at ex eb
   subst ex
   exact ⟨_, rfl, _, rfl, _, _, rfl, rfl, ⟨by omega, .inr (lg hg (by omega) (by decide))⟩, hQ _ _ (ag.refl _) (by rw [← eb])⟩
  ·rw [paired_ints po] at hL
   refine q D _ s2 hD ?_
   unfold La.slim
   rw [hL, if_neg e]
theorem KY : av ["times", "row", "other_times", "other"] ["times", "row", "other_times", "other"] (ao y8) := ⟨rfl, rfl, rfl, by decide +kernel, rfl, by decide +kernel, by decide +kernel⟩
theorem KZ (F : bz K "mixed" "mixed" y8 f fd) (Tf : mg "zip" = none) : aW P w K mg base cS 1 f fd ["times", "row", "other_times", "other"] y0 := by
 refine F.ok KY (fun vs H Q E h => ?_) (fun cw A outer s H vs Q E hr h => ?_)
 ·obtain ⟨a, b, u, v, x, y, B, rfl, _⟩ := h
  rfl
 obtain ⟨a, b, u, v, x, y, B, rfl, hu, hv, hl, hz, ha, hb, bx, byy, hB, q⟩ := h
 refine ⟨_, (ah (aC (JD ["one", "two"] [0, 2] rfl (by kernel_rfl) (O5 (pv 1) (pv 3) rfl Tf PyProof.Rows.boot_zip rfl rfl) (fun _ _ _ _ _ => (id (α := PG _ _ (QO K 2 (Iu (ra 0) (Iu (ra 1) QN)))) (ny rfl (bU (aL (i := 0) (by exact (show (["one", "two", "times", "other_times"] : List Str).Nodup by decide +kernel)) rfl (Or.inl rfl)) (bU (aL (i := 1) (by exact (show (["one", "two", "times", "other_times"] : List Str).Nodup by decide +kernel)) rfl (Or.inl rfl)) jq))))) (fun _ _ _ _ _ => bu) (fun _ _ _ _ _ => (aB dI (aB ig (pv 2) (pv 0)) (aB ig (pv 3) (pv 1))))))), ?_⟩
 refine ⟨_, rfl, _, rfl, u, v, rfl, rfl, ⟨_, ax.of hu⟩, ⟨_, ax.of hv⟩, fun D hD => ?_⟩
 refine Kn (K := K) (xs := x.map V.int) (ys := y.map V.int) x.length (by rw [Lm9]) (by rw [Lm9, hl]) (f6 (by omega)) (fun i zs τ H' => ∃ o0 o1, τ = [o0, o1, some (.int a), some (.int b)] ∧ ag H H' ∧ H' D = some (.lst zs) ∧ zs = (La.iY a (x.take i) b (y.take i)).map V.int)
  ⟨none, none, rfl, aj hD _, ae, by rw [List.take_zero]; rfl⟩ (fun i zs τ H' ⟨_, _, _, sm, _⟩ => ⟨ax.of (sm _ _ hu), ax.of (sm _ _ hv)⟩) (fun i zs τ H' ⟨_, _, _, _, h, e⟩ => ⟨h, ?_⟩) (fun i zs τ H' t v1 u1 hi p Zz ZA ht => ?_) (fun zs τ H' p => ?_)
 ·unfold La.iY at e
  rw [e, Lm9, Lm9, List.length_zip, List.length_take]
  omega
 ·obtain ⟨o0, o1, rfl, sm, hU, rfl⟩ := p
  have Nu : i < y.length := by omega
  rw [List.getElem?_map, Ge9 hi] at Zz
  rw [List.getElem?_map, Ge9 Nu] at ZA
  obtain rfl : V.int x[i] = v1 := Option.some.inj Zz
  obtain rfl : V.int y[i] = u1 := Option.some.inj ZA
  have st := aj ht (.tup [V.int x[i], V.int y[i]])
  refine ⟨t, _, rfl, cM.of ae, rfl, _, _, rfl, _, _, rfl, rfl, ?_⟩
  refine ⟨_, rfl, _, rfl, _, _, rfl, rfl, ⟨lg ha (by omega) (by decide), lg (bx _ (List.getElem_mem hi)) (by omega) (by decide)⟩, _, rfl, _, rfl, _, _, rfl, rfl, ⟨lg hb (by omega) (by decide), lg (byy _ (List.getElem_mem Nu)) (by omega) (by decide)⟩, _, _, rfl, rfl, st _ _ hU, _, _, rfl, ag.aS (ag.trans sm st) hD _, ae, ?_⟩
  unfold La.iY
  rw [List.take_succ, List.take_succ, Ge9 hi, Ge9 Nu, List.zip_append (by rw [List.length_take, List.length_take]; omega), List.map_append, List.map_append]
  rfl
 ·obtain ⟨o0, o1, rfl, sm, hU, rfl⟩ := p
  rw [List.take_length, hl, List.take_length] at hU
  exact q D _ sm hD hU
theorem Ez : av ["row", "other", "place"] ["row", "other", "place"] (ao qr) := ⟨rfl, rfl, rfl, by decide +kernel, rfl, by decide +kernel, by decide +kernel⟩
theorem EA (F : bz K "cleared" "cleared" qr f fd) (gp : bf P w K mg base "slimmed" 2 ["row"] yZ) (zX : bf P w K mg base "mixed" 1 ["times", "row", "other_times", "other"] y0) : aW P w K mg base cS 3 f fd ["row", "other", "place"] Ks := by
 refine F.ok Ez (fun vs H Q E h => ?_) (fun cw A outer s H vs Q E hr h => ?_)
 ·obtain ⟨u, v, row, lead, p, B, rfl, _⟩ := h
  rfl
 obtain ⟨u, v, row, lead, p, B, rfl, hu, hv, hl, hp, hz, br, bl, hB, q⟩ := h
 refine ⟨_, (ah (aC (ak gp (hr.mono (by decide)) rfl (aa (ak zX (hr.mono (by decide)) rfl (aa (ay az (pv 1) (pv 2) (fun _ _ => rfl)) (aa (pv 0) (aa (aB fR ai (ay az (pv 0) (pv 2) (fun _ _ => rfl))) (aa (pv 1) af))))) af)))), ?_⟩
 have gd : ∀ (r : List Int), p < r.length → pV (r.map V.int) (p : Int) = some (V.int (r.getD p 0)) := fun r h => bP (by rw [List.getElem?_map, Ge9 h, Gd9, Ge9 h]; rfl)
 refine ⟨_, rfl, _, rfl, v, _, _, _, rfl, rfl, ax.of hv, gd lead (by omega), _, rfl, _, rfl, _, rfl, u, _, _, _, rfl, rfl, ax.of hu, gd row hp, _, _, rfl, rfl, _, rfl, _, _, u, v, row, lead, B, rfl, hu, hv, hl, hz, bl.at p, La.qj (br.at p), br, bl, by omega, fun p1 H1 s1 n1 h1 => ?_⟩
 refine ⟨p1, _, 2 * B + 1, rfl, h1, La.JP (bl.at p) (La.qj (br.at p)) br bl, by omega, ?_, fun p2 H2 s2 n2 h2 => q p2 H2 (ag.trans s1 s2) (s1.free n2) h2⟩
 rw [La.a0 rfl hl.symm]
 exact hz
theorem og : av ["rows"] ["rows"] (ao d6) := ⟨rfl, rfl, rfl, by decide +kernel, rfl, by decide +kernel, by decide +kernel⟩
theorem oh (F : bz K "without_noughts" "without_noughts" d6 f fd) (aO : bf P w K mg base "first_place" 1 ["row"] Ee) : aW P w K mg base cS 3 f fd ["rows"] Pq := by
 refine F.ok og (fun vs H Q E h => ?_) (fun cw A outer s H vs Q E hr h => ?_)
 ·obtain ⟨l, us, rows, rfl, _⟩ := h
  rfl
 obtain ⟨l, us, rows, rfl, hl, pr, hz, Pw, q⟩ := h
 refine ⟨_, (ah (aC (bK [] rfl (by kernel_rfl) (aK (pv 0)) (fun _ _ _ _ _ => (jw (aw LO (ak aO (hr.mono (by decide)) rfl (aa (pv 0) af)) Io (aI _)))) (fun _ _ _ _ _ => (pv 0))))), ?_⟩
 have zu := Paired.length pr
 refine ⟨_, rfl, l, rfl, ⟨_, ax.of hl⟩, fun D hD => ?_⟩
 refine ja (K := K) (xs := us) rows (fun r => decide (La.fp r < r.length)) (fun r => r) (fun _ _ b y => rT H b y ∧ y ∈ us) (fun _ _ _ _ _ _ h => h) (fun _ _ _ _ _ _ h => h) (f6 (by omega)) hD (ax.of hl) zu (fun i x b H' R hx hb sm hQ => ?_) (fun i x b H' R hx hb hk sm hQ => ?_) (fun H1 ys s1 hL po => ?_)
 ·obtain ⟨hi, ex⟩ := aA hx
  obtain ⟨dq, eb⟩ := aA hb
  have hR := paired_at pr i dq hi
  have ZC := Pw _ (List.getElem_mem dq)
  rw [ex, eb] at hR
  rw [eb] at ZC
  obtain ⟨a, rfl, ha⟩ := hR
  refine ⟨_, rfl, a, b, rfl, sm _ _ ha, ZC, fun H2 s2 => ⟨rfl, _, rfl, ?_⟩⟩
  have z := hQ H2 s2
  have e : (!decide (Ed b = V.cL)) = decide (La.fp b < b.length) := by
   unfold Ed
   by_cases h : La.fp b < b.length
   ·rw [if_pos h, decide_eq_true h]; rfl
   ·rw [if_neg h, decide_eq_false h]; rfl
  rw [e]
  exact z
 ·obtain ⟨hi, ex⟩ := aA hx
  obtain ⟨dq, eb⟩ := aA hb
  have hR := paired_at pr i dq hi
  rw [ex, eb] at hR
  exact ⟨_, rfl, hQ _ _ (ag.refl _) ⟨hR, List.mem_of_getElem? hx⟩⟩
 ·rw [List.map_id'] at po
  exact q D ys H1 s1 hD hL (fun w hw => by
   obtain ⟨_, _, h⟩ := jz po hw
   exact h.2) (L2.Paired.bY po fun _ _ h => h.1.same s1)
theorem kI : av ["row"] ["row"] (ao gA) := ⟨rfl, rfl, rfl, by decide +kernel, rfl, by decide +kernel, by decide +kernel⟩
theorem r6 (F : bz K "above_nought" "above_nought" gA f fd) (aO : bf P w K mg base "first_place" 1 ["row"] Ee) (gp : bf P w K mg base "slimmed" 2 ["row"] yZ) : aW P w K mg base cS 3 f fd ["row"] y4 := by
 refine F.ok kI (fun vs H Q E h => ?_) (fun cw A outer s H vs Q E hr h => ?_)
 ·obtain ⟨a, r, B, rfl, _⟩ := h
  rfl
 obtain ⟨a, r, B, rfl, ha, hb, hB, hl, hf, q⟩ := h
 refine ⟨_, (ab (aX (aw Bn (ay az (pv 0) (ak aO (hr.mono (by decide)) rfl (aa (pv 0) af)) (fun _ _ => rfl)) ai (aI _))
 (ah (f7 (i := 0) [] kI.nd rfl (Or.inl rfl) rfl (by kernel_rfl) (aK (pv 0)) (fun _ _ _ _ _ => bu) (fun _ _ _ _ _ => (aB fR ai (pv 0)))))
 aG)
 (ah (aC (ak gp (hr.mono (by decide)) rfl (aa (pv 0) af))))), ?_⟩
 have PZ : Ed r = V.int ((La.fp r : Nat) : Int) := by unfold Ed; rw [if_pos hf]
 have gd : pV (r.map V.int) ((La.fp r : Nat) : Int) = some (V.int (r.getD (La.fp r) 0)) := bP (by rw [List.getElem?_map, Ge9 hf, Gd9, Ge9 hf]; rfl)
 unfold La.above at q
 refine ⟨_, rfl, _, rfl, a, r, rfl, ha, hl, fun H1 s1 => ?_⟩
 rw [PZ]
 refine ⟨a, _, _, _, rfl, rfl, ax.of (s1 _ _ ha), gd, _, _, rfl, rfl, _, rfl, cI (fun k => ?_) (fun k => ?_)⟩
 ·have k : r.getD (La.fp r) 0 < 0 := of_decide_eq_true k
  rw [if_pos k] at q
  refine ⟨_, rfl, a, rfl, ⟨_, ax.of (s1 _ _ ha)⟩, fun D hD => ?_⟩
  refine bI (K := K) (xs := r.map V.int) (r.map fun n => 0 - n) (fun _ _ b y => y = V.int b) (fun _ _ _ _ _ _ h => h) (fun _ _ _ _ _ _ h => h) (f6 (by rw [Lm9]; omega)) hD (ax.of (s1 _ _ ha)) (by rw [Lm9, Lm9]) (fun i x b H2 R hx FJ s2 hQ => ?_) (fun H2 zs s2 hL po => ?_)
  ·obtain ⟨hi, ex⟩ := aA hx
   obtain ⟨dq, eb⟩ := aA FJ
   rw [List.getElem_map] at ex eb
   subst ex
   exact ⟨_, rfl, _, _, rfl, rfl, hQ _ _ (ag.refl _) (by rw [← eb])⟩
  ·rw [paired_ints po] at hL
   refine ⟨_, rfl, D, _, B, rfl, hL, fun x hx => ?_, hB, by rw [Lm9]; exact hl, fun p H3 s3 n3 h3 => q p H3 (ag.trans s1 (ag.trans s2 s3)) (s1.free (s2.free n3)) h3⟩
   obtain ⟨y, hy, rfl⟩ := List.mem_map.mp hx
   exact La.qj (hb y hy)
 ·have k : ¬ r.getD (La.fp r) 0 < 0 := fun z => k (decide_eq_true z)
  rw [if_neg k] at q
  exact ⟨_, rfl, a, r, B, rfl, s1 _ _ ha, hb, hB, hl, fun p H3 s3 n3 h3 => q p H3 (ag.trans s1 s3) (s1.free n3) h3⟩
end
end gg
namespace gg
open PySem L2 f9 Bk
set_option maxHeartbeats 4000000
section
variable {P : Program} {w : World} {K : PySem.W.Frag} {mg : Str → Option Value} {base : Heap} {f : Addr} {fd : FuncData} {c : Cl}
theorem dO : av ["rows", "found", "left", "lead", "place"] ["rows"] (ao qv) := ⟨rfl, rfl, rfl, by decide +kernel, rfl, by decide +kernel, by decide +kernel⟩
theorem EB (F : bz K "reduced" "reduced" qv f fd) (cP : bf P w K mg base "without_noughts" 3 ["rows"] Pq) (gM : bf P w K mg base "above_nought" 3 ["row"] y4) (aO : bf P w K mg base "first_place" 1 ["row"] Ee) (mW : bf P w K mg base "cleared" 3 ["row", "other", "place"] Ks) (aV : mg "len" = none) (Tg : mg "min" = none) : aW P w K mg base cS 6 f fd ["rows"] Kt := by
 refine F.ok dO (fun vs H Q E h => ?_) (fun cw A outer s H vs Q E hr h => ?_)
 ·obtain ⟨l, us, rows, w0, B, rfl, _⟩ := h
  rfl
 obtain ⟨l, us, rows, w0, B, rfl, hl, pr, acb, hw, hlen, Sr, hB, q⟩ := h
 refine ⟨_, (ab (au (i := 1) dO.nd rfl (Or.inl rfl) (bc af))
 (ab (au (i := 2) dO.nd rfl (Or.inl rfl) (ak cP (hr.mono (by decide)) rfl (aa (pv 0) af)))
 (ab (iZ PassesOwn.never (aw m7 (aJ ar rfl aV PySem.boot_len (aa (pv 2) af)) ai (aI _))
 (ab (au (i := 3) dO.nd rfl (Or.inr rfl) (ak gM (hr.mono (by decide)) rfl (aa (Mu rfl aO (hr.mono (by decide)) rfl Tg rfl (pv 2)) af)))
 (ab (au (i := 4) dO.nd rfl (Or.inr rfl) (ak aO (hr.mono (by decide)) rfl (aa (pv 3) af)))
 (ab (au (i := 1) dO.nd rfl (Or.inl rfl) (aB nD (bK [3, 4] rfl (by kernel_rfl) (aK (pv 1)) (fun _ _ _ _ _ => bu) (fun _ _ _ _ _ => (ak mW (hr.mono (by decide)) rfl (aa (pv 0) (aa (pv 1) (aa (pv 2) af)))))) (bc (aa (pv 3) af))))
 (ah (au (i := 2) dO.nd rfl (Or.inl rfl) (ak cP (hr.mono (by decide)) rfl (aa (bK [3, 4] rfl (by kernel_rfl) (aK (pv 2)) (fun _ _ _ _ _ => bu) (fun _ _ _ _ _ => (ak mW (hr.mono (by decide)) rfl (aa (pv 0) (aa (pv 1) (aa (pv 2) af)))))) af))))))))
 (ah (aC (pv 1)))))), ?_⟩
 refine ⟨(by show 0 ≤ sizeLine; decide), fun F0 ZD => ?_⟩
 have sF := aj ZD (.lst [])
 refine ⟨_, rfl, l, us, rows, rfl, sF _ _ hl, L2.Paired.bY pr fun _ _ z => z.same sF, by omega, fun r hr => by rw [hlen r hr]; exact hw, fun ll0 ls0 H2 s2 nl0 Hh _ pl0 => ?_⟩
 have Qc : (La.wo rows).length ≤ rows.length := List.length_filter_le _ _
 have hwm : ∀ r ∈ La.wo rows, r ∈ rows := fun r h => (List.mem_filter.mp h).1
 refine Bm (fun σ H' => ∃ (lf ll : Addr) (fs ls : List V) (found left : List (List Int)) (B' n : Nat) (o3 o4 : Option V), σ = [some (.ref l), some (.ref lf), some (.ref ll), o3, o4] ∧ ag H H' ∧ H lf = none ∧ H' lf = some (.lst fs) ∧ Paired (kN H H') found fs ∧ H' ll = some (.lst ls) ∧ Paired (rT H') left ls ∧ La.Red w0 found left ∧ (∀ r ∈ found ++ left, La.Bd B' r) ∧
   (B' + 1) * 2 ^ left.length ≤ 3000 ∧ found.length + left.length ≤ 500 ∧ left.length ≤ n ∧ La.red n found left = La.reduced rows)
  (fun (σ : St) (H' : Hp) => match σ[2]? with | some (some (V.ref a)) => (match H' a with | some (HO.lst xs) => xs.length | _ => 0) | _ => 0)
  ⟨F0, ll0, [], ls0, [], La.wo rows, B, (La.wo rows).length, none, none, rfl, ag.trans sF s2, ZD, s2 _ _ ae, .nil, Hh, pl0, La.jd hlen, fun r h => Sr r (hwm r h), Nat.le_trans (Nat.mul_le_mul_left _ (Nat.pow_le_pow_right (by decide) Qc)) hB, by show 0 + _ ≤ _; omega, Nat.le_refl _, rfl⟩ ?_ ?_
 ·rintro σ H' ⟨lf, ll, fs, ls, found, left, B', n, o3, o4, rfl, sm, nlf, NL, pf, Mt, pl, R, hb, ZE, h5, hn, er⟩
  have zl := Paired.length pl
  have zf := Paired.length pf
  refine ⟨_, rfl, ll, _, rfl, .inl (ax.of Mt), _, _, rfl, rfl, _, rfl, cI (fun k => ?_) (fun k => ?_)⟩
  ·have k : (0 : Int) < (ls.length : Int) := of_decide_eq_true k
   have h0 : left ≠ [] := fun z => by rw [z] at zl; simp at zl; omega
   have S0 : 0 < left.length := List.length_pos_iff.mpr h0
   have Th : 1 ≤ 2 ^ left.length := Nat.one_le_two_pow
   have hB1 : B' + 1 ≤ 3000 := Nat.le_trans (Nat.le_mul_of_pos_right _ Th) ZE
   obtain ⟨l1, l2, l3, l4, l5⟩ := R.lead h0
   obtain ⟨R', fz⟩ := R.step h0
   have P0 := (La.lz h0).1
   obtain ⟨ml, mf⟩ := R.len _ P0
   have ph : La.Bd B' (La.aU left) := La.B9 (hb _ (List.mem_append_right _ P0))
   refine ⟨_, rfl, ll, ls, fun i => ((La.fp (left.getD i []) : Nat) : Int), fun H3 => ag H' H3, rfl, ag.refl _, by omega, fun H3 s3 => ax.of (s3 _ _ Mt), fun H3 i x s3 hx => ?_, fun H3 i x s3 hx Qm => ?_⟩
   ·obtain ⟨hi, ex⟩ := aA hx
    have vR : i < left.length := by omega
    have hR := paired_at pl i vR hi
    rw [ex] at hR
    obtain ⟨a, rfl, ha⟩ := hR
    have hr := R.len _ (List.getElem_mem vR)
    refine ⟨a, left[i], rfl, s3 _ _ ha, by omega, fun H4 s4 => ⟨?_, ag.trans s3 s4⟩⟩
    unfold Ed
    rw [if_pos (by omega)]
    show V.int ((La.fp left[i] : Nat) : Int) = V.int ((La.fp (left.getD i []) : Nat) : Int)
    rw [Gd9, Ge9 vR]
    rfl
   ·obtain ⟨i0, ZF, hf0⟩ := Eg h0
    obtain ⟨hi, ex⟩ := aA hx
    have vR : i < left.length := by omega
    have ei : i = i0 := BW vR (List.getElem?_eq_some_iff.mp ZF).1 (by rw [← zl] at Qm; exact Qm) hf0
    subst ei
    have hR := paired_at pl i vR hi
    rw [ex, (List.getElem?_eq_some_iff.mp ZF).2] at hR
    obtain ⟨a, rfl, ha⟩ := hR
    refine ⟨a, La.vS left, B', rfl, s3 _ _ ha, hb _ (List.mem_append_right _ P0), by omega, by omega, by omega, fun pd H4 s4 n4 h4 => ?_⟩
    have s34 := ag.trans s3 s4
    refine ⟨_, rfl, pd, _, rfl, h4, Nat.le_trans (Nat.le_of_eq l1) hw, fun H5 s5 => ?_⟩
    have PZ : Ed (La.aU left) = V.int ((La.bo left : Nat) : Int) := by unfold Ed; rw [if_pos (by rw [l1]; exact l2)]
    rw [PZ]
    have Ga := ag.trans s34 s5
    have ZG := s5 _ _ h4
    have Vc : H pd = none := sm.free (s3.free n4)
    refine ⟨_, rfl, lf, rfl, ⟨_, ax.of (Ga _ _ NL)⟩, fun D hD => ?_⟩
    refine bI (K := K) (xs := fs) (found.map (La.m4 (La.aU left) (La.bo left))) (fun H0 H b y => kN H0 H b y) (fun _ _ _ _ _ k h => h.keep k) (fun _ _ _ _ _ d h => h.bj d) (f6 (by omega)) hD (ax.of (Ga _ _ NL)) (by rw [Lm9]; exact zf) (fun i y b H6 R6 hy X4 s6 hQ => ?_) (fun H6 NU s6 X5 Ti => ?_)
    ·obtain ⟨hi, ey⟩ := aA hy
     obtain ⟨dq, eb⟩ := aA X4
     rw [Lm9] at dq
     rw [List.getElem_map] at eb
     have hI := paired_at pf i dq hi
     rw [ey] at hI
     obtain ⟨a2, rfl, _, Px⟩ := hI
     have Hl := R.JJ.len _ (List.getElem_mem dq)
     have Gd := hb _ (List.mem_append_left _ (List.getElem_mem dq))
     exact ⟨_, rfl, _, rfl, _, rfl, a2, pd, found[i], La.aU left, La.bo left, B', rfl, s6 _ _ (Ga _ _ Px), s6 _ _ ZG, by omega, by omega, by omega, Gd, ph, by omega, fun p7 H7 s7 n7 h7 => hQ _ _ s7 ⟨p7, rfl, n7, by rw [← eb]; exact h7⟩⟩
    have ZH := ag.trans Ga s6
    refine ⟨_, rfl, (by show 1 ≤ sizeLine; decide), fun p1 KQ => ?_⟩
    have Ig := aj KQ (.lst [V.ref pd])
    have z6 := Paired.length Ti
    rw [Lm9] at z6
    refine ⟨D, p1, NU, _, rfl, rfl, Ig _ _ X5, ae, sz (by show _ + 1 ≤ _; omega), fun Qx Tj => ?_⟩
    have X6 := aj Tj (.lst (NU ++ [V.ref pd]))
    have Tn := ag.trans ZH (ag.trans Ig X6)
    have P1 := X6 _ _ (Ig _ _ (s6 _ _ ZG))
    have X7 : H Qx = none := sm.free (ZH.free (Ig.free Tj))
    have ZI : Paired (kN H (upd (upd H6 p1 (.lst [V.ref pd])) Qx (.lst (NU ++ [V.ref pd])))) (La.d5 found left) (NU ++ [V.ref pd]) := by
     refine Paired.snoc (L2.Paired.bY Ti fun _ _ z => (z.bj (fun b h => sm.free (Ga.free h))).keep (Kp.same (ag.trans Ig X6))) ⟨pd, rfl, Vc, P1⟩
    have To : (upd (upd H6 p1 (.lst [V.ref pd])) Qx (.lst (NU ++ [V.ref pd]))) Qx = some (.lst (NU ++ [V.ref pd])) := ae
    generalize upd (upd H6 p1 (.lst [V.ref pd])) Qx (.lst (NU ++ [V.ref pd])) = H7 at Tn P1 ZI To
    refine ⟨_, rfl, ll, rfl, ⟨_, ax.of (Tn _ _ Mt)⟩, fun D2 k0 => ?_⟩
    refine bI (K := K) (xs := ls) (left.map (La.m4 (La.aU left) (La.bo left))) (fun H0 H b y => kN H0 H b y) (fun _ _ _ _ _ k h => h.keep k) (fun _ _ _ _ _ d h => h.bj d) (f6 (by omega)) k0 (ax.of (Tn _ _ Mt)) (by rw [Lm9]; exact zl) (fun i y b H8 R8 hy hb8 s8 hQ => ?_) (fun H8 ls2 s8 hL8 ZJ => ?_)
    ·obtain ⟨hi, ey⟩ := aA hy
     obtain ⟨dq, eb⟩ := aA hb8
     rw [Lm9] at dq
     rw [List.getElem_map] at eb
     have hI := paired_at pl i dq hi
     rw [ey] at hI
     obtain ⟨a2, rfl, Px⟩ := hI
     have Hl := (R.len _ (List.getElem_mem dq)).1
     have Gd := hb _ (List.mem_append_right _ (List.getElem_mem dq))
     exact ⟨_, rfl, _, rfl, _, rfl, a2, pd, left[i], La.aU left, La.bo left, B', rfl, s8 _ _ (Tn _ _ Px), s8 _ _ P1, Hl.trans l1.symm, by rw [Hl]; exact l2, by omega, Gd, ph, by omega, fun p9 H9 s9 n9 h9 => hQ _ _ s9 ⟨p9, rfl, n9, by rw [← eb]; exact h9⟩⟩
    have z8 := Paired.length ZJ
    rw [Lm9] at z8
    refine ⟨D2, ls2, left.map (La.m4 (La.aU left) (La.bo left)), rfl, hL8, L2.Paired.bY ZJ fun _ _ z => z.row, by rw [Lm9]; omega, fun r hr => ?_, fun ZK X8 H9 s9 n9 h9 _ ZL => ?_⟩
    ·obtain ⟨x, hx, rfl⟩ := List.mem_map.mp hr
     rw [La.sO l1 (R.len x hx).1]
     exact hw
    have X9 := ag.trans s8 s9
    have hsF : (La.d5 found left).length = found.length + 1 := by unfold La.d5; simp
    obtain ⟨n', rfl⟩ : ∃ n', n = n' + 1 := ⟨n - 1, by omega⟩
    rw [Pu h0] at er
    refine ⟨⟨Qx, ZK, NU ++ [V.ref pd], X8, La.d5 found left, La.jb left, 2 * B' + 1, n', _, _, rfl, ag.trans sm (ag.trans Tn X9), X7, X9 _ _ To, L2.Paired.bY ZI fun _ _ z => z.keep (Kp.same X9), h9, ZL, R', La.FX R h0 hb, ?_, by omega, by omega, er⟩, ?_⟩
    ·have h1 : 2 ^ ((La.jb left).length + 1) ≤ 2 ^ left.length := Nat.pow_le_pow_right (by decide) fz
     rw [show 2 * B' + 1 + 1 = (B' + 1) * 2 by omega, Nat.mul_assoc, ← Nat.pow_succ']
     exact Nat.le_trans (Nat.mul_le_mul_left _ h1) ZE
    ·have z9 := Paired.length ZL
     show (match H9 ZK with | some (HO.lst xs) => xs.length | _ => 0) < (match H' ll with | some (HO.lst xs) => xs.length | _ => 0)
     rw [h9, Mt]
     show X8.length < ls.length
     have : X8.length = (La.jb left).length := z9.symm
     omega
  ·have k : ¬ (0 : Int) < (ls.length : Int) := fun z => k (decide_eq_true z)
   have h0 : left = [] := List.eq_nil_of_length_eq_zero (by omega)
   subst h0
   rw [MN] at er
   rw [← er] at q
   exact ⟨_, rfl, q _ _ sm ⟨lf, fs, rfl, nlf, NL, pf⟩⟩
 ·rintro σ H2 Q1 Q2 hm ⟨x, e1, a1, ys, e2, h2, i, j, e3, e4, b, e5, h3⟩
  exact ⟨x, e1, a1, ys, e2, h2, i, j, e3, e4, b, e5, hm _ _ h3⟩
end
end gg
namespace gg
open PySem L2 f9 Bk
set_option maxHeartbeats 4000000
section
variable {P : Program} {w : World} {K : PySem.W.Frag} {mg : Str → Option Value} {base : Heap} {f : Addr} {fd : FuncData} {c : Cl}
theorem bX : av ["rows", "free", "width", "times", "row", "found", "place"] ["rows", "free", "width"] (ao iz) := ⟨rfl, rfl, rfl, by decide +kernel, rfl, by decide +kernel, by decide +kernel⟩
theorem uT (F : bz K "staying_row" "staying_row" iz f fd) (aO : bf P w K mg base "first_place" 1 ["row"] Ee) : aW P w K mg base cS 2 f fd ["rows", "free", "width"] Ef := by
 refine F.ok bX (fun vs H Q E h => ?_) (fun cw A outer s H vs Q E hr h => ?_)
 ·obtain ⟨l, us, R, fr, w0, B, rfl, _⟩ := h
  rfl
 obtain ⟨l, us, R, fr, w0, B, rfl, hl, pr, E0, hb, hf, hw, hB, hR, q⟩ := h
 refine ⟨_, (ab (au (i := 3) bX.nd rfl (Or.inl rfl) ai)
 (ab (bF PassesOwn.never rfl (aK (pv 0)) (aL (i := 4) bX.nd rfl (Or.inl rfl))
 (ah (au (i := 3) bX.nd rfl (Or.inl rfl) (aB ig (pv 3) (ay az (pv 4) (ak aO (hr.mono (by decide)) rfl (aa (pv 4) af)) (fun _ _ => rfl))))))
 (ab (au (i := 5) bX.nd rfl (Or.inl rfl) (aB yp (bc (aa ai af)) (pv 2)))
 (ab (yf (pv 3) (Dh (pv 5) (pv 1) set_list))
 (ab (bF PassesOwn.never rfl (aK (pv 0)) (aL (i := 4) bX.nd rfl (Or.inl rfl))
 (ab (au (i := 6) bX.nd rfl (Or.inl rfl) (ak aO (hr.mono (by decide)) rfl (aa (pv 4) af)))
 (ah (yf (aB fR ai (aB ig (ay az (pv 4) (pv 1) (fun _ _ => rfl)) (aB BV (pv 3) (ay az (pv 4) (pv 6) (fun _ _ => rfl))))) (Dh (pv 5) (pv 6) set_list)))))
 (ah (aC (pv 5)))))))), ?_⟩
 have zu := Paired.length pr
 have Ih : ∀ (r : List Int) (p : Nat), p < r.length → pV (r.map V.int) (p : Int) = some (V.int (r.getD p 0)) := fun r p h => bP (by rw [List.getElem?_map, Ge9 h, Gd9, Ge9 h]; rfl)
 have tb : ∀ i, ((R.take i).foldl (fun t r => t * r.getD (La.fp r) 0) (1 : Int)).natAbs ≤ 2 ^ (R.length * B) := fun i => by
  have := La.uh (R.take i) 1 0 (fun r h => hb r (List.mem_of_mem_take h)) (by decide)
  rw [Nat.zero_add] at this
  refine Nat.le_trans this (Nat.pow_le_pow_right (by decide) (Nat.mul_le_mul_right _ ?_))
  rw [List.length_take]
  omega
 refine ⟨_, rfl, l, rfl, ⟨_, ax.of hl⟩, bt (K := K) (a := l) (xs := us) (fun i σ H' => ∃ o4, σ = [some (.ref l), some (.int (fr : Int)), some (.int (w0 : Int)), some (.int ((R.take i).foldl (fun t r => t * r.getD (La.fp r) 0) 1)), o4, none, none] ∧ ag H H')
  ⟨none, rfl, ag.refl _⟩ (fun i σ H' _ ⟨_, _, sm⟩ => ax.of (sm _ _ hl)) ?_ ?_⟩
 ·rintro i y σ H' hi ⟨o4, rfl, sm⟩
  obtain ⟨kO, ey⟩ := aA hi
  have Gb : i < R.length := by omega
  have hI := (paired_at pr i Gb kO).same sm
  rw [ey] at hI
  have hm := List.getElem_mem Gb
  have Hl := E0.len _ hm
  have Tp := E0.pos _ hm
  have Gd := hb _ hm
  have ts : (R.take (i + 1)).foldl (fun t r => t * r.getD (La.fp r) 0) (1 : Int) = (R.take i).foldl (fun t r => t * r.getD (La.fp r) 0) 1 * R[i].getD (La.fp R[i]) 0 := by
   rw [List.take_succ, Ge9 Gb]
   show (R.take i ++ [R[i]]).foldl _ _ = _
   rw [List.foldl_append]
   rfl
  have ZM := tb i
  generalize (R.take i).foldl (fun t r => t * r.getD (La.fp r) 0) (1 : Int) = tm at ts ZM
  generalize R[i] = r at hI Hl Tp Gd ts
  obtain ⟨a, rfl, ha⟩ := hI
  refine ⟨_, rfl, _, rfl, _, rfl, a, r, rfl, ha, by omega, fun H2 s2 => ?_⟩
  have PZ : Ed r = V.int ((La.fp r : Nat) : Int) := by unfold Ed; rw [if_pos (by omega)]
  rw [PZ]
  refine ⟨a, _, _, _, rfl, rfl, ax.of (s2 _ _ ha), Ih r _ (by omega), _, _, rfl, rfl, ⟨lg ZM (by omega) (by decide), lg (Gd.at _) (by omega) (by decide)⟩, some (.ref a), ?_, ag.trans sm s2⟩
  rw [ts]
  rfl
 rintro σ H1 ⟨o4, rfl, s1⟩
 rw [← zu, List.take_length]
 refine ⟨(by show 1 ≤ sizeLine; decide), fun p hp => ?_⟩
 have sp := aj hp (.lst [V.int 0])
 refine ⟨_, rfl, p, _, _, rfl, rfl, ae, by omega, by omega, sz (by show 1 * _ ≤ _; omega), fun D hD => ?_⟩
 have sD := aj hD (.lst (List.replicate ((w0 : Int)).toNat [V.int 0]).flatten)
 have vF : H D = none := s1.free (sp.free hD)
 have sB := ag.trans s1 (ag.trans sp sD)
 have hU : (upd (upd H1 p (.lst [V.int 0])) D (.lst (List.replicate ((w0 : Int)).toNat [V.int 0]).flatten)) D = some (.lst ((List.replicate w0 (0 : Int)).map V.int)) := by
  rw [ae, pB]
  rfl
 generalize upd (upd H1 p (.lst [V.int 0])) D (.lst (List.replicate ((w0 : Int)).toNat [V.int 0]).flatten) = H2 at sB hU
 have ix : ∀ (ys : List Int) (j : Nat), ys.length = w0 → j < w0 → GF (ys.map V.int).length (j : Int) = some j := fun ys j h1 h2 => by
  rw [Lm9, h1]
  unfold GF
  rw [if_pos (by omega), if_pos (by omega), Int.toNat_natCast]
 refine ⟨_, rfl, _, rfl, _, rfl, D, _, _, fr, rfl, rfl, hU, ix _ fr List.length_replicate hf, ?_⟩
 have sC : ag H (upd H2 D (.lst (((List.replicate w0 (0 : Int)).map V.int).set fr (V.int (La.a7 R))))) := ag.aS sB vF _
 refine ⟨_, rfl, l, rfl, ⟨_, ax.of (sC _ _ hl)⟩, bt (K := K) (a := l) (xs := us) (fun i σ H' => ∃ o4 o6, σ = [some (.ref l), some (.int (fr : Int)), some (.int (w0 : Int)), some (.int (La.a7 R)), o4, some (.ref D), o6] ∧ ag H H' ∧ H' D = some (.lst (((R.take i).foldl (fun y r => y.set (La.fp r) (0 - r.getD fr 0 * (La.a7 R / r.getD (La.fp r) 0))) ((List.replicate w0 0).set fr (La.a7 R))).map V.int)) ∧ ((R.take i).foldl (fun y r => y.set (La.fp r) (0 - r.getD fr 0 * (La.a7 R / r.getD (La.fp r) 0))) ((List.replicate w0 0).set fr (La.a7 R))).length = w0)
  ⟨o4, none, rfl, sC, ae.trans (congrArg (fun l => some (HO.lst l)) List.map_set.symm), by rw [List.take_zero]; show (((List.replicate w0 (0 : Int)).set fr (La.a7 R))).length = w0; rw [List.length_set, List.length_replicate]⟩ (fun i σ H' _ ⟨_, _, _, sm, _⟩ => ax.of (sm _ _ hl)) ?_ ?_⟩
 ·rintro i y σ H' hi ⟨o4, o6, rfl, sm, Tq, NV⟩
  obtain ⟨kO, ey⟩ := aA hi
  have Gb : i < R.length := by omega
  have hI := (paired_at pr i Gb kO).same sm
  rw [ey] at hI
  have hm := List.getElem_mem Gb
  have Hl := E0.len _ hm
  have Tp := E0.pos _ hm
  have Gd := hb _ hm
  have ts : (R.take (i + 1)).foldl (fun y r => y.set (La.fp r) (0 - r.getD fr 0 * (La.a7 R / r.getD (La.fp r) 0))) ((List.replicate w0 0).set fr (La.a7 R)) = ((R.take i).foldl (fun y r => y.set (La.fp r) (0 - r.getD fr 0 * (La.a7 R / r.getD (La.fp r) 0))) ((List.replicate w0 0).set fr (La.a7 R))).set (La.fp R[i]) (0 - R[i].getD fr 0 * (La.a7 R / R[i].getD (La.fp R[i]) 0)) := by
   rw [List.take_succ, Ge9 Gb]
   show (R.take i ++ [R[i]]).foldl _ _ = _
   rw [List.foldl_append]
   rfl
  rw [ts]
  generalize (R.take i).foldl (fun y r => y.set (La.fp r) (0 - r.getD fr 0 * (La.a7 R / r.getD (La.fp r) 0))) ((List.replicate w0 0).set fr (La.a7 R)) = ys at Tq NV
  have tbR : (La.a7 R).natAbs ≤ 2 ^ (R.length * B) := by
   have := tb R.length
   rw [List.take_length] at this
   exact this
  generalize R[i] = r at hI Hl Tp Gd
  obtain ⟨a, rfl, ha⟩ := hI
  refine ⟨_, rfl, a, r, rfl, ha, by omega, fun H3 s3 => ?_⟩
  have PZ : Ed r = V.int ((La.fp r : Nat) : Int) := by unfold Ed; rw [if_pos (by omega)]
  rw [PZ]
  have hq : (La.a7 R / r.getD (La.fp r) 0).natAbs ≤ 2 ^ (R.length * B) := Nat.le_trans (Int.natAbs_ediv_le_natAbs _ _) tbR
  refine ⟨_, rfl, _, rfl, a, _, _, _, rfl, rfl, ax.of (s3 _ _ ha), Ih r fr (by omega), _, rfl, _, rfl, _, rfl, a, _, _, _, rfl, rfl, ax.of (s3 _ _ ha), Ih r _ (by omega), _, _, rfl, rfl, ⟨Tp.2, .inr (lg (Gd.at _) (by omega) (by decide))⟩, _, _, rfl, rfl, ⟨lg (Gd.at _) (by omega) (by decide), lg hq (by omega) (by decide)⟩, _, _, rfl, rfl, ?_⟩
  refine ⟨_, rfl, _, rfl, D, _, _, La.fp r, rfl, rfl, s3 _ _ Tq, ix ys _ NV (by omega), _, _, rfl, ag.aS (ag.trans sm s3) vF _, ae.trans (congrArg (fun l => some (HO.lst l)) List.map_set.symm), ?_⟩
  rw [List.length_set]
  exact NV
 ·rintro σ H' ⟨o4, o6, rfl, sm, Tq, NV⟩
  rw [← zu, List.take_length] at Tq
  exact ⟨_, rfl, q D _ sm vF Tq⟩
end
end gg
namespace gg
open PySem L2 f9 Bk
set_option maxHeartbeats 4000000
section
variable {P : Program} {w : World} {K : PySem.W.Frag} {mg : Str → Option Value} {base : Heap} {f : Addr} {fd : FuncData} {c : Cl}
theorem fF : av ["book", "width", "rows", "firsts", "free"] ["book"] (ao nQ) := ⟨rfl, rfl, rfl, by decide +kernel, rfl, by decide +kernel, by decide +kernel⟩
theorem Cq (F : bz K "standing" "standing" nQ f fd) (b6 : bf P w K mg base "passing_kinds" 1 ["book"] (yU K c)) (qJ : bf P w K mg base "effects" 4 ["book"] (D7 K c)) (mX : bf P w K mg base "reduced" 6 ["rows"] Kt) (aO : bf P w K mg base "first_place" 1 ["row"] Ee) (iK : bf P w K mg base "staying_row" 2 ["rows", "free", "width"] Ef) (aV : mg "len" = none) (cO : mg "range" = none) : aW P w K mg base cS 7 f fd ["book"] (y6 K c) := by
 refine F.ok fF (fun vs H Q E h => ?_) (fun cw A outer s H vs Q E hr h => ?_)
 ·obtain ⟨v, H0, ks, rs, rfl, _⟩ := h
  rfl
 obtain ⟨v, H0, ks, rs, rfl, B, hk, Zy, hf, hw, q⟩ := h
 refine ⟨_, (ab (au (i := 1) fF.nd rfl (Or.inr rfl) (aJ ar rfl aV PySem.boot_len (aa (ak b6 (hr.mono (by decide)) rfl (aa (pv 0) af)) af)))
 (ab (au (i := 2) fF.nd rfl (Or.inr rfl) (ak mX (hr.mono (by decide)) rfl (aa (ak qJ (hr.mono (by decide)) rfl (aa (pv 0) af)) af)))
 (ab (au (i := 3) fF.nd rfl (Or.inr rfl) (bK [] rfl (by kernel_rfl) (aK (pv 2)) (fun _ _ _ _ _ => bu) (fun _ _ _ _ _ => (ak aO (hr.mono (by decide)) rfl (aa (pv 0) af)))))
 (ab (f7 (i := 4) [3] fF.nd rfl (Or.inl rfl) rfl (by kernel_rfl) (dP rfl cO (aa (pv 1) af)) (fun _ _ _ _ _ => (jw (aw (r := VW K true) da (pv 0) (pv 1) (by with_unfolding_all rfl)))) (fun _ _ _ _ _ => (pv 0)))
 (ah (aC (ak mX (hr.mono (by decide)) rfl (aa (bK [2, 1] rfl (by kernel_rfl) (aK (pv 4)) (fun _ _ _ _ _ => bu) (fun _ _ _ _ _ => (ak iK (hr.mono (by decide)) rfl (aa (pv 1) (aa (pv 0) (aa (pv 2) af)))))) af)))))))), ?_⟩
 have Tr : ∀ e ∈ uq ks rs, e.length = (Bk.passing ks).length := fun e he => by
  obtain ⟨r, _, rfl⟩ := List.mem_map.mp he
  rw [Lm9]
 have Qy : ∀ e ∈ uq ks rs, La.Bd 2 e := fun e he x hx => by
  obtain ⟨r, hr, rfl⟩ := List.mem_map.mp he
  obtain ⟨z, _, rfl⟩ := List.mem_map.mp hx
  have h := hf r hr
  unfold JW
  have a1 := List.length_filter_le (fun f : Fc => decide (f.k = z)) r.put
  have a2 := List.length_filter_le (fun f : Fc => decide (f.k = z)) r.take
  omega
 have Vg : (uq ks rs).length ≤ 8 := by unfold uq; rw [Lm9]; exact Zy
 refine ⟨_, rfl, v, H0, ks, rs, rfl, B, hk, fun u1 H1 s1 T1 => ?_⟩
 obtain ⟨lp, rfl, nlp, S0⟩ := T1
 refine ⟨lp, _, rfl, .inl (ax.of S0), ?_⟩
 rw [Lm9]
 refine ⟨_, rfl, v, H0, ks, rs, rfl, B.keep (Kp.same s1), hk, by omega, fun r hr => ⟨by have := (hf r hr).1; omega, by have := (hf r hr).2; omega⟩, fun u2 H2 s2 T2 => ?_⟩
 obtain ⟨le, es, rfl, nle, hle, pe⟩ := T2
 generalize hE : uq ks rs = EE at Tr Qy Vg pe q
 generalize hW : (Bk.passing ks).length = w0 at Tr hw q
 have Th : 2 ^ EE.length ≤ 256 := Nat.le_trans (Nat.pow_le_pow_right (by decide) Vg) (by decide)
 obtain ⟨R1, _, hRl⟩ := La.jD Tr
 obtain ⟨Qo, rN, Qp⟩ := rG hw Tr Qy
 obtain ⟨z1, z2⟩ := F7 rN
 refine ⟨le, es, EE, w0, 2, rfl, hle, L2.Paired.bY pe fun _ _ z => z.row, by omega, by omega, Tr, Qy, by omega, fun u3 H3 s3 T3 => ?_⟩
 obtain ⟨lq, qs, rfl, nlq, Ya, pq⟩ := T3
 have zq := Paired.length pq
 unfold La.dv at q
 generalize La.reduced EE = R at R1 hRl Qo rN z1 z2 pq zq q
 have Zp : (La.cN R w0).length ≤ 5 := by omega
 refine ⟨_, rfl, lq, rfl, ⟨_, ax.of Ya⟩, fun D hD => ?_⟩
 refine bI (K := K) (xs := qs) (R.map fun r => ((La.fp r : Nat) : Int)) (fun _ _ b y => y = V.int b) (fun _ _ _ _ _ _ h => h) (fun _ _ _ _ _ _ h => h) (f6 (by omega)) hD (ax.of Ya) (by rw [Lm9]; exact zq) (fun i x b H4 R4 hx Wx s4 hQ => ?_) (fun H4 zs s4 Ta X0 => ?_)
 ·obtain ⟨hi, ex⟩ := aA hx
  obtain ⟨dq, eb⟩ := aA Wx
  rw [Lm9] at dq
  rw [List.getElem_map] at eb
  have hI := paired_at pq i dq hi
  rw [ex] at hI
  obtain ⟨a, rfl, _, ha⟩ := hI
  have hm := List.getElem_mem dq
  have Hl := R1.len _ hm
  have Tp := R1.pos _ hm
  refine ⟨_, rfl, a, R[i], rfl, s4 _ _ ha, by omega, fun H5 s5 => hQ _ _ s5 ?_⟩
  unfold Ed
  rw [if_pos (by omega), ← eb]
 rw [paired_ints X0] at Ta
 refine ⟨_, rfl, w0, rfl, by omega, by omega, fun D2 k0 => ?_⟩
 refine eV (lo := 0) (n := ((w0 : Int)).toNat) (f6 (by omega)) (fun i ys H' => ag H4 H' ∧ H' D2 = some (.lst ys) ∧ ys = nI ((List.range i).filter fun p => !decide (p ∈ R.map La.fp))) ⟨aj k0 _, ae, rfl⟩ (fun i ys H' p => ⟨p.2.1, ?_⟩) (fun i ys H' hi p => ?_) (fun ys H5 p => ?_)
 ·rw [p.2.2, Lm9]
  have := List.length_filter_le (fun p => !decide (p ∈ R.map La.fp)) (List.range i)
  rw [List.length_range] at this
  exact this
 ·obtain ⟨s5, hU, rfl⟩ := p
  refine ⟨_, rfl, _, rfl, D, _, rfl, .inl (ax.of (s5 _ _ Ta)), rfl, by simp [eU], _, rfl, ?_⟩
  have W0 : GG (V.int (0 + (i : Int))) ((R.map fun r => ((La.fp r : Nat) : Int)).map V.int) = decide (i ∈ R.map La.fp) := by
   unfold GG
   rw [List.any_map, List.any_map, Bool.eq_iff_iff, List.any_eq_true, decide_eq_true_eq, List.mem_map]
   constructor
   ·rintro ⟨r, hr, e⟩
    have e : vE (V.int ((La.fp r : Nat) : Int)) (V.int (0 + (i : Int))) = true := e
    refine ⟨r, hr, ?_⟩
    simp [vE] at e
    omega
   ·rintro ⟨r, hr, rfl⟩
    refine ⟨r, hr, ?_⟩
    show vE (V.int ((La.fp r : Nat) : Int)) (V.int (0 + ((La.fp r : Nat) : Int))) = true
    simp [vE]
  have er : ∀ l : List Nat, nI (l ++ [i]) = nI l ++ [V.int (0 + (i : Int))] := fun l => by
   show List.map _ _ = _
   rw [List.map_append, Int.zero_add]
   rfl
  show if (!GG (V.int (0 + (i : Int))) ((R.map fun r => ((La.fp r : Nat) : Int)).map V.int)) = true then _ else _
  rw [W0, List.range_succ, List.filter_append]
  refine cI (fun k => ?_) (fun k => ?_)
  ·rw [List.filter_cons, if_pos k]
   exact ⟨_, rfl, hU, ag.aS s5 k0 _, ae, (er _).symm⟩
  ·rw [List.filter_cons, if_neg k, List.filter_nil, List.append_nil]
   exact ⟨s5, hU, rfl⟩
 obtain ⟨s5, hU, rfl⟩ := p
 have ew : ((w0 : Int)).toNat = w0 := by omega
 rw [ew] at hU
 have hU : H5 D2 = some (.lst (nI (La.cN R w0))) := hU
 refine ⟨_, rfl, D2, rfl, ⟨_, ax.of hU⟩, fun D3 Dc => ?_⟩
 have Ga := ag.trans s4 s5
 refine bI (K := K) (xs := nI (La.cN R w0)) ((La.cN R w0).map fun f => La.b7 R f w0) (fun H0 H b y => kN H0 H b y) (fun _ _ _ _ _ k h => h.keep k) (fun _ _ _ _ _ d h => h.bj d) (f6 (by rw [Lm9]; omega)) Dc (ax.of hU) (by rw [Lm9, Lm9]) (fun i x b H6 R6 hx X4 s6 hQ => ?_) (fun H6 zs s6 X5 Ti => ?_)
 ·obtain ⟨hi, ex⟩ := aA hx
  obtain ⟨dq, eb⟩ := aA X4
  rw [Lm9] at dq
  rw [List.getElem_map] at eb ex
  subst ex
  have Qm := (La.pz.mp (List.getElem_mem dq)).1
  exact ⟨_, rfl, _, rfl, _, rfl, lq, qs, R, (La.cN R w0)[i], w0, 3 * 2 ^ R.length - 1, rfl, s6 _ _ (Ga _ _ Ya), L2.Paired.bY pq fun _ _ z => z.row.same (ag.trans Ga s6), R1, Qo, Qm, by omega, by omega, by omega, fun p7 H7 s7 n7 h7 => hQ _ _ s7 ⟨p7, rfl, n7, by rw [← eb]; exact h7⟩⟩
 have z6 := Paired.length Ti
 rw [Lm9] at z6
 refine ⟨D3, zs, _, w0, R.length * (3 * 2 ^ R.length - 1) + (3 * 2 ^ R.length - 1), rfl, X5, L2.Paired.bY Ti fun _ _ z => z.row, by rw [Lm9]; omega, by omega, fun y hy => ?_, fun y hy => ?_, by rw [Lm9]; omega, fun u7 H7 s7 T7 => ?_⟩
 ·obtain ⟨f, _, rfl⟩ := List.mem_map.mp hy
  exact La.bJ
 ·obtain ⟨f, _, rfl⟩ := List.mem_map.mp hy
  exact La.FY Qo
 have sA : ag H H6 := ag.trans s1 (ag.trans s2 (ag.trans s3 (ag.trans Ga s6)))
 obtain ⟨l7, v7, e7, n7, h7, p7⟩ := T7
 exact q _ _ (ag.trans sA s7) ⟨l7, v7, e7, sA.free n7, h7, L2.Paired.bY p7 fun _ _ z => z.bj (fun b h => sA.free h)⟩
end
end gg
namespace gg
open PySem L2 f9 Bk
set_option maxHeartbeats 4000000
section
variable {P : Program} {w : World} {K : PySem.W.Frag} {mg : Str → Option Value} {base : Heap} {f : Addr} {fd : FuncData} {c : Cl}
theorem ni : av ["_law_row_here", "_law_at"] ["_law_row_here"] (ao jQ) := ⟨rfl, rfl, rfl, by decide +kernel, rfl, by decide +kernel, by decide +kernel⟩
theorem wj (F : bz K "_law_place" "_law_place" jQ f fd) (cO : mg "range" = none) (aV : mg "len" = none) : aW P w K mg base cS 1 f fd ["_law_row_here"] sR := by
 refine F.ok ni (fun vs H Q E h => ?_) (fun cw A outer s H vs Q E hr h => ?_)
 ·obtain ⟨a, r, rfl, _⟩ := h
  rfl
 obtain ⟨a, r, rfl, ha, hl, q⟩ := h
 refine ⟨_, (ab (bF PassesOwn.never rfl (dP rfl cO (aa (aJ ar rfl aV PySem.boot_len (aa (pv 0) af)) af)) (aL (i := 1) ni.nd rfl (Or.inl rfl))
 (ah (aX (aw fA (ay az (pv 0) (pv 1) (fun _ _ => rfl)) ai (aI _))
 (ah (aC (pv 1)))
 aG)))
 (ah (aC (aJ ar rfl aV PySem.boot_len (aa (pv 0) af))))), ?_⟩
 refine ⟨_, rfl, a, _, rfl, .inl (ax.of ha), _, rfl, by rw [Lm9]; omega, by rw [Lm9]; omega, ?_⟩
 have en : ((((r.map V.int).length : Nat) : Int)).toNat = r.length := by rw [Lm9]; omega
 rw [en]
 refine xh (lo := 0) (n := r.length) (fun i σ H' => H' = H ∧ (∃ o1, σ = [some (.ref a), o1]) ∧ ∀ j, j < i → r.getD j 0 = 0) ⟨rfl, ⟨none, rfl⟩, fun j hj => absurd hj (by omega)⟩ ?_ ?_
 ·rintro i σ H' hi ⟨rfl, ⟨o1, rfl⟩, hz⟩
  have eg : r.getD i 0 = r[i] := by rw [Gd9, Ge9 hi]; rfl
  have i1 : pV (r.map V.int) (0 + (i : Int)) = some (V.int r[i]) := by rw [Int.zero_add]; exact bP (by rw [List.getElem?_map, Ge9 hi]; rfl)
  refine ⟨_, rfl, _, rfl, a, _, _, _, rfl, rfl, ax.of ha, i1, rfl, _, rfl, cI (fun k => ?_) (fun k => ?_)⟩
  ·have mZ : r.getD i 0 ≠ 0 := fun z => by
    rw [eg] at z
    rw [z] at k
    cases k
   have e : La.fp r = i := La.FT hz mZ
   refine ⟨_, rfl, ?_⟩
   rw [e] at q
   rw [Int.zero_add]
   exact q
  ·have he : r.getD i 0 = 0 := by
    rw [eg]
    by_cases z : r[i] = 0
    ·exact z
    ·exact absurd (by rw [decide_eq_false fun y => z (V.int.inj y)]; rfl) k
   exact ⟨rfl, ⟨_, rfl⟩, fun j hj => by
    by_cases z : j = i
    ·rw [z]; exact he
    ·exact hz j (by omega)⟩
 ·rintro σ H' ⟨rfl, ⟨o1, rfl⟩, hz⟩
  rw [La.sN fun i => by
   by_cases z : i < r.length
   ·exact hz i z
   ·rw [Gd9, List.getElem?_eq_none (by omega)]; rfl] at q
  refine ⟨_, rfl, a, _, rfl, .inl (ax.of ha), ?_⟩
  rw [Lm9]
  exact q
theorem df : av ["_law_rows", "_law_numbers", "_law_row_here", "_law_first", "_law_by", "_law_off"] ["_law_rows", "_law_numbers"] (ao lS) := ⟨rfl, rfl, rfl, by decide +kernel, rfl, by decide +kernel, by decide +kernel⟩
theorem zY (F : bz K "_law_rest" "_law_rest" lS f fd) (dg : bf P w K mg base "_law_place" 1 ["_law_row_here"] sR) (cO : mg "range" = none) (aV : mg "len" = none) : aW P w K mg base cS 2 f fd ["_law_rows", "_law_numbers"] Eh := by
 refine F.ok df (fun vs H Q E h => ?_) (fun cw A outer s H vs Q E hr h => ?_)
 ·obtain ⟨l, b, us, S, nums, w0, rfl, _⟩ := h
  rfl
 obtain ⟨l, b, us, S, nums, w0, rfl, hl, pr, hb, hw, hS, hn, Sr, Yb, q⟩ := h
 refine ⟨_, (ab (bF PassesOwn.never rfl (aK (pv 0)) (aL (i := 2) df.nd rfl (Or.inr rfl))
 (ab (au (i := 3) df.nd rfl (Or.inl rfl) (ak dg (hr.mono (by decide)) rfl (aa (pv 2) af)))
 (ab (au (i := 4) df.nd rfl (Or.inr rfl) (ay az (pv 2) (pv 3) (fun _ _ => rfl)))
 (ab (au (i := 5) df.nd rfl (Or.inr rfl) (ay az (pv 1) (pv 3) (fun _ _ => rfl)))
 (ah (au (i := 1) df.nd rfl (Or.inr rfl) (bK [4, 1, 5, 2] rfl (by kernel_rfl) (dP rfl cO (aa (aJ ar rfl aV PySem.boot_len (aa (pv 1) af)) af)) (fun _ _ _ _ _ => bu) (fun _ _ _ _ _ => (aB fR (aB ig (pv 1) (ay (r := Bp K) az (pv 2) (pv 0) (fun _ _ => rfl))) (aB ig (pv 3) (ay (r := Bp K) az (pv 4) (pv 0) (fun _ _ => rfl))))))))))))
 (ah (aC (pv 1)))), ?_⟩
 have zu := Paired.length pr
 have Ih : ∀ (r : List Int) (p : Nat), p < r.length → pV (r.map V.int) (p : Int) = some (V.int (r.getD p 0)) := fun r p h => bP (by rw [List.getElem?_map, Ge9 h, Gd9, Ge9 h]; rfl)
 refine ⟨_, rfl, l, rfl, ⟨_, ax.of hl⟩, bt (K := K) (a := l) (xs := us) (fun i σ H' => ∃ (b' : Addr) (o2 o3 o4 o5 : Option V), σ = [some (.ref l), some (.ref b'), o2, o3, o4, o5] ∧ ag H H' ∧ H' b' = some (.lst ((La.elim (S.take i) nums).map V.int)) ∧ (La.elim (S.take i) nums).length = w0 ∧ La.Bd (4000 + i * 1001) (La.elim (S.take i) nums))
  ⟨b, none, none, none, none, rfl, ag.refl _, hb, hn, by rw [Nat.zero_mul]; exact Sr⟩ (fun i σ H' _ ⟨_, _, _, _, _, _, sm, _⟩ => ax.of (sm _ _ hl)) ?_ ?_⟩
 ·rintro i y σ H' hi ⟨b', o2, o3, o4, o5, rfl, sm, oB, Be, Hs⟩
  obtain ⟨kO, ey⟩ := aA hi
  have Qz : i < S.length := by omega
  have hI := (paired_at pr i Qz kO).same sm
  rw [ey] at hI
  obtain ⟨h1, h2, h3⟩ := hS _ (List.getElem_mem Qz)
  have ts : La.elim (S.take (i + 1)) nums = La.el S[i] (La.elim (S.take i) nums) := by
   unfold La.elim
   rw [List.take_succ, Ge9 Qz]
   show (S.take i ++ [S[i]]).foldl _ _ = _
   rw [List.foldl_append]
   rfl
  rw [ts]
  generalize La.elim (S.take i) nums = nn at oB Be Hs
  generalize S[i] = r at hI h1 h2 h3
  obtain ⟨a, rfl, ha⟩ := hI
  have hC : 4000 + i * 1001 ≤ 30000 := by omega
  refine ⟨_, rfl, a, r, rfl, ha, by omega, ?_⟩
  refine ⟨_, rfl, _, rfl, a, _, _, _, rfl, rfl, ax.of ha, Ih r _ (by omega), ?_⟩
  refine ⟨_, rfl, _, rfl, b', _, _, _, rfl, rfl, ax.of oB, Ih nn _ (by omega), ?_⟩
  refine ⟨_, rfl, b', _, rfl, .inl (ax.of oB), _, rfl, by rw [Lm9]; omega, by rw [Lm9]; omega, fun D hD => ?_⟩
  have en : ((((nn.map V.int).length : Nat) : Int)).toNat = w0 := by rw [Lm9]; omega
  rw [en]
  refine eV (lo := 0) (n := w0) (f6 (by omega)) (fun i ys H2 => ag H' H2 ∧ H2 D = some (.lst ys) ∧ ys = ((List.range i).map fun k => r.getD (La.fp r) 0 * nn.getD k 0 - nn.getD (La.fp r) 0 * r.getD k 0).map V.int) ⟨aj hD _, ae, rfl⟩ (fun i ys H2 p => ⟨p.2.1, by rw [p.2.2]; simp⟩) (fun k ys H2 hk p => ?_) (fun ys H2 p => ?_)
  ·obtain ⟨s2, Dc, rfl⟩ := p
   have e0 : (0 : Int) + (k : Int) = (k : Int) := by omega
   rw [e0]
   refine ⟨_, rfl, _, rfl, _, rfl, b', _, _, _, rfl, rfl, ax.of (s2 _ _ oB), Ih nn k (by omega), _, _, rfl, rfl, ⟨lg (h2.at _) (by decide) (by decide), lg (Hs.at _) (by omega) (by decide)⟩, _, rfl, _, rfl, _, rfl, a, _, _, _, rfl, rfl, ax.of (s2 _ _ ha), Ih r k (by omega), _, _, rfl, rfl, ⟨lg (Hs.at _) (by omega) (by decide), lg (h2.at _) (by decide) (by decide)⟩, _, _, rfl, rfl, Dc, ag.aS s2 hD _, ae, ?_⟩
   rw [List.range_succ, List.map_append, List.map_append]
   rfl
  ·obtain ⟨s2, Dc, rfl⟩ := p
   rw [Sd h1 Be] at Dc
   exact ⟨D, _, _, _, _, rfl, ag.trans sm s2, Dc, La.qi h1 Be, (Sb h2 Hs).mono (by omega)⟩
 ·rintro σ H' ⟨b', o2, o3, o4, o5, rfl, sm, oB, Be, Hs⟩
  rw [← zu, List.take_length] at oB
  exact ⟨_, rfl, q b' _ sm oB⟩
end
end gg
namespace gg
open PySem L2 f9 Bk
set_option maxHeartbeats 4000000
section
variable {P : Program} {w : World} {K : PySem.W.Frag} {mg : Str → Option Value} {base : Heap} {f : Addr} {fd : FuncData} {c : Cl}
theorem cb : av ["_law_script", "_law_rows", "_law_many", "_law_numbers", "_law_at", "_law_row_here", "_law_by", "_law_cell_here", "_law_off"] ["_law_script", "_law_rows", "_law_many"] (ao nX) := ⟨rfl, rfl, rfl, by decide +kernel, rfl, by decide +kernel, by decide +kernel⟩
theorem Cr (F : bz K "_law_row" "_law_row" nX f fd) (cW : bf P w K mg base "_law_cell" 1 ["_law_script", "_law_k"] (yI K)) (cO : mg "range" = none) (cz : mg "enumerate" = none) (F8 : mg "int" = none) : aW P w K mg base cS 2 f fd ["_law_script", "_law_rows", "_law_many"] (Ei K) := by
 refine F.ok cb (fun vs H Q E h => ?_) (fun cw A outer s H vs Q E hr h => ?_)
 ·obtain ⟨s0, l, ns, us, S, m, rfl, _⟩ := h
  rfl
 obtain ⟨s0, l, ns, us, S, m, rfl, Yc, Qd, hl, pr, hS, hm, Yb, q⟩ := h
 refine ⟨_, (ab (au (i := 3) cb.nd rfl (Or.inr rfl) (aB yp (bc (aa ai af)) (pv 2)))
 (ab (bF PassesOwn.never rfl (oX (pv 1) rfl cz PyProof.Rows.boot_enumerate) (ny rfl (bU (aL (i := 4) cb.nd rfl (Or.inl rfl)) (bU (aL (i := 5) cb.nd rfl (Or.inr rfl)) jq)))
 (ab (au (i := 6) cb.nd rfl (Or.inr rfl) (aB fR (aB dh (ak cW (hr.mono (by decide)) rfl (aa (pv 0) (aa (aB dI (pv 4) ai) af))) (aB Iz ai ai)) (aB ig ai (aB Iz ai ai))))
 (ah (au (i := 3) cb.nd rfl (Or.inr rfl) (bK [3, 6, 5] rfl (by kernel_rfl) (dP rfl cO (aa (pv 2) af)) (fun _ _ _ _ _ => bu) (fun _ _ _ _ _ => (aB dI (ay (r := Bp K) az (pv 1) (pv 0) (fun _ _ => rfl)) (aB ig (pv 2) (ay (r := Bp K) az (pv 3) (pv 0) (fun _ _ => rfl))))))))))
 (ab (aX (PW.pt (kR (aw m7 (pv 2) ai (aI _)) (jo (aw cR (aB dh (ak cW (hr.mono (by decide)) rfl (aa (pv 0) (aa ai af))) ai) ai (aI _)))))
 (ah (bF PassesOwn.never rfl (oX (dW jr (pv 0) (dF ai) (dF ai)) rfl cz PyProof.Rows.boot_enumerate) (ny rfl (bU (aL (i := 4) cb.nd rfl (Or.inl rfl)) (bU (aL (i := 7) cb.nd rfl (Or.inl rfl)) jq)))
 (ab (au (i := 8) cb.nd rfl (Or.inl rfl) (aB fR (c9 xi rfl F8 PyProof.Rows.Boot.«int» (aa (c8 cR (aB dh (pv 7) ai) (pv 4) (aI _)) af)) (c9 xi rfl F8 PyProof.Rows.Boot.«int» (aa (c8 cR (aB dh (pv 7) ai) (pv 4) (aI _)) af))))
 (ah (yf (aB dI (ay az (pv 3) (aB dh (pv 4) (pv 2)) (fun _ _ => rfl)) (pv 8)) (Dh (pv 3) (aB dh (pv 4) (pv 2)) set_list))))))
 aG)
 (ah (aC (pv 3)))))), ?_⟩
 have zu := Paired.length pr
 have Ih : ∀ (r : List Int) (p : Nat), p < r.length → pV (r.map V.int) (p : Int) = some (V.int (r.getD p 0)) := fun r p h => bP (by rw [List.getElem?_map, Ge9 h, Gd9, Ge9 h]; rfl)
 refine ⟨(by show 1 ≤ sizeLine; decide), fun p hp => ?_⟩
 have sp := aj hp (.lst [V.int 0])
 refine ⟨_, rfl, p, _, _, rfl, rfl, ae, by omega, by omega, sz (by show 1 * _ ≤ _; omega), fun D hD => ?_⟩
 have sD := aj hD (.lst (List.replicate ((m : Int)).toNat [V.int 0]).flatten)
 have vF : H D = none := sp.free hD
 have sB := ag.trans sp sD
 have hU : (upd (upd H p (.lst [V.int 0])) D (.lst (List.replicate ((m : Int)).toNat [V.int 0]).flatten)) D = some (.lst ((List.replicate m (0 : Int)).map V.int)) := by
  rw [ae, pB]
  rfl
 generalize upd (upd H p (.lst [V.int 0])) D (.lst (List.replicate ((m : Int)).toNat [V.int 0]).flatten) = H1 at sB hU
 refine ⟨_, rfl, l, rfl, ⟨_, ax.of (sB _ _ hl)⟩, lu (K := K) (a := l) (xs := us) (fun i σ H' => ∃ (b : Addr) (nums : List Int) (o4 o5 o6 : Option V), σ = [some (.ref s0), some (.ref l), some (.int (m : Int)), some (.ref b), o4, o5, o6, none, none] ∧ ag H H' ∧ H b = none ∧ H' b = some (.lst (nums.map V.int)) ∧ nums.length = m ∧ La.Bd (1100 + i) nums)
  ⟨D, List.replicate m 0, none, none, none, rfl, sB, vF, hU, List.length_replicate, fun x hx => by rw [(List.mem_replicate.mp hx).2]; exact Nat.zero_le _⟩ (fun i σ H' _ ⟨_, _, _, _, _, _, sm, _⟩ => ax.of (sm _ _ hl)) ?_ ?_⟩
 ·rintro i0 y σ H' t hi ⟨b, nums, o4, o5, o6, rfl, sm, nb, hb, Ly, Hs⟩ ht
  obtain ⟨kO, ey⟩ := aA hi
  have Qz : i0 < S.length := by omega
  have hI := (paired_at pr i0 Qz kO).same sm
  rw [ey] at hI
  obtain ⟨h1, h2⟩ := hS _ (List.getElem_mem Qz)
  generalize S[i0] = r at hI h1 h2
  obtain ⟨a, rfl, ha⟩ := hI
  have st := aj ht (.tup [  .int (i0 : Int), .ref a])
  refine ⟨t, _, rfl, cM.of ae, rfl, _, _, rfl, _, _, rfl, rfl, ?_⟩
  have s2 := ag.trans sm st
  refine ⟨_, rfl, _, rfl, _, _, rfl, rfl, s0, ns, _, rfl, s2.seq Yc, by omega, fun v0 => ⟨_, _, rfl, rfl, ⟨by decide, by decide, by decide⟩, _, _, rfl, rfl, (by show (0 : Int) < 10 ^ 30; decide), _, _, rfl, rfl, ⟨by decide, by decide, by decide⟩, _, _, rfl, rfl, ⟨by decide +kernel, by decide +kernel⟩, _, _, rfl, rfl, ?_⟩⟩
  obtain ⟨bb, ebb, ZN⟩ : ∃ bb : Int, bb = v0 % 10 ^ Int.toNat 30 - 5 * 10 ^ Int.toNat 29 ∧ bb.natAbs ≤ 2 ^ 100 := ⟨_, rfl, Ku v0⟩
  show ra 6 (V.int (v0 % 10 ^ Int.toNat 30 - 5 * 10 ^ Int.toNat 29)) _ _ _
  rw [← ebb]
  refine ⟨_, rfl, m, rfl, by omega, by omega, fun D2 k0 => ?_⟩
  have en : ((m : Int)).toNat = m := by omega
  rw [en]
  refine eV (lo := 0) (n := m) (f6 (by omega)) (fun i ys H2 => ag (upd H' t (.tup [.int (i0 : Int), .ref a])) H2 ∧ H2 D2 = some (.lst ys) ∧ ys = ((List.range i).map fun k => nums.getD k 0 + bb * r.getD k 0).map V.int) ⟨aj k0 _, ae, rfl⟩ (fun i ys H2 p => ⟨p.2.1, by rw [p.2.2]; simp⟩) (fun k ys H2 hk p => ?_) (fun ys H2 p => ?_)
  ·obtain ⟨s3, Dc, rfl⟩ := p
   have e0 : (0 : Int) + (k : Int) = (k : Int) := by omega
   rw [e0]
   refine ⟨_, rfl, _, rfl, b, _, _, _, rfl, rfl, ax.of (s3 _ _ (st _ _ hb)), Ih nums k (by omega), _, rfl, _, rfl, _, rfl, a, _, _, _, rfl, rfl, ax.of (s3 _ _ (st _ _ ha)), Ih r k (by omega), _, _, rfl, rfl, ⟨lg ZN (by decide) (by decide), lg (h2.at _) (by decide) (by decide)⟩, _, _, rfl, rfl, Dc, ag.aS s3 k0 _, ae, ?_⟩
   rw [List.range_succ, List.map_append, List.map_append]
   rfl
  ·obtain ⟨s3, Dc, rfl⟩ := p
   refine ⟨D2, _, _, _, _, rfl, ag.trans s2 s3, s2.free k0, Dc, by rw [Lm9, List.length_range], fun x hx => ?_⟩
   obtain ⟨k, _, rfl⟩ := List.mem_map.mp hx
   have hp : (bb * r.getD k 0).natAbs ≤ 2 ^ 1100 := by
    rw [Int.natAbs_mul, show (1100 : Nat) = 100 + 1000 from rfl, Nat.pow_add]
    exact Nat.mul_le_mul ZN (h2.at _)
   exact Nat.le_trans (Int.natAbs_add_le _ _) (nP (C := 1100 + i0) (D := 1100) (Hs.at k) hp (Nat.le_add_right _ _))
 rintro σ H2 ⟨b, nums, o4, o5, o6, rfl, sm, nb, hb, Ly, Hs⟩
 have Hs : La.Bd 1120 nums := Hs.mono (by omega)
 refine ⟨_, rfl, _, _, rfl, rfl, _, rfl, cI (fun k1 => ⟨_, rfl, s0, ns, 0, rfl, sm.seq Yc, by decide, fun v0 => ⟨_, _, rfl, rfl, (by show (0 : Int) < 2; decide), rfl, _, rfl, cI (fun k2 => ?_) (fun k2 => ?_)⟩⟩) (fun k1 => bO ?_)⟩
 ·have B1 : (0 : Int) < (m : Int) := of_decide_eq_true k1
  refine ⟨_, rfl, _, rfl, _, rfl, s0, _, rfl, sm.seq Yc, fun p1 KQ => ?_⟩
  obtain ⟨ms, XR, XQ⟩ := BN ns (some 1) (some 63)
  rw [XR]
  have Ig := aj KQ (.lst (ms.map V.int))
  have p1b : p1 ≠ b := fun z => by rw [z, hb] at KQ; cases KQ
  refine ⟨p1, rfl, ⟨_, ax.of ae⟩, lu (K := K) (a := p1) (xs := ms.map V.int) (fun i σ H' => ∃ (o4 o5 o6 o7 o8 : Option V), σ = [some (.ref s0), some (.ref l), some (.int (m : Int)), some (.ref b), o4, o5, o6, o7, o8] ∧ ag H H' ∧ H' p1 = some (.lst (ms.map V.int)) ∧ ∃ ys : List Int, H' b = some (.lst (ys.map V.int)) ∧ ys.length = m ∧ La.Bd (1120 + i) ys)
   ⟨_, _, _, _, _, rfl, ag.trans sm Ig, ae, nums, Ig _ _ hb, Ly, Hs⟩ (fun i σ H' _ ⟨_, _, _, _, _, _, _, h, _⟩ => ax.of h) ?_ ?_⟩
  ·rintro i y σ H' t hi ⟨o4, o5, o6, o7, o8, rfl, Yd, ZO, ys, oB, NV, Tt⟩ ht
   obtain ⟨kO, ey⟩ := aA hi
   rw [List.getElem_map] at ey
   subst ey
   have st := aj ht (.tup [.int (i : Int), .int (ms[i]'(by rw [Lm9] at kO; exact kO))])
   have md := mid (a := (i : Int)) (b := (m : Int)) B1
   obtain ⟨j, ej⟩ : ∃ j : Nat, ((i : Int) % (m : Int)) = (j : Int) := ⟨((i : Int) % (m : Int)).toNat, by omega⟩
   have hj : j < ys.length := by omega
   have S3 : pV (ys.map V.int) ((i : Int) % (m : Int)) = some (V.int (ys.getD j 0)) := by rw [ej]; exact Ih ys j hj
   have O3 : GF (ys.map V.int).length ((i : Int) % (m : Int)) = some j := by
    rw [ej, Lm9]
    unfold GF
    rw [if_pos (by omega), if_pos (by omega), Int.toNat_natCast]
   refine ⟨t, _, rfl, cM.of ae, rfl, _, _, rfl, _, _, rfl, rfl, ?_⟩
   refine ⟨_, rfl, _, _, rfl, rfl, (by show (0 : Int) < 62; decide), _, rfl, rfl, .inr ⟨_, rfl, _, rfl, _, _, rfl, rfl, (by show (0 : Int) < 31; decide), _, rfl, rfl, .inr ⟨_, rfl, _, _, rfl, rfl, ?_⟩⟩⟩
   refine ⟨_, rfl, _, rfl, _, rfl, _, _, rfl, rfl, B1, b, _, _, _, rfl, rfl, ax.of (st _ _ oB), S3, _, rfl, _, _, rfl, rfl, ?_⟩
   refine ⟨_, rfl, _, rfl, _, rfl, _, _, rfl, rfl, B1, b, _, _, j, rfl, rfl, st _ _ oB, O3, _, _, _, _, _, rfl, ag.aS (ag.trans Yd st) nb _, ?_, _, ae.trans (congrArg (fun l => some (HO.lst l)) List.map_set.symm), ?_, ?_⟩
   ·rw [aq p1b]
    exact st _ _ ZO
   ·rw [List.length_set]
    exact NV
   ·intro x hx
    rcases List.mem_or_eq_of_mem_set hx with h | h
    ·exact Nat.le_trans (Tt x h) (Nat.pow_le_pow_right (by decide) (by omega))
    ·rw [h]
     refine Nat.le_trans (Int.natAbs_add_le _ _) (nP (Tt.at j) (D := 0) ?_ (by omega))
     show Int.natAbs ((if _ then (1 : Int) else 0) - (if _ then (1 : Int) else 0)) ≤ 1
     split <;> split <;> decide
  ·rintro σ H' ⟨o4, o5, o6, o7, o8, rfl, Yd, ZO, ys, oB, NV, Tt⟩
   rw [Lm9] at Tt
   exact ⟨_, rfl, q b ys _ Yd oB NV (Tt.mono (by omega))⟩
 ·exact ⟨_, rfl, q b nums _ sm hb Ly (Hs.mono (by decide))⟩
 ·exact ⟨_, rfl, q b nums _ sm hb Ly (Hs.mono (by decide))⟩
end
end gg
namespace gg
open PySem L2 f9 Bk
set_option maxHeartbeats 4000000
section
variable {P : Program} {w : World} {K : PySem.W.Frag} {mg : Str → Option Value} {base : Heap} {f : Addr} {fd : FuncData} {c : Cl}
theorem ik : av ["_law_row_here", "_law_numbers", "_law_total", "_law_at"] ["_law_row_here", "_law_numbers"] (ao nW) := ⟨rfl, rfl, rfl, by decide +kernel, rfl, by decide +kernel, by decide +kernel⟩
theorem Ct (F : bz K "_law_sum" "_law_sum" nW f fd) (cO : mg "range" = none) (aV : mg "len" = none) : aW P w K mg base cS 1 f fd ["_law_row_here", "_law_numbers"] Ec := by
 refine F.ok ik (fun vs H Q E h => ?_) (fun cw A outer s H vs Q E hr h => ?_)
 ·obtain ⟨a, b, xs, ys, rfl, _⟩ := h
  rfl
 obtain ⟨a, b, xs, ys, rfl, ha, hb, hl, hz, hs, q⟩ := h
 refine ⟨_, (ab (au (i := 2) ik.nd rfl (Or.inl rfl) ai)
 (ab (bF PassesOwn.never rfl (dP rfl cO (aa (aJ ar rfl aV PySem.boot_len (aa (pv 0) af)) af)) (aL (i := 3) ik.nd rfl (Or.inl rfl))
 (ah (au (i := 2) ik.nd rfl (Or.inl rfl) (aB dI (pv 2) (aB Iy (ay az (pv 0) (pv 3) (fun _ _ => rfl)) (ay az (pv 1) (pv 3) (fun _ _ => rfl)))))))
 (ah (aC (pv 2))))), ?_⟩
 refine ⟨_, rfl, a, _, rfl, .inl (ax.of ha), _, rfl, by rw [Lm9]; omega, by rw [Lm9]; omega, ?_⟩
 have en : ((((xs.map V.int).length : Nat) : Int)).toNat = xs.length := by rw [Lm9]; omega
 rw [en]
 refine xh (lo := 0) (n := xs.length) (fun i σ H' => H' = H ∧ ∃ o3, σ = [some (.ref a), some (.ref b), some (.int (dot (xs.take i) (ys.take i))), o3]) ⟨rfl, none, by rw [List.take_zero]; rfl⟩ ?_ ?_
 ·rintro i σ H' hi ⟨rfl, o3, rfl⟩
  have Nu : i < ys.length := by omega
  have i1 : pV (xs.map V.int) (0 + (i : Int)) = some (V.int xs[i]) := by rw [Int.zero_add]; exact bP (by rw [List.getElem?_map, Ge9 hi]; rfl)
  have i2 : pV (ys.map V.int) (0 + (i : Int)) = some (V.int ys[i]) := by rw [Int.zero_add]; exact bP (by rw [List.getElem?_map, Ge9 Nu]; rfl)
  refine ⟨_, rfl, _, rfl, _, rfl, a, _, _, _, rfl, rfl, ax.of ha, i1, _, rfl, _, rfl, b, _, _, _, rfl, rfl, ax.of hb, i2, _, _, rfl, rfl, .inl (hs _ (List.getElem_mem hi)), _, _, rfl, rfl, rfl, some (.int (0 + (i : Int))), ?_⟩
  rw [Ko hi Nu]
  rfl
 ·rintro σ H' ⟨rfl, o3, rfl⟩
  rw [List.take_length, hl, List.take_length]
  exact ⟨_, rfl, q _ (ag.refl _)⟩
end
end gg
namespace gg
open PySem L2 f9 Bk
set_option maxHeartbeats 4000000
section
variable {P : Program} {w : World} {K : PySem.W.Frag} {mg : Str → Option Value} {base : Heap} {f : Addr} {fd : FuncData} {c : Cl}
theorem ff : av ["_law_script", "_law_names", "_law_place_here", "_law_rules", "_law_book", "_law_table", "_law_rows", "_law_row_here", "_law_numbers", "_law_stays", "_law_effect", "_law_due"] ["_law_script"] (ao pC) := ⟨rfl, rfl, rfl, by decide +kernel, rfl, by decide +kernel, by decide +kernel⟩
theorem P2 (F : bz K "law" "law" pC f fd) (jZ : bf P w K mg base "_law_sheet" 4 ["_law_script"] (yV K)) (mj : bf P w K mg base "read_book" 9 ["text"] (DO K c)) (j0 : bf P w K mg base "_law_lines" 1 ["_law_names", "_law_place_here", "_law_rules"] (ux K)) (gN : bf P w K mg base "_law_effects" 1 ["_law_names", "_law_rules"] (Km K))
  (oi : bf P w K mg base "standing" 7 ["book"] (y6 K c)) (dg : bf P w K mg base "_law_place" 1 ["_law_row_here"] sR) (oj : bf P w K mg base "_law_row" 2 ["_law_script", "_law_rows", "_law_many"] (Ei K)) (om : bf P w K mg base "_law_sum" 1 ["_law_row_here", "_law_numbers"] Ec) (mm : bf P w K mg base "_law_rest" 2 ["_law_rows", "_law_numbers"] Eh) (oe : mg "list" = none) (aV : mg "len" = none) : aW P w K mg base cS 10 f fd ["_law_script"] (FH K) := by
 refine F.ok ff (fun vs H Q E h => ?_) (fun cw A outer s H vs Q E hr h => ?_)
 ·obtain ⟨a, ns, rfl, _⟩ := h
  rfl
 obtain ⟨s0, ns, rfl, hS, Qd, q⟩ := h
 refine ⟨_, (ab (yf (ak jZ (hr.mono (by decide)) rfl (aa (pv 0) af)) (ny rfl (bU (aL (i := 1) ff.nd rfl (Or.inl rfl)) (bU (aL (i := 2) ff.nd rfl (Or.inl rfl)) (bU (aL (i := 3) ff.nd rfl (Or.inl rfl)) jq)))))
 (ab (au (i := 4) ff.nd rfl (Or.inl rfl) (ak mj (hr.mono (by decide)) rfl (aa (ak j0 (hr.mono (by decide)) rfl (aa (pv 1) (aa (pv 2) (aa (pv 3) af)))) af)))
 (ab (au (i := 5) ff.nd rfl (Or.inl rfl) (ak gN (hr.mono (by decide)) rfl (aa (pv 1) (aa (pv 3) af))))
 (ab (f7 (i := 6) [] ff.nd rfl (Or.inl rfl) rfl (by kernel_rfl) (aK (ak oi (hr.mono (by decide)) rfl (aa (pv 4) af))) (fun _ _ _ _ _ => bu) (fun _ _ _ _ _ => (c9 (BX (K := K) rfl) rfl oe PyProof.Rows.Boot.«list» (aa (pv 0) af))))
 (ab (bF PassesOwn.never rfl (aK (pv 6)) (aL (i := 7) ff.nd rfl (Or.inl rfl))
 (ah (aX (PW.pt (xc (aw fA (aJ ar rfl aV PySem.boot_len (aa (pv 7) af)) (aJ ar rfl aV PySem.boot_len (aa (pv 1) af)) (aI _)) (yd (aw cR (ak dg (hr.mono (by decide)) rfl (aa (pv 7) af)) (aJ ar rfl aV PySem.boot_len (aa (pv 7) af)) (aI _)))))
 (ah (aC xb))
 aG)))
 (ab (au (i := 8) ff.nd rfl (Or.inl rfl) (ak oj (hr.mono (by decide)) rfl (aa (pv 0) (aa (pv 6) (aa (aJ ar rfl aV PySem.boot_len (aa (pv 1) af)) af)))))
 (ab (au (i := 9) ff.nd rfl (Or.inl rfl) xb)
 (ab (bF PassesOwn.never rfl (aK (pv 5)) (aL (i := 10) ff.nd rfl (Or.inl rfl))
 (ah (aX (aw fA (ak om (hr.mono (by decide)) rfl (aa (pv 10) (aa (pv 8) af))) ai (aI _))
 (ah (au (i := 9) ff.nd rfl (Or.inl rfl) xb))
 aG)))
 (ab (au (i := 11) ff.nd rfl (Or.inl rfl) (c8 (O8 hr.units) (ak mm (hr.mono (by decide)) rfl (aa (pv 6) (aa (pv 8) af))) (aB yp (bc (aa ai af)) (aJ ar rfl aV PySem.boot_len (aa (pv 1) af))) (aI _)))
 (ah (aC (c8 cR (pv 9) (pv 11) (aI _))))))))))))), ?_⟩
 refine ⟨_, rfl, s0, ns, rfl, hS, Qd, fun t ln lr zs place rs us H1 s1 ht Be tH pr T => ?_⟩
 refine ⟨t, _, rfl, cM.of ht, rfl, _, _, rfl, _, _, rfl, _, _, rfl, rfl, ?_⟩
 refine ⟨_, rfl, _, rfl, _, rfl, ln, lr, zs, place, rs, us, rfl, Be, tH, pr, T, fun H2 s2 => ?_⟩
 have hfew := T.few
 have Tv := T.many
 have lR : (dn zs rs rs.length).length = rs.length := by unfold dn; rw [Lm9, List.length_range]
 have lK : (oC zs place).length = zs.length + 1 := by
  unfold oC
  rw [List.length_append, List.length_append, Lm9, Lm9, List.length_take, List.length_drop]
  have := T.pl
  show _ + 1 + _ = _
  omega
 have lL : (cx zs place rs).length = zs.length + 1 + rs.length := by unfold cx; rw [List.length_append, Lm9, lK, lR]
 have hJ := BP (cx zs place rs) 250 (Ce T)
 refine ⟨cx zs place rs, vT zs place rs, rfl, fun e => ?_, fun l hl => My (Kl T Mz (by decide) (by decide) (by decide) (by decide) l hl), ?_, MK T, fun bk H3 s3 B => ?_⟩
 ·rw [e] at lL
  have lL : 0 = zs.length + 1 + rs.length := lL
  omega
 ·rw [lL] at hJ
  have : (zs.length + 1 + rs.length) * (250 + 1) ≤ 14 * 251 := Nat.mul_le_mul (by omega) (by omega)
  omega
 rw [(yW zs place rs).1, (yW zs place rs).2] at B
 have Tw := ag.trans s2 s3
 refine ⟨_, rfl, _, rfl, ln, lr, zs, rs, us, rfl, Tw _ _ Be, Tw _ _ tH, L2.Paired.bY pr fun _ _ z => z.same Tw, hfew, Tv, fun r hr => ⟨(T.ok r hr).l1, (T.ok r hr).l2⟩, fun du H4 s4 TD => ?_⟩
 obtain ⟨ld, ws, rfl, nld, ZP, pd⟩ := TD
 have Ye := s4 _ _ (Tw _ _ Be)
 have B4 := B.keep (Kp.same s4)
 have zd := Paired.length pd
 rw [Lm9] at zd
 have lRs : (Kg zs rs).length = rs.length := by unfold Kg; rw [Lm9, List.length_range]
 have Gd : ∀ r ∈ Kg zs rs, r.put.length ≤ 4 ∧ r.take.length ≤ 4 := fun r hr => by
  unfold Kg at hr
  obtain ⟨i, hi, rfl⟩ := List.mem_map.mp hr
  have hP := jf (i := i) T.sm (uB T (List.mem_range.mp hi))
  show (hZ (dm i) ((aT zs i (rowAt rs i)).map je)).put.length ≤ _ ∧ (hZ (dm i) ((aT zs i (rowAt rs i)).map je)).take.length ≤ _
  rw [ij]
  have z3 := (gz (n := 3) hP).1
  have z0 := (gz (n := 0) hP).1
  show ((eT 3 _).map bare).length ≤ _ ∧ ((eT 0 _).map bare).length ≤ _
  rw [Lm9, Lm9]
  exact ⟨by omega, by omega⟩
 have eD : uq (oC zs place) (Kg zs rs) = rs.map (lC zs.length) := (MM T).symm
 have M5 : ∀ row ∈ rs.map (lC zs.length), row.length = zs.length := fun row m6 => by
  obtain ⟨r, _, rfl⟩ := List.mem_map.mp m6
  unfold lC
  split <;> simp
 have NW : ∀ row ∈ rs.map (lC zs.length), row.length = zs.length ∧ ∀ i ∈ row, sm i := fun row m6 => ⟨M5 row m6, fun i hi => by
  rw [← eD] at m6
  obtain ⟨r, hr, rfl⟩ := List.mem_map.mp m6
  obtain ⟨z, _, rfl⟩ := List.mem_map.mp hi
  have h := Gd r hr
  exact Pp (by omega) (by omega)⟩
 have Qy : ∀ e ∈ rs.map (lC zs.length), La.Bd 2 e := fun e he x hx => by
  rw [← eD] at he
  obtain ⟨r, hr, rfl⟩ := List.mem_map.mp he
  obtain ⟨z, _, rfl⟩ := List.mem_map.mp hx
  have h := Gd r hr
  unfold JW
  have a1 := List.length_filter_le (fun f : Fc => decide (f.k = z)) r.put
  have a2 := List.length_filter_le (fun f : Fc => decide (f.k = z)) r.take
  omega
 have ZQ : Bk.passing (oC zs place) = zs := F5 zs place
 refine ⟨_, rfl, bk, H2, oC zs place, Kg zs rs, rfl, B4, by omega, by omega, Gd, by rw [ZQ]; exact hfew, fun u H5 s5 TE => ?_⟩
 obtain ⟨l, vs, rfl, nl, hl, pv⟩ := TE
 rw [eD, ZQ] at pv
 obtain ⟨E1, E2, E3⟩ := La.B8 M5
 obtain ⟨_, _, Qp⟩ := rG hfew M5 Qy
 have Yb := La.Ca E1
 have Vg : (rs.map (lC zs.length)).length = rs.length := Lm9 ..
 generalize La.dv (rs.map (lC zs.length)) zs.length = S at pv E1 E2 E3 Qp Yb
 generalize rs.map (lC zs.length) = EE at pd M5 NW Qy E2 E3 Vg
 have zv := Paired.length pv
 refine ⟨l, rfl, ⟨_, ax.of hl⟩, fun D hD => ?_⟩
 refine bI (K := K) (xs := vs) S (fun H0 H b y => kN H0 H b y) (fun _ _ _ _ _ k h => h.keep k) (fun _ _ _ _ _ d h => h.bj d) (f6 (by omega)) hD (ax.of hl) zv (fun i x b H' R' hx hb sm hQ => ?_) (fun H6 Yf s6 Vh p6 => ?_)
 ·obtain ⟨hi, ex⟩ := aA hx
  obtain ⟨dq, eb⟩ := aA hb
  have hI := paired_at pv i dq hi
  rw [ex, eb] at hI
  obtain ⟨a, rfl, _, ha⟩ := hI
  exact ⟨_, rfl, a, _, rfl, .inl (ax.of (sm _ _ ha)), fun l2 rg => hQ _ _ (aj rg _) ⟨l2, rfl, rg, ae⟩⟩
 have Yg := ag.trans s5 s6
 have P4 := Yg _ _ Ye
 have z6 := Paired.length p6
 refine ⟨_, rfl, D, rfl, ⟨_, ax.of Vh⟩, bt (K := K) (a := D) (xs := Yf) (fun i σ H' => H' = H6 ∧ ∃ o7, σ = [some (.ref s0), some (.ref ln), some (.int (place : Int)), some (.ref lr), some bk, some (.ref ld), some (.ref D), o7, none, none, none, none]) ⟨rfl, none, rfl⟩ (fun i σ H' _ ⟨e, _⟩ => by rw [e]; exact ax.of Vh) ?_ ?_⟩
 ·rintro i y σ H' hi ⟨rfl, o7, rfl⟩
  obtain ⟨kO, ey⟩ := aA hi
  have dq : i < S.length := by omega
  have hI := paired_at p6 i dq kO
  rw [ey] at hI
  have hm := List.getElem_mem dq
  have h1 := E1.len _ hm
  have h2 := E1.pos _ hm
  generalize S[i] = r at hI h1 h2
  obtain ⟨a, rfl, _, ha⟩ := hI
  refine ⟨_, rfl, a, _, rfl, .inl (ax.of ha), _, rfl, ln, _, rfl, .inl (ax.of P4), rfl, _, rfl, ?_⟩
  rw [Lm9, Lm9, h1, decide_eq_true (rfl : V.int ((zs.length : Nat) : Int) = _)]
  refine bO ⟨_, rfl, a, r, rfl, ha, by omega, _, rfl, a, _, rfl, .inl (ax.of ha), rfl, _, rfl, ?_⟩
  rw [Lm9, h1, decide_eq_false (fun z : V.int ((La.fp r : Nat) : Int) = V.int ((zs.length : Nat) : Int) => by have := V.int.inj z; omega)]
  exact bO ⟨rfl, _, rfl⟩
 rintro σ H' ⟨rfl, o7, rfl⟩
 refine ⟨_, rfl, _, rfl, _, rfl, ln, _, rfl, .inl (ax.of P4), s0, D, ns, Yf, S, zs.length, (by rw [Lm9]; rfl), (ag.trans s1 (ag.trans Tw (ag.trans s4 Yg))).seq hS, Qd, Vh, L2.Paired.bY p6 fun _ _ z => z.row, fun r hr => ⟨E1.len r hr, Qp r hr⟩, by omega, by omega, fun pn nums H7 s7 ZR Ly hnb => ?_⟩
 have Yh := ag.trans Yg s7
 refine ⟨_, rfl, ld, rfl, ⟨_, ax.of (Yh _ _ ZP)⟩, bt (K := K) (a := ld) (xs := ws) (fun i σ H8 => ∃ Yi, σ = [some (.ref s0), some (.ref ln), some (.int (place : Int)), some (.ref lr), some bk, some (.ref ld), some (.ref D), o7, some (.ref pn), some (.bl (decide (∀ e ∈ EE.take i, La.dot e nums = 0))), Yi, none] ∧ ag H7 H8) ⟨none, rfl, ag.refl _⟩ (fun i σ H8 _ ⟨_, _, sm⟩ => ax.of (sm _ _ (Yh _ _ ZP))) ?_ ?_⟩
 ·rintro i y σ H8 hi ⟨Yi, rfl, s8⟩
  obtain ⟨kO, ey⟩ := aA hi
  have dq : i < EE.length := by omega
  have hI := paired_at pd i dq kO
  rw [ey] at hI
  obtain ⟨h1, h2⟩ := NW _ (List.getElem_mem dq)
  have ts : EE.take (i + 1) = EE.take i ++ [EE[i]] := by rw [List.take_succ, Ge9 dq]; rfl
  generalize EE[i] = e at hI h1 h2 ts
  obtain ⟨a, rfl, _, ha⟩ := hI
  refine ⟨_, rfl, _, rfl, a, pn, e, nums, rfl, s8 _ _ (Yh _ _ ha), s8 _ _ ZR, by omega, by omega, h2, fun H9 s9 => ⟨rfl, _, rfl, cI (fun k => ?_) (fun k => ?_)⟩⟩
  ·have mZ : ¬ La.dot e nums = 0 := fun z => by
    rw [show dot e nums = 0 from z] at k
    cases k
   refine ⟨some (.ref a), ?_, ag.trans s8 s9⟩
   have ef : decide (∀ x ∈ EE.take i ++ [e], La.dot x nums = 0) = false := decide_eq_false fun z => mZ (z e (List.mem_append_right _ (List.mem_singleton.mpr rfl)))
   rw [ts, ef]
   rfl
  ·have he : La.dot e nums = 0 := by
    by_cases z : dot e nums = 0
    ·exact z
    ·exact absurd (by rw [decide_eq_false fun y => z (V.int.inj y)]; rfl) k
   refine ⟨some (.ref a), ?_, ag.trans s8 s9⟩
   have ed : decide (∀ e ∈ EE.take i, La.dot e nums = 0) = decide (∀ x ∈ EE.take i ++ [e], La.dot x nums = 0) := decide_eq_decide.mpr ⟨fun h x hx => by
    rcases List.mem_append.mp hx with hx | hx
    ·exact h x hx
    ·rw [List.mem_singleton.mp hx]; exact he, fun h x hx => h x (List.mem_append_left _ hx)⟩
   rw [ts, ← ed]
   rfl
 rintro σ H8 ⟨Yi, rfl, s8⟩
 rw [← Paired.length pd, List.take_length]
 have Yj := ag.trans s7 s8
 refine ⟨_, rfl, _, rfl, D, pn, Yf, S, nums, zs.length, rfl, Yj _ _ Vh, L2.Paired.bY p6 fun _ _ z => z.row.same Yj, s8 _ _ ZR, by omega, fun r hr => ⟨E1.len r hr, Qp r hr, (E1.pos r hr).1⟩, Ly, hnb, by omega, fun p9 H9 s9 h9 => ?_⟩
 refine ⟨(by show 1 ≤ sizeLine; decide), fun p hp => ?_⟩
 have sp := aj hp (.lst [V.int 0])
 have s69 := ag.trans Yj s9
 refine ⟨_, rfl, ln, _, rfl, .inl (ax.of (sp _ _ (s69 _ _ P4))), p, _, _, rfl, rfl, ae, by rw [Lm9]; omega, by rw [Lm9]; omega, ?_, fun p2 Fw => ?_⟩
 ·rw [Lm9]
  exact sz (by show 1 * _ ≤ _; omega)
 have LC := aj Fw (.lst (List.replicate ((((zs.map tx).length : Nat) : Int)).toNat [V.int 0]).flatten)
 refine ⟨p9, p2, La.elim S nums, List.replicate zs.length 0, rfl, rfl, ax.of (LC _ _ (sp _ _ h9)), ax.of ?_, ?_⟩
 ·rw [ae, pB, Lm9]
  rfl
 refine ⟨_, rfl, _, rfl, rfl, ?_⟩
 have e : decide (∀ e ∈ EE, La.dot e nums = 0) = decide (La.elim S nums = List.replicate zs.length 0) := decide_eq_decide.mpr (E3 nums Ly)
 have e2 : ∀ x : Bool, decide (V.bl x = V.bl x) = true := fun x => decide_eq_true rfl
 rw [e, e2]
 exact q _
end
end gg
namespace gg
open PySem L2 f9 Bk
open PySem.W (nsIn findIn keepIn mg_of isFn mroIn)
set_option maxHeartbeats 4000000
theorem all_mk {l : PySem.W.OpenLaw} {w : World} {K : PySem.W.Frag} {h : Heap} {mg : Str → Option Value} {fa d9 cf cn eo ZS ZT ZU ZV ZW ZX ZY ZZ Z0 Z1 Tx Tz TB TC TF TH TJ TK TL TM TN TQ TR TU TV TX TY TZ T4 T5 T6 T8 T9 Ua Ub Uc Ud Ue Ug Uh Ui Uj Uk Ul Um Uo Up Uq Ur Us Ut Uu Uv Uw P5 fm iL gO iM : Addr} (X : K.In h) (G : h.Ns mainGlobals mg) (hfa : mg "law" = some (.ref fa))
  {uU Ht r9 EC K0 ED uV Hu uW Hv zZ wm Cu K1 pH Cv Cw z7 Aa Cy Cz EF Ab CA wq wt Ac Ad wu Ae CB se K2 Hw CC wx CD Af Ag uX wy Hx Hy M6 Hz pJ uY HA wz EG Ah CF EH EI wA wB uZ wC : FuncData} {P6 K3 : Option Addr} {P7 : Array (Option Value)} {P8 K4 K5 K6 EJ K7 : Value}
  {Ai Aj x6 x8 pK mn : Tok}
  {j3 j4 u4 : Addr}
  {u5 u6 u9 va vc vd ve EK EL EM EN EO : Tok}
  {nj nq x9 : Nat}
  {wD wF HB : Array (Option Value)}
  (Ak : nsIn K mainGlobals "Same" = some (some (.ref d9)))
  (qK : nsIn K mainGlobals "Unlike" = some (some (.ref cf)))
  (Al : nsIn K mainGlobals "Rule" = some (some (.ref cn)))
  (Am : nsIn K mainGlobals "Book" = some (some (.ref eo)))
  (gP : nsIn K mainGlobals "is_name_sign" = some (some (.ref ZS)))
  (qL : nsIn K mainGlobals "is_name" = some (some (.ref ZT)))
  (fX : nsIn K mainGlobals "is_small_word" = some (some (.ref ZU)))
  (oo : nsIn K mainGlobals "name_end" = some (some (.ref ZV)))
  (vf : nsIn K mainGlobals "pieces" = some (some (.ref ZW)))
  (oq : nsIn K mainGlobals "piece_at" = some (some (.ref ZX)))
  (gQ : nsIn K mainGlobals "arguments_at" = some (some (.ref ZY)))
  (qM : nsIn K mainGlobals "fact_at" = some (some (.ref ZZ)))
  (gT : nsIn K mainGlobals "row_of_facts" = some (some (.ref Z0)))
  (qN : nsIn K mainGlobals "is_told" = some (some (.ref Z1)))
  (j5 : nsIn K mainGlobals "told_lines" = some (some (.ref Tx)))
  (iN : nsIn K mainGlobals "line_pieces" = some (some (.ref Tz)))
  (mq : nsIn K mainGlobals "read_kind" = some (some (.ref TB)))
  (vh : nsIn K mainGlobals "parted" = some (some (.ref TC)))
  (eB : nsIn K mainGlobals "check_two_names" = some (some (.ref TF)))
  (mr : nsIn K mainGlobals "read_look" = some (some (.ref TH)))
  (mv : nsIn K mainGlobals "read_pair" = some (some (.ref TJ)))
  (j6 : nsIn K mainGlobals "read_looks" = some (some (.ref TK)))
  (j7 : nsIn K mainGlobals "read_pairs" = some (some (.ref TL)))
  (mw : nsIn K mainGlobals "read_part" = some (some (.ref TM)))
  (mx : nsIn K mainGlobals "read_rule" = some (some (.ref TN)))
  (ou : nsIn K mainGlobals "is_great" = some (some (.ref TQ)))
  (j8 : nsIn K mainGlobals "open_names" = some (some (.ref TR)))
  (my : nsIn K mainGlobals "hear_line" = some (some (.ref TU)))
  (iO : nsIn K mainGlobals "check_facts" = some (some (.ref TV)))
  (iP : nsIn K mainGlobals "check_taken" = some (some (.ref TX)))
  (j9 : nsIn K mainGlobals "check_call" = some (some (.ref TY)))
  (ka : nsIn K mainGlobals "said_names" = some (some (.ref TZ)))
  (iQ : nsIn K mainGlobals "check_names" = some (some (.ref T4)))
  (kb : nsIn K mainGlobals "whole_book" = some (some (.ref T5)))
  (mz : nsIn K mainGlobals "read_book" = some (some (.ref T6)))
  (fY : nsIn K mainGlobals "passing_kinds" = some (some (.ref T8)))
  (vj : nsIn K mainGlobals "effect" = some (some (.ref T9)))
  (qO : nsIn K mainGlobals "effects" = some (some (.ref Ua)))
  (mB : nsIn K mainGlobals "_law_cell" = some (some (.ref Ub)))
  (iR : nsIn K mainGlobals "_law_digits" = some (some (.ref Uc)))
  (mC : nsIn K mainGlobals "_law_name" = some (some (.ref Ud)))
  (kc : nsIn K mainGlobals "_law_sheet" = some (some (.ref Ue)))
  (ke : nsIn K mainGlobals "_law_lines" = some (some (.ref Ug)))
  (gU : nsIn K mainGlobals "_law_effects" = some (some (.ref Uh)))
  (iS : nsIn K mainGlobals "first_place" = some (some (.ref Ui)))
  (qP : nsIn K mainGlobals "divisor" = some (some (.ref Uj)))
  (qQ : nsIn K mainGlobals "slimmed" = some (some (.ref Uk)))
  (An : nsIn K mainGlobals "mixed" = some (some (.ref Ul)))
  (qR : nsIn K mainGlobals "cleared" = some (some (.ref Um)))
  (eC : nsIn K mainGlobals "without_noughts" = some (some (.ref Uo)))
  (gW : nsIn K mainGlobals "above_nought" = some (some (.ref Up)))
  (qS : nsIn K mainGlobals "reduced" = some (some (.ref Uq)))
  (iT : nsIn K mainGlobals "staying_row" = some (some (.ref Ur)))
  (ow : nsIn K mainGlobals "standing" = some (some (.ref Us)))
  (kg : nsIn K mainGlobals "_law_place" = some (some (.ref Ut)))
  (mD : nsIn K mainGlobals "_law_rest" = some (some (.ref Uu)))
  (ox : nsIn K mainGlobals "_law_row" = some (some (.ref Uv)))
  (oy : nsIn K mainGlobals "_law_sum" = some (some (.ref Uw)))
  (Ge : nsIn K mainGlobals "law" = some (some (.ref P5)))
  (kh : findIn K (.ref d9) "__init__" = some (some (.ref fm)))
  (gX : findIn K (.ref cf) "__init__" = some (some (.ref fm)))
  (ki : findIn K (.ref cn) "__init__" = some (some (.ref iL)))
  (iU : findIn K (.ref cn) "calls" = some (some (.ref gO)))
  (kj : findIn K (.ref eo) "__init__" = some (some (.ref iM)))
  (fo : isFn K (.ref fm) = true)
  (iV : isFn K (.ref iL) = true)
  (gY : isFn K (.ref gO) = true)
  (iW : isFn K (.ref iM) = true)
  (cX : bz K "is_name_sign" "is_name_sign" gB ZS uU)
  (jg : bz K "is_name" "is_name" qw ZT Ht)
  (cF : bz K "is_small_word" "is_small_word" fV ZU r9)
  (gZ : bz K "name_end" "name_end" nU ZV EC)
  (mE : bz K "pieces" "pieces" uD ZW K0)
  (g4 : bz K "piece_at" "piece_at" nV ZX ED)
  (cY : bz K "arguments_at" "arguments_at" gD ZY uV)
  (jh : bz K "fact_at" "fact_at" qx ZZ Hu)
  (cZ : bz K "row_of_facts" "row_of_facts" gC Z0 uW)
  (ji : bz K "is_told" "is_told" qy Z1 Hv)
  (eE : bz K "told_lines" "told_lines" jG Tx zZ)
  (dy : bz K "line_pieces" "line_pieces" iC Tz wm)
  (fG : bz K "read_kind" "read_kind" lE TB Cu)
  (mF : bz K "parted" "parted" uE TC K1)
  (cg : bz K "check_two_names" "check_two_names" d7 TF pH)
  (fH : bz K "read_look" "read_look" lH TH Cv)
  (fJ : bz K "read_pair" "read_pair" lI TJ Cw)
  (eF : bz K "read_looks" "read_looks" jH TK z7)
  (eG : bz K "read_pairs" "read_pairs" jI TL Aa)
  (fK : bz K "read_part" "read_part" lG TM Cy)
  (fL : bz K "read_rule" "read_rule" lF TN Cz)
  (g5 : bz K "is_great" "is_great" nT TQ EF)
  (eI : bz K "open_names" "open_names" jK TR Ab)
  (fM : bz K "hear_line" "hear_line" lO TU CA)
  (dz : bz K "check_facts" "check_facts" iA TV wq)
  (dA : bz K "check_taken" "check_taken" iB TX wt)
  (eJ : bz K "check_call" "check_call" jM TY Ac)
  (eM : bz K "said_names" "said_names" jN TZ Ad)
  (dB : bz K "check_names" "check_names" iD T4 wu)
  (eO : bz K "whole_book" "whole_book" jL T5 Ae)
  (fN : bz K "read_book" "read_book" lN T6 CB)
  (cG : bz K "passing_kinds" "passing_kinds" fU T8 se)
  (mG : bz K "effect" "effect" uC T9 K2)
  (jj : bz K "effects" "effects" qt Ua Hw)
  (fO : bz K "_law_cell" "_law_cell" lP Ub CC)
  (dC : bz K "_law_digits" "_law_digits" iE Uc wx)
  (fP : bz K "_law_name" "_law_name" lQ Ud CD)
  (eQ : bz K "_law_sheet" "_law_sheet" jO Ue Af)
  (eR : bz K "_law_lines" "_law_lines" jP Ug Ag)
  (c4 : bz K "_law_effects" "_law_effects" gE Uh uX)
  (dD : bz K "first_place" "first_place" iy Ui wy)
  (jk : bz K "divisor" "divisor" qo Uj Hx)
  (jl : bz K "slimmed" "slimmed" qp Uk Hy)
  (pL : bz K "mixed" "mixed" y8 Ul M6)
  (jm : bz K "cleared" "cleared" qr Um Hz)
  (cj : bz K "without_noughts" "without_noughts" d6 Uo pJ)
  (c5 : bz K "above_nought" "above_nought" gA Up uY)
  (jn : bz K "reduced" "reduced" qv Uq HA)
  (dE : bz K "staying_row" "staying_row" iz Ur wz)
  (g6 : bz K "standing" "standing" nQ Us EG)
  (eS : bz K "_law_place" "_law_place" jQ Ut Ah)
  (fQ : bz K "_law_rest" "_law_rest" lS Uu CF)
  (g7 : bz K "_law_row" "_law_row" nX Uv EH)
  (g8 : bz K "_law_sum" "_law_sum" nW Uw EI)
  (K8 : K.lookup P5 = some ⟨P8, P6, .func (PySem.W.fnOf "law" "law" (mQ pC) (ju pC) (ao pC) .none K4 K5 K6 K3 EJ K7), P7⟩)
  (K9 : PySem.W.codeIn K EJ "law" = true)
  (Lb : keepIn K (.ref P5) = true)
  (fq : bz K "__init__" "Look.__init__" lD fm wA)
  (ft : bz K "__init__" "Rule.__init__" lJ iL wB)
  (c6 : bz K "calls" "Rule.calls" jJ gO uZ)
  (fu : bz K "__init__" "Book.__init__" lM iM wC)
  (Ao : PySem.W.plainGet K d9 Str.empty = true)
  (Ap : PySem.W.hasDictIn K d9 = true)
  (Aq : PySem.W.plainOver K d9 = true)
  (Ar : findIn K (.ref d9) "__setattr__" = some (some (.builtin "object.__setattr__")))
  (As : PySem.W.makesIn K d9 = true)
  (Au : keepIn K (.ref d9) = true)
  (mH : findIn K (.ref d9) "left" = some none)
  (km : findIn K (.ref d9) "right" = some none)
  (Gf : findIn K (.ref d9) "__class__" = some (some (.builtin "object.__class__")))
  (Gg : mroIn K d9 (.type "object") = some true)
  (qT : PySem.W.plainGet K cf Str.empty = true)
  (qU : PySem.W.hasDictIn K cf = true)
  (qV : PySem.W.plainOver K cf = true)
  (qW : findIn K (.ref cf) "__setattr__" = some (some (.builtin "object.__setattr__")))
  (qX : PySem.W.makesIn K cf = true)
  (qY : keepIn K (.ref cf) = true)
  (iX : findIn K (.ref cf) "left" = some none)
  (g9 : findIn K (.ref cf) "right" = some none)
  (ya : findIn K (.ref cf) "__class__" = some (some (.builtin "object.__class__")))
  (yb : mroIn K cf (.type "object") = some true)
  (Av : PySem.W.plainGet K cn Str.empty = true)
  (Aw : PySem.W.hasDictIn K cn = true)
  (Ax : PySem.W.plainOver K cn = true)
  (Ay : findIn K (.ref cn) "__setattr__" = some (some (.builtin "object.__setattr__")))
  (Az : PySem.W.makesIn K cn = true)
  (AA : keepIn K (.ref cn) = true)
  (kn : findIn K (.ref cn) "title" = some none)
  (ko : findIn K (.ref cn) "taken" = some none)
  (mI : findIn K (.ref cn) "kept" = some none)
  (kq : findIn K (.ref cn) "looks" = some none)
  (kr : findIn K (.ref cn) "given" = some none)
  (mJ : findIn K (.ref cn) "told" = some none)
  (ku : findIn K (.ref cn) "names" = some none)
  (Gh : findIn K (.ref cn) "__class__" = some (some (.builtin "object.__class__")))
  (Gi : mroIn K cn (.type "object") = some true)
  (AB : PySem.W.plainGet K eo Str.empty = true)
  (AD : PySem.W.hasDictIn K eo = true)
  (AE : PySem.W.plainOver K eo = true)
  (AF : findIn K (.ref eo) "__setattr__" = some (some (.builtin "object.__setattr__")))
  (AG : PySem.W.makesIn K eo = true)
  (AH : keepIn K (.ref eo) = true)
  (kx : findIn K (.ref eo) "kinds" = some none)
  (ky : findIn K (.ref eo) "rules" = some none)
  (Gj : findIn K (.ref eo) "__class__" = some (some (.builtin "object.__class__")))
  (Gk : mroIn K eo (.type "object") = some true)
  (hn : PySem.W.specialIn K (.builtin "object.__class__") "__get__" = some (some (.builtin "getset_descriptor.__get__")))
  (VM : PySem.W.takesIn K (.builtin "object.__class__") = some true)
  (AI : nsIn K mainGlobals "GREAT" = some (some (.str qa Ai)))
  (AJ : nsIn K mainGlobals "SMALL" = some (some (.str ir Aj)))
  (qZ : nsIn K mainGlobals "FIGURES" = some (some (.str Mh x6)))
  (q0 : nsIn K mainGlobals "LONGEST" = some (some (.int 12 x8)))
  (kz : nsIn K mainGlobals "LINE_MARKS" = some (some (.str BH pK)))
  (mK : nsIn K mainGlobals "RULE_WORD" = some (some (.str (S gr) mn)))
  (Lc : nsIn K mainGlobals "abs" = some none)
  (Ld : nsIn K mainGlobals "all" = some none)
  (ER : nsIn K mainGlobals "dict" = some none)
  (mO : nsIn K mainGlobals "enumerate" = some none)
  (Le : nsIn K mainGlobals "int" = some none)
  (Lf : nsIn K mainGlobals "len" = some none)
  (ES : nsIn K mainGlobals "list" = some none)
  (Lg : nsIn K mainGlobals "min" = some none)
  (AK : nsIn K mainGlobals "range" = some none)
  (oz : nsIn K mainGlobals "reversed" = some none)
  (Lh : nsIn K mainGlobals "str" = some none)
  (AL : nsIn K mainGlobals "tuple" = some none)
  (Li : nsIn K mainGlobals "zip" = some none)
  (kA : PySem.W.nsIn K mainGlobals "KIND_WORDS" = some (some (.ref j3)))
  (kB : K.lookup j3 = some ⟨.type "tuple", none, .seq #[Value.str "passing" u5, Value.str "lasting" u6] nj, wD⟩)
  (kC : PySem.W.nsIn K mainGlobals "PART_WORDS" = some (some (.ref j4)))
  (gj : K.lookup j4 = some ⟨.type "tuple", none, .seq #[Value.str "take" u9, Value.str "keep" va, Value.str "look" vc, Value.str "put" vd, Value.str "tell" ve] nq, wF⟩)
  (vm : PySem.W.nsIn K mainGlobals "COUNTS" = some (some (.ref u4)))
  (vo : K.lookup u4 = some ⟨.type "tuple", none, .seq #[Value.str "0" EK, Value.str "1" EL, Value.str "2" EM, Value.str "3" EN, Value.str "4" EO] x9, HB⟩)
  : ∃ fd : FuncData, (∀ (s : Shared) (v : Value), BindsTo s fd ⟨[v], []⟩ [("_law_script", v)]) ∧ ∀ base : Heap, K.In base → base.Ns mainGlobals mg → aW l.prog w K mg base cS 10 fa fd ["_law_script"] (FH K) := by
 have e := hfa.symm.trans (mg_of X G Ge)
 cases e
 have vp := cX.binds (ps := ["sign"]) fun _ _ _ _ _ _ us hl => match us, hl with | [_], _ => rfl
 have vq := mg_of X G gP
 have HC := jg.binds (ps := ["text"]) fun _ _ _ _ _ _ us hl => match us, hl with | [_], _ => rfl
 have HD := mg_of X G qL
 have sf := cF.binds (ps := ["text"]) fun _ _ _ _ _ _ us hl => match us, hl with | [_], _ => rfl
 have sg := mg_of X G fX
 have ET := gZ.binds (ps := ["text", "start"]) fun _ _ _ _ _ _ us hl => match us, hl with | [_, _], _ => rfl
 have EU := mg_of X G oo
 have Lj := mE.binds (ps := ["text", "marks"]) fun _ _ _ _ _ _ us hl => match us, hl with | [_, _], _ => rfl
 have Ll := mg_of X G vf
 have EV := g4.binds (ps := ["found", "place"]) fun _ _ _ _ _ _ us hl => match us, hl with | [_, _], _ => rfl
 have EW := mg_of X G oq
 have vv := cY.binds (ps := ["found", "place"]) fun _ _ _ _ _ _ us hl => match us, hl with | [_, _], _ => rfl
 have vw := mg_of X G gQ
 have HE := jh.binds (ps := ["found", "place"]) fun _ _ _ _ _ _ us hl => match us, hl with | [_, _], _ => rfl
 have HF := mg_of X G qM
 have vx := cZ.binds (ps := ["found"]) fun _ _ _ _ _ _ us hl => match us, hl with | [_], _ => rfl
 have vy := mg_of X G gT
 have HG := ji.binds (ps := ["line"]) fun _ _ _ _ _ _ us hl => match us, hl with | [_], _ => rfl
 have HH := mg_of X G qN
 have AM := eE.binds (ps := ["text"]) fun _ _ _ _ _ _ us hl => match us, hl with | [_], _ => rfl
 have AO := mg_of X G j5
 have wG := dy.binds (ps := ["line"]) fun _ _ _ _ _ _ us hl => match us, hl with | [_], _ => rfl
 have wH := mg_of X G iN
 have CG := fG.binds (ps := ["found"]) fun _ _ _ _ _ _ us hl => match us, hl with | [_], _ => rfl
 have CH := mg_of X G mq
 have Lm := mF.binds (ps := ["found", "mark"]) fun _ _ _ _ _ _ us hl => match us, hl with | [_, _], _ => rfl
 have Ln := mg_of X G vh
 have pM := cg.binds (ps := ["found"]) fun _ _ _ _ _ _ us hl => match us, hl with | [_], _ => rfl
 have pN := mg_of X G eB
 have CI := fH.binds (ps := ["found"]) fun _ _ _ _ _ _ us hl => match us, hl with | [_], _ => rfl
 have CJ := mg_of X G mr
 have CK := fJ.binds (ps := ["found"]) fun _ _ _ _ _ _ us hl => match us, hl with | [_], _ => rfl
 have CL := mg_of X G mv
 have AQ := eF.binds (ps := ["found"]) fun _ _ _ _ _ _ us hl => match us, hl with | [_], _ => rfl
 have AR := mg_of X G j6
 have AS := eG.binds (ps := ["found"]) fun _ _ _ _ _ _ us hl => match us, hl with | [_], _ => rfl
 have AU := mg_of X G j7
 have CM := fK.binds (ps := ["word", "found"]) fun _ _ _ _ _ _ us hl => match us, hl with | [_, _], _ => rfl
 have CN := mg_of X G mw
 have CO := fL.binds (ps := ["found"]) fun _ _ _ _ _ _ us hl => match us, hl with | [_], _ => rfl
 have CP := mg_of X G mx
 have EX := g5.binds (ps := ["name"]) fun _ _ _ _ _ _ us hl => match us, hl with | [_], _ => rfl
 have EY := mg_of X G ou
 have AV := eI.binds (ps := ["facts"]) fun _ _ _ _ _ _ us hl => match us, hl with | [_], _ => rfl
 have AW := mg_of X G j8
 have CQ := fM.binds (ps := ["kinds", "rules", "line"]) fun _ _ _ _ _ _ us hl => match us, hl with | [_, _, _], _ => rfl
 have CS := mg_of X G my
 have wI := dz.binds (ps := ["kinds", "facts"]) fun _ _ _ _ _ _ us hl => match us, hl with | [_, _], _ => rfl
 have wJ := mg_of X G iO
 have wK := dA.binds (ps := ["lasts", "taken"]) fun _ _ _ _ _ _ us hl => match us, hl with | [_, _], _ => rfl
 have wL := mg_of X G iP
 have AX := eJ.binds (ps := ["lasts", "rule"]) fun _ _ _ _ _ _ us hl => match us, hl with | [_, _], _ => rfl
 have AY := mg_of X G j9
 have AZ := eM.binds (ps := ["rule"]) fun _ _ _ _ _ _ us hl => match us, hl with | [_], _ => rfl
 have A0 := mg_of X G ka
 have wM := dB.binds (ps := ["rule"]) fun _ _ _ _ _ _ us hl => match us, hl with | [_], _ => rfl
 have wN := mg_of X G iQ
 have A1 := eO.binds (ps := ["kinds", "rules"]) fun _ _ _ _ _ _ us hl => match us, hl with | [_, _], _ => rfl
 have A2 := mg_of X G kb
 have CT := fN.binds (ps := ["text"]) fun _ _ _ _ _ _ us hl => match us, hl with | [_], _ => rfl
 have CU := mg_of X G mz
 have sh := cG.binds (ps := ["book"]) fun _ _ _ _ _ _ us hl => match us, hl with | [_], _ => rfl
 have sj := mg_of X G fY
 have Lo := mG.binds (ps := ["rule", "kind"]) fun _ _ _ _ _ _ us hl => match us, hl with | [_, _], _ => rfl
 have Lp := mg_of X G vj
 have HI := jj.binds (ps := ["book"]) fun _ _ _ _ _ _ us hl => match us, hl with | [_], _ => rfl
 have HJ := mg_of X G qO
 have CV := fO.binds (ps := ["_law_script", "_law_k"]) fun _ _ _ _ _ _ us hl => match us, hl with | [_, _], _ => rfl
 have CW := mg_of X G mB
 have wO := dC.binds (ps := ["_law_cell_here", "_law_sizes"]) fun _ _ _ _ _ _ us hl => match us, hl with | [_, _], _ => rfl
 have wQ := mg_of X G iR
 have CY := fP.binds (ps := ["_law_style", "_law_k"]) fun _ _ _ _ _ _ us hl => match us, hl with | [_, _], _ => rfl
 have CZ := mg_of X G mC
 have A3 := eQ.binds (ps := ["_law_script"]) fun _ _ _ _ _ _ us hl => match us, hl with | [_], _ => rfl
 have A4 := mg_of X G kc
 have A5 := eR.binds (ps := ["_law_names", "_law_place_here", "_law_rules"]) fun _ _ _ _ _ _ us hl => match us, hl with | [_, _, _], _ => rfl
 have A6 := mg_of X G ke
 have vz := c4.binds (ps := ["_law_names", "_law_rules"]) fun _ _ _ _ _ _ us hl => match us, hl with | [_, _], _ => rfl
 have vA := mg_of X G gU
 have wR := dD.binds (ps := ["row"]) fun _ _ _ _ _ _ us hl => match us, hl with | [_], _ => rfl
 have wU := mg_of X G iS
 have HK := jk.binds (ps := ["row"]) fun _ _ _ _ _ _ us hl => match us, hl with | [_], _ => rfl
 have HL := mg_of X G qP
 have HM := jl.binds (ps := ["row"]) fun _ _ _ _ _ _ us hl => match us, hl with | [_], _ => rfl
 have HN := mg_of X G qQ
 have M7 := pL.binds (ps := ["times", "row", "other_times", "other"]) fun _ _ _ _ _ _ us hl => match us, hl with | [_, _, _, _], _ => rfl
 have M8 := mg_of X G An
 have HP := jm.binds (ps := ["row", "other", "place"]) fun _ _ _ _ _ _ us hl => match us, hl with | [_, _, _], _ => rfl
 have HQ := mg_of X G qR
 have pO := cj.binds (ps := ["rows"]) fun _ _ _ _ _ _ us hl => match us, hl with | [_], _ => rfl
 have pP := mg_of X G eC
 have vB := c5.binds (ps := ["row"]) fun _ _ _ _ _ _ us hl => match us, hl with | [_], _ => rfl
 have vC := mg_of X G gW
 have HR := jn.binds (ps := ["rows"]) fun _ _ _ _ _ _ us hl => match us, hl with | [_], _ => rfl
 have HS := mg_of X G qS
 have wV := dE.binds (ps := ["rows", "free", "width"]) fun _ _ _ _ _ _ us hl => match us, hl with | [_, _, _], _ => rfl
 have wW := mg_of X G iT
 have EZ := g6.binds (ps := ["book"]) fun _ _ _ _ _ _ us hl => match us, hl with | [_], _ => rfl
 have E4 := mg_of X G ow
 have A7 := eS.binds (ps := ["_law_row_here"]) fun _ _ _ _ _ _ us hl => match us, hl with | [_], _ => rfl
 have A8 := mg_of X G kg
 have C0 := fQ.binds (ps := ["_law_rows", "_law_numbers"]) fun _ _ _ _ _ _ us hl => match us, hl with | [_, _], _ => rfl
 have C6 := mg_of X G mD
 have E5 := g7.binds (ps := ["_law_script", "_law_rows", "_law_many"]) fun _ _ _ _ _ _ us hl => match us, hl with | [_, _, _], _ => rfl
 have E6 := mg_of X G ox
 have E7 := g8.binds (ps := ["_law_row_here", "_law_numbers"]) fun _ _ _ _ _ _ us hl => match us, hl with | [_, _], _ => rfl
 have E8 := mg_of X G oy
 have Ux := aF (st := pC) K8 K9 Lb
 have Z2 := mg_of X G Ge
 have nu := fq.binds (ps := ["self", "left", "right"]) fun _ _ _ _ _ _ us hl => match us, hl with | [_, _, _], _ => rfl
 have wX := ft.binds (ps := ["self", "title", "parts"]) fun _ _ _ _ _ _ us hl => match us, hl with | [_, _, _], _ => rfl
 have vD := c6.binds (ps := ["self"]) fun _ _ _ _ _ _ us hl => match us, hl with | [_], _ => rfl
 have wY := fu.binds (ps := ["self", "kinds", "rules"]) fun _ _ _ _ _ _ us hl => match us, hl with | [_, _, _], _ => rfl
 have M9 := mg_of X G Ak
 have HU := mg_of X G qK
 have Na := mg_of X G Al
 have Nb := mg_of X G Am
 have Uy := PySem.W.mg_none_of X G Lc
 have Uz := PySem.W.mg_none_of X G Ld
 have P9 := PySem.W.mg_none_of X G ER
 have il := PySem.W.mg_none_of X G mO
 have NX := PySem.W.mg_none_of X G Le
 have dR := PySem.W.mg_none_of X G Lf
 have A9 := PySem.W.mg_none_of X G ES
 have UA := PySem.W.mg_none_of X G Lg
 have kD := PySem.W.mg_none_of X G AK
 have E9 := PySem.W.mg_none_of X G oz
 have UB := PySem.W.mg_none_of X G Lh
 have Nc := PySem.W.mg_none_of X G AL
 have UC := PySem.W.mg_none_of X G Li
 have Gm := mg_of X G AI
 have Gn := mg_of X G AJ
 have HV := mg_of X G qZ
 have HW := mg_of X G q0
 have Ba := mg_of X G kz
 have rH := mg_of X G mK
 refine ⟨PySem.W.fnOf "law" "law" (mQ pC) (ju pC) (ao pC) .none K4 K5 K6 K3 EJ K7, fun s v => .of_eq rfl, fun base _ _ => ?_⟩
 let cc : Cl := ⟨d9, cf, cn, eo⟩
 have Lq : BI K cc.same := ⟨⟨Ao, Ap, Aq, Ar⟩, mH, km⟩
 have C7 : BI K cc.unlike := ⟨⟨qT, qU, qV, qW⟩, iX, g9⟩
 have kE : yF K cc.rule := ⟨⟨Av, Aw, Ax, Ay⟩, kn, ko, mI, kq, kr, mJ, ku⟩
 have Fb : Mn K cc.book := ⟨⟨AB, AD, AE, AF⟩, kx, ky⟩
 have Bb := PySem.W.mg_of X G kA
 have wZ : ∀ H : Hp, cM K H j3 [tx [112, 97, 115, 115, 105, 110, 103], tx [108, 97, 115, 116, 105, 110, 103]] := fun H => .inr ⟨_, _, nj, kB, rfl, rfl, (by show 2 ≤ sizeLine; decide), .cons (fT (by decide +kernel)) (.cons (fT (by decide +kernel)) (.nil))⟩
 have Bc := PySem.W.mg_of X G kC
 have w4 : ∀ H : Hp, cM K H j4 [tx [116, 97, 107, 101], tx [107, 101, 101, 112], tx [108, 111, 111, 107], tx [112, 117, 116], tx [116, 101, 108, 108]] := fun H => .inr ⟨_, _, nq, gj, rfl, rfl, (by show 5 ≤ sizeLine; decide), .cons (fT (by decide +kernel)) (.cons (fT (by decide +kernel)) (.cons (fT (by decide +kernel)) (.cons (fT (by decide +kernel)) (.cons (fT (by decide +kernel)) (.nil)))))⟩
 have Lr := PySem.W.mg_of X G vm
 have HX : ∀ H : Hp, cM K H u4 [tx [48], tx [49], tx [50], tx [51], tx [52]] := fun H => .inr ⟨_, _, x9, vo, rfl, rfl, (by show 5 ≤ sizeLine; decide), .cons (fT (by decide +kernel)) (.cons (fT (by decide +kernel)) (.cons (fT (by decide +kernel)) (.cons (fT (by decide +kernel)) (.cons (fT (by decide +kernel)) (.nil)))))⟩
 have cy : bf l.prog w K mg base "is_name_sign" 1 ["sign"] yz := ⟨_, _, rW cX Gn ⟨Aj, rfl⟩ Gm ⟨Ai, rfl⟩ HV ⟨x6, rfl⟩, vp, cX.2, vq⟩
 have cH : bf l.prog w K mg base "is_name" 2 ["text"] (vP fE) := ⟨_, _, Ek jg cy dR Uz HW ⟨x8, rfl⟩, HC, jg.2, HD⟩
 have bg : bf l.prog w K mg base "is_small_word" 3 ["text"] (vP iu) := ⟨_, _, qA cF cH Gn ⟨Aj, rfl⟩, sf, cF.2, sg⟩
 have nY : bf l.prog w K mg base "name_end" 2 ["text", "start"] Jc := ⟨_, _, Ci gZ cy dR, ET, gZ.2, EU⟩
 have uI : bf l.prog w K mg base "pieces" 3 ["text", "marks"] tO := ⟨_, _, Hg mE nY dR, Lj, mE.2, Ll⟩
 have bq : bf l.prog w K mg base "piece_at" 1 ["found", "place"] oR := ⟨_, _, Ck g4 dR, EV, g4.2, EW⟩
 have gF : bf l.prog w K mg base "arguments_at" 3 ["found", "place"] DB := ⟨_, _, rX cY bq cH Nc, vv, cY.2, vw⟩
 have qB : bf l.prog w K mg base "fact_at" 4 ["found", "place"] tP := ⟨_, _, El jh bq bg gF, HE, jh.2, HF⟩
 have gG : bf l.prog w K mg base "row_of_facts" 5 ["found"] (Je K) := ⟨_, _, rY cZ qB dR, vx, cZ.2, vy⟩
 have qC : bf l.prog w K mg base "is_told" 1 ["line"] DD := ⟨_, _, Em ji, HG, ji.2, HH⟩
 have jW : bf l.prog w K mg base "told_lines" 2 ["text"] yB := ⟨_, _, vV eE qC, AM, eE.2, AO⟩
 have iF : bf l.prog w K mg base "line_pieces" 4 ["line"] DE := ⟨_, _, uH dy uI Ba ⟨pK, rfl⟩, wG, dy.2, wH⟩
 have l8 : bf l.prog w K mg base "read_kind" 4 ["found"] (DF K) := ⟨_, _, zw fG bg dR NX Bb wZ Lr HX, CG, fG.2, CH⟩
 have d8 : bf l.prog w K mg base "parted" 1 ["found", "mark"] k8 := ⟨_, _, Hi mF, Lm, mF.2, Ln⟩
 have bM : bf l.prog w K mg base "check_two_names" 3 ["found"] FE := ⟨_, _, oa cg cH dR, pM, cg.2, pN⟩
 have nv : aW l.prog w K mg base cS 1 _ _ ["self", "left", "right"] (jA K) := zD fq
 have En : L4 l.prog w K mg base "Same" d9 1 ["self", "left", "right"] (jA K) := ⟨_, _, ⟨As, kh, fo, Au⟩, nv, nu, M9⟩
 have uJ : L4 l.prog w K mg base "Unlike" cf 1 ["self", "left", "right"] (jA K) := ⟨_, _, ⟨qX, gX, fo, qY⟩, nv, nu, HU⟩
 have lU : bf l.prog w K mg base "read_look" 4 ["found"] (DG cc) := ⟨_, _, zF (c := cc) fH bM Lq C7 En uJ, CI, fH.2, CJ⟩
 have lV : bf l.prog w K mg base "read_pair" 4 ["found"] (DH K) := ⟨_, _, zH fJ bM, CK, fJ.2, CL⟩
 have jR : bf l.prog w K mg base "read_looks" 5 ["found"] (yC cc) := ⟨_, _, vX (c := cc) eF d8 lU, AQ, eF.2, AR⟩
 have jS : bf l.prog w K mg base "read_pairs" 5 ["found"] (yD K) := ⟨_, _, vZ eG d8 lV, AS, eG.2, AU⟩
 have lW : bf l.prog w K mg base "read_part" 6 ["word", "found"] (DI K cc) := ⟨_, _, zJ (c := cc) fK jR jS gG, CM, fK.2, CN⟩
 have lZ : bf l.prog w K mg base "read_rule" 7 ["found"] (DJ K cc) := ⟨_, _, zK (c := cc) fL bq bg d8 lW rH ⟨mn, rfl⟩ Bc w4 ⟨_, gj, rfl, rfl⟩, CO, fL.2, CP⟩
 have e9 : bf l.prog w K mg base "is_great" 1 ["name"] sv := ⟨_, _, Cn g5 Gm ⟨Ai, rfl⟩, EX, g5.2, EY⟩
 have jT : bf l.prog w K mg base "open_names" 2 ["facts"] (yE K) := ⟨_, _, v8 eI e9 A9, AV, eI.2, AW⟩
 have w5 : aW l.prog w K mg base cS 3 _ _ ["self", "title", "parts"] (sx K cc) := zO (c := cc) ft kE jT
 have Es : L4 l.prog w K mg base "Rule" cn 3 ["self", "title", "parts"] (sx K cc) := ⟨_, _, ⟨Az, ki, iV, AA⟩, w5, wX, Na⟩
 have qE : Met l.prog w K mg base cn "calls" 1 ["self"] (yG K cc) := ⟨_, _, kE.cl, ⟨iU, gY, c6.2⟩, wa (c := cc) c6 kE dR, vD⟩
 have w6 : aW l.prog w K mg base cS 1 _ _ ["self", "kinds", "rules"] (sy K cc) := zQ (c := cc) fu Fb
 have Et : L4 l.prog w K mg base "Book" eo 1 ["self", "kinds", "rules"] (sy K cc) := ⟨_, _, ⟨AG, kj, iW, AH⟩, w6, wY, Nb⟩
 have mh : bf l.prog w K mg base "hear_line" 8 ["kinds", "rules", "line"] (DL K cc) := ⟨_, _, zR (c := cc) fM kE iF lZ l8 Es rH ⟨mn, rfl⟩, CQ, fM.2, CS⟩
 have iH : bf l.prog w K mg base "check_facts" 1 ["kinds", "facts"] (tY K) := ⟨_, _, uL dz P9 dR, wI, dz.2, wJ⟩
 have iI : bf l.prog w K mg base "check_taken" 1 ["lasts", "taken"] (tZ K) := ⟨_, _, uM dA, wK, dA.2, wL⟩
 have jV : bf l.prog w K mg base "check_call" 2 ["lasts", "rule"] (t4 K cc) := ⟨_, _, wb (c := cc) eJ kE qE, AX, eJ.2, AY⟩
 have jU : bf l.prog w K mg base "said_names" 1 ["rule"] (DM K cc) := ⟨_, _, wc (c := cc) eM kE Lq C7, AZ, eM.2, A0⟩
 have iJ : bf l.prog w K mg base "check_names" 2 ["rule"] (t5 K cc) := ⟨_, _, uN (c := cc) dB kE jU e9, wM, dB.2, wN⟩
 have jX : bf l.prog w K mg base "whole_book" 3 ["kinds", "rules"] (yH K cc) := ⟨_, _, wd (c := cc) eO kE iH iI jV iJ Et, A1, eO.2, A2⟩
 have mj : bf l.prog w K mg base "read_book" 9 ["text"] (DO K cc) := ⟨_, _, zS (c := cc) fN jW mh jX, CT, fN.2, CU⟩
 have b6 : bf l.prog w K mg base "passing_kinds" 1 ["book"] (yU K cc) := ⟨_, _, qG (c := cc) cG Fb, sh, cG.2, sj⟩
 have uP : bf l.prog w K mg base "effect" 1 ["rule", "kind"] (JX K cc) := ⟨_, _, Hq (c := cc) mG kE dR, Lo, mG.2, Lp⟩
 have qJ : bf l.prog w K mg base "effects" 4 ["book"] (D7 K cc) := ⟨_, _, Eu (c := cc) jj Fb b6 uP, HI, jj.2, HJ⟩
 have cW : bf l.prog w K mg base "_law_cell" 1 ["_law_script", "_law_k"] (yI K) := ⟨_, _, zU fO dR, CV, fO.2, CW⟩
 have fj : bf l.prog w K mg base "_law_digits" 1 ["_law_cell_here", "_law_sizes"] (JU K) := ⟨_, _, uQ dC, wO, dC.2, wQ⟩
 have mi : bf l.prog w K mg base "_law_name" 1 ["_law_style", "_law_k"] D5 := ⟨_, _, zV fP, CY, fP.2, CZ⟩
 have jZ : bf l.prog w K mg base "_law_sheet" 4 ["_law_script"] (yV K) := ⟨_, _, we eQ cW fj mi kD dR A9 E9 il, A3, eQ.2, A4⟩
 have j0 : bf l.prog w K mg base "_law_lines" 1 ["_law_names", "_law_place_here", "_law_rules"] (ux K) := ⟨_, _, wg eR dR UB il, A5, eR.2, A6⟩
 have gN : bf l.prog w K mg base "_law_effects" 1 ["_law_names", "_law_rules"] (Km K) := ⟨_, _, rZ c4 dR kD, vz, c4.2, vA⟩
 have aO : bf l.prog w K mg base "first_place" 1 ["row"] Ee := ⟨_, _, uR dD il, wR, dD.2, wU⟩
 have qI : bf l.prog w K mg base "divisor" 1 ["row"] Kq := ⟨_, _, Ex jk Uy, HK, jk.2, HL⟩
 have gp : bf l.prog w K mg base "slimmed" 2 ["row"] yZ := ⟨_, _, Ey jl qI A9, HM, jl.2, HN⟩
 have zX : bf l.prog w K mg base "mixed" 1 ["times", "row", "other_times", "other"] y0 := ⟨_, _, KZ pL UC, M7, pL.2, M8⟩
 have mW : bf l.prog w K mg base "cleared" 3 ["row", "other", "place"] Ks := ⟨_, _, EA jm gp zX, HP, jm.2, HQ⟩
 have cP : bf l.prog w K mg base "without_noughts" 3 ["rows"] Pq := ⟨_, _, oh cj aO, pO, cj.2, pP⟩
 have gM : bf l.prog w K mg base "above_nought" 3 ["row"] y4 := ⟨_, _, r6 c5 aO gp, vB, c5.2, vC⟩
 have mX : bf l.prog w K mg base "reduced" 6 ["rows"] Kt := ⟨_, _, EB jn cP gM aO mW dR UA, HR, jn.2, HS⟩
 have iK : bf l.prog w K mg base "staying_row" 2 ["rows", "free", "width"] Ef := ⟨_, _, uT dE aO, wV, dE.2, wW⟩
 have oi : bf l.prog w K mg base "standing" 7 ["book"] (y6 K cc) := ⟨_, _, Cq (c := cc) g6 b6 qJ mX aO iK dR kD, EZ, g6.2, E4⟩
 have dg : bf l.prog w K mg base "_law_place" 1 ["_law_row_here"] sR := ⟨_, _, wj eS kD dR, A7, eS.2, A8⟩
 have mm : bf l.prog w K mg base "_law_rest" 2 ["_law_rows", "_law_numbers"] Eh := ⟨_, _, zY fQ dg kD dR, C0, fQ.2, C6⟩
 have oj : bf l.prog w K mg base "_law_row" 2 ["_law_script", "_law_rows", "_law_many"] (Ei K) := ⟨_, _, Cr g7 cW kD il NX, E5, g7.2, E6⟩
 have om : bf l.prog w K mg base "_law_sum" 1 ["_law_row_here", "_law_numbers"] Ec := ⟨_, _, Ct g8 kD dR, E7, g8.2, E8⟩
 exact P2 (c := cc) Ux jZ mj j0 gN oi dg oj om mm A9 dR
theorem walk {l : PySem.W.OpenLaw} {q : Program} {loose : List Str} {XP : (Str → Option Value) → Heap → Prop} {YP : World → Heap → Prop} {d : DefRec} {K : Params → PySem.W.Frag} (hn : l.most = some 63) (Rb : d.params.defaults = [])
  (hY : ∀ (w : World) (h : Heap), YP w h → (K w.params).In h)
  (F : ∀ (w : World) (mg : Str → Option Value) (fa : Addr) (h : Heap), (K w.params).In h → h.Ns mainGlobals mg → mg d.name = some (.ref fa) →
   ∃ fd : FuncData, (∀ (s : Shared) (u : Value), BindsTo s fd ⟨[u], []⟩ [("_law_script", u)]) ∧ ∀ base : Heap, (K w.params).In base → base.Ns mainGlobals mg → aW l.prog w (K w.params) mg base cS 10 fa fd ["_law_script"] (FH (K w.params))) :
  PySem.W.WalkO q loose XP YP l.row.toRowW d [] (fun f vs => PySem.call f vs) :=
 L2.L0 (n := 63) (k := 10) (x := "_law_script") (CX := fun _ => cS) (sp := fun w => FH (K w.params)) hn (by decide) Rb ⟨rfl, by decide, by decide⟩ hY F (fun _ _ a ns hl _ hS => ⟨a, ns, rfl, hS, hl, fun _ => rfl⟩) fun _ _ _ _ _ z => z
end gg
open PySem PySem.W PyProof.Rows
def PySem.W.Fast.tw2408446005550645183 : Nat := 0
def PySem.W.Fast.tw49616875302293978 : Nat := 0
def PySem.W.Fast.tw5426433704083015223 : Nat := 0
def PySem.W.Fast.tw15454162268311815636 : Nat := 0
def PySem.W.Fast.tw14755997983950882766 : Nat := 0
def PySem.W.Fast.tw9901121954192963072 : Nat := 0
def PySem.W.Fast.tw7705440280255514658 : Nat := 0
def PySem.W.Fast.tw13358640766318206752 : Nat := 0
def PySem.W.Fast.tw12890469280788807303 : Nat := 0
def PySem.W.Fast.tw15089237746265431890 : Nat := 0
def PySem.W.Fast.tw17610664348024548603 : Nat := 0
def PySem.W.Fast.tw10195007895379484168 : Nat := 0
def PySem.W.Fast.tw6478986080103296196 : Nat := 0
def PySem.W.Fast.tw14941837607300448982 : Nat := 0
def PySem.W.Fast.tw17268565955168421169 : Nat := 0
def PySem.W.Fast.tw18405311541746407425 : Nat := 0
def PySem.W.Fast.tw3135431821944846668 : Nat := 0
def PySem.W.Fast.tw8055613489819861501 : Nat := 0
def PySem.W.Fast.tw2467689926950594792 : Nat := 0
def PySem.W.Fast.tw13233878538455395311 : Nat := 0
def PySem.W.Fast.tw14591687516884422826 : Nat := 0
def PySem.W.Fast.tw7243111261683940063 : Nat := 0
def PySem.W.Fast.tw908659517038146834 : Nat := 0
def PySem.W.Fast.tw1754262982610919000 : Nat := 0
def PySem.W.Fast.tw11398807642458643261 : Nat := 0
def PySem.W.Fast.tw8775412237865968860 : Nat := 0
def PySem.W.Fast.tw9817384767784287186 : Nat := 0
def PySem.W.Fast.tw2002684292025655407 : Nat := 0
def PySem.W.Fast.tw11434664190455118144 : Nat := 0
def PySem.W.Fast.tw279760301000215308 : Nat := 0
def PySem.W.Fast.tw4454909472383705313 : Nat := 0
def PySem.W.Fast.tw10923687357105968385 : Nat := 0
def PySem.W.Fast.tw13878058103862563725 : Nat := 0
def PySem.W.Fast.tw5000849215667345953 : Nat := 0
def PySem.W.Fast.tw4449149729874809955 : Nat := 0
def PySem.W.Fast.tw18442332881749299884 : Nat := 0
def PySem.W.Fast.tw5459914124792604448 : Nat := 0
def PySem.W.Fast.tw16403374615831919773 : Nat := 0
def PySem.W.Fast.tw18365105629301884718 : Nat := 0
def PySem.W.Fast.tw1194639612034391264 : Nat := 0
def PySem.W.Fast.tw6510144772989780609 : Nat := 0
def PySem.W.Fast.tw16658778855447511321 : Nat := 0
def PySem.W.Fast.tw2198733556433395416 : Nat := 0
def PySem.W.Fast.tw10092156539894367123 : Nat := 0
set_option maxRecDepth 100000 in
set_option maxHeartbeats 0 in
theorem PySem.Challenge.cw_poolrules_k36_all_that_stays_holds : PySem.Challenge.rw_poolrules_k36_all_that_stays.Holds := by
 w_on; o_law; k_head; (case hw => w_witness2)
 k_fill
 refine gg.walk (l := PySem.Challenge.rw_poolrules_k36_all_that_stays) rfl rfl (fun w h Y => PySem.W.kIn_of Y) ?F
 case F =>
  intro w mg fa h KX G Rc
  refine' gg.all_mk KX G Rc ?Ak ?qK ?Al ?Am ?gP ?qL ?fX ?oo ?vf ?oq ?gQ ?qM ?gT ?qN ?j5 ?iN ?mq ?vh ?eB ?mr ?mv ?j6 ?j7 ?mw ?mx ?ou ?j8 ?my ?iO ?iP ?j9 ?ka ?iQ ?kb ?mz ?fY ?vj ?qO ?mB ?iR ?mC ?kc ?ke ?gU ?iS ?qP ?qQ ?An ?qR ?eC ?gW ?qS ?iT ?ow ?kg ?mD ?ox ?oy ?Ge ?kh ?gX ?ki ?iU ?kj ?fo ?iV ?gY ?iW ?cX ?jg ?cF ?gZ ?mE ?g4 ?cY ?jh ?cZ ?ji ?eE ?dy ?fG ?mF ?cg ?fH ?fJ ?eF ?eG ?fK ?fL ?g5 ?eI ?fM ?dz ?dA ?eJ ?eM ?dB ?eO ?fN ?cG ?mG ?jj ?fO ?dC ?fP ?eQ ?eR ?c4 ?dD ?jk ?jl ?pL ?jm ?cj ?c5 ?jn ?dE ?g6 ?eS ?fQ ?g7 ?g8 ?K8 ?K9 ?Lb ?fq ?ft ?c6 ?fu ?Ao ?Ap ?Aq ?Ar ?As ?Au ?mH ?km ?Gf ?Gg ?qT ?qU ?qV ?qW ?qX ?qY ?iX ?g9 ?ya ?yb ?Av ?Aw ?Ax ?Ay ?Az ?AA ?kn ?ko ?mI ?kq ?kr ?mJ ?ku ?Gh ?Gi ?AB ?AD ?AE ?AF ?AG ?AH ?kx ?ky ?Gj ?Gk ?hn ?VM ?AI ?AJ ?qZ ?q0 ?kz ?mK ?Lc ?Ld ?ER ?mO ?Le ?Lf ?ES ?Lg ?AK ?oz ?Lh ?AL ?Li ?kA ?kB ?kC ?gj ?vm ?vo
  (case Ak => k_is)
  (case qK => k_is)
  (case Al => k_is)
  (case Am => k_is)
  (case gP => k_is)
  (case qL => k_is)
  (case fX => k_is)
  (case oo => k_is)
  (case vf => k_is)
  (case oq => k_is)
  (case gQ => k_is)
  (case qM => k_is)
  (case gT => k_is)
  (case qN => k_is)
  (case j5 => k_is)
  (case iN => k_is)
  (case mq => k_is)
  (case vh => k_is)
  (case eB => k_is)
  (case mr => k_is)
  (case mv => k_is)
  (case j6 => k_is)
  (case j7 => k_is)
  (case mw => k_is)
  (case mx => k_is)
  (case ou => k_is)
  (case j8 => k_is)
  (case my => k_is)
  (case iO => k_is)
  (case iP => k_is)
  (case j9 => k_is)
  (case ka => k_is)
  (case iQ => k_is)
  (case kb => k_is)
  (case mz => k_is)
  (case fY => k_is)
  (case vj => k_is)
  (case qO => k_is)
  (case mB => k_is)
  (case iR => k_is)
  (case mC => k_is)
  (case kc => k_is)
  (case ke => k_is)
  (case gU => k_is)
  (case iS => k_is)
  (case qP => k_is)
  (case qQ => k_is)
  (case An => k_is)
  (case qR => k_is)
  (case eC => k_is)
  (case gW => k_is)
  (case qS => k_is)
  (case iT => k_is)
  (case ow => k_is)
  (case kg => k_is)
  (case mD => k_is)
  (case ox => k_is)
  (case oy => k_is)
  (case Ge => k_is)
  (case kh => k_is)
  (case gX => k_is)
  (case ki => k_is)
  (case iU => k_is)
  (case kj => k_is)
  (case fo => k_is)
  (case iV => k_is)
  (case gY => k_is)
  (case iW => k_is)
  (case cX => exact L2.aF (by k_is) (by k_is) (by k_is))
  (case jg => exact L2.aF (by k_is) (by k_is) (by k_is))
  (case cF => exact L2.aF (by k_is) (by k_is) (by k_is))
  (case gZ => exact L2.aF (by k_is) (by k_is) (by k_is))
  (case mE => exact L2.aF (by k_is) (by k_is) (by k_is))
  (case g4 => exact L2.aF (by k_is) (by k_is) (by k_is))
  (case cY => exact L2.aF (by k_is) (by k_is) (by k_is))
  (case jh => exact L2.aF (by k_is) (by k_is) (by k_is))
  (case cZ => exact L2.aF (by k_is) (by k_is) (by k_is))
  (case ji => exact L2.aF (by k_is) (by k_is) (by k_is))
  (case eE => exact L2.aF (by k_is) (by k_is) (by k_is))
  (case dy => exact L2.aF (by k_is) (by k_is) (by k_is))
  (case fG => exact L2.aF (by k_is) (by k_is) (by k_is))
  (case mF => exact L2.aF (by k_is) (by k_is) (by k_is))
  (case cg => exact L2.aF (by k_is) (by k_is) (by k_is))
  (case fH => exact L2.aF (by k_is) (by k_is) (by k_is))
  (case fJ => exact L2.aF (by k_is) (by k_is) (by k_is))
  (case eF => exact L2.aF (by k_is) (by k_is) (by k_is))
  (case eG => exact L2.aF (by k_is) (by k_is) (by k_is))
  (case fK => exact L2.aF (by k_is) (by k_is) (by k_is))
  (case fL => exact L2.aF (by k_is) (by k_is) (by k_is))
  (case g5 => exact L2.aF (by k_is) (by k_is) (by k_is))
  (case eI => exact L2.aF (by k_is) (by k_is) (by k_is))
  (case fM => exact L2.aF (by k_is) (by k_is) (by k_is))
  (case dz => exact L2.aF (by k_is) (by k_is) (by k_is))
  (case dA => exact L2.aF (by k_is) (by k_is) (by k_is))
  (case eJ => exact L2.aF (by k_is) (by k_is) (by k_is))
  (case eM => exact L2.aF (by k_is) (by k_is) (by k_is))
  (case dB => exact L2.aF (by k_is) (by k_is) (by k_is))
  (case eO => exact L2.aF (by k_is) (by k_is) (by k_is))
  (case fN => exact L2.aF (by k_is) (by k_is) (by k_is))
  (case cG => exact L2.aF (by k_is) (by k_is) (by k_is))
  (case mG => exact L2.aF (by k_is) (by k_is) (by k_is))
  (case jj => exact L2.aF (by k_is) (by k_is) (by k_is))
  (case fO => exact L2.aF (by k_is) (by k_is) (by k_is))
  (case dC => exact L2.aF (by k_is) (by k_is) (by k_is))
  (case fP => exact L2.aF (by k_is) (by k_is) (by k_is))
  (case eQ => exact L2.aF (by k_is) (by k_is) (by k_is))
  (case eR => exact L2.aF (by k_is) (by k_is) (by k_is))
  (case c4 => exact L2.aF (by k_is) (by k_is) (by k_is))
  (case dD => exact L2.aF (by k_is) (by k_is) (by k_is))
  (case jk => exact L2.aF (by k_is) (by k_is) (by k_is))
  (case jl => exact L2.aF (by k_is) (by k_is) (by k_is))
  (case pL => exact L2.aF (by k_is) (by k_is) (by k_is))
  (case jm => exact L2.aF (by k_is) (by k_is) (by k_is))
  (case cj => exact L2.aF (by k_is) (by k_is) (by k_is))
  (case c5 => exact L2.aF (by k_is) (by k_is) (by k_is))
  (case jn => exact L2.aF (by k_is) (by k_is) (by k_is))
  (case dE => exact L2.aF (by k_is) (by k_is) (by k_is))
  (case g6 => exact L2.aF (by k_is) (by k_is) (by k_is))
  (case eS => exact L2.aF (by k_is) (by k_is) (by k_is))
  (case fQ => exact L2.aF (by k_is) (by k_is) (by k_is))
  (case g7 => exact L2.aF (by k_is) (by k_is) (by k_is))
  (case g8 => exact L2.aF (by k_is) (by k_is) (by k_is))
  (case K8 => k_is)
  (case K9 => k_is)
  (case Lb => k_is)
  (case fq => exact L2.aF (by k_is) (by k_is) (by k_is))
  (case ft => exact L2.aF (by k_is) (by k_is) (by k_is))
  (case c6 => exact L2.aF (by k_is) (by k_is) (by k_is))
  (case fu => exact L2.aF (by k_is) (by k_is) (by k_is))
  (case Ao => k_is)
  (case Ap => k_is)
  (case Aq => k_is)
  (case Ar => k_is)
  (case As => k_is)
  (case Au => k_is)
  (case mH => k_is)
  (case km => k_is)
  (case Gf => k_is)
  (case Gg => k_is)
  (case qT => k_is)
  (case qU => k_is)
  (case qV => k_is)
  (case qW => k_is)
  (case qX => k_is)
  (case qY => k_is)
  (case iX => k_is)
  (case g9 => k_is)
  (case ya => k_is)
  (case yb => k_is)
  (case Av => k_is)
  (case Aw => k_is)
  (case Ax => k_is)
  (case Ay => k_is)
  (case Az => k_is)
  (case AA => k_is)
  (case kn => k_is)
  (case ko => k_is)
  (case mI => k_is)
  (case kq => k_is)
  (case kr => k_is)
  (case mJ => k_is)
  (case ku => k_is)
  (case Gh => k_is)
  (case Gi => k_is)
  (case AB => k_is)
  (case AD => k_is)
  (case AE => k_is)
  (case AF => k_is)
  (case AG => k_is)
  (case AH => k_is)
  (case kx => k_is)
  (case ky => k_is)
  (case Gj => k_is)
  (case Gk => k_is)
  (case hn => k_is)
  (case VM => k_is)
  (case AI => k_is)
  (case AJ => k_is)
  (case qZ => k_is)
  (case q0 => k_is)
  (case kz => k_is)
  (case mK => k_is)
  (case Lc => k_is)
  (case Ld => k_is)
  (case ER => k_is)
  (case mO => k_is)
  (case Le => k_is)
  (case Lf => k_is)
  (case ES => k_is)
  (case Lg => k_is)
  (case AK => k_is)
  (case oz => k_is)
  (case Lh => k_is)
  (case AL => k_is)
  (case Li => k_is)
  (case kA => k_is)
  (case kB => k_is)
  (case kC => k_is)
  (case gj => k_is)
  (case vm => k_is)
  (case vo => k_is)
