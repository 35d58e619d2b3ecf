import PyProof.Rows.All
import Wide.All
import OpenK.AllK
import Wide.FinOn
import Lean
import PyProof.EqAt
import PyProof.EqKinds
import PyProof.TupleCall
import KE.KIntText
import KE.KDictList
import KE.KDictOf
import PyProof.AttrMissHeap
import PyProof.DictUpdate
import PyProof.ToksMono
import PyProof.NeKinds
import PyProof.EnumFor
import PyProof.EnumStmt
import PyProof.EnumMake
import KE.KRevIter
import PyProof.StrOps2
import PyProof.ZipIter
import PyProof.SumWalkG
import KE.KMinKey
import PySem.Challenge.RW_poolrules_k35_standing_rows
set_option Elab.async false
set_option linter.all false
set_option maxRecDepth 100000
theorem Lm9 {α : Type _} {β : Type _} {as : List α} (f : α → β) : (as.map f).length = as.length := List.length_map f
theorem Ge9 {α : Type _} {l : List α} {i : Nat} (h : i < l.length) : l[i]? = some l[i] := List.getElem?_eq_getElem h
theorem Gd9 {α : Type _} {l : List α} {i : Nat} {a : α} : l.getD i a = (l[i]?).getD a := List.getD_eq_getElem?_getD
namespace L2
open PySem PySem.Spec PyProof.Rows
abbrev Key := Sum Int Str
def xI : Key → Value → Bool
 | .inl k, v => Value.isInt k v
 | .inr x, v => Value.isStrOf x v
def VI (w : World) : Key → Int
 | .inl k => hashInt k
 | .inr x => hashStr w x
theorem bP : ∀ {k : Key} {v : Value}, xI k v = true → (∃ i t, k = Sum.inl i ∧ v = Value.int i t) ∨ (∃ x t, k = Sum.inr x ∧ v = Value.str x t)
 | .inl i, v, h => by
  obtain ⟨t, e⟩ := Value.isInt_shape (k := i) (v := v) h
  exact .inl ⟨i, t, rfl, e⟩
 | .inr x, v, h => by
  obtain ⟨t, e⟩ := Value.isStrOf_shape (x := x) (v := v) h
  exact .inr ⟨x, t, rfl, e⟩
theorem GL (i : Int) (t : Tok) : xI (.inl i) (.int i t) = true := by simp [xI, Value.isInt]
theorem GN (x : Str) (t : Tok) : xI (.inr x) (.str x t) = true := by simp [xI, Value.isStrOf]
theorem Ol (a b : Int) : decide ((Sum.inl a : Key) = Sum.inl b) = (a == b) := by
 by_cases e : a = b
 ·subst e; simp
 ·have h : ¬ (Sum.inl a : Key) = Sum.inl b := fun q => e (Sum.inl.inj q)
  rw [decide_eq_false h]
  exact (beq_eq_false_iff_ne.mpr e).symm
theorem Om (a b : Str) : decide ((Sum.inr a : Key) = Sum.inr b) = decide (a = b) := by
 by_cases e : a = b
 ·subst e; simp
 ·have h : ¬ (Sum.inr a : Key) = Sum.inr b := fun q => e (Sum.inr.inj q)
  rw [decide_eq_false h, decide_eq_false e]
theorem Oo (a : Int) (b : Str) : decide ((Sum.inl a : Key) = Sum.inr b) = false := decide_eq_false (fun q => nomatch q)
theorem Oq (a : Str) (b : Int) : decide ((Sum.inr a : Key) = Sum.inl b) = false := decide_eq_false (fun q => nomatch q)
def bE (prog : Program) (w : World) : PySem.KeyKind prog w Key where
 is := xI
 hash := VI w
 inj := fun v a b ha hb => by
  rcases bP ha with ⟨i, t, rfl, rfl⟩ | ⟨x, t, rfl, rfl⟩
  ·rcases bP hb with ⟨j, u, rfl, e⟩ | ⟨y, u, rfl, e⟩
   ·injection e with e1 _; rw [e1]
   ·exact nomatch e
  ·rcases bP hb with ⟨j, u, rfl, e⟩ | ⟨y, u, rfl, e⟩
   ·exact nomatch e
   ·injection e with e1 _; rw [e1]
 byValue := fun k v h => by
  rcases bP h with ⟨i, t, rfl, rfl⟩ | ⟨x, t, rfl, rfl⟩ <;> rfl
 pyHash := fun hv h => by
  rcases bP hv with ⟨i, t, rfl, rfl⟩ | ⟨x, t, rfl, rfl⟩
  ·exact wpAny_pyHash_int h
  ·exact wpAny_pyHash_str h
 eqBool := fun hu hv h => by
  rcases bP hu with ⟨i, t, rfl, rfl⟩ | ⟨x, t, rfl, rfl⟩
  ·rcases bP hv with ⟨j, u, rfl, rfl⟩ | ⟨y, u, rfl, rfl⟩
   ·rw [Ol] at h; exact wpAny_eqBool_int h
   ·rw [Oo] at h; exact SeqAt.EqAt.int_str i t y u _ _ _ _ h
  ·rcases bP hv with ⟨j, u, rfl, rfl⟩ | ⟨y, u, rfl, rfl⟩
   ·rw [Oq] at h; exact SeqAt.EqAt.str_int x t j u _ _ _ _ h
   ·rw [Om] at h; exact wpAny_eqBool_str h
 «strs» := fun k x t v h => by
  rcases bP h with ⟨i, u, rfl, e⟩ | ⟨y, u, rfl, e⟩
  ·exact nomatch e
  ·injection e with e1 _
   subst e1
   cases v <;> rfl
theorem BJ (prog : Program) (w : World) (i : Int) (t : Tok) : (bE prog w).is (.inl i) (.int i t) = true := GL i t
theorem BK (prog : Program) (w : World) (x : Str) (t : Tok) : (bE prog w).is (.inr x) (.str x t) = true := GN x t
end L2
namespace L2
open PySem PySem.Spec PyProof.Rows
inductive V where
 | cJ | bl (b : Bool) | int (i : Int) | str (x : Str) | IA (b : Array UInt8) | Ot (b : UInt64) | ref (a : Addr) | ty (n : String)
 deriving DecidableEq
def RelV : V → Value → Prop
 | .cJ, u => u = Value.none
 | .bl b, u => u = Value.bool b
 | .int i, u => ∃ t, u = Value.int i t
 | .str x, u => ∃ t, u = Value.str x t
 | .IA b, u => ∃ t, u = Value.bytes b t
 | .Ot b, u => ∃ t, u = Value.float b t
 | .ref a, u => u = Value.ref a
 | .ty n, u => u = Value.type n
abbrev Vals : List V → List Value → Prop := Paired RelV
theorem Vals.length {xs : List V} {us : List Value} (r : Vals xs us) : xs.length = us.length := Paired.length r
theorem Vals.get : ∀ {xs : List V} {us : List Value} {i : Nat} {x : V}, Vals xs us → xs[i]? = some x → ∃ u, us[i]? = some u ∧ RelV x u
 | _, _, _, _, .nil, e => by simp at e
 | _, _, 0, _, .cons r _, e => by simp at e; subst e; exact ⟨_, rfl, r⟩
 | _, _, i + 1, x, .cons _ t, e => by
  obtain ⟨u, h1, h2⟩ := Vals.get (i := i) (x := x) t (by simpa using e)
  exact ⟨u, by simpa using h1, h2⟩
theorem Vals.set {x : V} {u : Value} (r : RelV x u) : ∀ {xs : List V} {us : List Value} (i : Nat), Vals xs us → Vals (xs.set i x) (us.set i u)
 | _, _, _, .nil => .nil
 | _, _, 0, .cons _ t => .cons r t
 | _, _, i + 1, .cons q t => .cons q (Vals.set r i t)
theorem Vals.append : ∀ {xs ys : List V} {us ws : List Value}, Vals xs us → Vals ys ws → Vals (xs ++ ys) (us ++ ws)
 | _, _, _, _, .nil, s => s
 | _, _, _, _, .cons r t, s => .cons r (Vals.append t s)
theorem Vals.take : ∀ {xs : List V} {us : List Value} (n : Nat), Vals xs us → Vals (xs.take n) (us.take n)
 | _, _, 0, _ => .nil
 | _, _, _ + 1, .nil => .nil
 | _, _, n + 1, .cons r t => .cons r (Vals.take n t)
theorem Vals.drop : ∀ {xs : List V} {us : List Value} (n : Nat), Vals xs us → Vals (xs.drop n) (us.drop n)
 | _, _, 0, r => r
 | _, _, _ + 1, .nil => .nil
 | _, _, n + 1, .cons _ t => Vals.drop n t
theorem Vals.none_of : ∀ {xs : List V} {us : List Value} {i : Nat}, Vals xs us → xs[i]? = none → us[i]? = none := fun {xs us i} r e => by
 have h1 := r.length
 have h2 : xs.length ≤ i := List.getElem?_eq_none_iff.mp e
 exact List.getElem?_eq_none_iff.mpr (by omega)
def kW : Option V → Option Value → Prop
 | some v, some u => RelV v u
 | none, none => True
 | _, _ => False
def KV {κ : Type} : List (κ × V) → List (κ × Value) → Prop := Paired fun (p : κ × V) (q : κ × Value) => p.1 = q.1 ∧ RelV p.2 q.2
def kV : Key → V
 | .inl i => .int i
 | .inr x => .str x
inductive HO where
 | lst (xs : List V)
 | tup (xs : List V)
 | dK (kvs : List (Key × V)) | dT (kvs : List (List Key × V))
 | set (S : Int → Bool) (n : Nat)
 | ins (C dx : Addr) (fs : List (Str × V))
 | own (x : Addr)
 | xd (fs : List (Str × V))
 | met (f x : Addr)
 | VJ (lo hi : Int)
 | tp (o : Obj) (u : HO)
 | Ou (ps : Array Value)
 | ext (φ : Heap → Prop)
abbrev Hp := Addr → Option HO
def upd (H : Hp) (a : Addr) (o : HO) : Hp := fun b => if b = a then some o else H b
theorem af {H : Hp} {a : Addr} {o : HO} : upd H a o a = some o := by unfold upd; rw [if_pos rfl]
theorem aq {H : Hp} {a b : Addr} {o : HO} (h : b ≠ a) : upd H a o b = H b := by unfold upd; rw [if_neg h]
theorem BL {H : Hp} {a b : Addr} {o u : HO} (h : H a = some o) (h' : H b = some u) (d : o ≠ u) : a ≠ b := by
 intro e; subst e; rw [h] at h'; exact d (Option.some.inj h')
theorem aI {H : Hp} {a b : Addr} {o : HO} (h : H a = some o) (h' : H b = none) : a ≠ b := by
 intro e; subst e; rw [h] at h'; cases h'
section
variable (P : Program) (w : World)
def cn (H : Hp) (h : Heap) (a : Addr) : HO → Prop
 | .lst xs => xs.length ≤ sizeLine ∧ ∃ (its : List Value) (n : Nat), Vals xs its ∧ h.get? a = some { cls := .type "list", data := .seq its.toArray n }
 | .tup xs => xs.length ≤ sizeLine ∧ ∃ its : List Value, Vals xs its ∧ IsTup h a its.toArray
 | .dK kvs => kvs.length ≤ sizeLine ∧ (a == sysModules) = false ∧ ∃ vs, KV kvs vs ∧ h.DictOf (bE P w) a vs
 | .dT kvs => kvs.length ≤ sizeLine ∧ (a == sysModules) = false ∧ ∃ xs : List (List Key × Addr × Value),
   Paired (fun (p : List Key × V) (q : List Key × Addr × Value) => p.1 = q.1 ∧ H q.2.1 = some (.tup (p.1.map kV)) ∧ RelV p.2 q.2.2) kvs xs ∧
   ∃ o es ep, h.get? a = some o ∧ o.ExactDict ∧ o.data = .dict es ep ∧ es.toList = xs.map (entryOfKey (tupleKind (bE P w))) ∧ (xs.map (·.1)).Nodup
 | .set S n => h.SetOf (intKind P w) a S n
 | .ins C dx fs => H dx = some (.own a) ∧ fs.length ≤ 1000 ∧ dx ≠ a ∧ h.get? a = some (PySem.W.instObj C dx) ∧
   ∃ mA, h.Ns1 dx mA ∧ (∀ f, kW (fs.lookup f) (mA f)) ∧ PySem.Within mA (fs.map (·.1))
 | .own _ => ∃ o, h.get? a = some o
 | .xd fs => ∃ mA, h.Ns1 a mA ∧ ∀ f, kW (fs.lookup f) (mA f)
 | .VJ lo hi => ∃ t u v, h.get? a = some { cls := .type "range", data := .fields #[.int lo t, .int hi u, .int 1 v] }
 | .tp o u => h.get? a = some o ∧ cn H h a u
 | .Ou ps => h.get? a = some { cls := .none, data := .fields ps }
 | .met f x => h.get? a = some (PySem.W.methodObj (.ref f) (.ref x))
 | .ext φ => φ h ∧ (∃ o, h.get? a = some o) ∧ ∀ h1 h2 : Heap, φ h1 → (∀ o, h1.get? a = some o → h2.get? a = some o) → φ h2
def nh (H : Hp) (h : Heap) : Prop := ∀ a o, H a = some o → cn P w H h a o
end
section
variable {P : Program} {w : World} {H H' : Hp} {h h' : Heap} {a : Addr} {o : HO}
theorem cn.lt (x : cn P w H h a o) : a < h.objs.size := by
 cases o with
 | lst xs => obtain ⟨_, _, _, _, e⟩ := x; exact Heap.lt_size e
 | tup xs => obtain ⟨_, _, _, p⟩ := x; exact p.lt
 | dK kvs => obtain ⟨_, _, _, _, o, _, _, e, _⟩ := x; exact Heap.lt_size e
 | dT kvs => obtain ⟨_, _, _, _, o, _, _, e, _⟩ := x; exact Heap.lt_size e
 | set S n => obtain ⟨o, _, _, _, e, _⟩ := x; exact Heap.lt_size e
 | ins C dx fs => obtain ⟨_, _, _, e, _⟩ := x; exact Heap.lt_size e
 | own y => obtain ⟨_, e⟩ := x; exact Heap.lt_size e
 | xd fs => obtain ⟨_, ⟨_, _, _, e, _⟩, _⟩ := x; exact Heap.lt_size e
 | VJ lo hi => obtain ⟨_, _, _, e⟩ := x; exact Heap.lt_size e
 | tp ob u => obtain ⟨e, _⟩ := x; exact Heap.lt_size e
 | Ou ps => exact Heap.lt_size (show h.get? a = some _ from x)
 | met f y => exact Heap.lt_size (show h.get? a = some _ from x)
 | ext φ => obtain ⟨_, ⟨_, e⟩, _⟩ := x; exact Heap.lt_size e
theorem Paired.bQ {α β : Type} {F G : α → β → Prop} : ∀ {l₁ : List α} {l₂ : List β}, Paired F l₁ l₂ → (∀ a b, F a b → G a b) → Paired G l₁ l₂
 | _, _, .nil, _ => .nil
 | _, _, .cons r t, f => .cons (f _ _ r) (Paired.bQ t f)
theorem cn.b7 (x : cn P w H h a o) (k : ∀ b u, (b = a ∨ H b = some (.own a)) → h.get? b = some u → h'.get? b = some u)
  (ho : ∀ b, H b = some (.own a) → H' b = some (.own a)) (ht : ∀ b xs, H b = some (.tup xs) → H' b = some (.tup xs)) : cn P w H' h' a o := by
 induction o with
 | lst xs => obtain ⟨z, its, n, r, e⟩ := x; exact ⟨z, its, n, r, k _ _ (.inl rfl) e⟩
 | tup xs => obtain ⟨z, its, r, ob, e, c⟩ := x; exact ⟨z, its, r, ob, k _ _ (.inl rfl) e, c⟩
 | dK kvs => obtain ⟨z, y, vs, r, ob, es, ep, e, c⟩ := x; exact ⟨z, y, vs, r, ob, es, ep, k _ _ (.inl rfl) e, c⟩
 | dT kvs =>
  obtain ⟨z, y, xs, r, ob, es, ep, e, c⟩ := x
  exact ⟨z, y, xs, Paired.bQ r fun p q z => ⟨z.1, ht _ _ z.2.1, z.2.2⟩, ob, es, ep, k _ _ (.inl rfl) e, c⟩
 | set S n => obtain ⟨ob, es, ep, t, e, c⟩ := x; exact ⟨ob, es, ep, t, k _ _ (.inl rfl) e, c⟩
 | ins C dx fs =>
  obtain ⟨d, z, ne, e, mA, ⟨od, es, ep, e2, c⟩, r⟩ := x
  exact ⟨ho _ d, z, ne, k _ _ (.inl rfl) e, mA, ⟨od, es, ep, k _ _ (.inr d) e2, c⟩, r⟩
 | own y => obtain ⟨ob, e⟩ := x; exact ⟨ob, k _ _ (.inl rfl) e⟩
 | xd fs => obtain ⟨mA, ⟨od, es, ep, e, c⟩, r⟩ := x; exact ⟨mA, ⟨od, es, ep, k _ _ (.inl rfl) e, c⟩, r⟩
 | VJ lo hi => obtain ⟨t, u, v, e⟩ := x; exact ⟨t, u, v, k _ _ (.inl rfl) e⟩
 | tp ob u ih => obtain ⟨e, q⟩ := x; exact ⟨k _ _ (.inl rfl) e, ih q⟩
 | Ou ps =>
  have e : h.get? a = some { cls := .none, data := .fields ps } := x
  show h'.get? a = some { cls := .none, data := .fields ps }
  exact k a _ (.inl rfl) e
 | met f y =>
  have e : h.get? a = some (PySem.W.methodObj (.ref f) (.ref y)) := x
  show h'.get? a = some (PySem.W.methodObj (.ref f) (.ref y))
  exact k a _ (.inl rfl) e
 | ext φ => obtain ⟨p, ⟨o, e⟩, st⟩ := x; exact ⟨st _ _ p fun o q => k _ _ (.inl rfl) q, ⟨o, k _ _ (.inl rfl) e⟩, st⟩
theorem nh.lt (x : nh P w H h) (e : H a = some o) : a < h.objs.size := (x a o e).lt
theorem nh.fresh (x : nh P w H h) (e : h.objs.size ≤ a) : H a = none := by
 cases q : H a with
 | none => rfl
 | some u => exact absurd (Nat.lt_of_lt_of_le (x.lt q) e) (Nat.lt_irrefl _)
theorem nh.kept (x : nh P w H h) (k : ∀ b u, h.get? b = some u → h'.get? b = some u) : nh P w H h' := fun a o e =>
 (x a o e).b7 (fun b u _ q => k b u q) (fun _ q => q) fun _ _ q => q
theorem nh.laid (x : nh P w H h) (k : ∀ b u, h.get? b = some u → h'.get? b = some u) (hp : h.objs.size ≤ a) (new : cn P w (upd H a o) h' a o) : nh P w (upd H a o) h' := fun b u e => by
 have hn := x.fresh hp
 by_cases hb : b = a
 ·subst hb; rw [af] at e; cases e; exact new
 ·rw [aq hb] at e
  exact (x b u e).b7 (fun c v _ q => k c v q) (fun c q => by rw [aq (aI q hn)]; exact q) fun c xs q => by rw [aq (aI q hn)]; exact q
end
def Rd (H : Hp) (a : Addr) (u : HO) : Prop := H a = some u ∨ ∃ o, H a = some (.tp o u)
theorem Rd.ok {P : Program} {w : World} {H : Hp} {h : Heap} {a : Addr} {u : HO} (r : Rd H a u) (x : nh P w H h) : cn P w H h a u := by
 rcases r with r | ⟨o, r⟩
 ·exact x a u r
 ·obtain ⟨_, q⟩ := x a _ r
  exact q
def QT : Option HO → Prop
 | some (.lst _) => True
 | some (.dK _) => True
 | some (.dT _) => True
 | some (.set _ _) => True
 | some (.ins _ _ _) => True
 | some (.ext _) => True
 | _ => False
section
variable {P : Program} {w : World} {H : Hp} {h h' : Heap} {x e : Addr} {o' : HO}
theorem nh.write (ok : nh P w H h) (mu : QT (H x)) (he : e = x ∨ H e = some (.own x)) (k : ∀ b u, b ≠ e → h.get? b = some u → h'.get? b = some u) (NF : ∃ u, h'.get? e = some u)
  (new : cn P w (upd H x o') h' x o') : nh P w (upd H x o') h' := fun b u q => by
 have QU : ∀ c y, H c = some (.own y) → c ≠ x := fun c y r z => by subst z; rw [r] at mu; exact mu
 have VL : ∀ c xs, H c = some (.tup xs) → c ≠ x := fun c xs r z => by subst z; rw [r] at mu; exact mu
 by_cases hb : b = x
 ·subst hb; rw [af] at q; cases q; exact new
 ·rw [aq hb] at q
  by_cases Ov : b = e
  ·have q' : H b = some (.own x) := by
    rcases he with z | z
    ·exact absurd (Ov.trans z) hb
    ·rw [Ov]; exact z
   rw [q] at q'; cases q'
   obtain ⟨v, hv⟩ := NF
   exact ⟨v, by rw [Ov]; exact hv⟩
  ·refine (ok b u q).b7 (fun c v hc r => k c v ?_ r) (fun c r => by rw [aq (QU c b r)]; exact r) fun c xs r => by rw [aq (VL c xs r)]; exact r
   rcases hc with rfl | hc
   ·exact Ov
   ·rintro rfl
    rcases he with z | z
    ·exact QU c b hc z
    ·rw [hc] at z; cases z; exact hb rfl
end
structure Un (fs ex : List Addr) (H H' : Hp) (h h' : Heap) : Prop where
 keep : ∀ b o, h.get? b = some o → H b = none → b ∉ fs → b ∉ ex → h'.get? b = some o
 slot : ∀ b o, h.get? b = some o → H b = none → b ∈ fs → b ∉ ex → ∃ sl, h'.get? b = some { o with slots := sl }
 free : ∀ b o, h.get? b = some o → H b = none → b ∉ ex → H' b = none
 there : ∀ b o, h.get? b = some o → b ∉ ex → ∃ o', h'.get? b = some o'
 tq : ∀ b xs, H b = some (.tup xs) → H' b = some (.tup xs)
 rR : ∀ b o u, H b = some (.tp o u) → H' b = some (.tp o u)
 tu : ∀ b ps, H b = some (.Ou ps) → ∃ more, H' b = some (.Ou (ps ++ more))
section
variable {fs Ow ex ex' : List Addr} {H H1 H2 : Hp} {h h1 h2 h' : Heap} {a x e : Addr} {o : HO}
theorem Un.any (u : Un fs ex H H1 h h1) {b : Addr} {ob : Obj} (q : h.get? b = some ob) (n : H b = none) (hx : b ∉ ex) : ∃ sl, h1.get? b = some { ob with slots := sl } := by
 by_cases hb : b ∈ fs
 ·exact u.slot b ob q n hb hx
 ·exact ⟨ob.slots, u.keep b ob q n hb hx⟩
theorem Un.trans (a : Un fs ex H H1 h h1) (b : Un fs ex H1 H2 h1 h2) : Un fs ex H H2 h h2 where
 keep := fun c ob q n hc hx => b.keep c ob (a.keep c ob q n hc hx) (a.free c ob q n hx) hc hx
 slot := fun c ob q n hc hx => by
  obtain ⟨sl, e1⟩ := a.slot c ob q n hc hx
  obtain ⟨VM, e2⟩ := b.slot c _ e1 (a.free c ob q n hx) hc hx
  exact ⟨VM, e2⟩
 free := fun c ob q n hx => by
  obtain ⟨o', e1⟩ := a.there c ob q hx
  exact b.free c o' e1 (a.free c ob q n hx) hx
 there := fun c ob q hx => by
  obtain ⟨o', e1⟩ := a.there c ob q hx
  exact b.there c o' e1 hx
 tq := fun c xs q => b.tq c xs (a.tq c xs q)
 rR := fun c ob xs q => b.rR c ob xs (a.rR c ob xs q)
 tu := fun c ps q => by
  obtain ⟨m1, e1⟩ := a.tu c ps q
  obtain ⟨m2, e2⟩ := b.tu c _ e1
  exact ⟨m1 ++ m2, by rw [e2, Array.append_assoc]⟩
theorem Un.kept (k : ∀ b u, h.get? b = some u → h'.get? b = some u) : Un fs ex H H h h' :=
 ⟨fun b ob q _ _ _ => k b ob q, fun b ob q _ _ _ => ⟨ob.slots, k b ob q⟩, fun _ _ _ n _ => n, fun b ob q _ => ⟨ob, k b ob q⟩, fun _ _ q => q, fun _ _ _ q => q, fun _ ps q => ⟨#[], by rw [q]; simp⟩⟩
theorem Un.refl : Un fs ex H H h h := Un.kept fun _ _ q => q
theorem Un.laid (k : ∀ b u, h.get? b = some u → h'.get? b = some u) (hp : h.objs.size ≤ a) (hn : H a = none) : Un fs ex H (upd H a o) h h' where
 keep := fun b u q _ _ _ => k b u q
 slot := fun b u q _ _ _ => ⟨u.slots, k b u q⟩
 free := fun b u q n _ => by rw [aq (Nat.ne_of_lt (Nat.lt_of_lt_of_le (Heap.lt_size q) hp))]; exact n
 there := fun b u q _ => ⟨u, k b u q⟩
 tq := fun b xs q => by rw [aq (aI q hn)]; exact q
 rR := fun b u xs q => by rw [aq (aI q hn)]; exact q
 tu := fun b ps q => ⟨#[], by rw [aq (aI q hn), q]; simp⟩
theorem Un.write (mu : QT (H x)) (he : e = x ∨ H e = some (.own x)) (k : ∀ b u, b ≠ e → h.get? b = some u → h'.get? b = some u) (NF : ∃ u, h'.get? e = some u) : Un fs ex H (upd H x o) h h' := by
 have hx : ∀ b, H b = none → b ≠ x := fun b n z => by subst z; rw [n] at mu; exact mu
 have hb : ∀ b, H b = none → b ≠ e := fun b n z => by
  subst z
  rcases he with r | r
  ·exact hx b n r
  ·rw [n] at r; cases r
 have hm : ∀ b u, H b = some u → ¬ QT (some u) → b ≠ x := fun b u q nm z => by subst z; rw [q] at mu; exact nm mu
 refine ⟨fun b u q n _ _ => k b u (hb b n) q, fun b u q n _ _ => ⟨u.slots, k b u (hb b n) q⟩, fun b u q n _ => by rw [aq (hx b n)]; exact n, fun b u q _ => ?_,
  fun b xs q => by rw [aq (hm b _ q fun z => z)]; exact q, fun b u xs q => by rw [aq (hm b _ q fun z => z)]; exact q, fun b ps q => ⟨#[], by rw [aq (hm b _ q fun z => z), q]; simp⟩⟩
 by_cases Ov : b = e
 ·subst Ov; exact NF
 ·exact ⟨u, k b u Ov q⟩
end
def UU (h : Heap) (H : Hp) : List Addr := (List.range h.objs.size).filter fun a => (H a).isSome
def yF (h : Heap) (H : Hp) : Heap := PySem.W.hideAll h (UU h H)
theorem GO (h : Heap) (H : Hp) : (yF h H).objs.size = h.objs.size := PySem.W.hideAll_size _ _
theorem IH {h : Heap} {H : Hp} {b : Addr} {o : Obj} (e : h.get? b = some o) (n : H b = none) : (yF h H).get? b = some o :=
 PySem.W.hideAll_get _ e fun hm => by
  have q : (H b).isSome = true := (List.mem_filter.mp hm).2
  rw [n] at q; simp at q
theorem L4 {h : Heap} {H : Hp} {b : Addr} {o : Obj} (e : (yF h H).get? b = some o) : h.get? b = some o ∧ H b = none := by
 have e' : h.get? b = some o := PySem.W.of_hideAll (UU h H) e
 refine ⟨e', ?_⟩
 cases q : H b with
 | none => rfl
 | some x =>
  have hm : b ∈ UU h H := List.mem_filter.mpr ⟨List.mem_range.mpr (Heap.lt_size e'), by simp [q]⟩
  have z : (yF h H).get? b = none := PySem.W.hideAll_none (UU h H) hm
  rw [z] at e; cases e
def L5 (g h : Heap) (L : Addr) : List (Addr × Obj) := (List.range h.objs.size).filterMap fun a => if a = L ∨ (g.get? a).isSome = true then none else (h.get? a).map fun o => (a, o)
def rest (g h : Heap) (L d : Addr) : List (Addr × Obj) := (L5 g h L).filter fun p => decide (p.1 ≠ d)
end L2
namespace L2
open PySem PySem.Spec PyProof.Rows
structure Mod (K : PySem.W.Frag) (mg : Str → Option Value) (base : Heap) : Prop where
 QV : K.In base
 glob : base.Ns mainGlobals mg
 blt : ∃ mb, base.Ns builtinsNs mb ∧ ∀ x : Str, x ≠ "__name__" → mb x = bootBuiltins x
 nolimit : base.NoLimit
structure Cx where
 prog : Program
 w : World
 K : PySem.W.Frag
 mg : Str → Option Value
 base : Heap
 A : Around
 N : List Str
 s₀ : Shared
 H₀ : Hp
 env : Env
 outer : List Env
 stack : List Env
 ex : List Addr
 fn : Str → Bool
 calm : Bool
 pn : List (Addr × Obj)
 xe : Value → Shared → Prop
def BM (l : List Env) : List Addr := l.filterMap (·.frame)
abbrev Cx.fs (X : Cx) : List Addr := BM X.outer
def UW (sc : Scope) (x : Str) : Prop := sc.names.lookup x = some .local ∨ sc.names.lookup x = some .cell ∨ sc.names.lookup x = some .free
def Loc (sc : Scope) (x : Str) : Prop := sc.names.lookup x = some .local ∨ sc.names.lookup x = some .cell
def Look (env : Env) (h : Heap) (m : Str → Option Value) (x : Str) (u : Value) : Prop :=
 (env.kindOf x = some .local ∧ m x = some u) ∨ ((env.kindOf x = some .cell ∨ env.kindOf x = some .free) ∧ ∃ c, env.cells.lookup x = some c ∧ h.IsCell c (some u))
structure Cx.Ok (X : Cx) : Prop where
 mod : Mod X.K X.mg X.base
 kind : X.env.scope.kind = .function
 glob : X.env.globals = mainGlobals
 blt : X.env.builtins = builtinsNs
 above : X.s₀.heap.objs.size ≤ X.env.locals
 inj : ∀ x y c, X.env.cells.lookup x = some c → X.env.cells.lookup y = some c → x = y
 has : ∀ x, (X.env.kindOf x = some .cell ∨ X.env.kindOf x = some .free) → ∃ c, X.env.cells.lookup x = some c
 QW : ∀ x c, X.fn x = true → X.env.cells.lookup x = some c → X.s₀.heap.objs.size ≤ c
 hd : X.calm = true → X.A.handled = none
 frames : X.A.frames = some X.stack
 UX : X.stack = X.outer ∨ (X.stack = X.env :: X.outer ∧ X.env.frame = some X.env.locals)
 YC : ∀ b ∈ X.ex, b ≠ X.env.locals ∧ ∀ x c, X.env.cells.lookup x = some c → c ≠ b
 bs : ∀ b o, X.base.get? b = some o → X.s₀.heap.get? b = some o ∧ X.H₀ b = none
 FD : X.base.objs.size ≤ X.s₀.heap.objs.size
 DC : ∀ b o, X.base.get? b = some o → b ∉ X.ex
 L6 : ∀ b ∈ X.ex, b ∉ X.fs
 pZ : X.s₀.heap.FunFrames X.base X.outer
 NG : ∀ b ∈ X.fs, X.H₀ b = none
structure Inv (X : Cx) (pins : List (Addr × Obj)) (σ : List (Option V)) (H : Hp) (s : Shared) : Prop where
 ok : X.Ok
 os : s.os = X.s₀.os
 bare : AllBare s.gens
 base : Un X.fs X.ex X.H₀ H X.s₀.heap s.heap
 loc : ∃ m, s.heap.Ns X.env.locals m ∧ ∀ (i : Nat) (x : Str) (v : V), X.N[i]? = some x → σ[i]? = some (some v) → UW X.env.scope x → ∃ u, RelV v u ∧ Look X.env s.heap m x u
 cell : ∀ x c, X.env.cells.lookup x = some c → ∃ v, s.heap.IsCell c v
 free : H X.env.locals = none
 kR : ∀ x c, X.env.cells.lookup x = some c → H c = none
 pin : ∀ p ∈ X.pn ++ pins, s.heap.get? p.1 = some p.2 ∧ H p.1 = none ∧ p.1 ≠ X.env.locals ∧ p.1 ∉ X.fs ∧ ∀ v, p.2.data ≠ .cell v
 bt : nh X.prog X.w H s.heap
 len : σ.length = X.N.length
section
variable {X : Cx} {pins : List (Addr × Obj)} {σ : List (Option V)} {H H' : Hp} {s : Shared} {h' : Heap}
theorem Cx.Ok.VN (ok : X.Ok) {b : Addr} {o : Obj} (e : X.base.get? b = some o) : b ∉ X.fs := fun hb => by
 have := (ok.pZ.mem hb).1
 rw [e] at this; cases this
theorem Inv.bs (I : Inv X pins σ H s) : ∀ b o, X.base.get? b = some o → s.heap.get? b = some o ∧ H b = none := fun b o e =>
 ⟨I.base.keep b o (I.ok.bs b o e).1 (I.ok.bs b o e).2 (I.ok.VN e) (I.ok.DC b o e), I.base.free b o (I.ok.bs b o e).1 (I.ok.bs b o e).2 (I.ok.DC b o e)⟩
theorem Inv.bk (I : Inv X pins σ H s) : ∀ b o, X.base.get? b = some o → s.heap.get? b = some o := fun b o e => (I.bs b o e).1
theorem Inv.mod (I : Inv X pins σ H s) : Mod X.K X.mg X.base := I.ok.mod
theorem Inv.rm (I : Inv X pins σ H s) : X.K.In s.heap := I.ok.mod.QV.keeps I.bk
theorem Inv.nolimit (I : Inv X pins σ H s) : s.heap.NoLimit := I.ok.mod.nolimit.keeps I.bk
theorem Inv.lt (I : Inv X pins σ H s) : X.env.locals < s.heap.objs.size := let ⟨_, hn, _⟩ := I.loc; hn.lt
theorem Inv.sz (I : Inv X pins σ H s) : X.s₀.heap.objs.size ≤ s.heap.objs.size := Nat.le_trans I.ok.above (Nat.le_of_lt I.lt)
theorem Inv.VO (I : Inv X pins σ H s) {a : Addr} (h : s.heap.objs.size ≤ a) : a ∉ X.fs := fun hb => by
 obtain ⟨_, o, ho, _⟩ := I.ok.pZ.mem hb
 exact absurd (Nat.lt_of_lt_of_le (Heap.lt_size ho) (Nat.le_trans I.sz h)) (Nat.lt_irrefl _)
theorem Inv.II (I : Inv X pins σ H s) : ∀ x c, X.env.cells.lookup x = some c → c ≠ X.env.locals := fun x c e z => by
 obtain ⟨v, o, ho, hd⟩ := I.cell x c e
 obtain ⟨m, ⟨o', es, ep, L7, VP, _⟩, _⟩ := I.loc
 rw [z, L7] at ho; cases ho; rw [VP] at hd; cases hd
theorem Inv.pZ (I : Inv X pins σ H s) : s.heap.FunFrames X.base X.outer := by
 have all : ∀ (l : List Env), (∀ b ∈ BM l, b ∈ X.fs) → X.s₀.heap.FunFrames X.base l → s.heap.FunFrames X.base l := by
  intro l
  induction l with
  | nil => intro _ _; trivial
  | cons env r ih =>
   intro hs hl
   obtain ⟨hk, ⟨L, o, hf, hn, ho, hd⟩, hr⟩ := hl
   have hL : L ∈ X.fs := hs L (by unfold BM; rw [List.filterMap_cons, hf]; exact List.mem_cons_self)
   obtain ⟨sl, e⟩ := I.base.slot L o ho (I.ok.NG L hL) hL fun z => I.ok.L6 L z hL
   exact ⟨hk, ⟨L, _, hf, hn, e, hd⟩, ih (fun b hb => hs b (by unfold BM; rw [List.filterMap_cons, hf]; exact List.mem_cons_of_mem _ hb)) hr⟩
 exact all X.outer (fun _ hb => hb) I.ok.pZ
theorem Inv.stack (I : Inv X pins σ H s) : s.heap.FunFrames X.base X.stack := by
 rcases I.ok.UX with e | ⟨e, hf⟩
 ·rw [e]; exact I.pZ
 ·rw [e]
  obtain ⟨m, hn, _⟩ := I.loc
  refine .cons (by rw [I.ok.kind]; decide) hf hn ?_ I.pZ
  exact Heap.get?_none_of_le (Nat.le_trans I.ok.FD I.ok.above)
theorem Inv.k0 (I : Inv X pins σ H s) : ∀ b ∈ BM X.stack, b ∈ X.env.locals :: X.fs := fun b hb => by
 rcases I.ok.UX with e | ⟨e, hf⟩
 ·rw [e] at hb; exact List.mem_cons_of_mem _ hb
 ·rw [e] at hb
  unfold BM at hb
  rw [List.filterMap_cons, hf] at hb
  exact hb
theorem Inv.sy (I : Inv X pins σ H s) : ∀ b ∈ BM X.stack, H b = none := fun b hb => by
 rcases List.mem_cons.mp (I.k0 b hb) with e | hb
 ·rw [e]; exact I.free
 ·obtain ⟨_, o, ho, _⟩ := I.ok.pZ.mem hb
  exact I.base.free b o ho (I.ok.NG b hb) fun z => I.ok.L6 b z hb
theorem Inv.step {g' : Array GenState} {t' : Nat} {d' : Drawn} {ch : List Addr} (I : Inv X pins σ H s)
  (LW : ∀ b ∈ ch, (b ∈ X.ex ∨ X.s₀.heap.objs.size ≤ b) ∧ b ≠ X.env.locals ∧ (∀ x c, X.env.cells.lookup x = some c → c ≠ b) ∧ ∀ p ∈ X.pn ++ pins, p.1 ≠ b)
  (keep : ∀ b o, b ≠ X.env.locals → b ∉ X.fs → b ∉ ch → s.heap.get? b = some o → H b = none → h'.get? b = some o)
  (slot : ∀ b o, b ≠ X.env.locals → b ∈ X.fs → b ∉ ch → s.heap.get? b = some o → H b = none → ∃ sl, h'.get? b = some { o with slots := sl }) (free : ∀ b o, b ∉ ch → s.heap.get? b = some o → H b = none → H' b = none)
  (there : ∀ b o, b ∉ ch → s.heap.get? b = some o → ∃ o', h'.get? b = some o')
  (tq : ∀ b xs, H b = some (.tup xs) → H' b = some (.tup xs)) (rR : ∀ b o u, H b = some (.tp o u) → H' b = some (.tp o u)) (tu : ∀ b ps, H b = some (.Ou ps) → ∃ more, H' b = some (.Ou (ps ++ more)))
  (ns : ∀ m, s.heap.Ns X.env.locals m → h'.Ns X.env.locals m) (bt : nh X.prog X.w H' h') (hg : AllBare g') :
  Inv X pins σ H' { s with heap := h', gens := g', drawn := d', toks := t' } := by
 have YD : ∀ b o, X.s₀.heap.get? b = some o → b ≠ X.env.locals := fun b o e => Nat.ne_of_lt (Nat.lt_of_lt_of_le (Heap.lt_size e) I.ok.above)
 have UY : ∀ b o, X.s₀.heap.get? b = some o → b ∉ X.ex → b ∉ ch := fun b o e hx hb => by
  rcases (LW b hb).1 with z | z
  ·exact hx z
  ·exact absurd (Nat.lt_of_lt_of_le (Heap.lt_size e) z) (Nat.lt_irrefl _)
 have cellK : ∀ x c, X.env.cells.lookup x = some c → ∀ v, s.heap.IsCell c v → h'.IsCell c v := fun x c e v ⟨o, ho, hd⟩ => by
  have QX : c ∉ ch := fun z => (LW c z).2.2.1 x c e rfl
  by_cases hc : c ∈ X.fs
  ·obtain ⟨sl, q⟩ := slot c o (I.II x c e) hc QX ho (I.kR x c e)
   exact ⟨_, q, hd⟩
  ·exact ⟨o, keep c o (I.II x c e) hc QX ho (I.kR x c e), hd⟩
 refine ⟨I.ok, I.os, hg, ⟨fun b o e n hb hx => ?_, fun b o e n hb hx => ?_, fun b o e n hx => ?_, fun b o e hx => ?_, fun b xs e => tq b xs (I.base.tq b xs e), fun b o xs e => rR b o xs (I.base.rR b o xs e), fun b ps e => ?_⟩, ?_, fun x c e => ?_, ?_, fun x c e => ?_, fun p hp => ?_, bt, I.len⟩
 ·exact keep b o (YD b o e) hb (UY b o e hx) (I.base.keep b o e n hb hx) (I.base.free b o e n hx)
 ·obtain ⟨sl, e1⟩ := I.base.slot b o e n hb hx
  obtain ⟨VM, e2⟩ := slot b _ (YD b o e) hb (UY b o e hx) e1 (I.base.free b o e n hx)
  exact ⟨VM, e2⟩
 ·obtain ⟨o', e1⟩ := I.base.there b o e hx
  exact free b o' (UY b o e hx) e1 (I.base.free b o e n hx)
 ·obtain ⟨o', e1⟩ := I.base.there b o e hx
  exact there b o' (UY b o e hx) e1
 ·obtain ⟨m1, e1⟩ := I.base.tu b ps e
  obtain ⟨m2, e2⟩ := tu b _ e1
  exact ⟨m1 ++ m2, by rw [e2, Array.append_assoc]⟩
 ·obtain ⟨m, hn, hl⟩ := I.loc
  refine ⟨m, ns m hn, fun i x v e1 e2 e3 => ?_⟩
  obtain ⟨u, r, l⟩ := hl i x v e1 e2 e3
  refine ⟨u, r, ?_⟩
  rcases l with l | ⟨k, c, e, z⟩
  ·exact .inl l
  ·exact .inr ⟨k, c, e, cellK x c e _ z⟩
 ·obtain ⟨v, z⟩ := I.cell x c e
  exact ⟨v, cellK x c e v z⟩
 ·obtain ⟨m, ⟨o, _, _, ho, _⟩, _⟩ := I.loc
  exact free _ o (fun z => (LW _ z).2.1 rfl) ho I.free
 ·obtain ⟨v, o, ho, hd⟩ := I.cell x c e
  exact free c o (fun z => (LW c z).2.2.1 x c e rfl) ho (I.kR x c e)
 ·obtain ⟨e, n, ne, nf, d⟩ := I.pin p hp
  have QX : p.1 ∉ ch := fun z => (LW p.1 z).2.2.2 p hp rfl
  exact ⟨keep p.1 p.2 ne nf QX e n, free p.1 p.2 QX e n, ne, nf, d⟩
theorem Inv.un {t' : Nat} (I : Inv X pins σ H s) (u : Un X.fs [] H H' s.heap h') (bt : nh X.prog X.w H' h') : Inv X pins σ H' { s with heap := h', toks := t' } := by
 obtain ⟨m, ⟨o, es, ep, ho, r⟩, _⟩ := id I.loc
 obtain ⟨sl, hL⟩ := u.any ho I.free (by simp)
 exact I.step (g' := s.gens) (d' := s.drawn) (ch := []) (fun _ z => nomatch z) (fun b o _ hb _ e n => u.keep b o e n hb (by simp)) (fun b o _ hb _ e n => u.slot b o e n hb (by simp)) (fun b o _ e n => u.free b o e n (by simp)) (fun b o _ e => u.there b o e (by simp)) u.tq u.rR u.tu (fun m' hm => by
  obtain ⟨o', VQ, VR, L7, r'⟩ := hm
  rw [ho] at L7; cases L7
  exact ⟨_, VQ, VR, hL, r'⟩) bt I.bare
theorem Inv.call {g' : Array GenState} {t' : Nat} {d' : Drawn} {ch : List Addr} (I : Inv X pins σ H s) (u : Un (BM X.stack) ch H H' s.heap h') (bt : nh X.prog X.w H' h') (hg : AllBare g')
  (LW : ∀ b ∈ ch, (b ∈ X.ex ∨ X.s₀.heap.objs.size ≤ b) ∧ b ≠ X.env.locals ∧ (∀ x c, X.env.cells.lookup x = some c → c ≠ b) ∧ ∀ p ∈ X.pn ++ pins, p.1 ≠ b) :
  Inv X pins σ H' { s with heap := h', gens := g', drawn := d', toks := t' } := by
 obtain ⟨m, ⟨o, es, ep, ho, r⟩, _⟩ := id I.loc
 obtain ⟨sl, hL⟩ := u.any ho I.free fun z => (LW _ z).2.1 rfl
 exact I.step (ch := ch) LW (fun b o hL hb hc e n => u.keep b o e n (fun z => (List.mem_cons.mp (I.k0 b z)).elim hL hb) hc) (fun b o _ _ hc e n => u.any e n hc) (fun b o hc e n => u.free b o e n hc) (fun b o hc e => u.there b o e hc) u.tq u.rR u.tu (fun m' hm => by
  obtain ⟨o', VQ, VR, L7, r'⟩ := hm
  rw [ho] at L7; cases L7
  exact ⟨_, VQ, VR, hL, r'⟩) bt hg
theorem Inv.turned {t' : Nat} {it : Addr} (I : Inv X pins σ H s) (k : ∀ b o, b ≠ it → s.heap.get? b = some o → h'.get? b = some o) (hn : H it = none) (hL : it ≠ X.env.locals)
  (h1 : it ∈ X.ex ∨ X.s₀.heap.objs.size ≤ it) (h2 : ∀ x c, X.env.cells.lookup x = some c → c ≠ it) (h3 : ∀ p ∈ X.pn ++ pins, p.1 ≠ it) : Inv X pins σ H { s with heap := h', toks := t' } := by
 have QY : ∀ b u, H b = some u → b ≠ it := fun b u e z => by rw [z, hn] at e; cases e
 refine I.step (g' := s.gens) (d' := s.drawn) (ch := [it]) (fun b hb => ?_) (fun b o _ _ hc e _ => k b o (fun z => hc (by simp [z])) e) (fun b o _ _ hc e _ => ⟨o.slots, k b o (fun z => hc (by simp [z])) e⟩) (fun _ _ _ _ n => n)
  (fun b o hc e => ⟨o, k b o (fun z => hc (by simp [z])) e⟩) (fun _ _ e => e) (fun _ _ _ e => e) (fun b ps e => ⟨#[], by rw [e]; simp⟩) (fun m hm => ?_) (fun b u e => ?_) I.bare
 ·have e : b = it := by simpa using hb
  subst e
  exact ⟨h1, hL, h2, h3⟩
 ·obtain ⟨o, es, ep, ho, r⟩ := hm
  exact ⟨o, es, ep, k _ o (Ne.symm hL) ho, r⟩
 ·refine (I.bt b u e).b7 (fun c v hc q => k c v ?_ q) (fun _ q => q) fun _ _ q => q
  rcases hc with z | z
  ·rw [z]; exact QY b u e
  ·exact QY c _ z
theorem Inv.tok (I : Inv X pins σ H s) (t : Nat) : Inv X pins σ H { s with toks := t } := I.un (h' := s.heap) (t' := t) Un.refl I.bt
theorem Inv.kept {t' : Nat} (I : Inv X pins σ H s) (k : ∀ b u, s.heap.get? b = some u → h'.get? b = some u) : Inv X pins σ H { s with heap := h', toks := t' } := I.un (Un.kept k) (I.bt.kept k)
theorem Inv.laid {a : Addr} {o : HO} {t' : Nat} (I : Inv X pins σ H s) (k : ∀ b u, s.heap.get? b = some u → h'.get? b = some u) (hp : s.heap.objs.size ≤ a) (new : cn X.prog X.w (upd H a o) h' a o) :
  Inv X pins σ (upd H a o) { s with heap := h', toks := t' } := I.un (Un.laid k hp (I.bt.fresh hp)) (I.bt.laid k hp new)
theorem Inv.write {x e : Addr} {o : HO} {t' : Nat} (I : Inv X pins σ H s) (mu : QT (H x)) (he : e = x ∨ H e = some (.own x)) (k : ∀ b u, b ≠ e → s.heap.get? b = some u → h'.get? b = some u) (NF : ∃ u, h'.get? e = some u)
  (new : cn X.prog X.w (upd H x o) h' x o) : Inv X pins σ (upd H x o) { s with heap := h', toks := t' } := I.un (Un.write mu he k NF) (I.bt.write mu he k NF new)
theorem Inv.FE {NH : List (Addr × Obj)} (I : Inv X pins σ H s) (h : ∀ p ∈ NH, s.heap.get? p.1 = some p.2 ∧ H p.1 = none ∧ p.1 ≠ X.env.locals ∧ p.1 ∉ X.fs ∧ ∀ v, p.2.data ≠ .cell v) : Inv X NH σ H s :=
 ⟨I.ok, I.os, I.bare, I.base, I.loc, I.cell, I.free, I.kR, fun p hp => (List.mem_append.mp hp).elim (fun z => I.pin p (List.mem_append_left _ z)) (h p), I.bt, I.len⟩
theorem BN {N : List Str} (hN : N.Nodup) {i j : Nat} {x : Str} (a : N[i]? = some x) (b : N[j]? = some x) : i = j := by
 obtain ⟨h1, e1⟩ := List.getElem?_eq_some_iff.mp a
 obtain ⟨h2, e2⟩ := List.getElem?_eq_some_iff.mp b
 exact (List.getElem_inj hN).mp (e1.trans e2.symm)
theorem xJ {M : Model} {A : Around} {E : Value → Shared → Prop} {i : Nat} {x : Str} {v : V} {u : Value} {Q : Unit → Shared → Prop} (I : Inv X pins σ H s) (hN : X.N.Nodup) (hi : X.N[i]? = some x) (hx : Loc X.env.scope x) (r : RelV v u)
  (h : ∀ s', Inv X pins (σ.set i (some v)) H s' → (∃ a, Heap.SameBut a s.heap s'.heap ∧ (a = X.env.locals ∨ X.env.cells.lookup x = some a)) → Q () s') (hf : X.fn x = true ∨ X.env.scope.names.lookup x = some .local := by first | exact .inl rfl | exact .inr rfl | assumption) : wpAny M A (storeName X.env x u) Q E s := by
 obtain ⟨m, hn, hl⟩ := id I.loc
 have VS : (X.env.scope.kind == .class || (X.env.scope.kind == .module && X.env.locals != X.env.globals)) = false := by rw [I.ok.kind]; rfl
 have YE : i < σ.length := by rw [I.len]; exact (List.getElem?_eq_some_iff.mp hi).1
 have II := I.II
 have tracked : ∀ {a : Addr} {h' : Heap}, (∃ o, s.heap.get? a = some o ∧ H a = none) → Heap.SameBut a s.heap h' → nh X.prog X.w H h' := fun {a h'} ha hs b ob e => by
  obtain ⟨_, _, rn⟩ := ha
  refine (I.bt b ob e).b7 (fun c w' hc q => (hs.2 c ?_).trans q) (fun _ q => q) fun _ _ q => q
  rintro rfl
  rcases hc with rfl | hc
  ·rw [rn] at e; cases e
  ·rw [rn] at hc; cases hc
 rcases hx with hk | hk
 ·refine wpAny_storeName_local hk hn (fun h' IJ hs => ?_) VS
  obtain ⟨oL, _, _, hoL, _⟩ := id hn
  refine h _ ⟨I.ok, I.os, I.bare, ⟨fun b o e n hb hx => ?_, fun b o e n hb hx => ?_, I.base.free, fun b o e hx => ?_, I.base.tq, I.base.rR, I.base.tu⟩, ⟨_, IJ, fun j y v' e1 e2 e3 => ?_⟩, fun y c e => ?_, I.free, I.kR, fun p hp => ?_, tracked ⟨oL, hoL, I.free⟩ hs, by simpa using I.len⟩ ⟨_, hs, .inl rfl⟩
  ·exact (hs.2 b (Nat.ne_of_lt (Nat.lt_of_lt_of_le (Heap.lt_size e) I.ok.above))).trans (I.base.keep b o e n hb hx)
  ·obtain ⟨sl, e1⟩ := I.base.slot b o e n hb hx
   exact ⟨sl, (hs.2 b (Nat.ne_of_lt (Nat.lt_of_lt_of_le (Heap.lt_size e) I.ok.above))).trans e1⟩
  ·obtain ⟨o', e1⟩ := I.base.there b o e hx
   exact ⟨o', (hs.2 b (Nat.ne_of_lt (Nat.lt_of_lt_of_le (Heap.lt_size e) I.ok.above))).trans e1⟩
  ·by_cases hj : j = i
   ·subst hj
    rw [hi] at e1; cases e1
    rw [List.getElem?_set_self YE] at e2
    cases e2
    exact ⟨u, r, .inl ⟨hk, by simp⟩⟩
   ·rw [List.getElem?_set_ne (Ne.symm hj)] at e2
    obtain ⟨u', r', q⟩ := hl j y v' e1 e2 e3
    refine ⟨u', r', ?_⟩
    rcases q with ⟨k, e⟩ | ⟨k, c, e, z⟩
    ·refine .inl ⟨k, ?_⟩
     have : y ≠ x := fun e => hj (BN hN e1 (e ▸ hi))
     simp [this, e]
    ·exact .inr ⟨k, c, e, z.sameBut hs (II y c e)⟩
  ·obtain ⟨w', z⟩ := I.cell y c e
   exact ⟨w', z.sameBut hs (II y c e)⟩
  ·obtain ⟨e, n, ne, nf, d⟩ := I.pin p hp
   exact ⟨(hs.2 p.1 ne).trans e, n, ne, nf, d⟩
 ·have L8 : X.fn x = true := by
   rcases hf with z | z
   ·exact z
   ·rw [z] at hk; cases hk
  obtain ⟨c, hc⟩ := I.ok.has x (.inl hk)
  obtain ⟨w', z⟩ := I.cell x c hc
  refine wpAny_storeName_cell I.ok.kind hk hc z (fun h' UZ hs => ?_)
  obtain ⟨oc, Ox, VT⟩ := id z
  refine h { s with heap := h' } ⟨I.ok, I.os, I.bare, ⟨fun b o e n hb hx => ?_, fun b o e n hb hx => ?_, I.base.free, fun b o e hx => ?_, I.base.tq, I.base.rR, I.base.tu⟩, ⟨m, hn.sameBut hs (Ne.symm (II x c hc)), fun j y v' e1 e2 e3 => ?_⟩, fun y c' e => ?_, I.free, I.kR, fun p hp => ?_, tracked ⟨oc, Ox, I.kR x c hc⟩ hs, by simpa using I.len⟩ ⟨c, hs, .inr hc⟩
  ·exact (hs.2 b (Nat.ne_of_lt (Nat.lt_of_lt_of_le (Heap.lt_size e) (I.ok.QW x c L8 hc)))).trans (I.base.keep b o e n hb hx)
  ·obtain ⟨sl, e1⟩ := I.base.slot b o e n hb hx
   exact ⟨sl, (hs.2 b (Nat.ne_of_lt (Nat.lt_of_lt_of_le (Heap.lt_size e) (I.ok.QW x c L8 hc)))).trans e1⟩
  ·obtain ⟨o', e1⟩ := I.base.there b o e hx
   exact ⟨o', (hs.2 b (Nat.ne_of_lt (Nat.lt_of_lt_of_le (Heap.lt_size e) (I.ok.QW x c L8 hc)))).trans e1⟩
  ·by_cases hj : j = i
   ·subst hj
    rw [hi] at e1; cases e1
    rw [List.getElem?_set_self YE] at e2
    cases e2
    exact ⟨u, r, .inr ⟨.inl hk, c, hc, UZ⟩⟩
   ·rw [List.getElem?_set_ne (Ne.symm hj)] at e2
    obtain ⟨u', r', q⟩ := hl j y v' e1 e2 e3
    refine ⟨u', r', ?_⟩
    rcases q with q | ⟨k, c', e, z'⟩
    ·exact .inl q
    ·refine .inr ⟨k, c', e, z'.sameBut hs ?_⟩
     rintro rfl
     exact hj (BN hN e1 (I.ok.inj _ _ _ e hc ▸ hi))
  ·by_cases YF : c' = c
   ·subst YF; exact ⟨_, UZ⟩
   ·obtain ⟨w2, z2⟩ := I.cell y c' e
    exact ⟨w2, z2.sameBut hs YF⟩
  ·obtain ⟨e, n, ne, nf, d⟩ := I.pin p hp
   refine ⟨(hs.2 p.1 ?_).trans e, n, ne, nf, d⟩
   intro q
   rw [q, Ox] at e
   have q' : oc = p.2 := Option.some.inj e
   exact d w' (by rw [← q']; exact VT)
theorem tw {M : Model} {A : Around} {E : Value → Shared → Prop} {i : Nat} {x : Str} {v : V} {u : Value} {Q : Unit → Shared → Prop} (I : Inv X pins σ H s) (hN : X.N.Nodup) (hi : X.N[i]? = some x) (hx : Loc X.env.scope x) (r : RelV v u)
  (h : ∀ s', Inv X pins (σ.set i (some v)) H s' → Q () s') (hf : X.fn x = true ∨ X.env.scope.names.lookup x = some .local := by first | exact .inl rfl | exact .inr rfl | assumption) : wpAny M A (storeName X.env x u) Q E s :=
 xJ I hN hi hx r (fun s' I' _ => h s' I') hf
theorem Inv.IK {s' : Shared} {ch : List Addr} (I : Inv X pins σ H s) (ho : s'.os = s.os) (u : Un (BM X.stack) ch H H' s.heap s'.heap) (bt : nh X.prog X.w H' s'.heap) (hg : AllBare s'.gens)
  (LW : ∀ b ∈ ch, (b ∈ X.ex ∨ X.s₀.heap.objs.size ≤ b) ∧ b ≠ X.env.locals ∧ (∀ x c, X.env.cells.lookup x = some c → c ≠ b) ∧ ∀ p ∈ X.pn ++ pins, p.1 ≠ b) : Inv X pins σ H' s' := by
 obtain ⟨h', g', d', t', o'⟩ := s'
 have e : o' = s.os := ho
 subst e
 exact I.call (g' := g') (t' := t') (d' := d') u bt hg LW
end
abbrev XK := Value → Option Addr → Hp → Prop
abbrev St := List (Option V)
abbrev VK := V → Hp → Prop
abbrev TE := St → Hp → VK → Prop
abbrev TT := St → Hp → (Bool → Hp → Prop) → Prop
abbrev TA := St → Hp → (List V → Hp → Prop) → Prop
structure Ends where
 nx : St → Hp → Prop
 rt : VK
 bk : St → Hp → Prop := fun _ _ => False
 ct : St → Hp → Prop := fun _ _ => False
abbrev TS := Ends → St → Hp → Prop
def EP (X : Cx) (pins : List (Addr × Obj)) (σ : St) (Q : VK) (u : Value) (s' : Shared) : Prop := ∃ v H', Inv X pins σ H' s' ∧ RelV v u ∧ Q v H'
def TP (X : Cx) (pins : List (Addr × Obj)) (σ : St) (Q : Bool → Hp → Prop) (b : Bool) (s' : Shared) : Prop := ∃ H', Inv X pins σ H' s' ∧ Q b H'
def AP (X : Cx) (pins : List (Addr × Obj)) (σ : St) (Q : List V → Hp → Prop) (us : List Value) (s' : Shared) : Prop := ∃ vs H', Inv X pins σ H' s' ∧ Vals vs us ∧ Q vs H'
def SP (X : Cx) (pins : List (Addr × Obj)) (D : Ends) (f : Flow) (s' : Shared) : Prop :=
 match f with
 | .next => ∃ σ' H', Inv X pins σ' H' s' ∧ D.nx σ' H'
 | .brk => ∃ σ' H', Inv X pins σ' H' s' ∧ D.bk σ' H'
 | .cont => ∃ σ' H', Inv X pins σ' H' s' ∧ D.ct σ' H'
 | .ret u => ∃ v σ' H', Inv X pins σ' H' s' ∧ RelV v u ∧ D.rt v H'
def PE (X : Cx) (e : Expr) (t : TE) : Prop :=
 ∀ (pins : List (Addr × Obj)) (s : Shared) (σ : St) (H : Hp) (Q : VK), Inv X pins σ H s → t σ H Q → wpAny (model X.prog X.w) X.A (eval e X.env) (EP X pins σ Q) X.xe s
def PT (X : Cx) (e : Expr) (t : TT) : Prop :=
 ∀ (pins : List (Addr × Obj)) (s : Shared) (σ : St) (H : Hp) (Q : Bool → Hp → Prop), Inv X pins σ H s → t σ H Q → wpAny (model X.prog X.w) X.A (isTrue e X.env (eval e X.env)) (TP X pins σ Q) X.xe s
def PW (X : Cx) (e : Expr) (t : TT) : Prop :=
 ∀ (whole : Sem Value) (pins : List (Addr × Obj)) (s : Shared) (σ : St) (H : Hp) (Q : Bool → Hp → Prop), Inv X pins σ H s → t σ H Q → wpAny (model X.prog X.w) X.A (isTrue e X.env whole) (TP X pins σ Q) X.xe s
theorem PW.pt {X : Cx} {e : Expr} {t : TT} (h : PW X e t) : PT X e t := h _
def PA (X : Cx) (es : List Expr) (t : TA) : Prop :=
 ∀ (pos : Pos) (pins : List (Addr × Obj)) (s : Shared) (σ : St) (H : Hp) (Q : List V → Hp → Prop), Inv X pins σ H s → t σ H Q → wpAny (model X.prog X.w) X.A (spliced (backTo pos (starEach es X.env))) (AP X pins σ Q) X.xe s
def PS (X : Cx) (st : Stmt) (t : TS) : Prop :=
 ∀ (pins : List (Addr × Obj)) (s : Shared) (σ : St) (H : Hp) (D : Ends), Inv X pins σ H s → t D σ H → wpAny (model X.prog X.w) X.A (exec st X.env) (SP X pins D) X.xe s
def FF (X : Cx) (st : List Stmt) (t : TS) : Prop :=
 ∀ (pins : List (Addr × Obj)) (s : Shared) (σ : St) (H : Hp) (D : Ends), Inv X pins σ H s → t D σ H → wpAny (model X.prog X.w) X.A (execs st X.env) (SP X pins D) X.xe s
theorem thn {α : Type} {t : Sem α} {Q Q' : α → Shared → Prop} {M : Model} {A : Around} {E : Value → Shared → Prop} {s : Shared} (h : wpAny M A t Q E s) (hQ : ∀ a s, Q a s → Q' a s) : wpAny M A t Q' E s := wpAny_mono h hQ fun _ _ x => x
end L2
namespace L2
open PySem PySem.Spec PyProof.Rows
section
variable {X : Cx}
theorem bin {a b : Expr} {ta tb : TE} (ha : PE X a ta) (hb : PE X b tb) {pins : List (Addr × Obj)} {s : Shared} {σ : St} {H : Hp} {R : V → V → Hp → Prop} (I : Inv X pins σ H s) (h : ta σ H fun x H1 => tb σ H1 fun y H2 => R x y H2)
  {α : Type} {Q : α → Shared → Prop} {f : Value → Value → Sem α}
  (hf : ∀ v u s2 x y H2, Inv X pins σ H2 s2 → RelV x v → RelV y u → R x y H2 → wpAny (model X.prog X.w) X.A (f v u) Q X.xe s2) :
  wpAny (model X.prog X.w) X.A (eval a X.env) (fun v s₁ => wpAny (model X.prog X.w) X.A (eval b X.env) (fun u s₂ => wpAny (model X.prog X.w) X.A (f v u) Q X.xe s₂) X.xe s₁) X.xe s := by
 refine thn (ha pins s σ H _ I h) fun v s1 ⟨x, H1, I1, r1, q1⟩ => ?_
 refine thn (hb pins s1 σ H1 _ I1 q1) fun u s2 ⟨y, H2, I2, r2, q2⟩ => ?_
 exact hf v u s2 x y H2 I2 r1 r2 q2
def QZ (i : Nat) : TE := fun σ H Q => ∃ v, σ[i]? = some (some v) ∧ Q v H
def tC (v : V) : TE := fun _ H Q => Q v H
theorem Oy {i : Nat} {x : Str} {pos : Pos} (hN : X.N[i]? = some x) (hv : UW X.env.scope x) (hd : (x == ("__debug__" : Str)) = false := by decide) (IL : (x == ("__classdict__" : Str)) = false := by decide) : PE X (.Name x pos) (QZ i) := by
 intro pins s σ H Q I h
 obtain ⟨v, e, h⟩ := h
 obtain ⟨m, hn, hl⟩ := I.loc
 obtain ⟨u, r, l⟩ := hl i x v hN e hv
 have fin : EP X pins σ Q u s := ⟨v, H, I, r, h⟩
 rcases l with ⟨hk, hm⟩ | ⟨hk, c, hc, FG⟩
 ·exact wpAny_Name (wpAny_loadName_local I.ok.kind hk hn hm fin) hd
 ·rcases hk with hk | hk
  ·exact wpAny_Name (wpAny_loadName_cell I.ok.kind hk hc FG fin) hd
  ·exact wpAny_Name (wpAny_loadName_free I.ok.kind hk hc FG fin IL) hd
theorem ai {i j pos} : PE X (.Constant (.int i) j pos) (tC (.int i)) := fun _ _ _ H _ I h => wpAny_Constant_int ⟨.int i, H, I.tok _, ⟨_, rfl⟩, h⟩
theorem fY {b j pos} : PE X (.Constant (.bool b) j pos) (tC (.bl b)) := fun _ _ _ H _ I h => Constant_bool ⟨.bl b, H, I, rfl, h⟩
theorem IM {j pos} : PE X (.Constant .none j pos) (tC .cJ) := fun _ _ _ H _ I h => Constant_none ⟨.cJ, H, I, rfl, h⟩
theorem aR {x j pos} : PE X (.Constant (.str x) j pos) (tC (.str x)) := fun _ _ _ H _ I h => Calls.Constant_str ⟨.str x, H, I.tok _, ⟨_, rfl⟩, h⟩
def Gl (X : Cx) (x : Str) : Prop := X.env.kindOf x = some .globalImplicit
theorem sE {E : Value → Shared → Prop} {pins : List (Addr × Obj)} {s : Shared} {σ : St} {H : Hp} {x : Str} {u : Value} {pos : Pos} {Q : Value → Shared → Prop} (I : Inv X pins σ H s) (hg : Gl X x) (hm : X.mg x = some u) (h : Q u s)
  (hd : (x == ("__debug__" : Str)) = false := by decide) : wpAny (model X.prog X.w) X.A (eval (.Name x pos) X.env) Q E s :=
 Calls.Name_function_global I.ok.kind hg (Calls.loadGlobal_global (by rw [I.ok.glob]; exact I.mod.glob.keeps I.bk) hm h) hd
theorem jA {E : Value → Shared → Prop} {pins : List (Addr × Obj)} {s : Shared} {σ : St} {H : Hp} {x : Str} {u : Value} {pos : Pos} {Q : Value → Shared → Prop} (I : Inv X pins σ H s) (hg : Gl X x) (hm : X.mg x = none) (hv : bootBuiltins x = some u) (h : Q u s)
  (hn : x ≠ "__name__" := by decide) (hd : (x == ("__debug__" : Str)) = false := by decide) : wpAny (model X.prog X.w) X.A (eval (.Name x pos) X.env) Q E s := by
 obtain ⟨mb, h1, h2⟩ := I.mod.blt
 exact Calls.Name_function_global I.ok.kind hg (Calls.loadGlobal_builtin (by rw [I.ok.glob]; exact I.mod.glob.keeps I.bk) hm (by rw [I.ok.blt]; exact h1.keeps I.bk) ((h2 x hn).trans hv) h) hd
theorem c5 {x : Str} {v : V} {u : Value} {pos : Pos} (hg : Gl X x) (hm : X.mg x = some u) (r : RelV v u) (hd : (x == ("__debug__" : Str)) = false := by decide) : PE X (.Name x pos) (tC v) :=
 fun _ _ _ H _ I h => sE I hg hm ⟨v, H, I, r, h⟩ hd
theorem sG {x : Str} {v : V} {u : Value} {pos : Pos} (hg : Gl X x) (hm : X.mg x = none) (hv : bootBuiltins x = some u) (r : RelV v u) (hn : x ≠ "__name__" := by decide) (hd : (x == ("__debug__" : Str)) = false := by decide) : PE X (.Name x pos) (tC v) :=
 fun _ _ _ H _ I h => jA I hg hm hv ⟨v, H, I, r, h⟩ hn hd
def t2I (ta tb : TE) (k : Int → Int → Hp → Prop) : St → Hp → Prop := fun σ H => ta σ H fun x H1 => tb σ H1 fun y H2 => ∃ i j, x = .int i ∧ y = .int j ∧ k i j H2
variable {a b : Expr} {ta tb : TE} {pos : Pos}
def PC (X : Cx) (op : CmpOp) (a b : Expr) (t : TE) : Prop :=
 ∀ (pins : List (Addr × Obj)) (s : Shared) (σ : St) (H : Hp) (Q : VK), Inv X pins σ H s → t σ H Q →
  wpAny (model X.prog X.w) X.A (eval a X.env) (fun v s₁ => wpAny (model X.prog X.w) X.A (eval b X.env) (fun u s₂ => wpAny (model X.prog X.w) X.A (compareOp op v u) (EP X pins σ Q) X.xe s₂) X.xe s₁) X.xe s
theorem IP (b : Expr) {op : CmpOp} (h : op ≠ .In) (h2 : op ≠ .NotIn) : behindInMarks op b = false := by
 have e1 : (op == CmpOp.In) = false := by cases op <;> first | rfl | exact absurd rfl h
 have e2 : (op == CmpOp.NotIn) = false := by cases op <;> first | rfl | exact absurd rfl h2
 cases b <;> simp [behindInMarks, e1, e2]
def GP (p : Int → Int → Bool) (ta tb : TE) : TE := fun σ H Q => t2I ta tb (fun i j H2 => Q (.bl (p i j)) H2) σ H
abbrev tLt : TE → TE → TE := GP fun i j => decide (i < j)
abbrev tLe : TE → TE → TE := GP fun i j => decide (i ≤ j)
abbrev tGt : TE → TE → TE := GP fun i j => decide (j < i)
abbrev tGe : TE → TE → TE := GP fun i j => decide (j ≤ i)
abbrev aam : TE → TE → TE := GP fun i j => decide (i = j)
abbrev aan : TE → TE → TE := GP fun i j => !decide (i = j)
def tB (t : TE) : TT := fun σ H Q => t σ H fun x H1 => ∃ c, x = .bl c ∧ Q c H1
theorem DD {op : CmpOp} {t : TE} (h : PC X op a b t) (h1 : behindInMarks op b = false := by first | exact IP _ (by decide) (by decide) | rfl) : PT X (.Compare a [op] [b] pos) (tB t) := by
 intro pins s σ H Q I hw
 refine wpAny_isTrue_Compare1 (thn (h pins s σ H _ I hw) fun v s1 h1 => thn h1 fun u s2 h2 => thn h2 fun c s3 ⟨x, H1, I1, r1, q1⟩ => ?_) h1
 obtain ⟨d, rfl, q⟩ := q1
 cases r1
 exact wpAny_truthy_bool ⟨H1, I1, q⟩
theorem bT {e : Expr} {t : TE} (h : PE X e t) (he : ∀ whole, isTrue e X.env whole = (do let v ← whole; standAt e.pos; holding [v] (truthy v)) := by intro _; rfl) : PT X e (tB t) := by
 intro pins s σ H Q I hw
 refine isTrue_plain (thn (h pins s σ H _ I hw) fun v s1 ⟨x, H1, I1, r1, q1⟩ => ?_) (he _)
 obtain ⟨d, rfl, q⟩ := q1
 cases r1
 exact wpAny_truthy_bool ⟨H1, I1, q⟩
variable {tA U0 : TT} {rest : List Expr}
def VU (t u : TT) : TT := fun σ H Q => t σ H fun c H1 => if c = true then u σ H1 Q else Q false H1
def tOr (t u : TT) : TT := fun σ H Q => t σ H fun c H1 => if c = true then Q true H1 else u σ H1 Q
def VW (t : TT) : TT := fun σ H Q => t σ H fun c H1 => Q (!c) H1
theorem jB (ha : PT X a tA) : PW X (.BoolOp .And [a] pos) tA := by
 intro wh pins s σ H Q I h
 refine isTrue_and (thn (ha pins s σ H Q I h) fun c s1 e => ?_)
 cases c with
 | true => exact isTrue_and_nil e
 | false => exact e
theorem p0 (ha : PT X a tA) : PW X (.BoolOp .Or [a] pos) tA := by
 intro wh pins s σ H Q I h
 refine isTrue_or (thn (ha pins s σ H Q I h) fun c s1 e => ?_)
 cases c with
 | false => exact isTrue_or_nil e
 | true => exact e
theorem k4 (ha : PT X a tA) (hb : PW X (.BoolOp .And (b :: rest) pos) U0) : PW X (.BoolOp .And (a :: b :: rest) pos) (VU tA U0) := by
 intro wh pins s σ H Q I h
 refine isTrue_and (thn (ha pins s σ H _ I h) fun c s1 ⟨H1, I1, q1⟩ => ?_)
 cases c with
 | true => exact hb wh pins s1 σ H1 Q I1 q1
 | false => exact ⟨H1, I1, q1⟩
theorem oJ (ha : PT X a tA) (hb : PW X (.BoolOp .Or (b :: rest) pos) U0) : PW X (.BoolOp .Or (a :: b :: rest) pos) (tOr tA U0) := by
 intro wh pins s σ H Q I h
 refine isTrue_or (thn (ha pins s σ H _ I h) fun c s1 ⟨H1, I1, q1⟩ => ?_)
 cases c with
 | true => exact ⟨H1, I1, q1⟩
 | false => exact hb wh pins s1 σ H1 Q I1 q1
theorem dB (ha : PT X a tA) : PT X (.UnaryOp .Not a pos) (VW tA) := by
 intro pins s σ H Q I h
 exact isTrue_not (ha pins s σ H (fun c H1 => Q (!c) H1) I h)
def Q0 (ta tb : TE) : TE := fun σ H Q => ta σ H fun x H1 => ∃ c, x = .bl c ∧ if c = true then tb σ H1 Q else Q (.bl false) H1
def VX (ta tb : TE) : TE := fun σ H Q => ta σ H fun x H1 => ∃ c, x = .bl c ∧ if c = true then Q (.bl true) H1 else tb σ H1 Q
theorem tD {op} {t : TE} (h : PE X a t) : PE X (.BoolOp op [a] pos) t := fun pins s σ H Q I hw => BoolOp_one (h pins s σ H Q I hw)
theorem DE (ha : PE X a ta) (hb : PE X (.BoolOp .And (b :: rest) pos) tb) : PE X (.BoolOp .And (a :: b :: rest) pos) (Q0 ta tb) := by
 intro pins s σ H Q I h
 refine BoolOp_and (thn (ha pins s σ H _ I h) fun v s1 ⟨x, H1, I1, r1, q1⟩ => ?_)
 obtain ⟨c, rfl, q1⟩ := q1
 cases r1
 refine wpAny_truthy_bool ?_
 cases c with
 | true => exact hb pins s1 σ H1 Q I1 q1
 | false => exact ⟨.bl false, H1, I1, rfl, q1⟩
theorem IQ (ha : PE X a ta) (hb : PE X (.BoolOp .Or (b :: rest) pos) tb) : PE X (.BoolOp .Or (a :: b :: rest) pos) (VX ta tb) := by
 intro pins s σ H Q I h
 refine BoolOp_or (thn (ha pins s σ H _ I h) fun v s1 ⟨x, H1, I1, r1, q1⟩ => ?_)
 obtain ⟨c, rfl, q1⟩ := q1
 cases r1
 refine wpAny_truthy_bool ?_
 cases c with
 | false => exact hb pins s1 σ H1 Q I1 q1
 | true => exact ⟨.bl true, H1, I1, rfl, q1⟩
end
end L2
namespace L2
open PySem PySem.Spec PyProof.Rows
def ay (K : PySem.W.Frag) (H : Hp) (a : Addr) (xs : List V) : Prop :=
 Rd H a (.lst xs) ∨
  ∃ (o : Obj) (its : Array Value) (n : Nat), K.lookup a = some o ∧ o.cls = .type "list" ∧ o.dict = none ∧ o.data = .seq its n ∧ its.size ≤ sizeLine ∧ Vals xs its.toList
def cP (K : PySem.W.Frag) (H : Hp) (a : Addr) (xs : List V) : Prop :=
 Rd H a (.tup xs) ∨
  ∃ (o : Obj) (its : Array Value) (n : Nat), K.lookup a = some o ∧ o.cls = .type "tuple" ∧ o.data = .seq its n ∧ its.size ≤ sizeLine ∧ Vals xs its.toList
def VY : Value → Option V
 | .none => some .cJ
 | .bool b => some (.bl b)
 | .int i _ => some (.int i)
 | .str x _ => some (.str x)
 | .bytes b _ => some (.IA b)
 | .float b _ => some (.Ot b)
 | .ref a => some (.ref a)
 | .type n => some (.ty n)
 | _ => none
theorem RelV.abs {x : V} {u : Value} (r : RelV x u) : VY u = some x := by
 cases x with
 | cJ => cases r; rfl
 | bl _ => cases r; rfl
 | int _ => obtain ⟨t, rfl⟩ := r; rfl
 | str _ => obtain ⟨t, rfl⟩ := r; rfl
 | IA _ => obtain ⟨t, rfl⟩ := r; rfl
 | Ot _ => obtain ⟨t, rfl⟩ := r; rfl
 | ref _ => cases r; rfl
 | ty _ => cases r; rfl
theorem RelV.inj {x y : V} {u : Value} (r : RelV x u) (q : RelV y u) : x = y := Option.some.inj (r.abs.symm.trans q.abs)
theorem Vals.inj : ∀ {xs ys : List V} {us : List Value}, Vals xs us → Vals ys us → xs = ys
 | _, _, _, .nil, .nil => rfl
 | _, _, _, .cons r t, .cons r' t' => by rw [r.inj r', Vals.inj t t']
section
variable {X : Cx} {pins : List (Addr × Obj)} {σ : St} {H : Hp} {s : Shared} {a : Addr} {xs ys : List V}
theorem ay.of {K : PySem.W.Frag} (h : H a = some (.lst xs)) : ay K H a xs := .inl (.inl h)
theorem cP.of {K : PySem.W.Frag} (h : H a = some (.tup xs)) : cP K H a xs := .inl (.inl h)
theorem Inv.list (I : Inv X pins σ H s) (h : ay X.K H a xs) : ∃ its : List Value, Vals xs its ∧ PlainL s.heap a its.toArray ∧ xs.length ≤ sizeLine := by
 rcases h with h | ⟨o, its, n, hk, hc, hd, hs, hz, r⟩
 ·obtain ⟨z, its, n, r, e⟩ := h.ok I.bt
  exact ⟨its, r, ⟨_, n, e, rfl, rfl, rfl⟩, z⟩
 ·refine ⟨its.toList, r, ⟨o, n, I.rm a o hk, hc, hd, by simpa using hs⟩, ?_⟩
  have e := r.length
  simp only [Array.length_toList] at e
  omega
theorem Inv.tuple (I : Inv X pins σ H s) (h : cP X.K H a xs) : ∃ its : List Value, Vals xs its ∧ IsTup s.heap a its.toArray ∧ xs.length ≤ sizeLine := by
 rcases h with h | ⟨o, its, n, hk, hc, hs, hz, r⟩
 ·obtain ⟨z, its, r, p⟩ := h.ok I.bt
  exact ⟨its, r, p, z⟩
 ·refine ⟨its.toList, r, ⟨o, I.rm a o hk, hc, n, by simpa using hs⟩, ?_⟩
  have e := r.length
  simp only [Array.length_toList] at e
  omega
theorem Inv.oK (I : Inv X pins σ H s) (h : ay X.K H a xs) (h' : ay X.K H a ys) : xs = ys := by
 obtain ⟨its, r, ⟨o, n, e, _, _, d⟩, _⟩ := I.list h
 obtain ⟨its', r', ⟨o', n', e', _, _, d'⟩, _⟩ := I.list h'
 rw [e] at e'; cases e'
 rw [d] at d'
 injection d' with d1 _
 have : its = its' := by simpa using congrArg Array.toList d1
 subst this
 exact r.inj r'
theorem Inv.GQ (I : Inv X pins σ H s) (h : cP X.K H a xs) (h' : cP X.K H a ys) : xs = ys := by
 obtain ⟨its, r, ⟨o, e, _, n, d⟩, _⟩ := I.tuple h
 obtain ⟨its', r', ⟨o', e', _, n', d'⟩, _⟩ := I.tuple h'
 rw [e] at e'; cases e'
 rw [d] at d'
 injection d' with d1 _
 have : its = its' := by simpa using congrArg Array.toList d1
 subst this
 exact r.inj r'
end
abbrev Cx.wb (X : Cx) (E : Value → Shared → Prop) : Cx := { X with xe := E }
abbrev Cx.U1 (X : Cx) : Cx := X.wb fun _ _ => False
theorem Cx.Ok.wb {X : Cx} (ok : X.Ok) (E : Value → Shared → Prop) : (X.wb E).Ok :=
 ⟨ok.mod, ok.kind, ok.glob, ok.blt, ok.above, ok.inj, ok.has, ok.QW, ok.hd, ok.frames, ok.UX, ok.YC, ok.bs, ok.FD, ok.DC, ok.L6, ok.pZ, ok.NG⟩
theorem Cx.Ok.k5 {X : Cx} {E : Value → Shared → Prop} (ok : (X.wb E).Ok) : X.Ok :=
 ⟨ok.mod, ok.kind, ok.glob, ok.blt, ok.above, ok.inj, ok.has, ok.QW, ok.hd, ok.frames, ok.UX, ok.YC, ok.bs, ok.FD, ok.DC, ok.L6, ok.pZ, ok.NG⟩
section
variable {X : Cx} {pins : List (Addr × Obj)} {σ : St} {H : Hp} {s : Shared} {E : Value → Shared → Prop}
theorem Inv.wb (I : Inv X pins σ H s) (E : Value → Shared → Prop) : Inv (X.wb E) pins σ H s := ⟨I.ok.wb E, I.os, I.bare, I.base, I.loc, I.cell, I.free, I.kR, I.pin, I.bt, I.len⟩
theorem Inv.k5 (I : Inv (X.wb E) pins σ H s) : Inv X pins σ H s := ⟨I.ok.k5, I.os, I.bare, I.base, I.loc, I.cell, I.free, I.kR, I.pin, I.bt, I.len⟩
theorem SP.k5 {D : Ends} {f : Flow} {s' : Shared} (h : SP (X.wb E) pins D f s') : SP X pins D f s' := by
 cases f with
 | next => obtain ⟨σ', H', I, q⟩ := h; exact ⟨σ', H', I.k5, q⟩
 | brk => obtain ⟨σ', H', I, q⟩ := h; exact ⟨σ', H', I.k5, q⟩
 | cont => obtain ⟨σ', H', I, q⟩ := h; exact ⟨σ', H', I.k5, q⟩
 | ret u => obtain ⟨v, σ', H', I, r, q⟩ := h; exact ⟨v, σ', H', I.k5, r, q⟩
theorem FF.U1 {st : List Stmt} {t : TS} (h : FF X.U1 st t) : FF X st t := fun pins s σ H D I hw =>
 wpAny_mono (h pins s σ H D (I.wb _) hw) (fun _ _ q => q.k5) fun _ _ z => False.elim z
end
section
variable {X : Cx} {st : Stmt} {rest : List Stmt} {t u : TS} {e : Expr} {te : TE} {pos : Pos}
def Q3 : TS := fun D σ H => D.nx σ H
def VZ (t u : TS) : TS := fun D σ H => t { D with nx := u D } σ H
theorem aA : FF X [] Q3 := fun _ _ σ H _ I h => wpAny_execs_nil ⟨σ, H, I, h⟩
theorem ab (h1 : PS X st t) (h2 : FF X rest u) : FF X (st :: rest) (VZ t u) := by
 intro pins s σ H D I h
 refine wpAny_execs_cons (thn (h1 pins s σ H { D with nx := u D } I h) fun f s1 q => ?_)
 cases f with
 | next =>
  obtain ⟨σ', H', I', q⟩ := q
  exact h2 pins s1 σ' H' D I' q
 | ret v => exact q
 | brk => exact q
 | cont => exact q
theorem ag (h1 : PS X st t) : FF X [st] t := by
 intro pins s σ H D I h
 refine wpAny_execs_cons (thn (h1 pins s σ H D I h) fun f s1 q => ?_)
 cases f with
 | next => exact wpAny_execs_nil q
 | ret v => exact q
 | brk => exact q
 | cont => exact q
def Q4 : TS := fun D σ H => D.ct σ H
theorem BO : PS X (.Continue pos) Q4 := fun _ _ σ H _ I h => wpAny_Continue ⟨σ, H, I, h⟩
theorem Inv.quiet {pins : List (Addr × Obj)} {σ : St} {H : Hp} {s : Shared} (I : Inv X pins σ H s) : interactive X.env = false := by simp [interactive, I.ok.kind]
def Q5 (te : TE) : TS := fun D σ H => te σ H fun _ H1 => D.nx σ H1
theorem a6 (he : PE X e te) (hs : swapsWith e none pos.line X.env = pure false := by rfl) : PS X (.Expr e pos) (Q5 te) := by
 intro pins s σ H D I h
 exact wpAny_Expr_any (thn (he pins s σ H _ I h) fun v s1 ⟨x, H1, I1, r1, q1⟩ => ⟨σ, H1, I1, q1⟩) I.quiet hs
def V0 (te : TE) : TS := fun D σ H => te σ H D.rt
theorem ax (he : PE X e te) : PS X (.Return (some e) pos) (V0 te) := by
 intro pins s σ H D I h
 exact wpAny_Return_some (thn (he pins s σ H _ I h) fun v s1 ⟨x, H1, I1, r1, q1⟩ => ⟨x, σ, H1, I1, r1, q1⟩)
def Q6 : TS := fun D _ H => D.rt .cJ H
theorem L9 : PS X (.Return none pos) Q6 := fun _ _ σ H _ I h => wpAny_Return_none ⟨.cJ, σ, H, I, rfl, h⟩
def V1 (c : TT) (t u : TS) : TS := fun D σ H => c σ H fun b H1 => if b = true then t D σ H1 else u D σ H1
theorem aV {c : Expr} {a b : List Stmt} {tc : TT} (hc : PT X c tc) (ha : FF X a t) (hb : FF X b u) : PS X (.If c a b pos) (V1 tc t u) := by
 intro pins s σ H D I h
 refine wpAny_If (thn (hc pins s σ H _ I h) fun d s1 ⟨H1, I1, q1⟩ => ?_)
 cases d with
 | true => exact ha pins s1 σ H1 D I1 q1
 | false => exact hb pins s1 σ H1 D I1 q1
def IS : TS := fun _ _ _ => False
theorem IT : PS X st IS := fun _ _ _ _ _ _ h => h.elim
theorem aY {sts : List Stmt} : FF X sts IS := fun _ _ _ _ _ _ h => h.elim
end
abbrev TG := V → St → Hp → (St → Hp → Prop) → Prop
abbrev Oz := List V → St → Hp → (St → Hp → Prop) → Prop
def PG (X : Cx) (target : Expr) (t : TG) : Prop :=
 ∀ (pins : List (Addr × Obj)) (s : Shared) (σ : St) (H : Hp) (v : V) (u : Value) (Q : St → Hp → Prop), Inv X pins σ H s → RelV v u → t v σ H Q →
  wpAny (model X.prog X.w) X.A (assign target X.env u) (fun _ s' => ∃ σ' H', Inv X pins σ' H' s' ∧ Q σ' H') X.xe s
def U2 (X : Cx) (ts : List Expr) (t : Oz) : Prop :=
 ∀ (pins : List (Addr × Obj)) (s : Shared) (σ : St) (H : Hp) (vs : List V) (us : List Value) (Q : St → Hp → Prop), Inv X pins σ H s → Vals vs us → t vs σ H Q →
  wpAny (model X.prog X.w) X.A (assignInOrder ((assignEach ts X.env).map (·.2)) us) (fun _ s' => ∃ σ' H', Inv X pins σ' H' s' ∧ Q σ' H') X.xe s
abbrev OA := V → V → V → Hp → (Hp → Prop) → Prop
def Q7 (X : Cx) (t : OA) : Prop :=
 ∀ (pins : List (Addr × Obj)) (s : Shared) (σ : St) (H : Hp) (o i v : V) (ov iv u : Value) (Q : Hp → Prop), Inv X pins σ H s → RelV o ov → RelV i iv → RelV v u → t o i v H Q →
  wpAny (model X.prog X.w) X.A (setItem ov iv u) (fun _ s' => ∃ H', Inv X pins σ H' s' ∧ Q H') X.xe s
abbrev U3 := V → V → Hp → VK → Prop
def YG (X : Cx) (op : Operator) (t : U3) : Prop :=
 ∀ (pins : List (Addr × Obj)) (s : Shared) (σ : St) (H : Hp) (x y : V) (v u : Value) (Q : VK), Inv X pins σ H s → RelV x v → RelV y u → t x y H Q →
  wpAny (model X.prog X.w) X.A (inplaceOp op v u) (EP X pins σ Q) X.xe s
section
variable {X : Cx} {pos : Pos}
def tE (i : Nat) : TG := fun v σ H Q => Q (σ.set i (some v)) H
theorem aK {i : Nat} {x : Str} (hN : X.N.Nodup) (hi : X.N[i]? = some x) (hx : Loc X.env.scope x) (hf : X.fn x = true ∨ X.env.scope.names.lookup x = some .local := by first | exact .inl rfl | exact .inr rfl | assumption) : PG X (.Name x pos) (tE i) := by
 intro pins s σ H v u Q I r h
 exact wpAny_assign_Name (tw I hN hi hx r (fun s' I' => ⟨_, H, I', h⟩) hf)
def Q8 : Oz := fun vs σ H Q => vs = [] ∧ Q σ H
def IU (t : TG) (u : Oz) : Oz := fun vs σ H Q => ∃ v r, vs = v :: r ∧ t v σ H fun σ' H' => u r σ' H' Q
theorem oM : U2 X [] Q8 := by
 intro pins s σ H vs us Q I r h
 obtain ⟨e, h⟩ := h
 subst e
 cases r
 exact assignInOrder_nil ⟨σ, H, I, h⟩
theorem cQ {e : Expr} {es : List Expr} {t : TG} {u : Oz} (h1 : PG X e t) (h2 : U2 X es u)
  (hs : (assignEach (e :: es) X.env).map (·.2) = assign e X.env :: (assignEach es X.env).map (·.2) := by rfl) : U2 X (e :: es) (IU t u) := by
 intro pins s σ H vs us Q I r h
 obtain ⟨v, vr, e1, h⟩ := h
 subst e1
 cases r with
 | cons r rr =>
  rw [hs]
  refine assignInOrder_cons (thn (h1 pins s σ H _ _ _ I r h) fun _ s1 ⟨σ1, H1, I1, q1⟩ => ?_)
  exact h2 pins s1 σ1 H1 _ _ Q I1 rr q1
def Q9 (K : PySem.W.Frag) (n : Nat) (t : Oz) : TG := fun v σ H Q => ∃ a xs, v = .ref a ∧ cP K H a xs ∧ xs.length = n ∧ t xs σ H Q
theorem tF {es : List Expr} {k : Nat} {t : Oz} {n : Nat} (hc : X.calm = true) (h : U2 X es t)
  (hn : (assignEach es X.env).length = n := by rfl) (OB : (assignEach es X.env).findIdx? (·.1) = none := by rfl) : PG X (.Tuple es k pos) (Q9 X.K n t) := by
 intro pins s σ H v u Q I r hw
 obtain ⟨a, xs, e1, hq, hl, hw⟩ := hw
 subst e1
 cases r
 obtain ⟨its, rv, ht, hz⟩ := I.tuple hq
 refine assign_Tuple_tuple (I.ok.hd hc) ht (by simp [hn, ← hl, rv.length]) OB fun h' hx => ?_
 have I1 : Inv X pins σ H { s with heap := h' } := I.kept (t' := s.toks) fun b o e => hx b o (Nat.ne_of_lt (Heap.lt_size e)) e
 exact h pins _ σ H xs _ Q I1 (by simpa using rv) hw
def V2 (to ti : TE) (t : OA) : TG := fun v σ H Q => to σ H fun o H1 => ti σ H1 fun i H2 => t o i v H2 fun H3 => Q σ H3
theorem IV {o i : Expr} {to ti : TE} {t : OA} (ho : PE X o to) (hi : PE X i ti) (hs : Q7 X t)
  (ha : ∀ v, assign (.Subscript o i pos) X.env v = (do
   let ov ← holding [v] (eval o X.env)
   let iv ← holding [v, ov] (eval i X.env)
   standAt pos
   holding [v, ov, iv] (setItem ov iv v)
   release [v, ov, iv] []) := by intro _; rfl) : PG X (.Subscript o i pos) (V2 to ti t) := by
 intro pins s σ H v u Q I r h
 rw [ha]
 refine wpAny_bind (wpAny_holding (thn (ho pins s σ H _ I h) fun ov s1 ⟨x, H1, I1, r1, q1⟩ => ?_))
 refine wpAny_bind (wpAny_holding (thn (hi pins s1 σ H1 _ I1 q1) fun iv s2 ⟨y, H2, I2, r2, q2⟩ => ?_))
 refine wpAny_bind (wpAny_standAt (wpAny_bind (wpAny_holding (thn (hs pins s2 σ H2 x y v ov iv u _ I2 r1 r2 r q2) fun _ s3 ⟨H3, I3, q3⟩ => ?_))))
 exact wpAny_release ⟨σ, H3, I3, q3⟩
def OC (te : TE) (g : TG) : TS := fun D σ H => te σ H fun x H1 => g x σ H1 D.nx
theorem DF {tg e : Expr} {te : TE} {g : TG} (he : PE X e te) (hg : PG X tg g) (hs : swapsWithSole [tg] e pos.line X.env = pure false := by rfl) (hw : swappedStores [tg] e X.env = pure none := by rfl)
  (h1 : (assignEach [tg] X.env).map (·.2) = [assign tg X.env] := by rfl) : PS X (.Assign [tg] e pos) (OC te g) := by
 intro pins s σ H D I h
 refine wpAny_Assign_stores (thn (he pins s σ H _ I h) fun v s1 ⟨x, H1, I1, r1, q1⟩ => ?_) hs hw
 rw [h1]
 exact thn (hg pins s1 σ H1 x v _ I1 r1 q1) fun _ s2 q => q
theorem aw {i : Nat} {x : Str} {e : Expr} {te : TE} {pos' : Pos} (hN : X.N.Nodup) (hi : X.N[i]? = some x) (hx : Loc X.env.scope x) (he : PE X e te) (hs : swapsWith e (some (.Name x pos')) pos.line X.env = pure false := by rfl) (hf : X.fn x = true ∨ X.env.scope.names.lookup x = some .local := by first | exact .inl rfl | exact .inr rfl | assumption) :
  PS X (.Assign [.Name x pos'] e pos) (OC te (tE i)) := by
 intro pins s σ H D I h
 refine wpAny_Assign_Name (thn (he pins s σ H _ I h) fun v s1 ⟨y, H1, I1, r1, q1⟩ => ?_) hs
 exact tw I1 hN hi hx r1 (fun s2 I2 => ⟨_, H1, I2, q1⟩) hf
def V3 (i : Nat) (te : TE) (ti : U3) : TS := fun D σ H => ∃ x, σ[i]? = some (some x) ∧ te σ H fun y H1 => ti x y H1 fun z H2 => D.nx (σ.set i (some z)) H2
theorem yG {i : Nat} {x : Str} {e : Expr} {te : TE} {op : Operator} {ti : U3} {pos' : Pos} (hN : X.N.Nodup) (hi : X.N[i]? = some x) (hx : Loc X.env.scope x) (he : PE X e te) (ho : YG X op ti) (hf : X.fn x = true ∨ X.env.scope.names.lookup x = some .local := by first | exact .inl rfl | exact .inr rfl | assumption) :
  PS X (.AugAssign (.Name x pos') op e pos) (V3 i te ti) := by
 intro pins s σ H D I h
 obtain ⟨v, e1, h⟩ := h
 obtain ⟨m, hn, hl⟩ := I.loc
 have vis : UW X.env.scope x := by rcases hx with k | k; exact .inl k; exact .inr (.inl k)
 obtain ⟨u, r, l⟩ := hl i x v hi e1 vis
 refine wpAny_AugAssign_Name ?_
 have go : wpAny (model X.prog X.w) X.A (eval e X.env) (fun w s₂ => wpAny (model X.prog X.w) X.A (inplaceOp op u w) (fun r s₃ => wpAny (model X.prog X.w) X.A (storeName X.env x r) (fun _ => SP X pins D .next) X.xe s₃) X.xe s₂) X.xe s := by
  refine thn (he pins s σ H _ I h) fun w s1 ⟨y, H1, I1, r1, q1⟩ => ?_
  refine thn (ho pins s1 σ H1 v y u w _ I1 r r1 q1) fun z s2 ⟨zv, H2, I2, r2, q2⟩ => ?_
  exact tw I2 hN hi hx r2 (fun s3 I3 => ⟨_, H2, I3, q2⟩) hf
 rcases l with ⟨hk, hm⟩ | ⟨hk, c, hc, FG⟩
 ·exact wpAny_loadName_local I.ok.kind hk hn hm go
 ·rcases hk with hk | hk
  ·exact wpAny_loadName_cell I.ok.kind hk hc FG go
  ·rcases hx with k | k
   ·have : X.env.scope.names.lookup x = some .free := hk
    rw [k] at this; cases this
   ·have : X.env.scope.names.lookup x = some .free := hk
    rw [k] at this; cases this
def ipI (f : Int → Int → Int) : U3 := fun x y H Q => ∃ i j, x = .int i ∧ y = .int j ∧ Q (.int (f i j)) H
theorem yH : YG X .Add (ipI fun i j => i + j) := by
 intro pins s σ H x y v u Q I r1 r2 h
 obtain ⟨i, j, e1, e2, q⟩ := h
 subst e1; subst e2
 obtain ⟨t, rfl⟩ := r1
 obtain ⟨t', rfl⟩ := r2
 exact iadd_int ⟨.int _, H, I.tok _, ⟨_, rfl⟩, q⟩
end
section
variable {X : Cx} {pos : Pos}
def IW (c : TT) (tb : TS) : TS := fun D σ H => ∃ W : Nat → St → Hp → Prop, (∃ m, W m σ H) ∧ ∀ m σ H, W m σ H →
 c σ H fun b H1 => if b = true then ∃ N : St → Hp → Prop, (∀ σ' H', N σ' H' → ∃ m', m' < m ∧ W m' σ' H') ∧ tb { D with nx := N, ct := N, bk := D.nx } σ H1 else D.nx σ H1
theorem gr {c : Expr} {body : List Stmt} {tc : TT} {tb : TS} (hp : PassesOwn (model X.prog X.w) X.A X.env X.xe) (hc : PT X c tc) (hb : FF X body tb) : PS X (.While c body [] pos) (IW tc tb) := by
 intro pins s σ H D I h
 obtain ⟨W, ⟨m0, w0⟩, turn⟩ := h
 refine wpAny_While (codeAny_whileLoop (fun n s' => ∃ σ' H', Inv X pins σ' H' s' ∧ W n σ' H') ?_ m0 ⟨σ, H, I, w0⟩)
 rintro n s1 ⟨σ1, H1, I1, w1⟩
 refine wpAny_passesOwn hp (thn (hc pins s1 σ1 H1 _ I1 (turn n σ1 H1 w1)) fun b s2 ⟨H2, I2, q2⟩ => ?_)
 cases b with
 | true =>
  obtain ⟨N, hN, q2⟩ := q2
  rw [if_pos rfl]
  refine wpAny_passesOwn hp (thn (hb pins s2 σ1 H2 _ I2 q2) fun f s3 q3 => ?_)
  cases f with
  | next =>
   obtain ⟨σ3, H3, I3, n3⟩ := q3
   obtain ⟨m', hm, w3⟩ := hN σ3 H3 n3
   exact ⟨m', hm, σ3, H3, I3, w3⟩
  | cont =>
   obtain ⟨σ3, H3, I3, n3⟩ := q3
   obtain ⟨m', hm, w3⟩ := hN σ3 H3 n3
   exact ⟨m', hm, σ3, H3, I3, w3⟩
  | brk => exact q3
  | ret v => exact q3
 | false =>
  rw [if_neg Bool.false_ne_true]
  exact wpAny_execs_nil ⟨σ1, H2, I2, q2⟩
end
structure It where
 go : Nat → Hp → Prop
 Ma : Nat → Hp → V → Hp → Prop
 stop : Nat → Hp → Prop
def dM (X : Cx) (pins : List (Addr × Obj)) (H : Hp) (b : Addr) : Prop :=
 H b = none ∧ b ≠ X.env.locals ∧ b ∉ X.fs ∧ (b ∈ X.ex ∨ X.s₀.heap.objs.size ≤ b) ∧ (∀ x c, X.env.cells.lookup x = some c → c ≠ b) ∧ ∀ p ∈ X.pn ++ pins, p.1 ≠ b
theorem Inv.tG {X : Cx} {pins : List (Addr × Obj)} {σ : St} {H H' : Hp} {s : Shared} {b : Addr} (I : Inv X pins σ H s) (hb : s.heap.objs.size ≤ b) (hn : H' b = none) : dM X pins H' b := by
 refine ⟨hn, Nat.ne_of_gt (Nat.lt_of_lt_of_le I.lt hb), I.VO hb, .inr (Nat.le_trans I.sz hb), fun x c e z => ?_, fun p hp z => ?_⟩
 ·obtain ⟨v, q⟩ := I.cell x c e
  exact absurd (Nat.lt_of_lt_of_le q.lt (by rw [z]; exact hb)) (Nat.lt_irrefl _)
 ·exact absurd (Nat.lt_of_lt_of_le (Heap.lt_size (I.pin p hp).1) (by rw [z]; exact hb)) (Nat.lt_irrefl _)
structure Turn (P : Program) (w : World) (K : PySem.W.Frag) (tg : Expr) (J : It) (fp : List Addr) (it : Addr) (tn : Nat → Heap → Prop) : Prop where
 mem : it ∈ fp
 obj : ∀ i h, tn i h → ∀ b ∈ fp, ∃ o, h.get? b = some o ∧ ∀ v, o.data ≠ .cell v
 keep : ∀ i h h', tn i h → (∀ b ∈ fp, ∀ o, h.get? b = some o → h'.get? b = some o) → tn i h'
 item : ∀ (X : Cx), X.prog = P → X.w = w → X.K = K → X.calm = true → ∀ (i : Nat) (pins : List (Addr × Obj)) (s : Shared) (σ : St) (H : Hp) (E : Value → Shared → Prop), Inv X pins σ H s → (∀ b ∈ fp, dM X pins H b) → tn i s.heap → J.go i H →
  wpAny (model P w) X.A (pyNext (.ref it)) (fun r s1 => ∃ u, r = some u ∧
   wpAny (model P w) X.A (letOwnedTupleGo tg (.ref it) u) (fun _ s2 => ∃ x H', Inv X pins σ H' s2 ∧ RelV x u ∧ J.Ma i H x H' ∧ tn (i + 1) s2.heap ∧ ∀ b ∈ fp, H' b = none) E s1) E s
 done : ∀ (X : Cx), X.prog = P → X.w = w → X.K = K → X.calm = true → ∀ (i : Nat) (pins : List (Addr × Obj)) (s : Shared) (σ : St) (H : Hp) (E : Value → Shared → Prop), Inv X pins σ H s → (∀ b ∈ fp, dM X pins H b) → tn i s.heap → J.stop i H →
  wpAny (model P w) X.A (pyNext (.ref it)) (fun r s1 => r = none ∧ Inv X pins σ H s1) E s
 self : ∀ (A : Around) (i : Nat) (s : Shared) (Q : Value → Shared → Prop) (E : Value → Shared → Prop), tn i s.heap → Q (.ref it) s → wpAny (model P w) A (pyIter (.ref it)) Q E s
abbrev TI := St → Hp → (It → Hp → Prop) → Prop
def V4 (X : Cx) (pins : List (Addr × Obj)) (σ : St) (tg : Expr) (R : It → Hp → Prop) (Ra : Value) (s2 : Shared) : Prop :=
 ∃ (it : Addr) (fp : List Addr) (tn : Nat → Heap → Prop) (J : It) (H' : Hp), Ra = .ref it ∧ Inv X pins σ H' s2 ∧ Turn X.prog X.w X.K tg J fp it tn ∧ tn 0 s2.heap ∧ (∀ b ∈ fp, dM X pins H' b) ∧ R J H'
def PI (X : Cx) (tg iter : Expr) (wi : TI) : Prop :=
 ∀ (pins : List (Addr × Obj)) (s : Shared) (σ : St) (H : Hp) (R : It → Hp → Prop), Inv X pins σ H s → wi σ H R →
  wpAny (model X.prog X.w) X.A (eval iter X.env) (fun v s1 => wpAny (model X.prog X.w) X.A (pyIter v) (V4 X pins σ tg R) X.xe s1) X.xe s
theorem FH {M : Model} {A : Around} {E : Value → Shared → Prop} {s : Shared} {tg : Expr} {it : Addr} {u : Value} {o : Obj} {n : String} {vs : Array Value} {Q : Unit → Shared → Prop} (ho : s.heap.get? it = some o) (hc : o.cls = .type n) (hd : o.data = .fields vs)
    (hn : ["enumerate", "zip", "dict_itemiterator", "dict_reverseitemiterator", "odict_iterator", "itertools.zip_longest", "itertools.pairwise"].contains n = false) (hQ : Q () s) : wpAny M A (letOwnedTupleGo tg (.ref it) u) Q E s := by
  unfold letOwnedTupleGo
  cases tg <;> first
    | exact wpAny_pure hQ
    | (cases u <;> first
        | exact wpAny_pure hQ
        | (refine wpAny_bind (wpAny_load ho ?_)
           rw [hc, hd]
           show wpAny M A (if (["enumerate", "zip", "dict_itemiterator", "dict_reverseitemiterator", "odict_iterator", "itertools.zip_longest", "itertools.pairwise"].contains n && vs[0]? == some (rawInt _)) = true then _ else _) Q E s
           rw [if_neg (by intro h; rw [hn, Bool.false_and] at h; cases h)]
           exact wpAny_pure hQ))
def LX (K : PySem.W.Frag) (a : Addr) : It :=
 ⟨fun i H => ∃ xs x, ay K H a xs ∧ xs[i]? = some x, fun i H x H' => H' = H ∧ ∀ xs, ay K H a xs → xs[i]? = some x, fun i H => ∃ xs, ay K H a xs ∧ xs.length ≤ i⟩
def Rb (K : PySem.W.Frag) (a : Addr) : It :=
 ⟨fun i H => ∃ xs x, cP K H a xs ∧ xs[i]? = some x, fun i H x H' => H' = H ∧ ∀ xs, cP K H a xs → xs[i]? = some x, fun i H => ∃ xs, cP K H a xs ∧ xs.length ≤ i⟩
def NI (lo : Int) (n : Nat) : It := ⟨fun i _ => i < n, fun i H x H' => H' = H ∧ x = .int (lo + i), fun i _ => n ≤ i⟩
theorem GR {P : Program} {w : World} {K : PySem.W.Frag} {tg : Expr} (a it : Addr) : Turn P w K tg (LX K a) [it] it (fun i h => h.IsListIter it a i) where
 mem := by simp
 obj := fun i h st b hb => by
  have e : b = it := by simpa using hb
  subst e
  obtain ⟨o, e, c, d⟩ := st
  exact ⟨o, e, fun v z => by rw [d] at z; cases z⟩
 keep := fun i h h' st k => st.at fun o e => k it (by simp) o e
 item := by
  intro X hP hw hK hc i pins s σ H E I hf st hg
  subst hP hw hK
  obtain ⟨xs, x, hq, hx⟩ := hg
  obtain ⟨its, rv, p, hz⟩ := I.list hq
  obtain ⟨u, hu, ru⟩ := rv.get hx
  obtain ⟨f0, f1, f2, f3, f4, f5⟩ := hf it (by simp)
  refine wpAny_pyNext_list_item st p.isList (x := u) (by simpa using hu) fun h' xK sb => ?_
  have I1 : Inv X pins σ H { s with heap := h' } := I.turned (t' := s.toks) (fun b o hb e => (sb.2 b hb).trans e) f0 f1 f3 f4 f5
  obtain ⟨o, e, c, d⟩ := id xK
  exact ⟨u, rfl, FH (s := { s with heap := h' }) e c d (by decide) ⟨x, H, I1, ru, ⟨rfl, fun ys hy => by rw [I.oK hy hq]; exact hx⟩, xK, fun b hb => (hf b hb).1⟩⟩
 done := by
  intro X hP hw hK hc i pins s σ H E I hf st hg
  subst hP hw hK
  obtain ⟨xs, hq, hx⟩ := hg
  obtain ⟨its, rv, p, hz⟩ := I.list hq
  obtain ⟨f0, f1, f2, f3, f4, f5⟩ := hf it (by simp)
  have hl := rv.length
  exact wpAny_pyNext_list_end (I.ok.hd hc) st p.isList (by simp; omega) fun h' eb => ⟨rfl, I.turned (t' := s.toks) (fun b o hb e => eb b o hb e) f0 f1 f3 f4 f5⟩
 self := fun _ _ _ _ _ st h => wpAny_pyIter_listiter st h
theorem DG {P : Program} {w : World} {K : PySem.W.Frag} {tg : Expr} (a it : Addr) : Turn P w K tg (Rb K a) [it] it (fun i h => h.IsTupleIter it a i) where
 mem := by simp
 obj := fun i h st b hb => by
  have e : b = it := by simpa using hb
  subst e
  obtain ⟨o, e, c, d⟩ := st
  exact ⟨o, e, fun v z => by rw [d] at z; cases z⟩
 keep := fun i h h' st k => st.at fun o e => k it (by simp) o e
 item := by
  intro X hP hw hK hc i pins s σ H E I hf st hg
  subst hP hw hK
  obtain ⟨xs, x, hq, hx⟩ := hg
  obtain ⟨its, rv, p, hz⟩ := I.tuple hq
  obtain ⟨u, hu, ru⟩ := rv.get hx
  obtain ⟨f0, f1, f2, f3, f4, f5⟩ := hf it (by simp)
  refine wpAny_pyNext_tuple_item st (show s.heap.IsTuple a its.toArray from p) (x := u) (by simpa using hu) fun h' xK sb => ?_
  have I1 : Inv X pins σ H { s with heap := h' } := I.turned (t' := s.toks) (fun b o hb e => (sb.2 b hb).trans e) f0 f1 f3 f4 f5
  obtain ⟨o, e, c, d⟩ := id xK
  exact ⟨u, rfl, FH (s := { s with heap := h' }) e c d (by decide) ⟨x, H, I1, ru, ⟨rfl, fun ys hy => by rw [I.GQ hy hq]; exact hx⟩, xK, fun b hb => (hf b hb).1⟩⟩
 done := by
  intro X hP hw hK hc i pins s σ H E I hf st hg
  subst hP hw hK
  obtain ⟨xs, hq, hx⟩ := hg
  obtain ⟨its, rv, p, hz⟩ := I.tuple hq
  obtain ⟨f0, f1, f2, f3, f4, f5⟩ := hf it (by simp)
  have hl := rv.length
  exact wpAny_pyNext_tuple_end (I.ok.hd hc) st (show s.heap.IsTuple a its.toArray from p) (by simp; omega) fun h' eb => ⟨rfl, I.turned (t' := s.toks) (fun b o hb e => eb b o hb e) f0 f1 f3 f4 f5⟩
 self := fun _ _ _ _ _ st h => wpAny_pyIter_tupleiter st h
theorem DH {P : Program} {w : World} {K : PySem.W.Frag} {tg : Expr} (it : Addr) (lo : Int) (n : Nat) : Turn P w K tg (NI lo n) [it] it (fun i h => IsRangeIter h it (lo + (i : Nat) * 1) ((n : Int) - (i : Nat)) 1) where
 mem := by simp
 obj := fun i h st b hb => by
  have e : b = it := by simpa using hb
  subst e
  exact ⟨_, st, fun v z => by
   have z' : Data.fields _ = Data.cell v := z
   cases z'⟩
 keep := fun i h h' st k => k it (by simp) _ st
 item := by
  intro X hP hw hK hc i pins s σ H E I hf st hg
  subst hP hw hK
  obtain ⟨f0, f1, f2, f3, f4, f5⟩ := hf it (by simp)
  have W := Walks.range (prog := X.prog) (w := X.w) (I.ok.hd hc) it lo 1 n
  refine W.item i s _ _ hg st fun v h' tk hv xK kk => ?_
  obtain ⟨t, rfl⟩ := hv
  have I1 : Inv X pins σ H { s with heap := h', toks := tk } := I.turned (fun b o hb e => kk b o (by simpa using hb) e) f0 f1 f3 f4 f5
  refine ⟨_, rfl, FH (s := { s with heap := h', toks := tk }) (n := "range_iterator") xK rfl rfl (by decide) ⟨.int (lo + i), H, I1, ⟨t, ?_⟩, ⟨rfl, rfl⟩, xK, fun b hb => (hf b hb).1⟩⟩
  rw [Int.mul_one]
 done := by
  intro X hP hw hK hc i pins s σ H E I hf st hg
  subst hP hw hK
  obtain ⟨f0, f1, f2, f3, f4, f5⟩ := hf it (by simp)
  exact wpAny_pyNext_range_end (I.ok.hd hc) st (by have : n ≤ i := hg; omega) fun h' eb => ⟨rfl, I.turned (t' := s.toks) (fun b o hb e => eb b o hb e) f0 f1 f3 f4 f5⟩
 self := fun _ _ _ _ _ st h => wpAny_pyIter_rangeiter st h
end L2
namespace L2
open PySem PySem.Spec PyProof.Rows
section
variable {X : Cx} {tg : Expr}
def NJ (K : PySem.W.Frag) (tl : TE) : TI := fun σ H R => tl σ H fun x H1 => ∃ a, x = .ref a ∧ (∃ xs, ay K H1 a xs) ∧ R (LX K a) H1
def V5 (K : PySem.W.Frag) (tl : TE) : TI := fun σ H R => tl σ H fun x H1 => ∃ a, x = .ref a ∧ (∃ xs, cP K H1 a xs) ∧ R (Rb K a) H1
theorem aJ {l : Expr} {tl : TE} (hl : PE X l tl) : PI X tg l (NJ X.K tl) := by
 intro pins s σ H R I h
 refine thn (hl pins s σ H _ I h) fun v s1 ⟨x, H1, I1, r1, q1⟩ => ?_
 obtain ⟨a, e, ⟨xs, hq⟩, q⟩ := q1
 subst e
 cases r1
 obtain ⟨its, rv, p, hz⟩ := I1.list hq
 refine wpAny_pyIter_list p.isList ?_
 refine ⟨s1.heap.objs.size, [s1.heap.objs.size], _, _, H1, rfl, I1.kept (t' := s1.toks) fun b o e => Heap.get?_push_of_some _ e, GR a _, ⟨_, Heap.get?_push_size _ rfl, rfl, rfl⟩, fun b hb => ?_, q⟩
 have e : b = s1.heap.objs.size := by simpa using hb
 subst e
 exact I1.tG (Nat.le_refl _) (I1.bt.fresh (Nat.le_refl _))
theorem OD {l : Expr} {tl : TE} (hl : PE X l tl) : PI X tg l (V5 X.K tl) := by
 intro pins s σ H R I h
 refine thn (hl pins s σ H _ I h) fun v s1 ⟨x, H1, I1, r1, q1⟩ => ?_
 obtain ⟨a, e, ⟨xs, hq⟩, q⟩ := q1
 subst e
 cases r1
 obtain ⟨its, rv, p, hz⟩ := I1.tuple hq
 refine wpAny_pyIter_tuple (show s1.heap.IsTuple a its.toArray from p) ?_
 refine ⟨s1.heap.objs.size, [s1.heap.objs.size], _, _, H1, rfl, I1.kept (t' := s1.toks) fun b o e => Heap.get?_push_of_some _ e, DG a _, ⟨_, Heap.get?_push_size _ rfl, rfl, rfl⟩, fun b hb => ?_, q⟩
 have e : b = s1.heap.objs.size := by simpa using hb
 subst e
 exact I1.tG (Nat.le_refl _) (I1.bt.fresh (Nat.le_refl _))
theorem IX {pins : List (Addr × Obj)} {σ : St} {H : Hp} {s : Shared} {R : It → Hp → Prop} {E : Value → Shared → Prop} {lo hi : Int} {t u v : Tok} {tk : Nat} (I : Inv X pins σ H s) (h1 : -(2 ^ 62) ≤ lo) (h2 : lo < 2 ^ 62) (h3 : -(2 ^ 62) ≤ hi) (h4 : hi < 2 ^ 62)
  (q : R (NI lo (hi - lo).toNat) H) : wpAny (model X.prog X.w) X.A (pyIter (.ref s.heap.objs.size)) (V4 X pins σ tg R) E { s with heap := s.heap.push { cls := .type "range", data := .fields #[.int lo t, .int hi u, .int 1 v] }, toks := tk } := by
 refine wpAny_pyIter_range (IsRange.new ..) (small_one h1 h2 h3 h4) ?_
 have I1 : Inv X pins σ H { s with heap := s.heap.push { cls := .type "range", data := .fields #[.int lo t, .int hi u, .int 1 v] }, toks := tk } := I.kept fun b o e => Heap.get?_push_of_some _ e
 refine ⟨(s.heap.push { cls := .type "range", data := .fields #[.int lo t, .int hi u, .int 1 v] }).objs.size, [(s.heap.push { cls := .type "range", data := .fields #[.int lo t, .int hi u, .int 1 v] }).objs.size], _, _, H, rfl,
  I1.kept (t' := tk) fun b o e => Heap.get?_push_of_some _ e, DH _ lo (hi - lo).toNat, ?_, fun b hb => ?_, q⟩
 ·have e1 : lo + ((0 : Nat) : Int) * 1 = lo := by simp
  have e2 : (((hi - lo).toNat : Nat) : Int) - ((0 : Nat) : Int) = Builtin.Range.rangeSize lo hi 1 := by rw [rangeSize_one]; split <;> omega
  show IsRangeIter _ _ (lo + ((0 : Nat) : Int) * 1) ((((hi - lo).toNat : Nat) : Int) - ((0 : Nat) : Int)) 1
  rw [e1, e2]
  exact Heap.get?_push_size _ rfl
 ·have e : b = (s.heap.push { cls := .type "range", data := .fields #[.int lo t, .int hi u, .int 1 v] }).objs.size := by simpa using hb
  subst e
  exact I1.tG (Nat.le_refl _) (I1.bt.fresh (Nat.le_refl _))
def Rc (ta : TA) : TI := fun σ H R => ta σ H fun vs H1 => ∃ j : Int, vs = [.int j] ∧ -(2 ^ 62) ≤ j ∧ j < 2 ^ 62 ∧ R (NI 0 j.toNat) H1
theorem c6 {a : Expr} {ta : TA} {p pos : Pos} (hg : Gl X "range") (hm : X.mg "range" = none) (ha : PA X [a] ta) (hs : starEach [a] X.env = [(false, eval a X.env)] := by rfl) : PI X tg (.Call (.Name "range" p) [a] [] pos) (Rc ta) := by
 intro pins s σ H R I h
 refine Call_ (jA I hg hm boot_range (PyProof.Rows.callWith_type1 (thn (ha pos pins s σ H _ I h) fun us s1 ⟨vs, H1, I1, r1, q1⟩ => ?_) hs rfl))
 obtain ⟨j, e, q1, q2, q⟩ := q1
 subst e
 cases r1 with
 | cons r rr =>
  cases rr
  obtain ⟨t, rfl⟩ := r
  exact call_range_1 (IX I1 (by omega) (by omega) q1 q2 (by simpa using q))
def V6 (wi : TI) (g : TG) (tb : TS) : TS := fun D σ H => wi σ H fun J H1 => ∃ W : Nat → Nat → St → Hp → Prop, (∃ m, W 0 m σ H1) ∧ ∀ i m σ H, W i m σ H →
 (J.stop i H ∧ D.nx σ H) ∨ (J.go i H ∧ ∃ N : St → Hp → Prop, (∀ σ' H', N σ' H' → ∃ m', m' < m ∧ W (i + 1) m' σ' H') ∧ ∀ x H', J.Ma i H x H' → g x σ H' fun σ2 H2 => tb { D with nx := N, ct := N, bk := D.nx } σ2 H2)
def nM (fp : List Addr) (h : Heap) : List (Addr × Obj) := fp.filterMap fun b => (h.get? b).map fun o => (b, o)
theorem bK {fp : List Addr} {h : Heap} {b : Addr} {o : Obj} (hb : b ∈ fp) (e : h.get? b = some o) : (b, o) ∈ nM fp h := List.mem_filterMap.mpr ⟨b, hb, by rw [e]; rfl⟩
theorem GS {fp : List Addr} {h : Heap} {p : Addr × Obj} (hp : p ∈ nM fp h) : p.1 ∈ fp ∧ h.get? p.1 = some p.2 := by
 obtain ⟨b, hb, e⟩ := List.mem_filterMap.mp hp
 cases q : h.get? b with
 | none => rw [q] at e; cases e
 | some o =>
  rw [q] at e
  have e' : (b, o) = p := Option.some.inj e
  subst e'
  exact ⟨hb, q⟩
theorem Inv.pinned {pins : List (Addr × Obj)} {σ : St} {H : Hp} {s : Shared} {fp : List Addr} (I : Inv X pins σ H s) (hf : ∀ b ∈ fp, dM X pins H b) (ho : ∀ b ∈ fp, ∃ o, s.heap.get? b = some o ∧ ∀ v, o.data ≠ .cell v) : Inv X (pins ++ nM fp s.heap) σ H s :=
 I.FE fun p hp => (List.mem_append.mp hp).elim (fun z => I.pin p (List.mem_append_right _ z)) fun z => by
  obtain ⟨hb, e⟩ := GS z
  obtain ⟨f0, f1, f2, _⟩ := hf p.1 hb
  obtain ⟨o, e', d⟩ := ho p.1 hb
  rw [e] at e'; cases e'
  exact ⟨e, f0, f1, f2, d⟩
theorem Inv.fu {pins pl : List (Addr × Obj)} {σ : St} {H : Hp} {s : Shared} (I : Inv X (pins ++ pl) σ H s) : Inv X pins σ H s := I.FE fun p hp => I.pin p (List.mem_append_right _ (List.mem_append_left _ hp))
theorem bj {iter : Expr} {body : List Stmt} {wi : TI} {g : TG} {tb : TS} {pos : Pos} (hp : PassesOwn (model X.prog X.w) X.A X.env X.xe) (hc : X.calm = true) (hi : PI X tg iter wi) (hg : PG X tg g) (hb : FF X body tb)
  (hs : ∀ x, foldedSetIterable iter X.env x = pure x := by intro _; rfl) : PS X (.For tg iter body [] pos) (V6 wi g tb) := by
 intro pins s σ H D I h
 refine wpAny_For (thn (hi pins s σ H _ I h) fun v s1 h1 => thn h1 fun Ra s2 h2 => ?_) hs
 obtain ⟨it, fp, tn, J, H2, e, I2, T, oN, f2, W, ⟨m0, w0⟩, turn⟩ := h2
 subst e
 have nN : ∀ {H' : Hp}, (∀ b ∈ fp, H' b = none) → ∀ b ∈ fp, dM X pins H' b := fun hn b hb => ⟨hn b hb, (f2 b hb).2⟩
 refine codeAny_forLoop_any (fun n s' => ∃ i σ' H', Inv X pins σ' H' s' ∧ tn i s'.heap ∧ (∀ b ∈ fp, H' b = none) ∧ W i n σ' H') ?_ m0 ⟨0, σ, H2, I2, oN, fun b hb => (f2 b hb).1, w0⟩
 rintro n s3 ⟨i, σ3, H3, I3, xM, YH, w3⟩
 rcases turn i n σ3 H3 w3 with ⟨stop, qn⟩ | ⟨go, N, hN, step⟩
 ·refine wpAny_passesOwn hp (thn (T.done X rfl rfl rfl hc i pins s3 σ3 H3 X.xe I3 (nN YH) xM stop) fun r s4 ⟨hr, I4⟩ => ?_)
  subst hr
  exact wpAny_execs_nil ⟨σ3, H3, I4, qn⟩
 ·refine wpAny_passesOwn hp (thn (T.item X rfl rfl rfl hc i pins s3 σ3 H3 X.xe I3 (nN YH) xM go) fun r s4 ⟨u, hr, h4⟩ => ?_)
  subst hr
  refine wpAny_passesOwn hp (thn h4 fun _ s5 ⟨x, H5, I5, r5, y5, sJ, OE⟩ => ?_)
  have I5' := I5.pinned (nN OE) (T.obj _ _ sJ)
  refine wpAny_passesOwn hp (thn (hg _ s5 σ3 H5 x u _ I5' r5 (step x H5 y5)) fun _ s6 ⟨σ6, H6, I6, q6⟩ => ?_)
  refine wpAny_passesOwn hp (thn (hb _ s6 σ6 H6 _ I6 q6) fun f s7 q7 => ?_)
  have again : ∀ {σ7 : St} {H7 : Hp}, Inv X (pins ++ nM fp s5.heap) σ7 H7 s7 → N σ7 H7 → ∃ m, m < n ∧ ∃ i σ' H', Inv X pins σ' H' s7 ∧ tn i s7.heap ∧ (∀ b ∈ fp, H' b = none) ∧ W i m σ' H' := fun {σ7 H7} I7 n7 => by
   obtain ⟨m', hm, w7⟩ := hN σ7 H7 n7
   refine ⟨m', hm, i + 1, σ7, H7, I7.fu, T.keep _ _ _ sJ fun b hb o e => (I7.pin (b, o) (List.mem_append_right _ (List.mem_append_right _ (bK hb e)))).1, fun b hb => ?_, w7⟩
   obtain ⟨o, e, d⟩ := T.obj _ _ sJ b hb
   exact (I7.pin (b, o) (List.mem_append_right _ (List.mem_append_right _ (bK hb e)))).2.1
  cases f with
  | next => obtain ⟨σ7, H7, I7, n7⟩ := q7; exact again I7 n7
  | cont => obtain ⟨σ7, H7, I7, n7⟩ := q7; exact again I7 n7
  | brk => obtain ⟨σ7, H7, I7, q7⟩ := q7; exact ⟨σ7, H7, I7.fu, q7⟩
  | ret v => obtain ⟨x7, σ7, H7, I7, r7, q7⟩ := q7; exact ⟨x7, σ7, H7, I7.fu, r7, q7⟩
end
theorem ba {K : PySem.W.Frag} {a : Addr} {xs : List V} {g : TG} {tb : TS} {D : Ends} {σ : St} {H : Hp} (Pv : Nat → St → Hp → Prop) (h0 : Pv 0 σ H) (hl : ∀ i σ H, i ≤ xs.length → Pv i σ H → ay K H a xs)
  (hs : ∀ i x σ H, xs[i]? = some x → Pv i σ H → g x σ H fun σ2 H2 => tb { D with nx := Pv (i + 1), ct := Pv (i + 1), bk := D.nx } σ2 H2) (hd : ∀ σ H, Pv xs.length σ H → D.nx σ H) :
  ∃ W : Nat → Nat → St → Hp → Prop, (∃ m, W 0 m σ H) ∧ ∀ i m σ H, W i m σ H →
   ((LX K a).stop i H ∧ D.nx σ H) ∨ ((LX K a).go i H ∧ ∃ N : St → Hp → Prop, (∀ σ' H', N σ' H' → ∃ m', m' < m ∧ W (i + 1) m' σ' H') ∧ ∀ x H', (LX K a).Ma i H x H' → g x σ H' fun σ2 H2 => tb { D with nx := N, ct := N, bk := D.nx } σ2 H2) := by
 refine ⟨fun i m σ H => m = xs.length - i ∧ i ≤ xs.length ∧ Pv i σ H, ⟨xs.length, by simp, Nat.zero_le _, h0⟩, ?_⟩
 rintro i m σ H ⟨rfl, hi, p⟩
 have q := hl i σ H hi p
 by_cases eO : i < xs.length
 ·refine .inr ⟨⟨xs, xs[i], q, by simp [eO]⟩, Pv (i + 1), fun σ' H' p' => ⟨xs.length - (i + 1), by omega, rfl, eO, p'⟩, fun x H' y => ?_⟩
  obtain ⟨e, y⟩ := y
  subst e
  exact hs i x σ _ (y xs q) p
 ·have e : i = xs.length := by omega
  subst e
  exact .inl ⟨⟨xs, q, Nat.le_refl _⟩, hd σ H p⟩
theorem Mb {K : PySem.W.Frag} {a : Addr} {xs : List V} {g : TG} {tb : TS} {D : Ends} {σ : St} {H : Hp} (Pv : Nat → St → Hp → Prop) (h0 : Pv 0 σ H) (hl : ∀ i σ H, i ≤ xs.length → Pv i σ H → cP K H a xs)
  (hs : ∀ i x σ H, xs[i]? = some x → Pv i σ H → g x σ H fun σ2 H2 => tb { D with nx := Pv (i + 1), ct := Pv (i + 1), bk := D.nx } σ2 H2) (hd : ∀ σ H, Pv xs.length σ H → D.nx σ H) :
  ∃ W : Nat → Nat → St → Hp → Prop, (∃ m, W 0 m σ H) ∧ ∀ i m σ H, W i m σ H →
   ((Rb K a).stop i H ∧ D.nx σ H) ∨ ((Rb K a).go i H ∧ ∃ N : St → Hp → Prop, (∀ σ' H', N σ' H' → ∃ m', m' < m ∧ W (i + 1) m' σ' H') ∧ ∀ x H', (Rb K a).Ma i H x H' → g x σ H' fun σ2 H2 => tb { D with nx := N, ct := N, bk := D.nx } σ2 H2) := by
 refine ⟨fun i m σ H => m = xs.length - i ∧ i ≤ xs.length ∧ Pv i σ H, ⟨xs.length, by simp, Nat.zero_le _, h0⟩, ?_⟩
 rintro i m σ H ⟨rfl, hi, p⟩
 have q := hl i σ H hi p
 by_cases eO : i < xs.length
 ·refine .inr ⟨⟨xs, xs[i], q, by simp [eO]⟩, Pv (i + 1), fun σ' H' p' => ⟨xs.length - (i + 1), by omega, rfl, eO, p'⟩, fun x H' y => ?_⟩
  obtain ⟨e, y⟩ := y
  subst e
  exact hs i x σ _ (y xs q) p
 ·have e : i = xs.length := by omega
  subst e
  exact .inl ⟨⟨xs, q, Nat.le_refl _⟩, hd σ H p⟩
theorem je {lo : Int} {n : Nat} {g : TG} {tb : TS} {D : Ends} {σ : St} {H : Hp} (Pv : Nat → St → Hp → Prop) (h0 : Pv 0 σ H)
  (hs : ∀ i σ H, i < n → Pv i σ H → g (.int (lo + i)) σ H fun σ2 H2 => tb { D with nx := Pv (i + 1), ct := Pv (i + 1), bk := D.nx } σ2 H2) (hd : ∀ σ H, Pv n σ H → D.nx σ H) :
  ∃ W : Nat → Nat → St → Hp → Prop, (∃ m, W 0 m σ H) ∧ ∀ i m σ H, W i m σ H →
   ((NI lo n).stop i H ∧ D.nx σ H) ∨ ((NI lo n).go i H ∧ ∃ N : St → Hp → Prop, (∀ σ' H', N σ' H' → ∃ m', m' < m ∧ W (i + 1) m' σ' H') ∧ ∀ x H', (NI lo n).Ma i H x H' → g x σ H' fun σ2 H2 => tb { D with nx := N, ct := N, bk := D.nx } σ2 H2) := by
 refine ⟨fun i m σ H => m = n - i ∧ i ≤ n ∧ Pv i σ H, ⟨n, by simp, Nat.zero_le _, h0⟩, ?_⟩
 rintro i m σ H ⟨rfl, hi, p⟩
 by_cases eO : i < n
 ·refine .inr ⟨eO, Pv (i + 1), fun σ' H' p' => ⟨n - (i + 1), by omega, rfl, eO, p'⟩, fun x H' y => ?_⟩
  obtain ⟨e, y⟩ := y
  subst e y
  exact hs i σ _ eO p
 ·have e : i = n := by omega
  subst e
  exact .inl ⟨Nat.le_refl _, hd σ H p⟩
theorem tH {c : TT} {tb : TS} {D : Ends} {σ : St} {H : Hp} (Pv : St → Hp → Prop) (μ : St → Hp → Nat) (h0 : Pv σ H)
  (hs : ∀ σ H, Pv σ H → c σ H fun b H1 => if b = true then tb { D with nx := fun σ' H' => Pv σ' H' ∧ μ σ' H' < μ σ H, ct := fun σ' H' => Pv σ' H' ∧ μ σ' H' < μ σ H, bk := D.nx } σ H1 else D.nx σ H1)
  (mono : ∀ σ H Q Q', (∀ b H1, Q b H1 → Q' b H1) → c σ H Q → c σ H Q') : IW c tb D σ H := by
 refine ⟨fun m σ H => m = μ σ H ∧ Pv σ H, ⟨_, rfl, h0⟩, ?_⟩
 rintro m σ H ⟨rfl, p⟩
 refine mono σ H _ _ (fun b H1 q => ?_) (hs σ H p)
 cases b with
 | true => exact ⟨_, fun σ' H' ⟨p', l⟩ => ⟨_, l, rfl, p'⟩, q⟩
 | false => exact q
end L2
namespace L2
open PySem PySem.Spec PyProof.Rows
abbrev R2 := V → V → Hp → VK → Prop
def pX (X : Cx) (f : Value → Value → Sem Value) (r : R2) : Prop :=
 ∀ (pins : List (Addr × Obj)) (s : Shared) (σ : St) (H : Hp) (x y : V) (v u : Value) (Q : VK), Inv X pins σ H s → RelV x v → RelV y u → r x y H Q →
  wpAny (model X.prog X.w) X.A (f v u) (EP X pins σ Q) X.xe s
def V7 (X : Cx) (f : Value → Sem Value) (r : V → Hp → VK → Prop) : Prop :=
 ∀ (pins : List (Addr × Obj)) (s : Shared) (σ : St) (H : Hp) (x : V) (v : Value) (Q : VK), Inv X pins σ H s → RelV x v → r x H Q →
  wpAny (model X.prog X.w) X.A (f v) (EP X pins σ Q) X.xe s
def jf (X : Cx) (f : Value) (r : List V → Hp → VK → Prop) : Prop :=
 ∀ (pins : List (Addr × Obj)) (s : Shared) (σ : St) (H : Hp) (xs : List V) (us : List Value) (Q : VK), Inv X pins σ H s → Vals xs us → r xs H Q →
  wpAny (model X.prog X.w) X.A (call f us) (EP X pins σ Q) X.xe s
def U4 (r : R2) (ta tb : TE) : TE := fun σ H Q => ta σ H fun x H1 => tb σ H1 fun y H2 => r x y H2 Q
def tUn (r : V → Hp → VK → Prop) (ta : TE) : TE := fun σ H Q => ta σ H fun x H1 => r x H1 Q
def rI (C : Int → Int → Prop) (g : Int → Int → V) : R2 := fun x y H Q => ∃ i j, x = .int i ∧ y = .int j ∧ C i j ∧ Q (g i j) H
def OG (g : Int → Int → V) : R2 := fun x y H Q => ∃ i j, x = .int i ∧ y = .int j ∧ Q (g i j) H
def rU (g : Int → V) : V → Hp → VK → Prop := fun x H Q => ∃ i, x = .int i ∧ Q (g i) H
section
variable {X : Cx} {a b c : Expr} {ta tb tc : TE} {pos : Pos}
theorem OH (ha : PE X a ta) (hb : PE X b tb) {pins : List (Addr × Obj)} {s : Shared} {σ : St} {H : Hp} {R : V → V → Hp → Prop} (I : Inv X pins σ H s)
  (h : ta σ H fun x H1 => tb σ H1 fun y H2 => R x y H2) {Q : Value → Shared → Prop} {f : Value → Value → Sem Value}
  (hf : ∀ v u s2 x y H2, Inv X pins σ H2 s2 → RelV x v → RelV y u → R x y H2 → wpAny (model X.prog X.w) X.A (f v u) Q X.xe s2) :
  wpAny (model X.prog X.w) X.A (eval a X.env) (fun v s₁ => wpAny (model X.prog X.w) X.A (eval b X.env) (fun u s₂ => wpAny (model X.prog X.w) X.A (f v u) Q X.xe s₂) X.xe s₁) X.xe s := by
 refine thn (ha pins s σ H _ I h) fun v s1 ⟨x, H1, I1, r1, q1⟩ => ?_
 refine thn (hb pins s1 σ H1 _ I1 q1) fun u s2 ⟨y, H2, I2, r2, q2⟩ => ?_
 exact hf v u s2 x y H2 I2 r1 r2 q2
theorem aL {op : Operator} {r : R2} (ho : pX X (binaryOp op) r) (ha : PE X a ta) (hb : PE X b tb) : PE X (.BinOp a op b pos) (U4 r ta tb) := by
 intro pins s σ H Q I h
 exact wpAny_BinOp (OH ha hb I h fun v u s2 x y H2 I2 rx ry q => ho pins s2 σ H2 x y v u Q I2 rx ry q)
theorem Rf {op : UnaryOp} {r : V → Hp → VK → Prop} (ho : V7 X (unaryOp op) r) (ha : PE X a ta) : PE X (.UnaryOp op a pos) (tUn r ta) := by
 intro pins s σ H Q I h
 exact UnaryOp_ (thn (ha pins s σ H _ I h) fun v s1 ⟨x, H1, I1, r1, q1⟩ => ho pins s1 σ H1 x v Q I1 r1 q1)
theorem Rg {f : Value → Value → Sem Value} {C : Int → Int → Prop} {g : Int → Int → Int}
  (rule : ∀ (i j : Int) (t u : Tok) (s : Shared) (Q : Value → Shared → Prop) (E : Value → Shared → Prop), C i j → Q (.int (g i j) s.toks) { s with toks := s.toks + 1 } → wpAny (model X.prog X.w) X.A (f (.int i t) (.int j u)) Q E s) :
  pX X f (rI C fun i j => .int (g i j)) := by
 intro pins s σ H x y v u Q I rx ry h
 obtain ⟨i, j, rfl, rfl, hc, q⟩ := h
 obtain ⟨t, rfl⟩ := rx
 obtain ⟨t', rfl⟩ := ry
 exact rule i j t t' s _ _ hc ⟨.int (g i j), H, I.tok _, ⟨_, rfl⟩, q⟩
theorem Rh {f : Value → Value → Sem Value} {g : Int → Int → Int}
  (rule : ∀ (i j : Int) (t u : Tok) (s : Shared) (Q : Value → Shared → Prop) (E : Value → Shared → Prop), Q (.int (g i j) s.toks) { s with toks := s.toks + 1 } → wpAny (model X.prog X.w) X.A (f (.int i t) (.int j u)) Q E s) :
  pX X f (OG fun i j => .int (g i j)) := by
 intro pins s σ H x y v u Q I rx ry h
 obtain ⟨i, j, rfl, rfl, q⟩ := h
 obtain ⟨t, rfl⟩ := rx
 obtain ⟨t', rfl⟩ := ry
 exact rule i j t t' s _ _ ⟨.int (g i j), H, I.tok _, ⟨_, rfl⟩, q⟩
theorem OI {f : Value → Value → Sem Value} {g : Int → Int → Bool}
  (rule : ∀ (i j : Int) (t u : Tok) (s : Shared) (Q : Value → Shared → Prop) (E : Value → Shared → Prop), Q (.bool (g i j)) s → wpAny (model X.prog X.w) X.A (f (.int i t) (.int j u)) Q E s) :
  pX X f (OG fun i j => .bl (g i j)) := by
 intro pins s σ H x y v u Q I rx ry h
 obtain ⟨i, j, rfl, rfl, q⟩ := h
 obtain ⟨t, rfl⟩ := rx
 obtain ⟨t', rfl⟩ := ry
 exact rule i j t t' s _ _ ⟨.bl (g i j), H, I, rfl, q⟩
def V8 (i j : Int) : Prop := 0 < j ∧ j < 1073741824
def OJ (i j : Int) : Prop := (-(2 ^ 64) < i ∧ i < 2 ^ 64) ∨ (-(2 ^ 64) < j ∧ j < 2 ^ 64)
theorem OJ.ok {i j : Int} (h : OJ i j) : IntMulOk i j := by
 rcases h with ⟨h1, h2⟩ | ⟨h1, h2⟩
 ·exact .of_left (intBits_le_64 h1 h2)
 ·exact .of_right (intBits_le_64 h1 h2)
theorem fQ : pX X (binaryOp .Add) (OG fun i j => .int (i + j)) := Rh fun _ _ _ _ _ _ _ q => add_int q
theorem ir : pX X (binaryOp .Sub) (OG fun i j => .int (i - j)) := Rh fun _ _ _ _ _ _ _ q => sub_int q
theorem IY : pX X (binaryOp .Mult) (rI OJ fun i j => .int (i * j)) := Rg fun _ _ _ _ _ _ _ hc q => mul_int q hc.ok
theorem sL : pX X (binaryOp .FloorDiv) (rI V8 fun i j => .int (i / j)) := Rg fun i j _ _ _ _ _ hc q => by
 have h1 : (0 : Int) < j := hc.1
 have h2 : j < 1073741824 := hc.2
 exact floordiv_int (by omega) (by rw [Int.fdiv_eq_ediv_of_nonneg i (by omega)]; exact q) (.inl (PyProof.noPylong_small (by omega)))
theorem gu : pX X (binaryOp .Mod) (rI (fun _ j => 0 < j) fun i j => .int (i % j)) := Rg fun i j _ _ _ _ _ hc q => by
 have h1 : (0 : Int) < j := hc
 exact mod_int' (by omega) (by rw [Int.fmod_eq_emod_of_nonneg i (by omega)]; exact q)
theorem unI {f : Value → Sem Value} {g : Int → Int}
  (rule : ∀ (i : Int) (t : Tok) (s : Shared) (Q : Value → Shared → Prop) (E : Value → Shared → Prop), Q (.int (g i) s.toks) { s with toks := s.toks + 1 } → wpAny (model X.prog X.w) X.A (f (.int i t)) Q E s) :
  V7 X f (rU fun i => .int (g i)) := by
 intro pins s σ H x v Q I rx h
 obtain ⟨i, rfl, q⟩ := h
 obtain ⟨t, rfl⟩ := rx
 exact rule i t s _ _ ⟨.int (g i), H, I.tok _, ⟨_, rfl⟩, q⟩
theorem OK : V7 X (unaryOp .USub) (rU fun i => .int (-i)) := unI fun _ _ _ _ _ q => neg_int q
end
def Ri : V → V → Bool
 | .cJ, .cJ => true | .cJ, .int _ => true | .int _, .cJ => true | .cJ, .bl _ => true | .bl _, .cJ => true | .cJ, .str _ => true | .str _, .cJ => true
 | .int _, .int _ => true | .bl _, .bl _ => true | .str _, .str _ => true | .IA _, .IA _ => true
 | .int _, .str _ => true | .str _, .int _ => true | .bl _, .str _ => true | .str _, .bl _ => true
 | _, _ => false
def rEq : R2 := fun x y H Q => Ri x y = true ∧ Q (.bl (decide (x = y))) H
def rNe : R2 := fun x y H Q => Ri x y = true ∧ Q (.bl (!decide (x = y))) H
theorem FI {i j : Int} : decide (V.int i = V.int j) = (i == j) := by
 rw [Bool.eq_iff_iff]
 simp
theorem IZ {i j : Bool} : decide (V.bl i = V.bl j) = (i == j) := by
 rw [Bool.eq_iff_iff]
 simp
theorem FJ {i j : Str} : decide (V.str i = V.str j) = (i == j) := by
 rw [Bool.eq_iff_iff]
 simp
theorem FK {i j : Array UInt8} : decide (V.IA i = V.IA j) = (i.toList == j.toList) := by
 rw [Bool.eq_iff_iff]
 cases i
 cases j
 simp
section
variable {X : Cx} {a b c : Expr} {ta tb tc : TE} {pos : Pos}
theorem bc {pins : List (Addr × Obj)} {σ : St} {H : Hp} {s : Shared} {Q : VK} {k k' : Bool} (I : Inv X pins σ H s) (q : Q (.bl k) H) (e : k = k') : EP X pins σ Q (.bool k') s := by
 subst e
 exact ⟨.bl k, H, I, rfl, q⟩
theorem dG : pX X (compareOp .Eq) rEq := by
 intro pins s σ H x y v u Q I rx ry h
 obtain ⟨hs, q⟩ := h
 cases x with
 | cJ =>
  cases rx
  cases y with
  | cJ => cases ry; exact PySem.EqNone.eq_none_none (bc I q (by simp))
  | bl j => cases ry; exact PySem.EqNone.eq_none_bool (bc I q (by simp))
  | int j => obtain ⟨t', rfl⟩ := ry; exact PySem.EqNone.eq_none_int (bc I q (by simp))
  | str j => obtain ⟨t', rfl⟩ := ry; exact PySem.EqNone.eq_none_str (bc I q (by simp))
  | _ => exact absurd (show false = true from hs) Bool.false_ne_true
 | bl i =>
  cases rx
  cases y with
  | cJ => cases ry; exact PySem.EqNone.eq_bool_none (bc I q (by simp))
  | bl j => cases ry; exact eq_bool (bc I q IZ)
  | str j => obtain ⟨t', rfl⟩ := ry; exact PySem.EqMixed.eq_bool_str (bc I q (by simp))
  | _ => exact absurd (show false = true from hs) Bool.false_ne_true
 | int i =>
  obtain ⟨t, rfl⟩ := rx
  cases y with
  | cJ => cases ry; exact PySem.EqNone.eq_int_none (bc I q (by simp))
  | int j => obtain ⟨t', rfl⟩ := ry; exact eq_int (bc I q FI)
  | str j => obtain ⟨t', rfl⟩ := ry; exact PySem.EqMixed.eq_int_str (bc I q (by simp))
  | _ => exact absurd (show false = true from hs) Bool.false_ne_true
 | str i =>
  obtain ⟨t, rfl⟩ := rx
  cases y with
  | cJ => cases ry; exact PySem.EqNone.eq_str_none (bc I q (by simp))
  | bl j => cases ry; exact PySem.EqMixed.eq_str_bool (bc I q (by simp))
  | int j => obtain ⟨t', rfl⟩ := ry; exact PySem.EqMixed.eq_str_int (bc I q (by simp))
  | str j => obtain ⟨t', rfl⟩ := ry; exact eq_str (bc I q FJ)
  | _ => exact absurd (show false = true from hs) Bool.false_ne_true
 | IA i =>
  obtain ⟨t, rfl⟩ := rx
  cases y with
  | IA j => obtain ⟨t', rfl⟩ := ry; exact PySem.W.eq_bytes (bc I q FK)
  | _ => exact absurd (show false = true from hs) Bool.false_ne_true
 | _ => cases y <;> exact absurd (show false = true from hs) Bool.false_ne_true
theorem dH : pX X (compareOp .NotEq) rNe := by
 intro pins s σ H x y v u Q I rx ry h
 obtain ⟨hs, q⟩ := h
 cases x with
 | cJ =>
  cases rx
  cases y with
  | cJ => cases ry; exact PySem.EqNone.ne_none_none (bc I q (by simp))
  | bl j => cases ry; exact PySem.EqNone.ne_none_bool (bc I q (by simp))
  | int j => obtain ⟨t', rfl⟩ := ry; exact PySem.EqNone.ne_none_int (bc I q (by simp))
  | str j => obtain ⟨t', rfl⟩ := ry; exact PySem.EqNone.ne_none_str (bc I q (by simp))
  | _ => exact absurd (show false = true from hs) Bool.false_ne_true
 | bl i =>
  cases rx
  cases y with
  | cJ => cases ry; exact PySem.EqNone.ne_bool_none (bc I q (by simp))
  | bl j => cases ry; exact ne_bool (bc I q (congrArg not IZ))
  | str j => obtain ⟨t', rfl⟩ := ry; exact PySem.EqMixed.ne_bool_str (bc I q (by simp))
  | _ => exact absurd (show false = true from hs) Bool.false_ne_true
 | int i =>
  obtain ⟨t, rfl⟩ := rx
  cases y with
  | cJ => cases ry; exact PySem.EqNone.ne_int_none (bc I q (by simp))
  | int j => obtain ⟨t', rfl⟩ := ry; exact ne_int (bc I q (congrArg not FI))
  | str j => obtain ⟨t', rfl⟩ := ry; exact PySem.EqMixed.ne_int_str (bc I q (by simp))
  | _ => exact absurd (show false = true from hs) Bool.false_ne_true
 | str i =>
  obtain ⟨t, rfl⟩ := rx
  cases y with
  | cJ => cases ry; exact PySem.EqNone.ne_str_none (bc I q (by simp))
  | bl j => cases ry; exact PySem.EqMixed.ne_str_bool (bc I q (by simp))
  | int j => obtain ⟨t', rfl⟩ := ry; exact PySem.EqMixed.ne_str_int (bc I q (by simp))
  | str j => obtain ⟨t', rfl⟩ := ry; exact ne_str (bc I q (congrArg not FJ))
  | _ => exact absurd (show false = true from hs) Bool.false_ne_true
 | IA i =>
  obtain ⟨t, rfl⟩ := rx
  cases y with
  | IA j => obtain ⟨t', rfl⟩ := ry; exact PySem.W.ne_bytes (bc I q (congrArg not FK))
  | _ => exact absurd (show false = true from hs) Bool.false_ne_true
 | _ => cases y <;> exact absurd (show false = true from hs) Bool.false_ne_true
theorem tI : pX X (compareOp .Lt) (OG fun i j => .bl (decide (i < j))) := OI fun _ _ _ _ _ _ _ q => lt_int q
theorem NK : pX X (compareOp .LtE) (OG fun i j => .bl (decide (i ≤ j))) := OI fun _ _ _ _ _ _ _ q => le_int q
theorem ny : pX X (compareOp .Gt) (OG fun i j => .bl (decide (j < i))) := OI fun _ _ _ _ _ _ _ q => gt_int q
theorem gk : pX X (compareOp .In) (fun x y H Q => ∃ i j, x = .str i ∧ y = .str j ∧ Q (.bl (!(Builtin.Str.occurrences j i 0 j.length 1).isEmpty)) H) := by
 intro pins s σ H x y v u Q I rx ry h
 obtain ⟨i, j, rfl, rfl, q⟩ := h
 obtain ⟨t, rfl⟩ := rx
 obtain ⟨t', rfl⟩ := ry
 exact in_str (bc I q rfl)
theorem Mc : pX X (compareOp .IsNot) (fun x y H Q => y = .cJ ∧ Q (.bl (!decide (x = .cJ))) H) := by
 intro pins s σ H x y v u Q I rx ry h
 obtain ⟨rfl, q⟩ := h
 cases ry
 refine isnot_none_gen (bc I q ?_)
 cases x <;> first
  | (cases rx; rfl)
  | (obtain ⟨t, rfl⟩ := rx; rfl)
theorem aH (b : Expr) {op : CmpOp} (h : op ≠ .In := by decide) (h2 : op ≠ .NotIn := by decide) : behindInMarks op b = false := by
 have e1 : (op == CmpOp.In) = false := by cases op <;> first | rfl | exact absurd rfl h
 have e2 : (op == CmpOp.NotIn) = false := by cases op <;> first | rfl | exact absurd rfl h2
 cases b <;> simp [behindInMarks, e1, e2]
theorem dN {op : CmpOp} {r : R2} (ho : pX X (compareOp op) r) (ha : PE X a ta) (hb : PE X b tb) (hm : behindInMarks op b = false) : PE X (.Compare a [op] [b] pos) (U4 r ta tb) := by
 intro pins s σ H Q I h
 exact wpAny_Compare1 (OH ha hb I h fun v u s2 x y H2 I2 rx ry q => ho pins s2 σ H2 x y v u Q I2 rx ry q) hm
def Rj (t : TE) : TT := fun σ H Q => t σ H fun x H' => ∃ k, x = .bl k ∧ Q k H'
theorem au {op : CmpOp} {r : R2} (ho : pX X (compareOp op) r) (ha : PE X a ta) (hb : PE X b tb) (hm : behindInMarks op b = false) : PT X (.Compare a [op] [b] pos) (Rj (U4 r ta tb)) := by
 intro pins s σ H Q I h
 refine wpAny_isTrue_Compare1 (thn (ha pins s σ H _ I h) fun v s1 ⟨x, H1, I1, r1, q1⟩ => thn (hb pins s1 σ H1 _ I1 q1) fun u s2 ⟨y, H2, I2, r2, q2⟩ =>
  thn (ho pins s2 σ H2 x y v u _ I2 r1 r2 q2) fun c s3 ⟨z, H3, I3, r3, k, e, q3⟩ => ?_) hm
 subst e
 cases r3
 exact wpAny_truthy_bool ⟨H3, I3, q3⟩
def OL (r r' : R2) (ta tb tc : TE) : TE := fun σ H Q => ta σ H fun x H1 => tb σ H1 fun y H2 => r x y H2 fun z H3 => ∃ k, z = .bl k ∧
 (if k = true then tc σ H3 fun w' H4 => r' y w' H4 Q else Q (.bl false) H3)
theorem I0 {op V9 : CmpOp} {r r' : R2} (ho : pX X (compareOp op) r) (L7 : pX X (compareOp V9) r') (ha : PE X a ta) (hb : PE X b tb) (hc : PE X c tc)
  (hm : lastMarks [op, V9] [b, c] = false := by with_unfolding_all rfl) : PE X (.Compare a [op, V9] [b, c] pos) (OL r r' ta tb tc) := by
 intro pins s σ H Q I h
 refine Compare_chain (thn (ha pins s σ H _ I h) fun v s1 ⟨x, H1, I1, r1, q1⟩ => chain_link (thn (hb pins s1 σ H1 _ I1 q1) fun u s2 ⟨y, H2, I2, r2, q2⟩ =>
  thn (ho pins s2 σ H2 x y v u _ I2 r1 r2 q2) fun d s3 ⟨z, H3, I3, r3, k, e, q3⟩ => ?_)) hm
 subst e
 cases r3
 refine wpAny_truthy_bool ?_
 cases k with
 | false => exact ite_ff ⟨.bl false, H3, I3, rfl, q3⟩
 | true => exact ite_tt (chain_last (thn (hc pins s3 σ H3 _ I3 q3) fun w' s4 ⟨z', H4, I4, r4, q4⟩ => L7 pins s4 σ H4 y z' u w' Q I4 r2 r4 q4))
theorem p8 : (sizeLine : Nat) < 2 ^ 63 := by rw [sizeLine_eq]; decide
theorem bU : pX X (binaryOp .Add) (fun x y H Q => ∃ i j, x = .str i ∧ y = .str j ∧ i.length + j.length ≤ sizeLine ∧ Q (.str (i ++ j)) H) := by
 intro pins s σ H x y v u Q I rx ry h
 obtain ⟨i, j, rfl, rfl, hz, q⟩ := h
 obtain ⟨t, rfl⟩ := rx
 obtain ⟨t', rfl⟩ := ry
 exact add_str (fun t' tk => ⟨.str (i ++ j), H, I.tok _, ⟨_, rfl⟩, q⟩) hz
theorem vals1 {x : V} {us : List Value} (r : Vals [x] us) : ∃ u, us = [u] ∧ RelV x u := by
 cases r with
 | cons r1 r2 => cases r2; exact ⟨_, rfl, r1⟩
theorem vals2 {x y : V} {us : List Value} (r : Vals [x, y] us) : ∃ u w', us = [u, w'] ∧ RelV x u ∧ RelV y w' := by
 cases r with
 | cons r1 r2 =>
  cases r2 with
  | cons r3 r4 => cases r4; exact ⟨_, _, rfl, r1, r3⟩
theorem BP : jf X (.builtin "abs") (fun xs H Q => ∃ i, xs = [.int i] ∧ Q (.int (if i < 0 then -i else i)) H) := by
 intro pins s σ H xs us Q I r h
 obtain ⟨i, rfl, q⟩ := h
 obtain ⟨u, rfl, t, rfl⟩ := vals1 r
 exact call_abs_int fun u tk => ⟨.int (if i < 0 then -i else i), H, I.tok _, ⟨_, rfl⟩, q⟩
theorem yI : jf X (.type "str") (fun xs H Q => ∃ i, xs = [.int i] ∧ i.natAbs.log2 < 1920 ∧ Q (.str (toString i)) H) := by
 intro pins s σ H xs us Q I r h
 obtain ⟨i, rfl, hz, q⟩ := h
 obtain ⟨u, rfl, t, rfl⟩ := vals1 r
 exact PySem.P.str_of_int hz ⟨.str _, H, I.tok _, ⟨_, rfl⟩, q⟩
end
end L2
namespace L2
open PySem PySem.Spec PyProof.Rows
structure DI (h : Heap) (x dx C : Addr) (mA : Str → Option Value) : Prop where
 obj : h.get? x = some (PySem.W.instObj C dx)
 ns : h.Ns1 dx mA
 ne : dx ≠ x
theorem GU {h : Heap} {dx : Addr} {mA : Str → Option Value} (n : h.Ns1 dx mA) : ∃ od, h.get? dx = some od ∧ ∀ name, PySem.W.lookIn name od = some (mA name) := by
 obtain ⟨o, es, ep, ho, hd, hk, _, hm⟩ := n
 refine ⟨o, ho, fun name => ?_⟩
 have e := hm name
 unfold nsFind findBy at e
 rw [← Array.find?_toList] at e
 unfold PySem.W.lookIn
 rw [hd]
 dsimp only
 split
 ·rename_i y q
  rw [q] at e
  exact congrArg some e
 ·rename_i q
  rw [q] at e
  have a : es.toList.any (·.refKey) = false := by
   rw [List.any_eq_false]
   intro y hy
   obtain ⟨z, t, Wa⟩ := hk y (Array.mem_toList_iff.mp hy)
   simp [DictEntry.refKey, Wa]
  have a' : ¬ es.toList.any (·.refKey) = true := by rw [a]; exact Bool.false_ne_true
  rw [if_neg a']
  exact congrArg some e
theorem DI.look {h : Heap} {x dx C : Addr} {mA : Str → Option Value} (I : DI h x dx C mA) : ∃ od, PySem.W.InstAt h x (PySem.W.instObj C dx) C (some od) ∧ ∀ name, PySem.W.lookIn name od = some (mA name) :=
 let ⟨od, ho, hl⟩ := GU I.ns
 ⟨od, ⟨I.obj, rfl, rfl, ho⟩, hl⟩
section
variable {prog : Program} {w : World} {A : Around} {E : Value → Shared → Prop} {s : Shared} {K : PySem.W.Frag} {x dx C f : Addr} {mA : Str → Option Value} {name : Str} {v : Value}
theorem get_map {expr : Bool} {Q : Value → Shared → Prop} (X : K.In s.heap) (I : DI s.heap x dx C mA) (hg : PySem.W.plainGet K C name = true) (hh : PySem.W.hasDictIn K C = true)
  (ha : PySem.W.findIn K (.ref C) name = some none) (hv : mA name = some v) (hv' : PySem.W.handedIn v = true) (h : Q v { s with toks := s.toks + 1 }) :
  wpAny (model prog w) A (getAttr (.ref x) name expr) Q E s := by
 obtain ⟨od, J, hl⟩ := I.look
 exact PySem.W.get_value X J (PySem.W.plainGet_of hg).1 (PySem.W.findObj_own hh ha rfl (by rw [hl, hv])) hv' h
theorem I8 {pl : Sem Bool} {Q : Value × List Value → Shared → Prop} (X : K.In s.heap) (I : DI s.heap x dx C mA) (hg : PySem.W.plainGet K C name = true)
  (hf : PySem.W.findIn K (.ref C) name = some (some (.ref f))) (ht : PySem.W.isFn K (.ref f) = true) (hv : mA name = none) (h : Q (.ref f, [.ref x]) s) :
  wpAny (model prog w) A (getMethod (.ref x) name pl) Q E s := by
 obtain ⟨od, J, hl⟩ := I.look
 exact PySem.W.method_fn X J (PySem.W.plainGet_of hg).1 (PySem.W.plainGet_of hg).2 hf (beq_iff_eq.mp ht) (by show (PySem.W.lookIn name od).map (·.isSome) = some false; rw [hl, hv]; rfl) h
theorem Md {ns : List Str} {Q : Unit → Shared → Prop} (X : K.In s.heap) (I : DI s.heap x dx C mA)
  (hs : PySem.W.findIn K (.ref C) "__setattr__" = some (some (.builtin "object.__setattr__"))) (hp : PySem.W.plainOver K C = true) (ht : PySem.W.takerIn K C name = some none) (hh : PySem.W.hasDictIn K C = true)
  (hw : PySem.Within mA ns) (hsz : ns.length ≤ sizeLine)
  (h : ∀ h', DI h' x dx C (fun y => if y = name then some v else mA y) → Heap.SameBut dx s.heap h' → Q () { s with heap := h', toks := s.toks + 2 }) :
  wpAny (model prog w) A (setAttr (.ref x) name v) Q E s := by
 obtain ⟨od, J, hl⟩ := I.look
 refine PySem.W.set_plain X J hs (PySem.W.osa_open (s := { s with toks := s.toks + 1 }) (r := none) X J hp ht fun b => ?_)
 obtain ⟨cd, hc, VP⟩ := PySem.W.any_some hh
 have hx : s.heap.get? x = some ⟨.ref C, some dx, .plain, #[]⟩ := I.obj
 refine wpAny_bind (wpAny_pure (wpAny_bind (wpAny_bind (wpAny_loadPart hx (wpAny_bind (PySem.W.Looks.here (s := { s with toks := s.toks + 1 }) (PySem.W.looks_clsIn X hc) ?_))))))
 rw [VP]
 refine wpAny_pure (a := some dx) (wpAny_bind (wpAny_pure (wpAny_bind ?_)))
 refine wpAny_nsSet1 (s := { s with toks := s.toks + 1 }) I.ns fun h' U5 tJ => ?_
 obtain ⟨oD, esD, epD, hoD, hdD, hcD⟩ := U5.count (PySem.Within.cons name v hw)
 refine wpAny_bind (wpAny_lookBehind hoD (by rw [hdD]; exact pastItsLine_dict (Nat.le_trans hcD (by rw [List.length_cons]; omega))) ?_)
 exact wpAny_pure (h _ ⟨(tJ.2 _ (Ne.symm I.ne)).trans I.obj, U5, I.ne⟩ tJ)
theorem I9 {R : Result → Shared → Prop} {vs : List Value} {kw : List (Str × Value)} (X : K.In s.heap) (hm : PySem.W.makesIn K C = true)
  (hi : PySem.W.findIn K (.ref C) "__init__" = some (some (.ref f))) (hf : PySem.W.typeIn K (.ref f) = some (.type "function"))
  (h : codeAny (model prog w) (A.under (.builtin "type.__call__" ⟨.ref C :: vs, kw⟩)) (.call (.ref f) ⟨.ref (s.heap.objs.size + 1) :: vs, kw⟩) (PySem.W.InitBack (s.heap.objs.size + 1) R)
   { s with heap := (s.heap.push PySem.W.emptyDict).push (PySem.W.instObj C s.heap.objs.size) }) :
  codeAny (model prog w) A (.call (.ref C) ⟨vs, kw⟩) R s := by
 obtain ⟨hh, g, d, t, os⟩ := s
 exact PySem.W.make_core (PySem.W.makes_of X hm) (PySem.W.looks_findIn X hi) (fun self => PySem.W.bind_fn X self hf) (.inl rfl) h
end
def bB (f : Str) (v : V) : List (Str × V) → List (Str × V)
 | [] => [(f, v)]
 | (g, x) :: r => if g = f then (g, v) :: r else (g, x) :: bB f v r
theorem aQ (f g : Str) (v : V) : ∀ fs : List (Str × V), (bB f v fs).lookup g = if g = f then some v else fs.lookup g
 | [] => by
  show List.lookup g [(f, v)] = _
  by_cases h : g = f
  ·have hb : (g == f) = true := beq_iff_eq.mpr h
   simp only [List.lookup, hb, if_pos h]
  ·have hb : (g == f) = false := beq_eq_false_iff_ne.mpr h
   simp only [List.lookup, hb, if_neg h]
 | (k, x) :: r => by
  have ih := aQ f g v r
  rw [show bB f v ((k, x) :: r) = (if k = f then (k, v) :: r else (k, x) :: bB f v r) from rfl]
  by_cases hk : k = f
  ·rw [if_pos hk]
   by_cases h : g = k
   ·have hb : (g == k) = true := beq_iff_eq.mpr h
    simp only [List.lookup, hb, if_pos (h.trans hk)]
   ·have hb : (g == k) = false := beq_eq_false_iff_ne.mpr h
    simp only [List.lookup, hb, if_neg (fun e : g = f => h (e.trans hk.symm))]
  ·rw [if_neg hk]
   by_cases h : g = k
   ·have hb : (g == k) = true := beq_iff_eq.mpr h
    simp only [List.lookup, hb, if_neg (fun e : g = f => hk (h.symm.trans e))]
   ·have hb : (g == k) = false := beq_eq_false_iff_ne.mpr h
    simp only [List.lookup, hb]
    exact ih
theorem qa (f : Str) (v : V) : ∀ fs : List (Str × V), f ∈ (bB f v fs).map (·.1) ∧ ∀ g, g ∈ fs.map (·.1) → g ∈ (bB f v fs).map (·.1)
 | [] => ⟨by simp [bB], fun g h => by simp at h⟩
 | (k, x) :: r => by
  obtain ⟨i1, i2⟩ := qa f v r
  rw [show bB f v ((k, x) :: r) = (if k = f then (k, v) :: r else (k, x) :: bB f v r) from rfl]
  by_cases hk : k = f
  ·rw [if_pos hk]
   subst hk
   exact ⟨by simp, fun g h => by simpa using h⟩
  ·rw [if_neg hk]
   refine ⟨?_, fun g h => ?_⟩
   ·rw [List.map_cons]
    exact List.mem_cons_of_mem _ i1
   ·rw [List.map_cons] at h ⊢
    rcases List.mem_cons.mp h with e | e
    ·exact List.mem_cons.mpr (.inl e)
    ·exact List.mem_cons_of_mem _ (i2 g e)
theorem rp (f : Str) (v : V) : ∀ fs : List (Str × V), (bB f v fs).length ≤ fs.length + 1
 | [] => by simp [bB]
 | (k, x) :: r => by
  have ih := rp f v r
  rw [show bB f v ((k, x) :: r) = (if k = f then (k, v) :: r else (k, x) :: bB f v r) from rfl]
  by_cases hk : k = f
  ·rw [if_pos hk, List.length_cons, List.length_cons]; omega
  ·rw [if_neg hk, List.length_cons, List.length_cons]; omega
theorem kW.some_of {v : V} {o : Option Value} (r : kW (some v) o) : ∃ u, o = some u ∧ RelV v u := by
 cases o with
 | none => exact (show False from r).elim
 | some u => exact ⟨u, rfl, r⟩
theorem kW.none_of {o : Option Value} (r : kW none o) : o = none := by
 cases o with
 | none => rfl
 | some u => exact (show False from r).elim
theorem GV {v : V} {u : Value} (r : RelV v u) : PySem.W.handedIn u = true := by
 cases v with
 | cJ => cases (show u = Value.none from r); rfl
 | bl b => cases (show u = Value.bool b from r); rfl
 | int i => obtain ⟨t, e⟩ := (show ∃ t, u = Value.int i t from r); cases e; rfl
 | str x => obtain ⟨t, e⟩ := (show ∃ t, u = Value.str x t from r); cases e; rfl
 | IA b => obtain ⟨t, e⟩ := (show ∃ t, u = Value.bytes b t from r); cases e; rfl
 | Ot b => obtain ⟨t, e⟩ := (show ∃ t, u = Value.float b t from r); cases e; rfl
 | ref a => cases (show u = Value.ref a from r); rfl
 | ty n => cases (show u = Value.type n from r); rfl
section
variable {P : Program} {w : World} {H H' : Hp} {h h' : Heap} {a C dx : Addr} {fs Ow : List (Str × V)}
theorem sN (bt : nh P w H h) (e : H a = some (.ins C dx fs)) : ∃ mA, DI h a dx C mA ∧ (∀ f, kW (fs.lookup f) (mA f)) ∧ PySem.Within mA (fs.map (·.1)) ∧ fs.length ≤ 1000 ∧ H dx = some (.own a) := by
 obtain ⟨d, z, ne, ob, mA, n, r, q⟩ := (show cn P w H h a (.ins C dx fs) from bt a _ e)
 exact ⟨mA, ⟨ob, n, ne⟩, r, q, z, d⟩
end
structure DA (K : PySem.W.Frag) (C : Addr) : Prop where
 pg : PySem.W.plainGet K C Str.empty = true
 hd : PySem.W.hasDictIn K C = true
 po : PySem.W.plainOver K C = true
 sa : PySem.W.findIn K (.ref C) "__setattr__" = some (some (.builtin "object.__setattr__"))
theorem DA.get {K : PySem.W.Frag} {C : Addr} (c : DA K C) (f : Str) : PySem.W.plainGet K C f = true := c.pg
def cz (K : PySem.W.Frag) (C : Addr) (f : Str) : Prop := PySem.W.findIn K (.ref C) f = some none
theorem cz.Rk {K : PySem.W.Frag} {C : Addr} {f : Str} (n : cz K C f) : PySem.W.takerIn K C f = some none := by
 unfold PySem.W.takerIn
 rw [show PySem.W.findIn K (.ref C) f = some none from n]
 rfl
structure Con (K : PySem.W.Frag) (C : Addr) (f : Str) (v : V) (u : Value) : Prop where
 at_ : PySem.W.findIn K (.ref C) f = some (some u)
 rel : RelV v u
 get : PySem.W.specialIn K u "__get__" = some none
 cp : PySem.W.copiedNames.contains f = false
structure Meth (K : PySem.W.Frag) (C : Addr) (m : Str) (f : Addr) : Prop where
 at_ : PySem.W.findIn K (.ref C) m = some (some (.ref f))
 fn : PySem.W.isFn K (.ref f) = true
 kp : PySem.W.keepIn K (.ref f) = true
section
variable {X : Cx} {pins : List (Addr × Obj)} {σ : St} {H : Hp} {s : Shared} {a C dx : Addr} {fs : List (Str × V)} {f : Str} {v : V} {A : Around} {E : Value → Shared → Prop}
theorem getattr_ok {b : Bool} {Q : Value → Shared → Prop} (I : Inv X pins σ H s) (e : H a = some (.ins C dx fs)) (c : DA X.K C) (n : cz X.K C f) (l : fs.lookup f = some v)
  (h : ∀ u s', Inv X pins σ H s' → RelV v u → Q u s') : wpAny (model X.prog X.w) A (getAttr (.ref a) f b) Q E s := by
 obtain ⟨mA, O, r, _, _, _⟩ := sN I.bt e
 obtain ⟨u, hu, ru⟩ := kW.some_of (v := v) (o := mA f) (by rw [← l]; exact r f)
 exact get_map I.rm O (c.get f) c.hd n hu (GV ru) (h u _ (I.tok _) ru)
theorem nO {m : Str} {g : Addr} {pl : Sem Bool} {Q : Value × List Value → Shared → Prop} (I : Inv X pins σ H s) (e : H a = some (.ins C dx fs)) (c : DA X.K C) (k : Meth X.K C m g) (l : fs.lookup m = none)
  (h : Q (.ref g, [.ref a]) s) : wpAny (model X.prog X.w) A (getMethod (.ref a) m pl) Q E s := by
 obtain ⟨mA, O, r, _, _, _⟩ := sN I.bt e
 have hn : mA m = none := kW.none_of (by rw [← l]; exact r m)
 exact I8 I.rm O (c.get m) k.at_ k.fn hn h
theorem DJ {y : V} {u : Value} {Q : Unit → Shared → Prop} (I : Inv X pins σ H s) (e : H a = some (.ins C dx fs)) (c : DA X.K C) (n : cz X.K C f) (hl : fs.length < 1000) (ry : RelV y u)
  (h : ∀ s', Inv X pins σ (upd H a (.ins C dx (bB f y fs))) s' → Q () s') : wpAny (model X.prog X.w) A (setAttr (.ref a) f u) Q E s := by
 obtain ⟨mA, O, r, wi, _, ho⟩ := sN I.bt e
 have hz : (fs.map (·.1)).length ≤ sizeLine := by rw [Lm9, sizeLine_eq]; omega
 refine Md I.rm O c.sa c.po n.Rk c.hd wi hz fun h' O' sb => h _ ?_
 have hd : ∃ o, h'.get? dx = some o := let ⟨o, _, _, e', _⟩ := O'.ns; ⟨o, e'⟩
 refine I.write (x := a) (e := dx) (by rw [e]; exact True.intro) (.inr ho) (fun b q hb z => (sb.2 b hb).trans z) hd ?_
 refine ⟨by rw [aq O.ne]; exact ho, ?_, O.ne, O'.obj, _, O'.ns, fun g => ?_, fun g hg => ?_⟩
 ·have := rp f y fs; omega
 ·show kW ((bB f y fs).lookup g) (if g = f then some u else mA g)
  rw [aQ]
  by_cases q : g = f
  ·rw [if_pos q, if_pos q]; exact ry
  ·rw [if_neg q, if_neg q]; exact r g
 ·by_cases q : g = f
  ·rw [q]; exact (qa f y fs).1
  ·refine (qa f y fs).2 g (wi g fun z => hg ?_)
   show (if g = f then some u else mA g) = none
   rw [if_neg q]; exact z
theorem Inv.made (I : Inv X pins σ H s) : Inv X pins σ (upd (upd H s.heap.objs.size (.own (s.heap.objs.size + 1))) (s.heap.objs.size + 1) (.ins C s.heap.objs.size []))
  { s with heap := (s.heap.push PySem.W.emptyDict).push (PySem.W.instObj C s.heap.objs.size) } := by
 have e1 : (s.heap.push PySem.W.emptyDict).get? s.heap.objs.size = some PySem.W.emptyDict := Heap.get?_push_size s.heap rfl
 have e2 : ((s.heap.push PySem.W.emptyDict).push (PySem.W.instObj C s.heap.objs.size)).get? (s.heap.objs.size + 1) = some (PySem.W.instObj C s.heap.objs.size) := by
  have := Heap.get?_push_size (s.heap.push PySem.W.emptyDict) (o := PySem.W.instObj C s.heap.objs.size) rfl
  rwa [Heap.size_push] at this
 have e3 : (s.heap.push PySem.W.emptyDict).Ns s.heap.objs.size (fun _ => none) := ⟨PySem.W.emptyDict, #[], _, e1, rfl, (fun e he => absurd he (by simp)), fun _ => rfl⟩
 have I1 := I.laid (a := s.heap.objs.size) (o := .own (s.heap.objs.size + 1)) (h' := s.heap.push PySem.W.emptyDict) (t' := s.toks) (fun b u q => Heap.get?_push_of_some _ q) (Nat.le_refl _) ⟨_, e1⟩
 refine I1.laid (a := s.heap.objs.size + 1) (o := .ins C s.heap.objs.size []) (t' := s.toks) (fun b u q => Heap.get?_push_of_some _ q) (Nat.le_of_eq (Heap.size_push _ _)) ?_
 have ne : s.heap.objs.size ≠ s.heap.objs.size + 1 := Nat.ne_of_lt (Nat.lt_succ_self _)
 refine ⟨by rw [aq ne, af], Nat.zero_le _, ne, e2, fun _ => none, (Heap.Ns1.of_empty e3).at fun o q => Heap.get?_push_of_some _ q, fun _ => True.intro, fun y hy => absurd rfl hy⟩
theorem attr_of {prog : Program} {w : World} {env : Env} {e : Expr} {f : Str} {pos : Pos} {s : Shared} {Q : Value → Shared → Prop} (hb : attributeBase e f env (eval e env) = eval e env)
  (h : wpAny (model prog w) A (eval e env) (fun o s₁ => wpAny (model prog w) A (getAttr o f true) Q E s₁) E s) : wpAny (model prog w) A (eval (.Attribute e f pos) env) Q E s :=
 Attribute_any_ h (by rw [arm_eval_Attribute, hb])
end
def tFld (K : PySem.W.Frag) (ta : TE) (f : Str) : TE := fun σ H Q => ta σ H fun x H1 => ∃ a C dx fs v, x = .ref a ∧ H1 a = some (.ins C dx fs) ∧ DA K C ∧ cz K C f ∧ fs.lookup f = some v ∧ Q v H1
def Wb (K : PySem.W.Frag) (ta tv : TE) (f : Str) : TS := fun D σ H => tv σ H fun y H1 => ta σ H1 fun x H2 => ∃ a C dx fs, x = .ref a ∧ H2 a = some (.ins C dx fs) ∧ DA K C ∧ cz K C f ∧ fs.length < 1000 ∧
 D.nx σ (upd H2 a (.ins C dx (bB f y fs)))
section
variable {X : Cx} {o e value : Expr} {f : Str} {pos pos' Ja : Pos} {ta tv : TE}
theorem pe_fld (he : PE X e ta) (hb : attributeBase e f X.env (eval e X.env) = eval e X.env) : PE X (.Attribute e f pos) (tFld X.K ta f) := by
 intro pins s σ H Q I h
 refine attr_of hb (thn (he pins s σ H _ I h) fun u s1 ⟨x, H1, I1, rx, a, C, dx, fs, v, ex, ea, c, n, l, q⟩ => ?_)
 subst ex
 obtain rfl : u = Value.ref a := rx
 exact getattr_ok I1 ea c n l fun u' s2 I2 ru => ⟨v, H1, I2, ru, q⟩
theorem ps_fld (ha : PE X o ta) (hv : PE X value tv) (hs : swapsWith value (some (.Attribute o f pos')) pos.line X.env = pure false) : PS X (.Assign [.Attribute o f pos'] value pos) (Wb X.K ta tv f) := by
 intro pins s σ H D I h
 refine plainObj_wpAny_Assign_Attribute (thn (hv pins s σ H _ I h) fun u s1 ⟨y, H1, I1, ry, q⟩ => thn (ha pins s1 σ H1 _ I1 q) fun ov s2 ⟨x, H2, I2, rx, a, C, dx, fs, ex, ea, c, n, l, q2⟩ => ?_) hs
 subst ex
 obtain rfl : ov = Value.ref a := rx
 exact DJ I2 ea c n l ry fun s3 I3 => ⟨σ, _, I3, q2⟩
theorem NL {pl : Sem Bool} {m : Str} {apos : Pos} {args : List Expr} {pins : List (Addr × Obj)} {s : Shared} {σ : St} {H : Hp} {Q : Value → Shared → Prop} {te : TE} (he : PE X e te) (I : Inv X pins σ H s)
  (h : te σ H fun x H1 => ∃ a C dx fs g, x = .ref a ∧ H1 a = some (.ins C dx fs) ∧ DA X.K C ∧ Meth X.K C m g ∧ fs.lookup m = none ∧
   ∀ s1, Inv X pins σ H1 s1 → wpAny (model X.prog X.w) X.A (callWith pos (.ref g) [.ref a] (backTo pos (starEach args X.env)) (backToKw pos (keywordEach [] X.env))) Q X.xe s1)
  (ht : eval (.Call (.Attribute e m apos) args [] pos) X.env = (do
   let ov ← eval e X.env
   standAt apos.atName
   let (f, first) ← holding [ov] (getMethod ov m pl)
   callWith pos f first (backTo pos (starEach args X.env)) (backToKw pos (keywordEach [] X.env)))) :
  wpAny (model X.prog X.w) X.A (eval (.Call (.Attribute e m apos) args [] pos) X.env) Q X.xe s := by
 refine PySem.W.methodCall_KW (pl := pl) (thn (he pins s σ H _ I h) fun u s1 ⟨x, H1, I1, rx, a, C, dx, fs, g, ex, ea, c, k, l, q⟩ => ?_) ht
 subst ex
 obtain rfl : u = Value.ref a := rx
 exact nO I1 ea c k l (q s1 I1)
end
section
variable {X : Cx} {pins : List (Addr × Obj)} {σ : St} {H : Hp} {s : Shared} {A : Around} {E : Value → Shared → Prop} {Q : Value → Shared → Prop} {c : Value} {b : Bool}
inductive qb (K : PySem.W.Frag) (H : Hp) : V → Value → Prop where
 | cJ : qb K H .cJ (.type "NoneType")
 | bl (x : Bool) : qb K H (.bl x) (.type "bool")
 | int (i : Int) : qb K H (.int i) (.type "int")
 | str (x : Str) : qb K H (.str x) (.type "str")
 | Ot (x : UInt64) : qb K H (.Ot x) (.type "float")
 | lst {a : Addr} {xs : List V} (e : H a = some (.lst xs)) : qb K H (.ref a) (.type "list")
 | tp {a : Addr} {o : Obj} {xs : List V} (e : H a = some (.tp o (.lst xs))) : qb K H (.ref a) (.type "list")
 | tup {a : Addr} {xs : List V} (e : H a = some (.tup xs)) : qb K H (.ref a) (.type "tuple")
 | dK {a : Addr} {kvs : List (Key × V)} (e : H a = some (.dK kvs)) : qb K H (.ref a) (.type "dict")
 | dT {a : Addr} {kvs : List (List Key × V)} (e : H a = some (.dT kvs)) : qb K H (.ref a) (.type "dict")
 | ins {a C dx : Addr} {fs : List (Str × V)} (e : H a = some (.ins C dx fs)) (cl : DA K C) (ha : PySem.W.findIn K (.ref C) "__class__" = some (some (.builtin "object.__class__")))
   (hn : PySem.W.specialIn K (.builtin "object.__class__") "__get__" = some (some (.builtin "getset_descriptor.__get__"))) (Rm : PySem.W.takesIn K (.builtin "object.__class__") = some true)
   (hm : PySem.W.mroIn K C (.type "object") = some true) : qb K H (.ref a) (.ref C)
theorem GW {x : V} {u t : Value} (I : Inv X pins σ H s) (rx : RelV x u) (ty : qb X.K H x t) (e : PySem.W.kitOne X.K t c = some b) (h : ∀ tk, Q (.bool b) { s with toks := tk }) :
  wpAny (model X.prog X.w) A (call (.builtin "isinstance") [u, c]) Q E s := by
 cases ty with
 | cJ => cases (show u = Value.none from rx); exact PySem.W.kia_one PySem.W.kitx_none I.rm True.intro e (fun z => nomatch z) h
 | bl y => cases (show u = Value.bool y from rx); exact PySem.W.kia_one PySem.W.kitx_bool I.rm True.intro e (fun z => nomatch z) h
 | int i => obtain ⟨t, q⟩ := (show ∃ t, u = Value.int i t from rx); cases q; exact PySem.W.kia_one PySem.W.kitx_int I.rm True.intro e (fun z => nomatch z) h
 | str y => obtain ⟨t, q⟩ := (show ∃ t, u = Value.str y t from rx); cases q; exact PySem.W.kia_one PySem.W.kitx_str I.rm True.intro e (fun z => nomatch z) h
 | Ot y => obtain ⟨t, q⟩ := (show ∃ t, u = Value.float y t from rx); cases q; exact PySem.W.kia_one PySem.W.kitx_float I.rm True.intro e (fun z => nomatch z) h
 | @lst a xs ea =>
  cases (show u = Value.ref a from rx)
  obtain ⟨_, _, n, _, h1⟩ := (show cn X.prog X.w H s.heap a (.lst xs) from I.bt a _ ea)
  exact PySem.W.kia_one PySem.W.kitx_list I.rm ⟨_, h1, rfl⟩ e (fun z => nomatch z) h
 | @tp a ob xs ea =>
  cases (show u = Value.ref a from rx)
  obtain ⟨_, _, _, n, _, h1⟩ := (show cn X.prog X.w H s.heap a (.tp ob (.lst xs)) from I.bt a _ ea)
  exact PySem.W.kia_one PySem.W.kitx_list I.rm ⟨_, h1, rfl⟩ e (fun z => nomatch z) h
 | @tup a xs ea =>
  cases (show u = Value.ref a from rx)
  obtain ⟨_, _, _, p⟩ := (show cn X.prog X.w H s.heap a (.tup xs) from I.bt a _ ea)
  obtain ⟨o, h1, h2, _⟩ := p
  exact PySem.W.kia_one PySem.W.kitx_tuple I.rm ⟨o, h1, h2⟩ e (fun z => nomatch z) h
 | @dK a kvs ea =>
  cases (show u = Value.ref a from rx)
  obtain ⟨_, _, vs, _, p⟩ := (show cn X.prog X.w H s.heap a (.dK kvs) from I.bt a _ ea)
  obtain ⟨o, es, ep, h1, h2, _⟩ := p
  exact PySem.W.kia_one PySem.W.kitx_dict I.rm ⟨o, h1, h2.1⟩ e (fun z => nomatch z) h
 | @dT a kvs ea =>
  cases (show u = Value.ref a from rx)
  obtain ⟨_, _, xs, _, o, es, ep, h1, h2, _⟩ := (show cn X.prog X.w H s.heap a (.dT kvs) from I.bt a _ ea)
  exact PySem.W.kia_one PySem.W.kitx_dict I.rm ⟨o, h1, h2.1⟩ e (fun z => nomatch z) h
 | @ins a C dx fs ea cl ha hn Rm hm =>
  cases (show u = Value.ref a from rx)
  obtain ⟨mA, O, _⟩ := sN I.bt ea
  obtain ⟨od, J, _⟩ := O.look
  exact PySem.W.kia_one (PySem.W.kitx_own (cl.get _) cl.hd ha hn Rm hm) I.rm J e (fun z => nomatch z) h
end
end L2
namespace L2
open PySem PySem.Spec PyProof.Rows
structure de (k : Nat) (A : Around) : Prop where
 hd : A.handled = none
 dp : A.depth + 3 * k + 5 < recursionLimit
 un : A.units + 16 * k + 200 < cLine
theorem de.mono {j k : Nat} {A : Around} (r : de k A) (h : j ≤ k) : de j A := ⟨r.hd, by have := r.dp; omega, by have := r.un; omega⟩
theorem de.deeper {k : Nat} {A : Around} (r : de (k + 1) A) (env : Env) : de k (A.deeper env) :=
 ⟨r.hd, by have := r.dp; show A.depth + 1 + 3 * k + 5 < _; omega, by have := r.un; show A.units + 3 + 16 * k + 200 < _; omega⟩
theorem de.in1 {k : Nat} {A : Around} (r : de (k + 1) A) : de k A.in1 :=
 ⟨r.hd, by have := r.dp; show A.depth + 3 * k + 5 < _; omega, by have := r.un; show A.units + 1 + 16 * k + 200 < _; omega⟩
theorem DK {A : Around} {C : Addr} {us : List Value} {kw : List (Str × Value)} : (A.under (.builtin "type.__call__" ⟨.ref C :: us, kw⟩)).depth = A.depth + 1 := by
 first | rfl | simp [Around.under, Code.weight, Code.isCreation, Code.isGuard, Code.isCaller, Code.frames, Code.isFrame, guardIds]
theorem DL {A : Around} {C : Addr} {us : List Value} {kw : List (Str × Value)} : (A.under (.builtin "type.__call__" ⟨.ref C :: us, kw⟩)).units = A.units + 1 := by
 first | rfl | simp [Around.under, Code.cUnits, Code.frames, Code.isFrame]
theorem de.make {k : Nat} {A : Around} (r : de (k + 1) A) (C : Addr) (us : List Value) (kw : List (Str × Value)) : de k (A.under (.builtin "type.__call__" ⟨.ref C :: us, kw⟩)) :=
 ⟨r.hd, by have := r.dp; rw [DK]; omega, by have := r.un; rw [DL]; omega⟩
theorem de.depth {k : Nat} {A : Around} (r : de k A) : A.depth < recursionLimit := by have := r.dp; omega
theorem de.units {k : Nat} {A : Around} (r : de k A) : A.units + 64 < cLine := by have := r.un; omega
def yJ : TA := fun _ H Q => Q [] H
def rq (ta : TE) (tr : TA) : TA := fun σ H Q => ta σ H fun x H1 => tr σ H1 fun xs H2 => Q (x :: xs) H2
section
variable {X : Cx} {e : Expr} {es : List Expr} {te : TE} {t : TA} {pos : Pos}
theorem ae : PA X [] yJ := fun _ _ _ _ H Q I h => Calls.spliced_nil ⟨[], H, I, .nil, h⟩
theorem aa (ha : PE X e te) (hr : PA X es t) (hs : starEach (e :: es) X.env = (false, eval e X.env) :: starEach es X.env := by rfl) : PA X (e :: es) (rq te t) := by
 intro pos pins s σ H Q I h
 rw [hs]
 show wpAny _ _ (spliced ((false, eval e X.env) :: backTo pos (starEach es X.env))) _ _ s
 refine Calls.spliced_cons (thn (ha pins s σ H _ I h) fun u s1 ⟨x, H1, I1, r1, q1⟩ => ?_)
 exact thn (hr pos pins s1 σ H1 _ I1 q1) fun us s2 ⟨xs, H2, I2, r2, q2⟩ => ⟨x :: xs, H2, I2, .cons r1 r2, q2⟩
def Wc (t : TA) : TE := fun σ H Q => t σ H fun xs H1 => xs.length ≤ sizeLine ∧ ∀ p, H1 p = none → Q (.ref p) (upd H1 p (.tup xs))
def Wd (t : TA) : TE := fun σ H Q => t σ H fun xs H1 => xs.length ≤ sizeLine ∧ ∀ p, H1 p = none → Q (.ref p) (upd H1 p (.lst xs))
theorem dO {x1} (h : PA X es t) : PE X (.Tuple es x1 pos) (Wc t) := by
 intro pins s σ H Q I hq
 refine wpAny_Tuple_spliced (thn (h pos pins s σ H _ I hq) fun us s1 ⟨xs, H1, I1, r, z, q⟩ => ⟨by rw [← r.length]; exact z, ?_⟩)
 have hf : H1 s1.heap.objs.size = none := I1.bt.fresh (Nat.le_refl _)
 refine ⟨.ref s1.heap.objs.size, upd H1 s1.heap.objs.size (.tup xs), I1.laid (t' := s1.toks) (fun b u e => Heap.get?_push_of_some _ e) (Nat.le_refl _) ?_, rfl, q _ hf⟩
 exact ⟨z, us, r, ⟨_, Heap.get?_push_size _ rfl, rfl, _, rfl⟩⟩
theorem bo (h : PA X es t) : PE X (.List es pos) (Wd t) := by
 intro pins s σ H Q I hq
 refine wpAny_List_spliced (thn (h pos pins s σ H _ I hq) fun us s1 ⟨xs, H1, I1, r, z, q⟩ => ⟨by rw [← r.length]; exact z, ?_⟩)
 have hf : H1 s1.heap.objs.size = none := I1.bt.fresh (Nat.le_refl _)
 refine ⟨.ref s1.heap.objs.size, upd H1 s1.heap.objs.size (.lst xs), I1.laid (t' := s1.toks) (fun b u e => Heap.get?_push_of_some _ e) (Nat.le_refl _) ?_, rfl, q _ hf⟩
 exact ⟨z, us, 0, r, Heap.get?_push_size _ rfl⟩
end
abbrev Sp := List V → Hp → VK → XK → Prop
abbrev Jb := List Env → Hp → Shared → XK → Value → Shared → Prop
structure DM (P : Program) (w : World) (K : PySem.W.Frag) (mg : Str → Option Value) (base : Heap) (A : Around) (outer : List Env) (s : Shared) (H : Hp) : Prop where
 frames : A.frames = some outer
 mod : Mod K mg base
 bs : ∀ b o, base.get? b = some o → s.heap.get? b = some o ∧ H b = none
 FD : base.objs.size ≤ s.heap.objs.size
 pZ : s.heap.FunFrames base outer
 NG : ∀ b ∈ BM outer, H b = none
 bt : nh P w H s.heap
 bare : AllBare s.gens
def CE (outer : List Env) (P : Program) (w : World) (H : Hp) (s : Shared) (Q : VK) (u : Value) (s' : Shared) : Prop :=
 ∃ v H', s'.os = s.os ∧ AllBare s'.gens ∧ Un (BM outer) [] H H' s.heap s'.heap ∧ nh P w H' s'.heap ∧ RelV v u ∧ Q v H'
def CR (CX : Jb) (outer : List Env) (P : Program) (w : World) (H : Hp) (s : Shared) (Q : VK) (E : XK) (r : Result) (s' : Shared) : Prop :=
 match r with
 | .ok (.ret u) => CE outer P w H s Q u s'
 | .ok _ => False
 | .error e => CX outer H s E e s'
structure aX (P : Program) (w : World) (K : PySem.W.Frag) (mg : Str → Option Value) (base : Heap) (CX : Jb) (k : Nat) (f : Addr) (fd : FuncData) (ps : List Str) (sp : Sp) : Prop where
 len : ∀ vs H Q E, sp vs H Q E → vs.length = ps.length
 run : ∀ (A : Around) (outer : List Env) (s : Shared) (H : Hp) (args : Args) (us : List Value) (vs : List V) (Q : VK) (E : XK), de k A → DM P w K mg base A outer s H → BindsTo s fd args (ps.zip us) → Vals vs us → sp vs H Q E →
  codeAny (model P w) A (.call (.ref f) args) (CR CX outer P w H s Q E) s
theorem DM.make {P : Program} {w : World} {K : PySem.W.Frag} {mg : Str → Option Value} {base : Heap} {A : Around} {outer : List Env} {s : Shared} {H : Hp} (e : DM P w K mg base A outer s H) (C : Addr) (us : List Value) (kw : List (Str × Value)) :
  DM P w K mg base (A.under (.builtin "type.__call__" ⟨.ref C :: us, kw⟩)) outer s H := ⟨by first | exact e.frames | (simpa [Around.under, Code.envs, Code.isFrame, pushEnvs] using e.frames), e.mod, e.bs, e.FD, e.pZ, e.NG, e.bt, e.bare⟩
section
variable {X : Cx} {pins : List (Addr × Obj)} {σ : St} {H : Hp} {s s' : Shared}
theorem Inv.OM (I : Inv X pins σ H s) : DM X.prog X.w X.K X.mg X.base X.A X.stack s H :=
 ⟨I.ok.frames, I.ok.mod, I.bs, Nat.le_trans I.ok.FD I.sz, I.stack, I.sy, I.bt, I.bare⟩
theorem Inv.after {Q : VK} {u : Value} (I : Inv X pins σ H s) (h : CE X.stack X.prog X.w H s Q u s') : EP X pins σ Q u s' := by
 obtain ⟨v, H', os, bare, un, bt, r, q⟩ := h
 obtain ⟨hh, g, d, t, os'⟩ := s'
 obtain rfl : os' = s.os := os
 exact ⟨v, H', I.call (h' := hh) (g' := g) (d' := d) (t' := t) (ch := []) un bt bare (fun b z => absurd z (by simp)), r, q⟩
end
def NM (sp : Sp) (wc : List V) (E : XK) (t : TA) : TE := fun σ H Q => t σ H fun vs H1 => sp (vs ++ wc) H1 Q E
def FL (C : Addr) (m : Str) (sp : Sp) (wc : List V) (E : XK) (ta : TE) (t : TA) : TE := fun σ H Q => ta σ H fun x H1 => ∃ a dx fs, x = .ref a ∧ H1 a = some (.ins C dx fs) ∧ fs.lookup m = none ∧
 t σ H1 fun vs H2 => sp (x :: (vs ++ wc)) H2 Q E
def NN (C : Addr) (sp : Sp) (wc : List V) (E : XK) (t : TA) : TE := fun σ H Q => t σ H fun vs H1 => ∀ x dx, H1 x = none → H1 dx = none → dx ≠ x →
 sp (.ref x :: (vs ++ wc)) (upd (upd H1 dx (.own x)) x (.ins C dx [])) (fun v H2 => v = .cJ ∧ Q (.ref x) H2) E
def Binds (K : PySem.W.Frag) (fd : FuncData) (ps : List Str) (ds : List Value) : Prop :=
 ∀ (s : Shared) (us : List Value), K.In s.heap → (us ++ ds).length = ps.length → BindsTo s fd ⟨us, []⟩ (ps.zip (us ++ ds))
theorem Binds.all {K : PySem.W.Frag} {fd : FuncData} {ps : List Str} (h : ∀ us : List Value, us.length = ps.length → bindArgs fd ⟨us, []⟩ = pure (ps.zip us)) : Binds K fd ps [] := fun s us _ hl => by
 rw [List.append_nil] at hl ⊢
 exact .of_eq (h us hl)
def Passes (CX : Jb) (X : Cx) (E : XK) : Prop := ∀ (pins : List (Addr × Obj)) (σ : St) (H : Hp) (s : Shared) (e : Value) (s' : Shared), Inv X pins σ H s → CX X.stack H s E e s' → X.xe e s'
section
variable {X : Cx} {CX : Jb} {k : Nat} {f C : Addr} {fd : FuncData} {ps : List Str} {sp : Sp} {wc : List V} {ds : List Value} {E : XK} {x m : Str} {p pos apos : Pos} {e o : Expr} {es : List Expr} {ta : TE} {t : TA}
theorem DN {pins : List (Addr × Obj)} {σ : St} {H : Hp} {s : Shared} {Q : VK} {us : List Value} {vs : List V} (F : aX X.prog X.w X.K X.mg X.base CX k f fd ps sp) (hr : de k X.A) (hb : Binds X.K fd ps ds) (hd : Vals wc ds) (hx : Passes CX X E)
  (I : Inv X pins σ H s) (r : Vals vs us) (h : sp (vs ++ wc) H Q E) : wpAny (model X.prog X.w) X.A (call (.ref f) us) (EP X pins σ Q) X.xe s := by
 have r2 : Vals (vs ++ wc) (us ++ ds) := r.append hd
 have hl : (us ++ ds).length = ps.length := by rw [← r2.length]; exact F.len _ _ _ _ h
 refine wpAny_call (codeAny_mono (F.run X.A X.stack s H ⟨us, []⟩ (us ++ ds) (vs ++ wc) Q E hr I.OM (hb s us I.rm hl) r2 h) fun r s' hq => ?_)
 cases r with
 | error e => exact hx pins σ H s e s' I hq
 | ok fl =>
  cases fl with
  | ret u => exact I.after hq
  | next => exact False.elim hq
  | brk => exact False.elim hq
  | cont => exact False.elim hq
theorem Me (F : aX X.prog X.w X.K X.mg X.base CX k f fd ps sp) (hr : de k X.A) (hg : Gl X x) (hm : X.mg x = some (.ref f)) (hk : PySem.W.keepIn X.K (.ref f) = true) (hb : Binds X.K fd ps ds) (hd : Vals wc ds) (hx : Passes CX X E)
  (ha : PA X (e :: es) t) (GX : (x == ("__debug__" : Str)) = false := by decide) (he : starEach (e :: es) X.env = (false, eval e X.env) :: starEach es X.env := by rfl) (DB : (backTo pos (starEach es X.env)).any (·.1) = false := by rfl) :
  PE X (.Call (.Name x p) (e :: es) [] pos) (NM sp wc E t) := by
 intro pins s σ H Q I h
 refine wpAny_Call_Name_kw (sE I hg hm ?_ GX)
 refine PySem.W.callWith_K (h₀ := X.base) I.ok.mod.QV hk (thn (ha pos pins s σ H _ I h) fun us s1 ⟨vs, H1, I1, r, q⟩ => ⟨I1.rm, ?_⟩) he DB
 exact DN F hr hb hd hx I1 r q
theorem Mf {pl : Sem Bool} (he : PE X o ta) (c : DA X.K C) (hm : Meth X.K C m f) (F : aX X.prog X.w X.K X.mg X.base CX k f fd ps sp) (hr : de k X.A) (hb : Binds X.K fd ps ds) (hd : Vals wc ds) (hx : Passes CX X E) (ha : PA X (e :: es) t)
  (OB : starEach (e :: es) X.env = (false, eval e X.env) :: starEach es X.env := by rfl) (DB : (backTo pos (starEach es X.env)).any (·.1) = false := by rfl)
  (ht : eval (.Call (.Attribute o m apos) (e :: es) [] pos) X.env = (do
   let ov ← eval o X.env
   standAt apos.atName
   let (f, first) ← holding [ov] (getMethod ov m pl)
   callWith pos f first (backTo pos (starEach (e :: es) X.env)) (backToKw pos (keywordEach [] X.env))) := by rfl) :
  PE X (.Call (.Attribute o m apos) (e :: es) [] pos) (FL C m sp wc E ta t) := by
 intro pins s σ H Q I h
 refine PySem.W.methodCall_KW (pl := pl) (thn (he pins s σ H _ I h) fun u s1 ⟨x, H1, I1, rx, a, dx, fs, ex, ea, l, q⟩ => ?_) ht
 subst ex
 obtain rfl : u = Value.ref a := rx
 refine nO I1 ea c hm l ?_
 refine PySem.W.callWith_K (first := [.ref a]) (h₀ := X.base) I.ok.mod.QV hm.kp (thn (ha pos pins s1 σ H1 _ I1 q) fun us s2 ⟨vs, H2, I2, r, q2⟩ => ⟨I2.rm, ?_⟩) OB DB
 exact DN (us := .ref a :: us) (vs := .ref a :: vs) F hr hb hd hx I2 (.cons rfl r) q2
theorem Jc {pl : Sem Bool} (he : PE X o ta) (c : DA X.K C) (hm : Meth X.K C m f) (F : aX X.prog X.w X.K X.mg X.base CX k f fd ps sp) (hr : de k X.A) (hb : Binds X.K fd ps ds) (hd : Vals wc ds) (hx : Passes CX X E)
  (ht : eval (.Call (.Attribute o m apos) [] [] pos) X.env = (do
   let ov ← eval o X.env
   standAt apos.atName
   let (f, first) ← holding [ov] (getMethod ov m pl)
   callWith pos f first (backTo pos (starEach [] X.env)) (backToKw pos (keywordEach [] X.env))) := by rfl) :
  PE X (.Call (.Attribute o m apos) [] [] pos) (FL C m sp wc E ta yJ) := by
 intro pins s σ H Q I h
 refine PySem.W.methodCall_KW (pl := pl) (thn (he pins s σ H _ I h) fun u s1 ⟨x, H1, I1, rx, a, dx, fs, ex, ea, l, q⟩ => ?_) ht
 subst ex
 obtain rfl : u = Value.ref a := rx
 refine nO I1 ea c hm l ?_
 exact PySem.W.callWith_K0 (first := [.ref a]) I1.rm hm.kp (DN (us := [.ref a]) (vs := [.ref a]) F hr hb hd hx I1 (.cons rfl .nil) q)
structure Mk (K : PySem.W.Frag) (C f : Addr) : Prop where
 makes : PySem.W.makesIn K C = true
 init : PySem.W.findIn K (.ref C) "__init__" = some (some (.ref f))
 fn : PySem.W.isFn K (.ref f) = true
 kp : PySem.W.keepIn K (.ref C) = true
theorem Jd {pins : List (Addr × Obj)} {σ : St} {H : Hp} {s : Shared} {Q : VK} {us : List Value} {vs : List V} (M : Mk X.K C f) (F : aX X.prog X.w X.K X.mg X.base CX k f fd ps sp) (hr : de (k + 1) X.A) (hb : Binds X.K fd ps ds) (hd : Vals wc ds)
  (hx : Passes CX X E) (I : Inv X pins σ H s) (r : Vals vs us)
  (h : ∀ x dx, H x = none → H dx = none → dx ≠ x → sp (.ref x :: (vs ++ wc)) (upd (upd H dx (.own x)) x (.ins C dx [])) (fun v H2 => v = .cJ ∧ Q (.ref x) H2) E) :
  wpAny (model X.prog X.w) X.A (call (.ref C) us) (EP X pins σ Q) X.xe s := by
 have hq := h (s.heap.objs.size + 1) s.heap.objs.size (I.bt.fresh (Nat.le_succ _)) (I.bt.fresh (Nat.le_refl _)) (Nat.ne_of_lt (Nat.lt_succ_self _))
 have I2 := Inv.made (C := C) I
 have r2 : Vals (V.ref (s.heap.objs.size + 1) :: (vs ++ wc)) (Value.ref (s.heap.objs.size + 1) :: (us ++ ds)) := .cons rfl (r.append hd)
 have hl : (Value.ref (s.heap.objs.size + 1) :: us ++ ds).length = ps.length := by
  have e := r2.length
  rw [F.len _ _ _ _ hq] at e
  exact e.symm
 refine wpAny_call (I9 (f := f) I.rm M.makes M.init (beq_iff_eq.mp M.fn) (codeAny_mono (F.run _ X.stack _ _ ⟨Value.ref (s.heap.objs.size + 1) :: us, []⟩ (Value.ref (s.heap.objs.size + 1) :: (us ++ ds)) _ _ E (hr.make C us [])
  (I2.OM.make C us []) (hb _ (Value.ref (s.heap.objs.size + 1) :: us) I2.rm hl) r2 hq) fun r s' GY => ?_))
 cases r with
 | error e => exact hx pins σ _ _ e s' I2 GY
 | ok fl =>
  cases fl with
  | ret u =>
   obtain ⟨v, H', I3, rv, ev, q3⟩ := I2.after GY
   subst ev
   exact ⟨rv, ⟨V.ref (s.heap.objs.size + 1), H', I3, rfl, q3⟩⟩
  | next => exact False.elim GY
  | brk => exact False.elim GY
  | cont => exact False.elim GY
theorem Mg (M : Mk X.K C f) (F : aX X.prog X.w X.K X.mg X.base CX k f fd ps sp) (hr : de (k + 1) X.A) (hg : Gl X x) (hm : X.mg x = some (.ref C)) (hb : Binds X.K fd ps ds) (hd : Vals wc ds) (hx : Passes CX X E)
  (ha : PA X (e :: es) t) (GX : (x == ("__debug__" : Str)) = false := by decide) (he : starEach (e :: es) X.env = (false, eval e X.env) :: starEach es X.env := by rfl) (DB : (backTo pos (starEach es X.env)).any (·.1) = false := by rfl) :
  PE X (.Call (.Name x p) (e :: es) [] pos) (NN C sp wc E t) := by
 intro pins s σ H Q I h
 refine wpAny_Call_Name_kw (sE I hg hm ?_ GX)
 refine PySem.W.callWith_K (h₀ := X.base) I.ok.mod.QV M.kp (thn (ha pos pins s σ H _ I h) fun us s1 ⟨vs, H1, I1, r, q⟩ => ⟨I1.rm, ?_⟩) he DB
 exact Jd M F hr hb hd hx I1 r q
end
def PK (X : Cx) (Rn : List Keyword) (t : TA) : Prop :=
 ∀ (pos : Pos) (pins : List (Addr × Obj)) (s : Shared) (σ : St) (H : Hp) (Q : List V → Hp → Prop), Inv X pins σ H s → t σ H Q → wpAny (model X.prog X.w) X.A (evalAll ((backToKw pos (keywordEach Rn X.env)).map (·.2))) (AP X pins σ Q) X.xe s
section
variable {X : Cx} {CX : Jb} {k : Nat} {f C : Addr} {fd : FuncData} {ps ks : List Str} {sp : Sp} {E : XK} {x m : Str} {p pos apos We : Pos} {e o : Expr} {es : List Expr} {Rn : List Keyword} {te ta : TE} {t tk : TA} {nm : Option Str}
theorem ON : PK X [] yJ := fun _ _ _ _ H Q I h => wpAny_evalAll_nil ⟨[], H, I, .nil, h⟩
theorem Mh (ha : PE X e te) (hr : PK X Rn t) : PK X (⟨nm, e, We⟩ :: Rn) (rq te t) := by
 intro pos pins s σ H Q I h
 show wpAny _ _ (evalAll ((do let v ← eval e X.env; standAt pos; pure v) :: (backToKw pos (keywordEach Rn X.env)).map (·.2))) _ _ s
 refine wpAny_evalAll_cons (wpAny_bind (thn (ha pins s σ H _ I h) fun u s1 ⟨x, H1, I1, r1, q1⟩ => wpAny_bind (wpAny_standAt (wpAny_pure ?_))))
 exact thn (hr pos pins s1 σ H1 _ I1 q1) fun us s2 ⟨xs, H2, I2, r2, q2⟩ => ⟨x :: xs, H2, I2, .cons r1 r2, q2⟩
structure Wf (K : PySem.W.Frag) (fd : FuncData) (ps ks : List Str) (g : List Value → List Value → List Value) (gV : List V → List V → List V) : Prop where
 to : ∀ (s : Shared) (us ws : List Value), K.In s.heap → (g us ws).length = ps.length → BindsTo s fd ⟨us, ks.zip ws⟩ (ps.zip (g us ws))
 rel : ∀ {vs : List V} {us : List Value} {zs : List V} {ws : List Value}, Vals vs us → Vals zs ws → Vals (gV vs zs) (g us ws)
variable {g : List Value → List Value → List Value} {gV : List V → List V → List V}
end
structure ar (N P : List Str) (sc : Scope) : Prop where
 kind : sc.kind = .function
 co : sc.isCoroutine = false
 gen : sc.isGenerator = false
 nd : N.Nodup
 pre : N.take P.length = P
 par : ∀ x ∈ P, sc.names.lookup x = some .local ∨ sc.names.lookup x = some .cell
 OO : ∀ y ∈ sc.names, y.2 ≠ .free
theorem xN {kindOf : Str → Option NameKind} {x : Str} : ∀ {binds : List (Str × Value)} {m : Str → Option Value}, (∀ v, (x, v) ∉ binds) → bindL kindOf binds m x = m x
 | [], _, _ => rfl
 | (n, v) :: r, m, h => by
  unfold bindL
  rw [xN fun w hw => h w (List.mem_cons_of_mem _ hw)]
  split
  ·have : x ≠ n := by rintro rfl; exact h v List.mem_cons_self
   simp [this]
  ·rfl
theorem xO {kindOf : Str → Option NameKind} {x : Str} : ∀ {binds : List (Str × Value)} {m : Str → Option Value}, (∀ v, (x, v) ∉ binds) → bindC kindOf binds m x = m x
 | [], _, _ => rfl
 | (n, v) :: r, m, h => by
  unfold bindC
  rw [xO fun w hw => h w (List.mem_cons_of_mem _ hw)]
  split
  ·rfl
  ·have : x ≠ n := by rintro rfl; exact h v List.mem_cons_self
   simp [this]
theorem xP {kindOf : Str → Option NameKind} {x : Str} {v : Value} : ∀ {P : List Str} {vs : List Value} {i : Nat} {m : Str → Option Value}, P.Nodup → P[i]? = some x → vs[i]? = some v → kindOf x = some .local →
  bindL kindOf (P.zip vs) m x = some v
 | [], _, _, _, _, h, _, _ => by simp at h
 | _ :: _, [], _, _, _, _, h, _ => by simp at h
 | p :: P, w :: vs, 0, m, nd, h1, h2, hk => by
  simp at h1 h2; subst h1; subst h2
  show bindL kindOf ((p, w) :: P.zip vs) m p = _
  unfold bindL
  rw [xN fun v hv => (List.nodup_cons.mp nd).1 (List.of_mem_zip hv).1, if_pos hk]
  simp
 | p :: P, w :: vs, i + 1, m, nd, h1, h2, hk => by
  show bindL kindOf ((p, w) :: P.zip vs) m x = _
  unfold bindL
  exact xP (i := i) (List.nodup_cons.mp nd).2 (by simpa using h1) (by simpa using h2) hk
theorem xQ {kindOf : Str → Option NameKind} {x : Str} {v : Value} : ∀ {P : List Str} {vs : List Value} {i : Nat} {m : Str → Option Value}, P.Nodup → P[i]? = some x → vs[i]? = some v → kindOf x ≠ some .local →
  bindC kindOf (P.zip vs) m x = some v
 | [], _, _, _, _, h, _, _ => by simp at h
 | _ :: _, [], _, _, _, _, h, _ => by simp at h
 | p :: P, w :: vs, 0, m, nd, h1, h2, hk => by
  simp at h1 h2; subst h1; subst h2
  show bindC kindOf ((p, w) :: P.zip vs) m p = _
  unfold bindC
  rw [xO fun v hv => (List.nodup_cons.mp nd).1 (List.of_mem_zip hv).1, if_neg hk]
  simp
 | p :: P, w :: vs, i + 1, m, nd, h1, h2, hk => by
  show bindC kindOf ((p, w) :: P.zip vs) m x = _
  unfold bindC
  exact xQ (i := i) (List.nodup_cons.mp nd).2 (by simpa using h1) (by simpa using h2) hk
def start (N : List Str) (vs : List V) : St := vs.map some ++ List.replicate (N.length - vs.length) none
def GZ (CX : Jb) (P : Program) (w : World) (K : PySem.W.Frag) (mg : Str → Option Value) (base : Heap) (N : List Str) (qual : Str) (scope : Scope) (f : Addr) (cd : Value) (A : Around) (outer : List Env) (s : Shared) (H : Hp) (E : XK) : Cx where
 prog := P
 w := w
 K := K
 mg := mg
 base := base
 A := A.deeper (envOfC qual scope s.heap.objs.size f cd)
 N := N
 s₀ := s
 H₀ := H
 env := envOfC qual scope s.heap.objs.size f cd
 outer := outer
 stack := envOfC qual scope s.heap.objs.size f cd :: outer
 ex := []
 calm := true
 fn := fun _ => true
 pn := []
 xe := fun e s' => wpAny (model P w) (A.deeper (envOfC qual scope s.heap.objs.size f cd)) (leaving (envOfC qual scope s.heap.objs.size f cd) e) (fun _ rS => CX outer H s E e rS) (fun e' rS => CX outer H s E e' rS) s'
theorem BQ {sc : Scope} {n : Nat} {x : Str} (h : sc.names.lookup x = some .cell) : ∃ c, (cellsFrom n sc.names []).lookup x = some c := by
 have q := PySem.W.cellsFrom_some sc.names n [] (.inl h)
 exact Option.isSome_iff_exists.mp q
theorem G0 {CX : Jb} {P : Program} {w : World} {K : PySem.W.Frag} {mg : Str → Option Value} {base : Heap} {N ps : List Str} {qual : Str} {scope : Scope} {f : Addr} {cd : Value} {A : Around} {outer : List Env} {s s1 : Shared} {H : Hp} {E : XK} {us : List Value} {vs : List V}
  (S : ar N ps scope) (hd : A.handled = none) (e0 : DM P w K mg base A outer s H) (hl : vs.length = ps.length) (r : Vals vs us)
  (x : InCallC s s.heap.objs.size (bindL (envOfC qual scope s.heap.objs.size f cd).kindOf (ps.zip us) fun _ => none) (cellsFrom (s.heap.objs.size + 1) scope.names []) (bindC (envOfC qual scope s.heap.objs.size f cd).kindOf (ps.zip us) fun _ => none) s1) :
  Inv (GZ CX P w K mg base N qual scope f cd A outer s H E) [] (start N vs) H s1 := by
 have DB : ps.length ≤ N.length := by have := congrArg List.length S.pre; rw [List.length_take] at this; omega
 obtain ⟨h1, tk, rfl, hk⟩ := x.done
 have Ro : ∀ b : Addr, b ∉ (GZ CX P w K mg base N qual scope f cd A outer s H E).ex := fun b z => absurd (show b ∈ ([] : List Addr) from z) (by simp)
 refine ⟨⟨e0.mod, S.kind, rfl, rfl, Nat.le_refl _, fun y z c h1 h2 => ?_, fun y hy => ?_, fun y c _ h => ?_, fun _ => hd, Around.frames_deeper e0.frames, .inr ⟨rfl, rfl⟩, fun b z => absurd z (Ro b), e0.bs, e0.FD, fun b _ _ => Ro b, fun b z => absurd z (Ro b), e0.pZ, e0.NG⟩,
  rfl, e0.bare, Un.kept hk, ⟨_, x.toInCall.ns, fun i y v h1 h2 h3 => ?_⟩, fun y c h => ⟨_, x.cell y c h⟩, e0.bt.fresh (Nat.le_refl _), fun y c h => ?_, fun p hp => absurd (show p ∈ ([] : List (Addr × Obj)) from hp) (by simp), e0.bt.kept hk, ?_⟩
 ·exact name_of_addr x.apart (PySem.mem_of_lookup h1) (PySem.mem_of_lookup h2)
 ·have hy : scope.names.lookup y = some .cell ∨ scope.names.lookup y = some .free := hy
  rcases hy with hy | hy
  ·exact BQ hy
  ·exact absurd rfl (S.OO _ (PySem.mem_of_lookup hy))
 ·exact Nat.le_of_lt (x.above y c (PySem.mem_of_lookup h))
 ·have hi : i < vs.length := by
   unfold start at h2
   by_cases hi : i < vs.length
   ·exact hi
   ·rw [List.getElem?_append_right (by simpa using hi)] at h2
    rw [List.getElem?_replicate] at h2
    split at h2 <;> cases h2
  have ha : vs[i]? = some v := by
   unfold start at h2
   rw [List.getElem?_append_left (by simpa using hi), List.getElem?_map] at h2
   cases e : vs[i]? with
   | none => rw [e] at h2; cases h2
   | some a => rw [e] at h2; cases h2; rfl
  obtain ⟨u, hu, rv⟩ := r.get ha
  have hp : ps[i]? = some y := by
   rw [← S.pre, List.getElem?_take_of_lt (by omega)]; exact h1
  have YI : ps.Nodup := by rw [← S.pre]; exact S.nd.sublist (List.take_sublist _ _)
  refine ⟨u, rv, ?_⟩
  rcases S.par y (List.mem_of_getElem? hp) with k | k
  ·exact .inl ⟨k, xP YI hp hu k⟩
  ·obtain ⟨c, e⟩ := BQ (n := s.heap.objs.size + 1) k
   refine .inr ⟨.inl k, c, e, ?_⟩
   have q := x.cell y c e
   rw [xQ YI hp hu (by show scope.names.lookup y ≠ _; rw [k]; decide)] at q
   exact q
 ·exact e0.bt.fresh (Nat.le_of_lt (x.above y c (PySem.mem_of_lookup h)))
 ·unfold start
  show _ = N.length
  rw [List.length_append, Lm9, List.length_replicate]
  omega
theorem Rp {CX : Jb} {P : Program} {w : World} {K : PySem.W.Frag} {mg : Str → Option Value} {base : Heap} {k : Nat} {f : Addr} {name qual : Str} {params : Arguments} {body : List Stmt} {scope : Scope} {dV kV doc pm cu ct oc : Value} {an od : Option Addr}
  {NO : Array (Option Value)} {N ps : List Str} {sp : Sp} (lk : K.lookup f = some ⟨oc, od, .func (PySem.W.fnOf name qual params body scope dV kV doc pm an cu ct), NO⟩) (IL : PySem.W.codeIn K cu qual = true) (S : ar N ps scope)
  (len : ∀ vs H Q E, sp vs H Q E → vs.length = ps.length)
  (Je : ∀ (A : Around) (outer : List Env) (s : Shared) (H : Hp) (vs : List V) (Q : VK) (E : XK), de k (A.deeper (envOfC qual scope s.heap.objs.size f cu)) → sp vs H Q E →
   ∃ t, FF (GZ CX P w K mg base N qual scope f cu A outer s H E) body t ∧ t { nx := fun _ H' => Q .cJ H', rt := Q } (start N vs) H) :
  aX P w K mg base CX (k + 1) f (PySem.W.fnOf name qual params body scope dV kV doc pm an cu ct) ps sp := by
 refine ⟨len, fun A outer s H args us vs Q E hr e0 hb r LY => ?_⟩
 have hl := len _ _ _ _ LY
 have KX : K.In s.heap := e0.mod.QV.keeps fun b o e => (e0.bs b o e).1
 have lim : s.heap.NoLimit := e0.mod.nolimit.keeps fun b o e => (e0.bs b o e).1
 have Rq : ∀ y ∈ ps.zip us, scope.names.lookup y.1 = some .local ∨ (scope.names.lookup y.1 = some .cell ∧ ((cellsFrom (s.heap.objs.size + 1) scope.names []).lookup y.1).isSome = true) := fun ⟨n, v⟩ hy => by
  rcases S.par n (List.of_mem_zip hy).1 with q | q
  ·exact .inl q
  ·exact .inr ⟨q, PySem.W.cellsFrom_some _ _ _ (.inl q)⟩
 refine codeAny_call_function hr.depth (KX _ _ lk) rfl S.co S.gen rfl (PySem.W.codeRec_of KX IL) (hb _ _ _ _ ?_)
 refine wpAny_newFunctionEnv_cells S.kind Rq fun env he s1 x => ?_
 subst he
 refine ⟨lim.keeps x.toInCall.keep, codeAny_func ?_⟩
 obtain ⟨t, ht, hq⟩ := Je A outer s H vs Q E (hr.deeper _) LY
 have I : Inv (GZ CX P w K mg base N qual scope f cu A outer s H E) [] (start N vs) H s1 := G0 S hr.hd e0 hl r x
 refine wpAny_mono (ht [] s1 (start N vs) H _ I hq) (fun fl s' hs => ?_) fun e s' hs => hs
 have fin : ∀ {σ' : St} {H' : Hp} {v : V} {u : Value}, Inv (GZ CX P w K mg base N qual scope f cu A outer s H E) [] σ' H' s' → RelV v u → Q v H' → CE outer P w H s Q u s' :=
  fun {σ' H' v u} J rv q => ⟨v, H', J.os, J.bare, J.base, J.bt, rv, q⟩
 cases fl with
 | ret u =>
  obtain ⟨v, σ', H', J, rv, q⟩ := hs
  exact fin J rv q
 | next =>
  obtain ⟨σ', H', J, q⟩ := hs
  exact fin (v := V.cJ) (u := Value.none) J rfl q
 | brk =>
  obtain ⟨_, _, _, q⟩ := hs
  exact False.elim q
 | cont =>
  obtain ⟨_, _, _, q⟩ := hs
  exact False.elim q
end L2
namespace L2
open PySem PySem.Spec PyProof.Rows
section
variable {X : Cx} {x : Str} {p pos : Pos} {e : Expr} {es : List Expr} {t : TA} {id T : String} {r : List V → Hp → VK → Prop}
def YJ (r : List V → Hp → VK → Prop) (t : TA) : TE := fun σ H Q => t σ H fun vs H1 => r vs H1 Q
theorem aF (hc : jf X (.builtin id) r) (hg : Gl X x) (hm : X.mg x = none) (hv : bootBuiltins x = some (.builtin id)) (ha : PA X (e :: es) t) (hn : x ≠ "__name__" := by decide) (GX : (x == ("__debug__" : Str)) = false := by decide)
  (he : starEach (e :: es) X.env = (false, eval e X.env) :: starEach es X.env := by rfl) (DB : (backTo pos (starEach es X.env)).any (·.1) = false := by rfl) : PE X (.Call (.Name x p) (e :: es) [] pos) (YJ r t) := by
 intro pins s σ H Q I h
 refine wpAny_Call_Name_kw (jA I hg hm hv ?_ hn GX)
 exact PyProof.Rows.callWith_builtin1 (thn (ha pos pins s σ H _ I h) fun us s1 ⟨vs, H1, I1, r1, q1⟩ => hc pins s1 σ H1 vs us Q I1 r1 q1) he DB
theorem gm (hc : jf X (.type T) r) (hg : Gl X x) (hm : X.mg x = none) (hv : bootBuiltins x = some (.type T)) (ha : PA X (e :: es) t) (hn : x ≠ "__name__" := by decide) (GX : (x == ("__debug__" : Str)) = false := by decide)
  (he : starEach (e :: es) X.env = (false, eval e X.env) :: starEach es X.env := by rfl) (DB : (backTo pos (starEach es X.env)).any (·.1) = false := by rfl) : PE X (.Call (.Name x p) (e :: es) [] pos) (YJ r t) := by
 intro pins s σ H Q I h
 refine wpAny_Call_Name_kw (jA I hg hm hv ?_ hn GX)
 exact PyProof.Rows.callWith_type1 (thn (ha pos pins s σ H _ I h) fun us s1 ⟨vs, H1, I1, r1, q1⟩ => hc pins s1 σ H1 vs us Q I1 r1 q1) he DB
end
end L2
namespace HT
open PySem PyProof.Rows
section
open PySem.SeqAt
open PySem.AutoSeq1 (wpAny_loadPart')
open PySem.MeetsSeq PySem.MeetsSeq2 PySem.MeetsSeq3
end
section
variable {prog : Program} {w : World} {A : Around} {E : Value → Shared → Prop} {s : Shared}
def df (n d : Nat) : Option Int → Nat
 | none => d
 | some v => if v < 0 then (v + (n : Int)).toNat else min v.toNat n
theorem Jf (n d : Nat) : df n d none = d := rfl
theorem yK (n d k : Nat) : df n d (some (k : Int)) = min k n := by
 show (if (k : Int) < 0 then ((k : Int) + (n : Int)).toNat else min (k : Int).toNat n) = min k n
 rw [if_neg (by omega), Int.toNat_natCast]
theorem OP (n d : Nat) (hd : d ≤ n) (o : Option Int) : df n d o ≤ n := by
 cases o with
 | none => exact hd
 | some v =>
  show (if v < 0 then (v + (n : Int)).toNat else min v.toNat n) ≤ n
  by_cases hv : v < 0
  ·rw [if_pos hv]; omega
  ·rw [if_neg hv]; exact Nat.min_le_right _ _
theorem FN (v : Int) (n d : Nat) : (if v < 0 then max (v + (n : Int)) 0 else min v (n : Int)) = ((df n d (some v) : Nat) : Int) := by
 show (if v < 0 then max (v + (n : Int)) 0 else min v (n : Int)) = (((if v < 0 then (v + (n : Int)).toNat else min v.toNat n) : Nat) : Int)
 by_cases hv : v < 0
 ·simp only [if_pos hv]; omega
 ·simp only [if_neg hv]; omega
theorem DO (lo hi : Option Int) (n : Nat) : Builtin.Slice.sliceAdjust lo hi 1 (n : Int) = (((df n 0 lo : Nat) : Int), ((df n n hi : Nat) : Int)) := by
 have h1 : ¬ ((1 : Int) < 0) := by omega
 unfold Builtin.Slice.sliceAdjust
 simp only [h1, if_false]
 refine Prod.ext ?_ ?_
 ·cases lo with
  | none => rfl
  | some v => exact FN v n 0
 ·cases hi with
  | none => rfl
  | some v => exact FN v n n
theorem DP (i j : Nat) : Builtin.Slice.slicePlaces (i : Int) (j : Int) 1 = j - i := by
 unfold Builtin.Slice.slicePlaces
 have h1 : (1 : Int) > 0 := by omega
 simp only [h1, if_true, Int.ediv_one]
 split <;> omega
theorem tK {v : Value} {o : Option Int} {Q : Option Int → Shared → Prop} (p : IsPart v o) (h : Q o s) : wpAny (model prog w) A (Builtin.Slice.slicePartIndex v) Q E s := by
 cases p with
 | none => exact slicePart_none h
 | int i t => exact slicePart_int h
theorem jg {sl : Addr} {vl vu : Value} {lo hi : Option Int} {n : Nat} {Q : Int × Int × Nat → Shared → Prop} (hs : s.heap.IsSliceOf sl vl vu .none) (pl : IsPart vl lo) (pu : IsPart vu hi)
  (h : Q (((df n 0 lo : Nat) : Int), 1, df n n hi - df n 0 lo) s) : wpAny (model prog w) A (Builtin.Slice.sliceApplied (.ref sl) (pure (n : Int))) Q E s := by
 obtain ⟨os, G1, U6, Rt⟩ := id hs
 unfold Builtin.Slice.sliceApplied Builtin.Slice.sliceFields
 refine wpAny_bind (wpAny_bind (wpAny_field G1 Rt (x := vl) rfl (wpAny_bind (wpAny_field G1 Rt (x := vu) rfl (wpAny_bind (wpAny_field G1 Rt (x := .none) rfl (wpAny_pure ?_)))))))
 refine wpAny_bind (slicePart_none ?_)
 show wpAny _ _ (if ((1 : Int) == 0) = true then _ else _) _ _ s
 rw [if_neg (by decide)]
 refine wpAny_bind (tK pl (wpAny_bind (tK pu (wpAny_bind (wpAny_pure ?_)))))
 show wpAny _ _ (match Builtin.Slice.sliceAdjust lo hi 1 (n : Int) with | (lo, hi) => pure (lo, (1 : Int), Builtin.Slice.slicePlaces lo hi 1)) _ _ s
 rw [DO lo hi n]
 show wpAny _ _ (pure (((df n 0 lo : Nat) : Int), (1 : Int), Builtin.Slice.slicePlaces ((df n 0 lo : Nat) : Int) ((df n n hi : Nat) : Int) 1)) _ _ s
 rw [DP]
 exact wpAny_pure h
theorem Jg (xs : Array Value) (i k : Nat) : ((List.range k).filterMap fun (m : Nat) => xs[((i : Int) + (m : Int) * 1).toNat]?).toArray = ((xs.toList.drop i).take k).toArray := by
 have e : (fun (m : Nat) => xs[((i : Int) + (m : Int) * 1).toNat]?) = fun m => xs[i + m]? := by
  funext m
  have : ((i : Int) + (m : Int) * 1).toNat = i + m := by omega
  rw [this]
 rw [e]
 have := pick_run xs i k
 rw [List.filterMap_map] at this
 have e2 : ((fun x => xs[x]?) ∘ fun x => i + x) = fun m => xs[i + m]? := rfl
 rw [e2] at this
 rw [this]
theorem oO {t sl : Addr} {items : Array Value} {vl vu : Value} {lo hi : Option Int} {Q : Value → Shared → Prop} (ht : IsTup s.heap t items) (hs : s.heap.IsSliceOf sl vl vu .none) (pl : IsPart vl lo) (pu : IsPart vu hi)
  (hw : ¬ (df items.size 0 lo = 0 ∧ df items.size items.size hi = items.size))
  (h : Q (.ref s.heap.objs.size) { s with heap := s.heap.push { cls := .type "tuple", data := .seq ((items.toList.drop (df items.size 0 lo)).take (df items.size items.size hi - df items.size 0 lo)).toArray } })
  (hsz : items.size ≤ sizeLine) : wpAny (model prog w) A (getItem (.ref t) (.ref sl)) Q E s := by
 have FO : sizeOk (.seq ((items.toList.drop (df items.size 0 lo)).take (df items.size items.size hi - df items.size 0 lo)).toArray) := by
  show ((items.toList.drop (df items.size 0 lo)).take (df items.size items.size hi - df items.size 0 lo)).toArray.size ≤ sizeLine
  rw [List.size_toArray, List.length_take, List.length_drop, Array.length_toList]
  omega
 have hj : df items.size items.size hi ≤ items.size := OP _ _ (Nat.le_refl _) hi
 obtain ⟨os, G1, U6, Rt⟩ := id hs
 have Wg : s.TypeIs (.ref sl) "slice" := ⟨os, G1, U6⟩
 unfold getItem
 try with_reducible refine wpAny_holding ?_
 first | refine wpAny_bind (wpAny_pure ?_) | skip
 refine wpAny_bind (wpAny_sequenceKey ht.typeIs (by decide) ?_)
 refine wpAny_bind (wpAny_callSpecial?_slot (name := Str.ofString "__getitem__") ht.typeIs PyProof.Rows.slot_tuple_getitem
  (wpAny_call_entry PyProof.Rows.slot_tuple_getitem ht.typeIs entry_tuple_getitem ?_ (args_tuple_getitem _ _)))
 show wpAny _ _ (Builtin.Tuple.tupleItemsOf (.ref t) >>= _) _ _ s
 refine wpAny_bind (tupleItemsOf_ ht ?_)
 refine wpAny_bind (wpAny_typeOf Wg ?_)
 rw [if_pos (by decide)]
 refine wpAny_bind (jg hs pl pu ?_)
 have OQ : ¬ ((((df items.size 0 lo : Nat) : Int) == 0 && (1 : Int) == 1 && (df items.size items.size hi - df items.size 0 lo) == items.size) = true) := by
  intro q
  rw [Bool.and_eq_true, Bool.and_eq_true] at q
  have q1 : ((df items.size 0 lo : Nat) : Int) = 0 := eq_of_beq q.1.1
  have q2 : df items.size items.size hi - df items.size 0 lo = items.size := eq_of_beq q.2
  exact hw ⟨by omega, by omega⟩
 show wpAny _ _ (if (((df items.size 0 lo : Nat) : Int) == 0 && (1 : Int) == 1 && (df items.size items.size hi - df items.size 0 lo) == items.size) = true then _ else _) _ _ s
 rw [if_neg OQ, Jg]
 first
  | exact wpAny_bind (m := Builtin.Tuple.tupleExact _) (wpAny_newObj_type (wpAny_pure ⟨_, rfl, wpAny_pure h⟩) FO)
  | exact wpAny_bind (m := Builtin.Tuple.tupleExact _) (wpAny_newObj_type (wpAny_bind (wpAny_pure (wpAny_pure ⟨_, rfl, wpAny_pure h⟩))) FO)
  | exact wpAny_bind (wpAny_bind (m := Builtin.Tuple.tupleExact _) (wpAny_newObj_type (wpAny_pure (wpAny_pure ⟨_, rfl, wpAny_pure h⟩)) FO))
  | exact wpAny_bind (wpAny_bind (m := Builtin.Tuple.tupleExact _) (wpAny_newObj_type (wpAny_pure ⟨_, rfl, wpAny_pure h⟩) FO))
end
end HT
namespace L2
open PySem PySem.Spec PyProof.Rows
abbrev TO := St → Hp → (Option Int → Hp → Prop) → Prop
def PO (X : Cx) (e : Option Expr) (t : TO) : Prop :=
 ∀ (pins : List (Addr × Obj)) (s : Shared) (σ : St) (H : Hp) (Q : Option Int → Hp → Prop), Inv X pins σ H s → t σ H Q →
  wpAny (model X.prog X.w) X.A (evalPart e X.env) (fun u s' => ∃ o H', Inv X pins σ H' s' ∧ IsPart u o ∧ Q o H') X.xe s
def Mi : TO := fun _ H Q => Q none H
def Ru (t : TE) : TO := fun σ H Q => t σ H fun x H1 => ∃ i, x = .int i ∧ Q (some i) H1
section
variable {X : Cx} {e : Expr} {te : TE} {lo hi : Option Expr} {tl th : TO} {pos p2 : Pos}
theorem mZ : PO X none Mi := by
 intro pins s σ H Q I h
 rw [evalPart_none]
 exact wpAny_pure ⟨none, H, I, .none, h⟩
theorem e9 (h : PE X e te) : PO X (some e) (Ru te) := by
 intro pins s σ H Q I hw
 rw [evalPart_some]
 refine thn (h pins s σ H _ I hw) fun u s1 ⟨x, H1, I1, r1, q1⟩ => ?_
 obtain ⟨i, rfl, q⟩ := q1
 obtain ⟨t, rfl⟩ := r1
 exact ⟨some i, H1, I1, .int i t, q⟩
def Rv (X : Cx) (r : V → Option Int → Option Int → Hp → VK → Prop) : Prop :=
 ∀ (pins : List (Addr × Obj)) (s : Shared) (σ : St) (H : Hp) (x : V) (v vl vu : Value) (lo hi : Option Int) (sl : Addr) (Q : VK), Inv X pins σ H s → RelV x v → s.heap.IsSliceOf sl vl vu .none → IsPart vl lo → IsPart vu hi → r x lo hi H Q →
  ∃ T id, typeLookup (.type T) "__getitem__" = pure (some (.builtin id)) ∧ s.TypeIs v T ∧ wpAny (model X.prog X.w) X.A (getItem v (.ref sl)) (EP X pins σ Q) X.xe s
def tSl (r : V → Option Int → Option Int → Hp → VK → Prop) (te : TE) (tl th : TO) : TE := fun σ H Q => te σ H fun x H1 => tl σ H1 fun l H2 => th σ H2 fun u H3 => r x l u H3 Q
theorem fw {r : V → Option Int → Option Int → Hp → VK → Prop} (hr : Rv X r) (he : PE X e te) (hl : PO X lo tl) (hu : PO X hi th) : PE X (.Subscript e (.Slice lo hi none p2) pos) (tSl r te tl th) := by
 intro pins s σ H Q I h
 refine Subscript_ (thn (he pins s σ H _ I h) fun v s1 ⟨x, H1, I1, r1, q1⟩ => ?_)
 refine wpAny_Slice (thn (hl pins s1 σ H1 _ I1 q1) fun vl s2 ⟨l, H2, I2, pl, q2⟩ => thn (hu pins s2 σ H2 _ I2 q2) fun vu s3 ⟨u, H3, I3, pu, q3⟩ => ?_)
 rw [evalPart_none]
 refine wpAny_pure ?_
 have I4 : Inv X pins σ H3 { s3 with heap := s3.heap.push { cls := .type "slice", data := .fields #[vl, vu, .none] } } := I3.kept (t' := s3.toks) fun b ob q => Heap.get?_push_of_some _ q
 obtain ⟨T, id, hT, ht, hg⟩ := hr pins { s3 with heap := s3.heap.push { cls := .type "slice", data := .fields #[vl, vu, .none] } } σ H3 x v vl vu l u s3.heap.objs.size Q I4 r1 (Heap.IsSliceOf.new ..) pl pu q3
 show wpAny (model X.prog X.w) X.A (subscriptTail e (.Slice lo hi none p2) v (.ref s3.heap.objs.size)) (EP X pins σ Q) X.xe { s3 with heap := s3.heap.push { cls := .type "slice", data := .fields #[vl, vu, .none] } }
 exact tail_any (ops := [.ref s3.heap.objs.size, v]) ht hT hg (by with_unfolding_all rfl)
def hZ (xs : List V) (lo hi : Option Int) : List V := (xs.drop (HT.df xs.length 0 lo)).take (HT.df xs.length xs.length hi - HT.df xs.length 0 lo)
theorem k6 (xs : List V) (lo hi : Option Int) : (hZ xs lo hi).length ≤ xs.length := by
 unfold hZ
 rw [List.length_take, List.length_drop]
 omega
def Wh (K : PySem.W.Frag) : V → Option Int → Option Int → Hp → VK → Prop := fun x lo hi H Q => ∃ a xs, x = .ref a ∧ cP K H a xs ∧
 ¬ (HT.df xs.length 0 lo = 0 ∧ HT.df xs.length xs.length hi = xs.length) ∧ ∀ p, H p = none → Q (.ref p) (upd H p (.tup (hZ xs lo hi)))
theorem OR : Rv X (Wh X.K) := by
 intro pins s σ H x v vl vu lo hi sl Q I rx hs pl pu h
 obtain ⟨a, xs, rfl, hx, hw, q⟩ := h
 cases rx
 obtain ⟨its, r, ht, hz⟩ := I.tuple hx
 have hlen : its.toArray.size = xs.length := by rw [List.size_toArray]; exact r.length.symm
 refine ⟨"tuple", _, PyProof.Rows.slot_tuple_getitem.lookup, ht.typeIs, ?_⟩
 refine HT.oO ht hs pl pu (by rw [hlen]; exact hw) ?_ (by rw [hlen]; exact hz)
 rw [hlen]
 refine ⟨.ref s.heap.objs.size, _, I.laid (t' := s.toks) (o := .tup (hZ xs lo hi)) (fun b ob q => Heap.get?_push_of_some _ q) (Nat.le_refl _) ?_, rfl, q _ (I.bt.fresh (Nat.le_refl _))⟩
 exact ⟨Nat.le_trans (k6 xs lo hi) hz, _, (r.drop (HT.df xs.length 0 lo)).take (HT.df xs.length xs.length hi - HT.df xs.length 0 lo), IsTup.new _ _⟩
end
end L2
namespace L2
open PySem PySem.Spec PyProof.Rows
def Jh (n : Nat) (i : Int) : Option Nat := if 0 ≤ i then (if i < n then some i.toNat else none) else if -(n : Int) ≤ i then some (i + n).toNat else none
def rA {α : Type} (xs : List α) (i : Int) : Option α := (Jh xs.length i).bind fun j => xs[j]?
theorem FP {n : Nat} {i : Int} {j : Nat} (h : Jh n i = some j) : seqIndex? i n = some j ∧ j < n ∧ -(n : Int) ≤ i ∧ i < n := by
 unfold Jh at h
 by_cases h0 : 0 ≤ i
 ·rw [if_pos h0] at h
  by_cases h1 : i < n
  ·rw [if_pos h1] at h
   have e : i.toNat = j := Option.some.inj h
   exact ⟨by rw [seqIndex_of h0 h1, e], by omega, by omega, h1⟩
  ·rw [if_neg h1] at h; cases h
 ·rw [if_neg h0] at h
  by_cases h1 : -(n : Int) ≤ i
  ·rw [if_pos h1] at h
   have e : (i + n).toNat = j := Option.some.inj h
   exact ⟨by rw [seqIndex_neg (by omega) h1, e], by omega, h1, by omega⟩
  ·rw [if_neg h1] at h; cases h
theorem yL {α : Type} {xs : List α} {i : Int} {v : α} (h : rA xs i = some v) : ∃ j, seqIndex? i xs.length = some j ∧ xs[j]? = some v ∧ j < xs.length ∧ -(xs.length : Int) ≤ i ∧ i < xs.length := by
 unfold rA at h
 cases e : Jh xs.length i with
 | none => rw [e] at h; cases h
 | some j =>
  rw [e] at h
  obtain ⟨h1, h2, h3, h4⟩ := FP e
  exact ⟨j, h1, h, h2, h3, h4⟩
theorem bN {α : Type} {xs : List α} {j : Nat} {v : α} (h : xs[j]? = some v) : rA xs (j : Int) = some v := by
 have hj : j < xs.length := (List.getElem?_eq_some_iff.mp h).1
 have e : Jh xs.length (j : Int) = some j := by
  unfold Jh
  rw [if_pos (by omega), if_pos (by omega)]; simp
 unfold rA; rw [e]; exact h
def Mj (b : Expr) : Prop := ∀ o i, subscripted b false o i = operate [o, i] (getItem o i)
def U7 (X : Cx) (r : R2) : Prop :=
 ∀ (value slice : Expr) (pins : List (Addr × Obj)) (s : Shared) (σ : St) (H : Hp) (x y : V) (v u : Value) (Q : VK), Inv X pins σ H s → RelV x v → RelV y u → r x y H Q →
  subscripted slice false v u = operate [v, u] (getItem v u) → wpAny (model X.prog X.w) X.A (subscriptTail value slice v u) (EP X pins σ Q) X.xe s
def OS (X : Cx) (id : String) (r : V → List V → Hp → VK → Prop) : Prop :=
 ∀ (pins : List (Addr × Obj)) (s : Shared) (σ : St) (H : Hp) (x : V) (xs : List V) (v : Value) (us : List Value) (Q : VK), Inv X pins σ H s → RelV x v → Vals xs us → r x xs H Q →
  wpAny (model X.prog X.w) X.A (call (.builtin id) (v :: us)) (EP X pins σ Q) X.xe s
section
variable {X : Cx} {a b : Expr} {ta tb : TE} {pos : Pos}
theorem az {r : R2} (hr : U7 X r) (ha : PE X a ta) (hb : PE X b tb) (hs : Mj b) : PE X (.Subscript a b pos) (U4 r ta tb) := by
 intro pins s σ H Q I h
 exact Subscript_ (OH ha hb I h fun v u s2 x y H2 I2 rx ry q => hr a b pins s2 σ H2 x y v u Q I2 rx ry q (hs _ _))
def Ml (K : PySem.W.Frag) : R2 := fun x y H Q => ∃ p xs i v, x = .ref p ∧ y = .int i ∧ ay K H p xs ∧ rA xs i = some v ∧ Q v H
def rT (K : PySem.W.Frag) : R2 := fun x y H Q => ∃ p xs i v, x = .ref p ∧ y = .int i ∧ cP K H p xs ∧ rA xs i = some v ∧ Q v H
def Wi : R2 := fun x y H Q => ∃ z i c, x = .str z ∧ y = .int i ∧ z.length ≤ sizeLine ∧ rA z.cps.toList i = some c ∧ Q (.str ⟨#[c]⟩) H
theorem aB : U7 X (Ml X.K) := by
 intro value slice pins s σ H x y v u Q I rx ry h hs
 obtain ⟨p, xs, i, z, rfl, rfl, hq, he, q⟩ := h
 cases rx
 obtain ⟨t, rfl⟩ := ry
 obtain ⟨its, r, pl, hz⟩ := I.list hq
 obtain ⟨j, h1, h2, h3, h4, h5⟩ := yL he
 obtain ⟨w, ew, DQ⟩ := r.get h2
 have hl := r.length
 have hn := p8
 have fin : EP X pins σ Q w s := ⟨z, H, I, DQ, q⟩
 by_cases h0 : 0 ≤ i
 ·have hj : i.toNat = j := by
   rw [seqIndex_of h0 h5] at h1
   exact Option.some.inj h1
  exact item_listR pl.isList h0 (by omega) (by rw [hj]; simpa using ew) fin hs
 ·have hj : (i + (its.toArray.size : Int)).toNat = j := by
   rw [seqIndex_neg (by omega) h4] at h1
   rw [List.size_toArray, ← hl]
   exact Option.some.inj h1
  exact subscriptTail_builtinR (x := w) pl.isList.typeIs slot_list_getitem.lookup
   (wpAny_getItem_list_neg (Q := fun r s' => r = w ∧ EP X pins σ Q r s') pl.isList (by omega) (by rw [List.size_toArray] <;> omega) (by omega) (by rw [hj]; simpa using ew) ⟨rfl, fin⟩) hs
theorem a8 : U7 X (rT X.K) := by
 intro value slice pins s σ H x y v u Q I rx ry h hs
 obtain ⟨p, xs, i, z, rfl, rfl, hq, he, q⟩ := h
 cases rx
 obtain ⟨t, rfl⟩ := ry
 obtain ⟨its, r, pl, hz⟩ := I.tuple hq
 obtain ⟨j, h1, h2, h3, h4, h5⟩ := yL he
 obtain ⟨w, ew, DQ⟩ := r.get h2
 have hl := r.length
 have hn := p8
 have fin : EP X pins σ Q w s := ⟨z, H, I, DQ, q⟩
 exact subscriptTail_builtinR (x := w) pl.typeIs slot_tuple_getitem.lookup
  (getItem_tuple (j := j) (Q := fun r s' => r = w ∧ EP X pins σ Q r s') pl (by omega) (by omega) (by rw [List.size_toArray, ← hl]; exact h1) (by simpa using ew) ⟨rfl, fin⟩) hs
theorem qc : U7 X Wi := by
 intro value slice pins s σ H x y v u Q I rx ry h hs
 obtain ⟨z, i, c, rfl, rfl, hz, he, q⟩ := h
 obtain ⟨t, rfl⟩ := rx
 obtain ⟨t', rfl⟩ := ry
 obtain ⟨j, h1, h2, h3, h4, h5⟩ := yL he
 have hl : z.cps.toList.length = z.length := by simp [Str.length]
 rw [hl] at h1 h4 h5
 have hn := p8
 exact tail_any (typeIs_str s z t) slot_str_getitem.lookup (getItem_str (c := c) (by
  have e1 : decide (i < -(2 ^ 63 : Int)) = false := decide_eq_false (by omega)
  have e2 : decide (i ≥ 2 ^ 63) = false := decide_eq_false (by omega)
  rw [e1, e2, Bool.or_false]) (by rw [h1]; simpa using h2) ⟨.str ⟨#[c]⟩, H, I.tok _, ⟨_, rfl⟩, q⟩) hs
theorem DR (its : List Value) (n j : Nat) (u : Value) : Obj.mapSeq (·.setIfInBounds j u) { cls := .type "list", data := .seq its.toArray n } = { cls := .type "list", data := .seq (its.set j u).toArray n } := by
 simp [Obj.mapSeq]
theorem Inv.lst {pins : List (Addr × Obj)} {σ : St} {H : Hp} {s : Shared} {p : Addr} {xs : List V} (I : Inv X pins σ H s) (h : H p = some (.lst xs)) :
  ∃ (its : List Value) (n : Nat), Vals xs its ∧ s.heap.get? p = some { cls := .type "list", data := .seq its.toArray n } ∧ xs.length ≤ sizeLine := by
 obtain ⟨z, its, n, r, e⟩ := I.bt p _ h
 exact ⟨its, n, r, e, z⟩
theorem Inv.OT {pins : List (Addr × Obj)} {σ : St} {H : Hp} {s : Shared} {p : Addr} {xs ys : List V} {its its' : List Value} {n n' : Nat} {f : Obj → Obj} (I : Inv X pins σ H s) (h : H p = some (.lst xs))
  (ho : s.heap.get? p = some { cls := .type "list", data := .seq its.toArray n }) (hf : f { cls := .type "list", data := .seq its.toArray n } = { cls := .type "list", data := .seq its'.toArray n' }) (r : Vals ys its') (hz : ys.length ≤ sizeLine) (t : Nat) :
  Inv X pins σ (upd H p (.lst ys)) { s with heap := s.heap.update p f, toks := t } := by
 have e : (s.heap.update p f).get? p = some { cls := .type "list", data := .seq its'.toArray n' } := by
  rw [Heap.get?_update_self f ho (by rw [hf] <;> rfl), hf]
 refine I.write (x := p) (e := p) (by rw [h]; trivial) (.inl rfl) (fun b u hb q => (Heap.get?_update_other _ _ (Ne.symm hb)).trans q) ⟨_, e⟩ ?_
 exact ⟨hz, its', n', r, e⟩
def Rw : V → V → V → Hp → (Hp → Prop) → Prop := fun o i v H Q => ∃ p xs k j, o = .ref p ∧ i = .int k ∧ H p = some (.lst xs) ∧ Jh xs.length k = some j ∧ Q (upd H p (.lst (xs.set j v)))
theorem set_list : Q7 X Rw := by
 intro pins s σ H o i v ov iv u Q I ro ri rv h
 obtain ⟨p, xs, k, j, rfl, rfl, hp, hj, q⟩ := h
 cases ro
 obtain ⟨t, rfl⟩ := ri
 obtain ⟨its, n, r, ho, hz⟩ := I.lst hp
 obtain ⟨h1, h2, h3, h4⟩ := FP hj
 have hl := r.length
 have hn := p8
 have I' : Inv X pins σ (upd H p (.lst (xs.set j v))) { s with heap := s.heap.update p (Obj.mapSeq (·.setIfInBounds j u)) } :=
  I.OT hp ho (DR its n j u) (r.set rv j) (by rw [List.length_set]; exact hz) s.toks
 by_cases h0 : 0 ≤ k
 ·have hk : k.toNat = j := by
   rw [seqIndex_of h0 h4] at h1
   exact Option.some.inj h1
  exact PySem.W.ki_setAt ho h0 (by omega) (by rw [List.size_toArray, ← hl]; exact h4) (by rw [hk]; exact ⟨_, I', q⟩)
 ·have hk : (k + (its.toArray.size : Int)).toNat = j := by
   rw [seqIndex_neg (by omega) h3] at h1
   rw [List.size_toArray, ← hl]
   exact Option.some.inj h1
  exact PySem.W.ki_setBack ho (by omega) (by rw [List.size_toArray, ← hl]; exact h3) (by omega) (by rw [hk]; exact ⟨_, I', q⟩)
theorem yM (lo hi : Option Int) (n : Nat) : (sliceBounds lo hi none n).1 = ((HT.df n 0 lo : Nat) : Int) ∧ (sliceBounds lo hi none n).2.1 = ((HT.df n n hi : Nat) : Int) ∧ (sliceBounds lo hi none n).2.2 = 1 := by
 refine ⟨?_, ?_, rfl⟩
 ·cases lo with
  | none => simp [sliceBounds, HT.df]
  | some i =>
   simp only [sliceBounds, HT.df, Option.getD_none, show (1 : Int) > 0 by decide, if_true]
   by_cases h : i < 0
   ·simp only [h, if_true] <;> omega
   ·simp only [h, if_false] <;> omega
 ·cases hi with
  | none => simp [sliceBounds, HT.df]
  | some i =>
   simp only [sliceBounds, HT.df, Option.getD_none, show (1 : Int) > 0 by decide, if_true]
   by_cases h : i < 0
   ·simp only [h, if_true] <;> omega
   ·simp only [h, if_false] <;> omega
theorem wd (its : List Value) (lo hi : Option Int) : slicePick its.toArray lo hi none = ((its.drop (HT.df its.length 0 lo)).take (HT.df its.length its.length hi - HT.df its.length 0 lo)).toArray := by
 obtain ⟨h1, h2, h3⟩ := yM lo hi its.toArray.size
 unfold slicePick
 rw [h1, h2, h3]
 simp only [sliceRange_one, pick_run, List.size_toArray] <;> rfl
def Wj (K : PySem.W.Frag) : V → Option Int → Option Int → Hp → VK → Prop := fun x lo hi H Q => ∃ a xs, x = .ref a ∧ ay K H a xs ∧ ∀ p, H p = none → Q (.ref p) (upd H p (.lst (hZ xs lo hi)))
theorem m3 : Rv X (Wj X.K) := by
 intro pins s σ H x v vl vu lo hi sl Q I rx hs pl pu h
 obtain ⟨a, xs, rfl, hx, q⟩ := h
 cases rx
 obtain ⟨its, r, ht, hz⟩ := I.list hx
 have hlen := r.length
 refine ⟨"list", _, slot_list_getitem.lookup, ht.isList.typeIs, ?_⟩
 refine wpAny_getItem_list_slice ht.isList hs pl pu .none (by simp) ?_ (by rw [List.size_toArray] <;> omega)
 rw [wd, ← hlen]
 refine ⟨.ref s.heap.objs.size, _, I.laid (t' := s.toks) (o := .lst (hZ xs lo hi)) (fun b ob q => Heap.get?_push_of_some _ q) (Nat.le_refl _) ?_, rfl, q _ (I.bt.fresh (Nat.le_refl _))⟩
 exact ⟨Nat.le_trans (k6 xs lo hi) hz, _, 0, (r.drop (HT.df xs.length 0 lo)).take (HT.df xs.length xs.length hi - HT.df xs.length 0 lo), Heap.get?_push_size _ rfl⟩
def eT : V → Bool
 | .cJ => true
 | .bl _ => true
 | .int _ => true
 | .str _ => true
 | _ => false
def v9 : V → V → Bool
 | .cJ, .cJ => true
 | .bl a, .bl b => a == b
 | .bl a, .int b => (if a then 1 else 0) == b
 | .int a, .bl b => a == (if b then 1 else 0)
 | .int a, .int b => a == b
 | .str a, .str b => a == b
 | _, _ => false
theorem OU {A : Around} {s : Shared} {y x : V} {u v : Value} (ry : RelV y u) (rx : RelV x v) (fy : eT y = true) (fx : eT x = true) : SeqAt.EqAt A s u v (v9 y x) := by
 cases y with
 | cJ =>
  cases ry
  cases x with
  | cJ => cases rx; exact SeqAt.EqAt.same _
  | bl b => cases rx; exact SeqAt.EqAt.none_bool b
  | int b => obtain ⟨t, rfl⟩ := rx; exact SeqAt.EqAt.none_int b t
  | str b => obtain ⟨t, rfl⟩ := rx; exact SeqAt.EqAt.none_str b t
  | _ => exact absurd (show false = true from fx) Bool.false_ne_true
 | bl a =>
  cases ry
  cases x with
  | cJ => cases rx; exact SeqAt.EqAt.bool_none a
  | bl b => cases rx; exact SeqAt.EqAt.bool_bool a b
  | int b => obtain ⟨t, rfl⟩ := rx; exact SeqAt.EqAt.bool_int a b t
  | str b => obtain ⟨t, rfl⟩ := rx; exact SeqAt.EqAt.bool_str a b t
  | _ => exact absurd (show false = true from fx) Bool.false_ne_true
 | int a =>
  obtain ⟨t', rfl⟩ := ry
  cases x with
  | cJ => cases rx; exact SeqAt.EqAt.int_none a t'
  | bl b => cases rx; exact SeqAt.EqAt.int_bool a t' b
  | int b => obtain ⟨t, rfl⟩ := rx; exact SeqAt.EqAt.int_int a t' b t
  | str b => obtain ⟨t, rfl⟩ := rx; exact SeqAt.EqAt.int_str a t' b t
  | _ => exact absurd (show false = true from fx) Bool.false_ne_true
 | str a =>
  obtain ⟨t', rfl⟩ := ry
  cases x with
  | cJ => cases rx; exact SeqAt.EqAt.str_none a t'
  | bl b => cases rx; exact SeqAt.EqAt.str_bool a t' b
  | int b => obtain ⟨t, rfl⟩ := rx; exact SeqAt.EqAt.str_int a t' b t
  | str b => obtain ⟨t, rfl⟩ := rx; exact SeqAt.EqAt.str_str a t' b t
  | _ => exact absurd (show false = true from fx) Bool.false_ne_true
 | _ => exact absurd (show false = true from fy) Bool.false_ne_true
def yN (x : V) (u : Value) : Bool := match u with
 | .none => v9 .cJ x
 | .bool b => v9 (.bl b) x
 | .int i _ => v9 (.int i) x
 | .str z _ => v9 (.str z) x
 | _ => false
theorem tL {x y : V} {u : Value} (r : RelV y u) (f : eT y = true) : yN x u = v9 y x := by
 cases y with
 | cJ => cases r; rfl
 | bl b => cases r; rfl
 | int i => obtain ⟨t, rfl⟩ := r; rfl
 | str z => obtain ⟨t, rfl⟩ := r; rfl
 | _ => exact absurd (show false = true from f) Bool.false_ne_true
theorem oP {x : V} : ∀ {xs : List V} {us : List Value}, Vals xs us → xs.all eT = true → us.any (yN x) = xs.any fun y => v9 y x
 | _, _, .nil, _ => rfl
 | y :: xs, u :: us, .cons r t, f => by
  rw [List.all_cons, Bool.and_eq_true] at f
  rw [List.any_cons, List.any_cons, tL r f.1, oP t f.2]
theorem gv {A : Around} {s : Shared} {x : V} {v : Value} (rx : RelV x v) (fx : eT x = true) : ∀ {xs : List V} {us : List Value}, Vals xs us → xs.all eT = true → ∀ u ∈ us, SeqAt.EqAt A s u v (yN x u)
 | _, _, .nil, _ => fun u hu => by cases hu
 | y :: xs, u :: us, .cons r t, f => fun u' hu => by
  rw [List.all_cons, Bool.and_eq_true] at f
  rcases List.mem_cons.mp hu with rfl | hu
  ·rw [tL r f.1]; exact OU r rx f.1 fx
  ·exact gv rx fx t f.2 u' hu
def G2 (x : V) (xs : List V) : Bool := xs.any fun y => v9 y x
def Wk (K : PySem.W.Frag) (neg : Bool) : R2 := fun x y H Q => ∃ p xs, y = .ref p ∧ (ay K H p xs ∨ cP K H p xs) ∧ eT x = true ∧ xs.all eT = true ∧ Q (.bl (if neg then !G2 x xs else G2 x xs)) H
theorem qd : pX X (compareOp .In) (Wk X.K false) := by
 intro pins s σ H x y v u Q I rx ry h
 obtain ⟨p, xs, rfl, hq, fx, fs, q⟩ := h
 cases ry
 rcases hq with hq | hq
 ·obtain ⟨its, r, pl, hz⟩ := I.list hq
  refine SeqAt.in_listAt (yN x) pl.isList (fun w hw => gv rx fx r fs w (by simpa using hw)) ⟨.bl _, H, I, rfl, ?_⟩
  rw [show its.toArray.any (yN x) = its.any (yN x) by simp, oP r fs]
  exact q
 ·obtain ⟨its, r, pl, hz⟩ := I.tuple hq
  refine SeqAt.in_tupleAt (yN x) pl (fun w hw => gv rx fx r fs w (by simpa using hw)) ⟨.bl _, H, I, rfl, ?_⟩
  rw [show its.toArray.any (yN x) = its.any (yN x) by simp, oP r fs]
  exact q
theorem c7 : pX X (compareOp .NotIn) (Wk X.K true) := by
 intro pins s σ H x y v u Q I rx ry h
 obtain ⟨p, xs, rfl, hq, fx, fs, q⟩ := h
 cases ry
 rcases hq with hq | hq
 ·obtain ⟨its, r, pl, hz⟩ := I.list hq
  refine SeqAt.notIn_listAt (yN x) pl.isList (fun w hw => gv rx fx r fs w (by simpa using hw)) ⟨.bl _, H, I, rfl, ?_⟩
  rw [show its.toArray.any (yN x) = its.any (yN x) by simp, oP r fs]
  exact q
 ·obtain ⟨its, r, pl, hz⟩ := I.tuple hq
  refine SeqAt.notIn_tupleAt (yN x) pl (fun w hw => gv rx fx r fs w (by simpa using hw)) ⟨.bl _, H, I, rfl, ?_⟩
  rw [show its.toArray.any (yN x) = its.any (yN x) by simp, oP r fs]
  exact q
theorem av : jf X (.builtin "len") (fun xs H Q => ∃ p ys, xs = [.ref p] ∧ (ay X.K H p ys ∨ cP X.K H p ys) ∧ Q (.int ys.length) H) := by
 intro pins s σ H xs us Q I r h
 obtain ⟨p, ys, rfl, hq, q⟩ := h
 obtain ⟨u, rfl, rx⟩ := vals1 r
 cases rx
 have hn := p8
 rcases hq with hq | hq
 ·obtain ⟨its, r', pl, hz⟩ := I.list hq
  have hlen := r'.length
  exact Calls.call_len_list pl.isList (by simp only [List.size_toArray] <;> omega) ⟨.int ys.length, H, I.tok _, ⟨s.toks + 1, by rw [List.size_toArray, hlen]⟩, q⟩
 ·obtain ⟨its, r', pl, hz⟩ := I.tuple hq
  have hlen := r'.length
  exact len_tuple pl (by simp only [List.size_toArray] <;> omega) ⟨.int ys.length, H, I.tok _, ⟨s.toks + 1, by rw [List.size_toArray, hlen]⟩, q⟩
theorem jC : jf X (.builtin "len") (fun xs H Q => ∃ z, xs = [.str z] ∧ z.length ≤ sizeLine ∧ Q (.int z.length) H) := by
 intro pins s σ H xs us Q I r h
 obtain ⟨z, rfl, hz, q⟩ := h
 obtain ⟨u, rfl, t, rfl⟩ := vals1 r
 have hn := p8
 exact len_str (by omega) ⟨.int z.length, H, I.tok _, ⟨_, rfl⟩, q⟩
theorem yO : jf X (.type "list") (fun xs H Q => ∃ p ys, xs = [.ref p] ∧ (ay X.K H p ys ∨ cP X.K H p ys) ∧ ∀ l, H l = none → Q (.ref l) (upd H l (.lst ys))) := by
 intro pins s σ H xs us Q I r h
 obtain ⟨p, ys, rfl, hq, q⟩ := h
 obtain ⟨u, rfl, rx⟩ := vals1 r
 cases rx
 have fin : ∀ (its : List Value), Vals ys its → ys.length ≤ sizeLine → ∀ (h' : Heap) (c' : Nat), (∀ b o', s.heap.get? b = some o' → h'.get? b = some o') →
   h'.get? s.heap.objs.size = some { cls := .type "list", dict := none, data := .seq its.toArray c', slots := #[] } → EP X pins σ Q (.ref s.heap.objs.size) { s with heap := h' } := fun its r' hz h' c' kp e =>
  ⟨.ref s.heap.objs.size, _, I.laid (t' := s.toks) kp (Nat.le_refl _) (show cn X.prog X.w _ h' _ (.lst ys) from ⟨hz, its, c', r', e⟩), rfl, q _ (I.bt.fresh (Nat.le_refl _))⟩
 rcases hq with hq | hq
 ·obtain ⟨its, r', pl, hz⟩ := I.list hq
  have hlen := r'.length
  obtain ⟨o, ho, hc, n, hd⟩ := pl.isList
  exact call_list_seq p (.inl rfl) ho hc hd (fun h' c' kp e => fin its r' hz h' c' kp e) (by simp only [List.size_toArray] <;> omega)
 ·obtain ⟨its, r', pl, hz⟩ := I.tuple hq
  have hlen := r'.length
  obtain ⟨o, ho, hc, n, hd⟩ := pl
  exact call_list_seq p (.inr rfl) ho hc hd (fun h' c' kp e => fin its r' hz h' c' kp e) (by simp only [List.size_toArray] <;> omega)
theorem we : jf X (.type "tuple") (fun xs H Q => ∃ p ys, xs = [.ref p] ∧ ((ay X.K H p ys ∧ ∀ l, H l = none → Q (.ref l) (upd H l (.tup ys))) ∨ (cP X.K H p ys ∧ Q (.ref p) H))) := by
 intro pins s σ H xs us Q I r h
 obtain ⟨p, ys, rfl, h⟩ := h
 obtain ⟨u, rfl, rx⟩ := vals1 r
 cases rx
 rcases h with ⟨hq, q⟩ | ⟨hq, q⟩
 ·obtain ⟨its, r', pl, hz⟩ := I.list hq
  have hlen := r'.length
  refine call_tuple_list pl.isList (fun h' kp => ?_) (by simp only [List.size_toArray] <;> omega)
  have I1 : Inv X pins σ H { s with heap := h' } := I.kept (t' := s.toks) kp
  have I2 : Inv X pins σ (upd H h'.objs.size (.tup ys)) { s with heap := h'.push { cls := .type "tuple", data := .seq its.toArray } } :=
   I1.laid (t' := s.toks) (fun b o e => Heap.get?_push_of_some _ e) (Nat.le_refl _) (show cn X.prog X.w _ _ _ (.tup ys) from ⟨hz, its, r', IsTup.new _ _⟩)
  exact ⟨.ref h'.objs.size, _, I2, rfl, q _ (I1.bt.fresh (Nat.le_refl _))⟩
 ·obtain ⟨its, r', pl, hz⟩ := I.tuple hq
  exact call_tuple_same pl ⟨.ref p, H, I, rfl, q⟩
def YK (K : PySem.W.Frag) (T : String) (x : V) (H : Hp) : Prop := match x with
 | .str _ => T = "str"
 | .int _ => T = "int"
 | .ref p => (T = "list" ∧ ∃ xs, ay K H p xs) ∨ (T = "tuple" ∧ ∃ o, K.lookup p = some o ∧ o.cls = .type "tuple" ∧ o.dict = none) ∨
   (T = "dict" ∧ ((∃ kvs, H p = some (.dK kvs)) ∨ ∃ kvs, H p = some (.dT kvs))) ∨ (T = "set" ∧ ∃ S n, H p = some (.set S n))
 | _ => False
theorem OV {pins : List (Addr × Obj)} {σ : St} {H : Hp} {s : Shared} {T : String} {x : V} {v : Value} (I : Inv X pins σ H s) (r : RelV x v) (ty : YK X.K T x H) :
  s.TypeIs v T ∧ ∀ a, v = .ref a → ∃ ob, s.heap.get? a = some ob ∧ ob.dict = none := by
 cases x with
 | str z =>
  obtain ⟨t, rfl⟩ := r
  cases (show T = "str" from ty)
  exact ⟨typeIs_str s z t, fun _ e => nomatch e⟩
 | int i =>
  obtain ⟨t, rfl⟩ := r
  cases (show T = "int" from ty)
  exact ⟨typeIs_int s i t, fun _ e => nomatch e⟩
 | ref p =>
  cases r
  rcases ty with ⟨rfl, xs, hq⟩ | ⟨rfl, o, hk, hc, hd⟩ | ⟨rfl, hk⟩ | ⟨rfl, S, n, hk⟩
  ·obtain ⟨its, _, pl, _⟩ := I.list hq
   refine ⟨pl.isList.typeIs, fun a e => ?_⟩
   cases e
   obtain ⟨o, n, e, c, hd, _⟩ := pl
   exact ⟨o, e, hd⟩
  ·refine ⟨⟨o, I.rm p o hk, hc⟩, fun a e => ?_⟩
   cases e
   exact ⟨o, I.rm _ o hk, hd⟩
  ·have z : ∃ o, s.heap.get? p = some o ∧ o.ExactDict := by
    rcases hk with ⟨kvs, hk⟩ | ⟨kvs, hk⟩
    ·obtain ⟨_, _, _, _, o, _, _, e, ex, _⟩ := I.bt p _ hk
     exact ⟨o, e, ex⟩
    ·obtain ⟨_, _, _, _, o, _, _, e, ex, _⟩ := I.bt p _ hk
     exact ⟨o, e, ex⟩
   obtain ⟨o, e, ex⟩ := z
   refine ⟨⟨o, e, ex.1⟩, fun a e2 => ?_⟩
   cases e2
   exact ⟨o, e, ex.2.1⟩
  ·obtain ⟨o, _, _, _, e, ex, _⟩ := I.bt p _ hk
   refine ⟨⟨o, e, ex.1⟩, fun a e2 => ?_⟩
   cases e2
   exact ⟨o, e, ex.2.1⟩
 | _ => exact False.elim ty
def Wl (K : PySem.W.Frag) (T : String) (r : V → List V → Hp → VK → Prop) (to : TE) (t : TA) : TE := fun σ H Q => to σ H fun x H1 => YK K T x H1 ∧ t σ H1 fun xs H2 => r x xs H2 Q
variable {o e : Expr} {es : List Expr} {to : TE} {t : TA} {name : Str} {apos cpos : Pos} {T id : String} {r : V → List V → Hp → VK → Prop}
theorem bY (pa : PlainAttrs T) (slot : Slot T name id) (NP : typeOf (.builtin id) = pure (.type "method_descriptor")) (hm : OS X id r) (ho : PE X o to) (ha : PA X (e :: es) t)
  (Rx : attributeBase o name X.env (eval o X.env) = eval o X.env := by rfl)
  (hfew : ((backTo cpos (starEach (e :: es) X.env)).all (fun x => !x.1) && (backToKw cpos (keywordEach [] X.env)).all (fun x => x.1.isSome)
   && decide ((e :: es).length + ([] : List Keyword).length + (if ([] : List Keyword).isEmpty then 0 else 1) < 30)) = true := by rfl)
  (Ry : (apos.endLine == cpos.line) = true := by rfl) (hs : starEach (e :: es) X.env = (false, eval e X.env) :: starEach es X.env := by rfl) (OW : (backTo cpos (starEach es X.env)).any (·.1) = false := by rfl) :
  PE X (.Call (.Attribute o name apos) (e :: es) [] cpos) (Wl X.K T r to t) := by
 intro pins s σ H Q I h
 refine wpAny_Call_method_late Rx hfew Ry rfl (thn (ho pins s σ H _ I h) fun v s1 ⟨x, H1, I1, r1, ty, q1⟩ => ?_)
 obtain ⟨h1, h2⟩ := OV I1 r1 ty
 refine ⟨T, id, pa, slot, NP, h1, h2, ?_⟩
 have hA := ha cpos pins s1 σ H1 _ I1 q1
 rw [hs] at hA ⊢
 refine Calls.callWith_builtin (by show (false || (backTo cpos (starEach es X.env)).any (·.1)) = false; rw [OW] <;> rfl) (Calls.evalArgs_plain ?_)
 exact thn hA fun us s2 ⟨vs, H2, I2, r2, q2⟩ => hm pins s2 σ H2 x vs v us Q I2 r1 r2 q2
end
end L2
namespace L2
open PySem PySem.Spec PyProof.Rows
def YL (X : Cx) (id : String) (r : V → List V → Hp → VK → Prop) : Prop :=
 ∀ (pins : List (Addr × Obj)) (s : Shared) (σ : St) (H : Hp) (x : V) (xs : List V) (v : Value) (us : List Value) (Q : VK), Inv X pins σ H s → RelV x v → Vals xs us → r x xs H Q →
  wpAny (model X.prog X.w) X.A (call (.builtin id) (v :: us)) (EP X pins σ Q) X.xe s
theorem Vals.one : ∀ {x : V} {us : List Value}, Vals [x] us → ∃ u, us = [u] ∧ RelV x u
 | _, _, .cons r .nil => ⟨_, rfl, r⟩
theorem Vals.dropLast {xs : List V} {us : List Value} (h : Vals xs us) : Vals xs.dropLast us.dropLast := by
 induction h with
 | nil => exact .nil
 | cons r t ih =>
  cases t with
  | nil => exact .nil
  | cons q t' => exact .cons r ih
theorem Vals.reverse {xs : List V} {us : List Value} (h : Vals xs us) : Vals xs.reverse us.reverse := by
 induction h with
 | nil => exact .nil
 | cons r t ih => rw [List.reverse_cons, List.reverse_cons]; exact Vals.append ih (.cons r .nil)
theorem Vals.rep {xs : List V} {us : List Value} (h : Vals xs us) : ∀ k : Nat, Vals (List.replicate k xs).flatten (List.replicate k us).flatten
 | 0 => .nil
 | k + 1 => by
  rw [List.replicate_succ, List.replicate_succ, List.flatten_cons, List.flatten_cons]
  exact Vals.append h (Vals.rep h k)
theorem foldl_rep (its : List Value) : ∀ (k : Nat) (acc : List Value),
  List.foldl (fun x1 x2 => x1 ++ x2) acc.toArray (List.replicate k its.toArray) = (acc ++ (List.replicate k its).flatten).toArray
 | 0, acc => by simp
 | k + 1, acc => by
  have e : acc.toArray ++ its.toArray = (acc ++ its).toArray := by simp
  have e2 : (acc ++ its) ++ (List.replicate k its).flatten = acc ++ (List.replicate (k + 1) its).flatten := by
   rw [List.replicate_succ, List.flatten_cons, List.append_assoc]
  rw [← e2, ← foldl_rep its k (acc ++ its), ← e, List.replicate_succ, List.foldl_cons]
section
variable {X : Cx} {pins : List (Addr × Obj)} {σ : St} {H : Hp} {s : Shared} {l b : Addr} {xs ys zs : List V}
theorem Inv.OX {its its' : List Value} {n : Nat} {f : Array Value → Array Value} {t' : Nat} (I : Inv X pins σ H s) (hH : H l = some (.lst xs))
  (e : s.heap.get? l = some { cls := .type "list", data := .seq its.toArray n }) (hf : f its.toArray = its'.toArray) (hv : Vals ys its') (hz : ys.length ≤ sizeLine) :
  Inv X pins σ (upd H l (.lst ys)) { s with heap := s.heap.update l (Obj.mapSeq f), toks := t' } := by
 have q := PySem.IsL.update e f
 rw [hf] at q
 refine I.write (x := l) (e := l) (by rw [hH]; exact trivial) (.inl rfl) (fun b' u hb hu => (Heap.get?_update_other s.heap (Obj.mapSeq f) (Ne.symm hb)).trans hu) ⟨_, q⟩ ?_
 exact ⟨hz, its', _, hv, q⟩
theorem Inv.Rz {its : List Value} {t' : Nat} (I : Inv X pins σ H s) (hv : Vals ys its) (hz : ys.length ≤ sizeLine) :
  Inv X pins σ (upd H s.heap.objs.size (.lst ys)) { s with heap := s.heap.push { cls := .type "list", data := .seq its.toArray }, toks := t' } :=
 I.laid (fun _ _ q => Heap.get?_push_of_some _ q) (Nat.le_refl _) ⟨hz, its, 0, hv, Heap.get?_push_size _ rfl⟩
theorem Inv.fresh (I : Inv X pins σ H s) : H s.heap.objs.size = none := I.bt.fresh (Nat.le_refl _)
theorem Inv.DS (I : Inv X pins σ H s) (hH : H l = some (.lst xs)) : xs.length ≤ sizeLine ∧ ∃ (its : List Value) (n : Nat), Vals xs its ∧ xs.length = its.length ∧ s.heap.get? l = some { cls := .type "list", data := .seq its.toArray n } := by
 obtain ⟨z, its, n, r, e⟩ := I.bt l _ hH
 exact ⟨z, its, n, r, r.length, e⟩
theorem tM {n : Nat} (h : n ≤ sizeLine) : Builtin.List.listTooLong n = false := by
 unfold Builtin.List.listTooLong
 exact decide_eq_false (by omega)
end
section
variable {X : Cx}
def Mm : V → List V → Hp → VK → Prop := fun x vs H Q => ∃ l xs y, x = .ref l ∧ vs = [y] ∧ H l = some (.lst xs) ∧ xs.length < sizeLine ∧ Q .cJ (upd H l (.lst (xs ++ [y])))
theorem aZ : YL X "list.append" Mm := by
 intro pins s σ H x vs v us Q I rx rv h
 obtain ⟨l, xs, y, rfl, rfl, hH, hz, q⟩ := h
 cases rx
 obtain ⟨u, rfl, ru⟩ := rv.one
 obtain ⟨z, its, n, r, hl, e⟩ := I.DS hH
 refine call_meets F.slot_list_append ⟨_, e, rfl⟩ F.entry_list_append (F.args_list_append_2 _ _) (PySem.list_append l its.toArray n u (by rw [List.size_toArray]; omega)) ⟨e, ?_⟩
 refine ⟨.cJ, _, I.OX (its' := its ++ [u]) hH e (by simp) (r.append (.cons ru .nil)) ?_, rfl, q⟩
 rw [List.length_append, List.length_singleton]
 omega
def Mn : V → List V → Hp → VK → Prop := fun x vs H Q => ∃ l b xs zs, x = .ref l ∧ vs = [.ref b] ∧ H l = some (.lst xs) ∧ H b = some (.lst zs) ∧ xs.length + zs.length ≤ sizeLine ∧ Q .cJ (upd H l (.lst (xs ++ zs)))
theorem xR : YL X "list.extend" Mn := by
 intro pins s σ H x vs v us Q I rx rv h
 obtain ⟨l, b, xs, zs, rfl, rfl, hH, hB, hz, q⟩ := h
 cases rx
 obtain ⟨u, rfl, ru⟩ := rv.one
 cases ru
 obtain ⟨z, its, n, r, hl, e⟩ := I.DS hH
 obtain ⟨z2, nP, n2, r2, tN, e2⟩ := I.DS hB
 have hsz : its.toArray.size + nP.toArray.size ≤ sizeLine := by rw [List.size_toArray, List.size_toArray]; omega
 have BR : ¬ (!its.toArray.isEmpty && Builtin.List.listTooLong (its.toArray.size + nP.toArray.size)) = true := by
  rw [tM hsz, Bool.and_false]
  exact Bool.false_ne_true
 refine call_meets F.slot_list_extend ⟨_, e, rfl⟩ F.entry_list_extend (F.args_list_extend_2 _ _)
  (AutoSeq1.list_extend_list_list_0 l its.toArray n b nP.toArray n2 BR (by rw [List.size_toArray]; omega) (by omega)) ⟨e, e2, ?_⟩
 refine ⟨.cJ, _, I.OX (its' := its ++ nP) hH e (by simp) (r.append r2) ?_, rfl, q⟩
 rw [List.length_append]
 omega
def Wm : R2 := fun x y H Q => ∃ l b xs zs, x = .ref l ∧ y = .ref b ∧ H l = some (.lst xs) ∧ H b = some (.lst zs) ∧ xs.length + zs.length ≤ sizeLine ∧ ∀ p, H p = none → Q (.ref p) (upd H p (.lst (xs ++ zs)))
theorem nQ : pX X (binaryOp .Add) Wm := by
 intro pins s σ H x y v u Q I rx ry h
 obtain ⟨l, b, xs, zs, rfl, rfl, hH, hB, hz, q⟩ := h
 cases rx
 cases ry
 obtain ⟨z, its, n, r, hl, e⟩ := I.DS hH
 obtain ⟨z2, nP, n2, r2, tN, e2⟩ := I.DS hB
 refine PySem.P.add_list e e2 ?_ (by rw [List.size_toArray, List.size_toArray]; omega)
 have ea : its.toArray ++ nP.toArray = (its ++ nP).toArray := by simp
 rw [ea]
 exact ⟨.ref _, _, I.Rz (t' := s.toks) (r.append r2) (by rw [List.length_append]; omega), rfl, q _ I.fresh⟩
def Wn : R2 := fun x y H Q => ∃ l k xs, x = .ref l ∧ y = .int k ∧ H l = some (.lst xs) ∧ -(2 ^ 63) ≤ k ∧ k < 2 ^ 63 ∧ xs.length * k.toNat ≤ sizeLine ∧
 ∀ p, H p = none → Q (.ref p) (upd H p (.lst (List.replicate k.toNat xs).flatten))
theorem len_rep {α : Type} (xs : List α) (k : Nat) : (List.replicate k xs).flatten.length = k * xs.length := by
 induction k with
 | zero => simp
 | succ k ih => rw [List.replicate_succ, List.flatten_cons, List.length_append, ih, Nat.succ_mul, Nat.add_comm]
theorem Ji : pX X (binaryOp .Mult) Wn := by
 intro pins s σ H x y v u Q I rx ry h
 obtain ⟨l, k, xs, rfl, rfl, hH, h1, h2, hz, q⟩ := h
 cases rx
 obtain ⟨t, rfl⟩ := ry
 obtain ⟨z, its, n, r, hl, e⟩ := I.DS hH
 have hlen : its.toArray.size * k.toNat ≤ sizeLine := by rw [List.size_toArray, ← hl]; exact hz
 have Wo : ¬ its.toArray.size * k.toNat > (2 ^ 63 - 1) / 8 := by
  have : (sizeLine : Nat) ≤ (2 ^ 63 - 1) / 8 := by decide
  omega
 have OY : ¬ (!Builtin.List.listFitsIndex k) = true := by
  rw [fitsIndex_both h1 h2]
  exact Bool.false_ne_true
 have BR : ¬ Builtin.List.listTooLong (its.toArray.size * k.toNat) = true := by
  rw [tM hlen]
  exact Bool.false_ne_true
 have DT : List.foldl (fun x1 x2 => x1 ++ x2) #[] (List.replicate (if its.toArray.isEmpty = true then 0 else k.toNat) its.toArray) = (List.replicate k.toNat its).flatten.toArray := by
  have f0 : ∀ m : Nat, List.foldl (fun x1 x2 => x1 ++ x2) #[] (List.replicate m its.toArray) = (List.replicate m its).flatten.toArray := fun m => by
   have := foldl_rep its m []
   rw [List.nil_append] at this
   exact this
  rw [f0]
  cases its with
  | nil => simp
  | cons a r' => rw [if_neg (by simp)]
 refine wpAny_binaryOp_repeat_ref (T := "list") (U := "int") (by decide) ⟨_, e, rfl⟩ (fun s' => typeIs_int s' k t) noFill_list_mul F.fills_int_mul F.slot_int_rmul repeat_list F.slot_int_index.lookup
  (call_meets F.slot_int_rmul (typeIs_int s k t) F.entry_int_rmul (F.args_int_rmul_2 _ _) (int___rmul___int_list k t l its.toArray n)
   ⟨e, rfl, ⟨_, e, rfl⟩, call_meets F.slot_list_mul ⟨_, e, rfl⟩ F.entry_list_mul (F.args_list_mul_2 _ _) (AutoListH.list___mul___list_int_3 l its.toArray n k t OY Wo BR) ⟨e, ?_⟩⟩)
 rw [DT]
 exact ⟨.ref _, _, I.Rz (t' := s.toks) (r.rep k.toNat) (by rw [len_rep, Nat.mul_comm]; exact hz), rfl, q _ I.fresh⟩
end
section
variable {prog : Program} {w : World} {A : Around} {E : Value → Shared → Prop} {s : Shared}
end
section
variable {X : Cx}
end
end L2
namespace YM
open PySem PySem.W PySem.Calls PyProof.Rows
theorem rV {P : Params} {h : Heap} : ∀ (ns : List Int) (vs : List Value), WellAll P h vs (ns.map WData.int) → IntsAre vs ns := by
 intro ns
 induction ns with
 | nil =>
  intro vs w
  rw [List.map_nil] at w
  cases w
  exact .nil
 | cons n ns ih =>
  intro vs w
  rw [List.map_cons] at w
  cases w with
  | cons a b =>
   cases a
   exact .cons _ _ (ih _ b)
theorem G3 {l : OpenLaw} {n : Nat} (hn : l.most = some n) {P : Params} {h : Heap} {args : List WData} {vals : List Value}
  (Mo : l.row.toRowW.claim.pre args = true) (Qx : WellAll P h vals args) :
  ∃ a vs ns, vals = [Value.ref a] ∧ args = [WData.list (ns.map WData.int)] ∧ h.get? a = some { cls := .type "list", data := .seq vs.toArray } ∧ IntsAre vs ns ∧ ns.length ≤ n := by
 have hsh : WShape.hasAll [] args [.list .int] = true := (pre_splitW Mo).1
 have hc : l.pre.holds [] { args := args } = true := (pre_splitW Mo).2
 obtain ⟨d, r, rfl, h1, h2⟩ := hasAllW_cons hsh
 obtain rfl := hasAllW_nil h2
 obtain ⟨xs, rfl, h3⟩ := hasW_list h1
 obtain ⟨ns, rfl⟩ := items_int h3
 have hlen : ns.length ≤ n := by
  unfold OpenLaw.pre at hc
  have h4 : (WTm.not (.lt (.lit (.int (n : Int))) (.len (.arg 0)))).holds [] { args := [.list (ns.map .int)] } = true := by
   have h4 := (holds_andW hc).1
   rw [hn] at h4
   exact h4
  have h5 := condW_of h4 (w_not (w_lt w_lit (w_len_list (w_arg rfl))))
  rw [Lm9] at h5
  refine Nat.le_of_not_lt fun q => ?_
  have q' : (n : Int) < ((ns.length : Nat) : Int) := by omega
  first
   | (rw [decide_eq_true q'] at h5; exact absurd h5 (by decide))
   | (simp at h5; omega)
 cases Qx with
 | cons w1 w2 =>
  cases w2
  cases w1 with
  | list ho Wq => exact ⟨_, _, ns, rfl, rfl, ho, rV ns _ Wq, hlen⟩
theorem G4 (l : OpenLaw) (args : List WData) : l.row.toRowW.claim.post args (.bool true) args = true :=
 postW_of (r := l.row.toRowW) (X := (true == true))
  (show WShape.has [] (.bool true) .bool = true by first | rfl | decide | simp [WShape.has, WShape.arms, WShape.armsAll])
  (show (WTm.eq .res (.lit (.bool true))).value [] { args := args, res := some (.bool true), after := args } = some (.bool (true == true)) from w_eq_bool (w_res rfl) w_lit) rfl
theorem BS {l : OpenLaw} {n : Nat} {q : Program} {loose : List Str} {XP : (Str → Option Value) → Heap → Prop} {YP : World → Heap → Prop} {d : DefRec}
  (hn : l.most = some n) (RA : d.params.defaults = [])
  (call : ∀ (w : World) (s₀ s₁ : Shared) (mg mb : Str → Option Value) (fa : Addr) (o : Obj) (pm cd doc : Value) (a : Addr) (vs : List Value) (ns : List Int),
   Ground q loose [] XP w s₀ mg mb s₁.heap → YP w s₁.heap →
   s₁.heap.get? fa = some o → o.data = .func (docDef d.name d.params d.body d.scope pm cd doc) → s₁.heap.CodeRec cd d.name → mg d.name = some (.ref fa) →
   s₁.heap.get? a = some { cls := .type "list", data := .seq vs.toArray } → IntsAre vs ns → ns.length ≤ n → s₁.gens = #[] →
   codeAny (model l.prog w) callerA (.call (.ref fa) ⟨[.ref a], []⟩) (fun r s' => r = .ok (.ret (.bool true)) ∧ OldK s₁.heap s'.heap ∧ s'.os = s₁.os ∧ AllBare s'.gens) s₁) :
  WalkO q loose XP YP l.row.toRowW d [] (fun f vs => PySem.call f vs) := by
 intro w s₀ s₁ mg mb G Y fa o pm cd doc dV kV ho hd IL hD RB hg args vals as Mo aaF hrd Qx hlo
 obtain rfl : dV = .none := Dflts.none hD RA
 obtain rfl : kV = .none := Dflts.noKw hD
 obtain ⟨a, vs, ns, rfl, rfl, OZ, hints, hlen⟩ := G3 hn Mo Qx
 refine enter_call (codeAny_mono (call w s₀ s₁ mg mb fa o pm cd doc a vs ns G Y ho (fd_plain hd) IL RB OZ hints hlen hg) fun r s' hq => ?_)
 obtain ⟨rfl, h2, h3, h4⟩ := hq
 exact ⟨.inl ⟨.bool true, .bool true, [], rfl, fun _ => rfl, .bool true, G4 l _, fun _ => ⟨List.Pairwise.nil, fun _ hm => (nomatch hm)⟩⟩, h2, h3, h4⟩
section
variable {prog : Program} {w : World} {A : Around} {E : Value → Shared → Prop} {s : Shared} {K : Frag}
def ledger (h : Heap) (L d : Addr) : List (Addr × Obj) := (List.range h.objs.size).filterMap fun a => if a = L ∨ a = d then none else (h.get? a).map fun o => (a, o)
end
end YM
namespace L2
open PySem PySem.Spec PyProof.Rows
theorem xS : ∀ {vs : List Value} {ns : List Int}, IntsAre vs ns → Vals (ns.map V.int) vs
 | _, _, .nil => .nil
 | _, _, .cons n t h => .cons ⟨t, rfl⟩ (xS h)
def O0 (H : Hp) : Prop := ∀ b, H b = none ∨ ∃ o xs, H b = some (.tp o (.lst xs))
theorem Jj {P : Program} {w : World} {K : PySem.W.Frag} {mg mb : Str → Option Value} {CX : Jb} {k : Nat} {fa a : Addr} {fd : FuncData} {x : Str} {sp : Sp} {s₁ : Shared} {vs : List Value} {ns : List Int}
  (KX : K.In s₁.heap) (U8 : s₁.heap.Ns mainGlobals mg) (hb : s₁.heap.Ns builtinsNs mb) (hbb : ∀ x : Str, x ≠ "__name__" → mb x = bootBuiltins x) (Wr : s₁.heap.NoLimit) (hg : s₁.gens = #[])
  (ha : s₁.heap.get? a = some { cls := .type "list", data := .seq vs.toArray }) (hi : IntsAre vs ns) (hl : ns.length ≤ sizeLine) (hr : de k callerA)
  (F : ∀ base : Heap, K.In base → base.Ns mainGlobals mg → aX P w K mg base CX k fa fd [x] sp) (RC : ∀ (s : Shared) (u : Value), BindsTo s fd ⟨[u], []⟩ [(x, u)])
  (LY : ∀ H : Hp, O0 H → ay K H a (ns.map V.int) → sp [.ref a] H (fun v _ => v = .bl true) fun _ _ _ => False)
  (Ws : ∀ H e s', CX [] H s₁ (fun _ _ _ => False) e s' → False) :
  codeAny (model P w) callerA (.call (.ref fa) ⟨[.ref a], []⟩) (fun r s' => r = .ok (.ret (.bool true)) ∧ OldK s₁.heap s'.heap ∧ s'.os = s₁.os ∧ AllBare s'.gens) s₁ := by
 have rv := xS hi
 have Wt := hi.length
 have core : ∀ H : Hp, O0 H → ay K H a (ns.map V.int) → nh P w H s₁.heap → (∀ b, H b ≠ none → b = a) → (H a ≠ none → K.lookup a = none) →
   codeAny (model P w) callerA (.call (.ref fa) ⟨[.ref a], []⟩) (fun r s' => r = .ok (.ret (.bool true)) ∧ OldK s₁.heap s'.heap ∧ s'.os = s₁.os ∧ AllBare s'.gens) s₁ := by
  intro H hO hS bt hA hK
  have FQ : ∀ {b : Addr} {o : Obj}, s₁.heap.get? b = some o → H b = none → (yF s₁.heap H).get? b = some o := fun e n => IH e n
  have Ro : ∀ {b : Addr} {o : Obj} {es : Array DictEntry} {ep : Nat}, s₁.heap.get? b = some o → o.data = .dict es ep → H b = none := fun {b o es ep} e d => by
   cases q : H b with
   | none => rfl
   | some u =>
    have e' : b = a := hA b (by rw [q]; simp)
    subst e'
    rw [ha] at e; cases e
    have d' : Data.seq vs.toArray _ = Data.dict es ep := d
    cases d'
  have U9 : ∀ {b : Addr} {m : Str → Option Value}, s₁.heap.Ns b m → (yF s₁.heap H).Ns b m := fun {b m} ⟨o, es, ep, e, d, r⟩ => ⟨o, es, ep, FQ e (Ro e d), d, r⟩
  have YN : K.In (yF s₁.heap H) := fun b o e => FQ (KX b o e) (by
   cases q : H b with
   | none => rfl
   | some u =>
    have e' : b = a := hA b (by rw [q]; simp)
    subst e'
    rw [hK (by rw [q]; simp)] at e; cases e)
  have hM : Mod K mg (yF s₁.heap H) := ⟨YN, U9 U8, ⟨mb, U9 hb, hbb⟩, let ⟨mc, h1, h2⟩ := Wr; ⟨mc, U9 h1, h2⟩⟩
  have e0 : DM P w K mg (yF s₁.heap H) callerA [] s₁ H := ⟨rfl, hM, fun b o e => L4 e, Nat.le_of_eq (GO _ _), trivial, fun b hb => absurd (show b ∈ ([] : List Addr) from hb) (by simp), bt, .of_eq hg⟩
  refine codeAny_mono ((F _ YN (U9 U8)).run callerA [] s₁ H ⟨[.ref a], []⟩ [.ref a] [.ref a] _ _ hr e0 (RC s₁ (.ref a)) (.cons rfl .nil) (LY H hO hS)) fun r s' h => ?_
  cases r with
  | error e => exact (Ws H e s' h).elim
  | ok fl =>
   cases fl with
   | next => exact False.elim h
   | brk => exact False.elim h
   | cont => exact False.elim h
   | ret u =>
    obtain ⟨v, H', os, bare, un, Wu, r', q⟩ := h
    have q' : v = .bl true := q
    subst q'
    obtain rfl : u = Value.bool true := r'
    refine ⟨rfl, OldK.of_keep fun b o e => ?_, os, bare⟩
    cases q : H b with
    | none => exact un.keep b o e q (by intro z; exact absurd (show b ∈ ([] : List Addr) from z) (by simp)) (by simp)
    | some u =>
     rcases hO b with z | ⟨ob, xs, z⟩
     ·rw [q] at z; cases z
     ·have z2 := un.rR b ob _ z
      obtain ⟨e1, _⟩ := bt b _ z
      obtain ⟨e2, _⟩ := Wu b _ z2
      rw [e] at e1; cases e1
      exact e2
 cases hk : K.lookup a with
 | some o =>
  have e := KX a o hk
  rw [ha] at e
  cases e
  refine core (fun _ => none) (fun _ => .inl rfl) (.inr ⟨_, vs.toArray, _, hk, rfl, rfl, rfl, by rw [List.size_toArray, Wt]; exact hl, by simpa using rv⟩) (fun b u z => by have z' : (none : Option HO) = some u := z; cases z') (fun b z => absurd rfl z) fun z => absurd rfl z
 | none =>
  refine core (fun b => if b = a then some (.tp { cls := .type "list", data := .seq vs.toArray } (.lst (ns.map V.int))) else none) (fun b => ?_) (.inl (.inr ⟨{ cls := .type "list", data := .seq vs.toArray }, if_pos rfl⟩)) (fun b u z => ?_) (fun b z => ?_) fun _ => hk
  ·by_cases hb : b = a
   ·exact .inr ⟨_, _, if_pos hb⟩
   ·exact .inl (if_neg hb)
  ·by_cases hb : b = a
   ·have z' := (if_pos hb).symm.trans z
    cases z'
    subst hb
    exact ⟨ha, by rw [Lm9]; exact hl, vs, _, rv, ha⟩
   ·have z' := (if_neg hb).symm.trans z
    cases z'
  ·by_cases hb : b = a
   ·exact hb
   ·exact absurd (if_neg hb) z
end L2
namespace L2
open PySem PySem.Spec PyProof.Rows
abbrev KOf {K : PySem.W.Frag} {h : Heap} (_ : K.In h) : PySem.W.Frag := K
theorem Mp {l : PySem.W.OpenLaw} {n k : Nat} {q : Program} {loose : List Str} {XP : (Str → Option Value) → Heap → Prop} {YP : World → Heap → Prop} {d : DefRec} {K : Params → PySem.W.Frag} {CX : World → Jb} {sp : World → Sp} {x : Str}
  (hn : l.most = some n) (U5 : n ≤ sizeLine) (RA : d.params.defaults = []) (hr : de k callerA)
  (hY : ∀ (w : World) (h : Heap), YP w h → (K w.params).In h)
  (F : ∀ (w : World) (mg : Str → Option Value) (fa : Addr) (h : Heap), (K w.params).In h → h.Ns mainGlobals mg → mg d.name = some (.ref fa) →
   ∃ fd : FuncData, (∀ (s : Shared) (u : Value), BindsTo s fd ⟨[u], []⟩ [(x, u)]) ∧
    ∀ base : Heap, (K w.params).In base → base.Ns mainGlobals mg → aX l.prog w (K w.params) mg base (CX w) k fa fd [x] (sp w))
  (LY : ∀ (w : World) (H : Hp) (a : Addr) (ns : List Int), ns.length ≤ n → O0 H → ay (K w.params) H a (ns.map V.int) → sp w [.ref a] H (fun v _ => v = .bl true) fun _ _ _ => False)
  (Ws : ∀ (w : World) (H : Hp) (s : Shared) (e : Value) (s' : Shared), CX w [] H s (fun _ _ _ => False) e s' → False) :
  PySem.W.WalkO q loose XP YP l.row.toRowW d [] (fun f vs => PySem.call f vs) := by
 refine YM.BS hn RA fun w s₀ s₁ mg mb fa o pm cd doc a vs ns G Y ho hd IL RB OZ hints hlen hg => ?_
 have KX := hY w _ Y
 obtain ⟨fd, hb, hF⟩ := F w mg fa _ KX G.T.g RB
 exact Jj KX G.T.g G.T.b G.T.builtins G.T.nolimit hg OZ hints (Nat.le_trans hlen U5) hr hF hb (fun H hO hS => LY w H a ns hlen hO hS) fun H e s' => Ws w H s₁ e s'
end L2
namespace L2
open PySem PySem.Spec PyProof.Rows
def inClass (s : Stmt) (j : Nat) : Stmt := match s with
 | .ClassDef _ _ _ body _ _ _ _ _ _ _ => body.getD j (.Pass ⟨0, 0, 0, 0⟩)
 | _ => .Pass ⟨0, 0, 0, 0⟩
def m4 (s : Stmt) : Arguments := match s with
 | .FunctionDef _ a _ _ _ _ _ _ _ _ => a
 | _ => { posonlyargs := [], args := [], vararg := none, kwonlyargs := [], kw_defaults := [], kwarg := none, defaults := [] }
def jD (s : Stmt) : List Stmt := match s with
 | .FunctionDef _ _ b _ _ _ _ _ _ _ => b
 | _ => []
def ao (s : Stmt) : Scope := match s with
 | .FunctionDef _ _ _ _ _ _ sc _ _ _ => sc
 | _ => { kind := .function, names := [], isGenerator := false, isCoroutine := false }
abbrev cO : Jb := fun _ _ _ _ _ _ => False
abbrev E0 : XK := fun _ _ _ => False
theorem FR {X : Cx} : Passes cO X E0 := fun _ _ _ _ _ _ _ h => h.elim
structure bu (K : PySem.W.Frag) (x qual : Str) (st : Stmt) (f : Addr) (fd : FuncData) : Prop where
 ex : ∃ (oc : Value) (od : Option Addr) (kV doc pm : Value) (an : Option Addr) (cu ct : Value) (NO : Array (Option Value)),
  fd = PySem.W.fnOf x qual (m4 st) (jD st) (ao st) .none kV doc pm an cu ct ∧ K.lookup f = some ⟨oc, od, .func fd, NO⟩ ∧ PySem.W.codeIn K cu qual = true
 kp : PySem.W.keepIn K (.ref f) = true
section
variable {P : Program} {w : World} {K : PySem.W.Frag} {mg : Str → Option Value} {base : Heap}
theorem bu.ok {x qual : Str} {st : Stmt} {f : Addr} {fd : FuncData} {N ps : List Str} {k : Nat} {sp : Sp} (F : bu K x qual st f fd) (S : ar N ps (ao st)) (len : ∀ vs H Q E, sp vs H Q E → vs.length = ps.length)
  (Je : ∀ (cu : Value) (A : Around) (outer : List Env) (s : Shared) (H : Hp) (vs : List V) (Q : VK) (E : XK), de k (A.deeper (envOfC qual (ao st) s.heap.objs.size f cu)) → sp vs H Q E →
   ∃ t, FF (GZ cO P w K mg base N qual (ao st) f cu A outer s H E).U1 (jD st) t ∧ t { nx := fun _ H' => Q .cJ H', rt := Q } (start N vs) H) : aX P w K mg base cO (k + 1) f fd ps sp := by
 obtain ⟨oc, od, kV, doc, pm, an, cu, ct, NO, rfl, lk, IL⟩ := F.ex
 refine Rp lk IL S len fun A outer s H vs Q E hr LY => ?_
 obtain ⟨t, h, q⟩ := Je cu A outer s H vs Q E hr LY
 exact ⟨t, h.U1, q⟩
theorem bu.binds {x qual : Str} {st : Stmt} {f : Addr} {fd : FuncData} {ps : List Str} (F : bu K x qual st f fd)
  (h : ∀ (kV doc pm : Value) (an : Option Addr) (cu ct : Value) (us : List Value), us.length = ps.length → bindArgs (PySem.W.fnOf x qual (m4 st) (jD st) (ao st) .none kV doc pm an cu ct) ⟨us, []⟩ = pure (ps.zip us)) : Binds K fd ps [] := by
 obtain ⟨oc, od, kV, doc, pm, an, cu, ct, NO, rfl, lk, IL⟩ := F.ex
 exact .all (h kV doc pm an cu ct)
theorem aC {x qual : Str} {st : Stmt} {f : Addr} {oc : Value} {od an : Option Addr} {NO : Array (Option Value)} {kV doc pm cu ct : Value} (l : K.lookup f = some ⟨oc, od, .func (PySem.W.fnOf x qual (m4 st) (jD st) (ao st) .none kV doc pm an cu ct), NO⟩)
  (c : PySem.W.codeIn K cu qual = true) (k : PySem.W.keepIn K (.ref f) = true) : bu K x qual st f (PySem.W.fnOf x qual (m4 st) (jD st) (ao st) .none kV doc pm an cu ct) := ⟨⟨oc, od, kV, doc, pm, an, cu, ct, NO, rfl, l, c⟩, k⟩
end
theorem FT {A : Around} {k : Nat} (hr : de k A) : A.units + 1 < cLine := Nat.lt_of_le_of_lt (Nat.add_le_add_left (by decide : 1 ≤ 64) _) hr.units
section
variable {X : Cx}
theorem pv (i : Nat) {x : Str} {pos : Pos} (hN : X.N[i]? = some x := by rfl) (hv : UW X.env.scope x := by first | exact Or.inl rfl | exact Or.inr (Or.inl rfl) | exact Or.inr (Or.inr rfl)) (hd : (x == ("__debug__" : Str)) = false := by decide)
  (IL : (x == ("__classdict__" : Str)) = false := by decide) : PE X (.Name x pos) (QZ i) := Oy hN hv hd IL
end
theorem bw {A B : Prop} (h : B) : if false = true then A else B := by
 rw [if_neg Bool.false_ne_true]
 exact h
theorem nT {A B : Prop} (h : A) : if true = true then A else B := by
 rw [if_pos rfl]
 exact h
theorem cK {c A B : Prop} [Decidable c] (h1 : c → A) (h2 : ¬ c → B) : if c then A else B := by
 by_cases h : c
 ·rw [if_pos h]
  exact h1 h
 ·rw [if_neg h]
  exact h2 h
def ah (H H' : Hp) : Prop := ∀ b o, H b = some o → H' b = some o
theorem ah.refl (H : Hp) : ah H H := fun _ _ h => h
theorem ah.trans {H H1 H2 : Hp} (a : ah H H1) (b : ah H1 H2) : ah H H2 := fun c o h => b c o (a c o h)
theorem ah.free {H H' : Hp} (e : ah H H') {l : Addr} (h : H' l = Option.none) : H l = Option.none := by
 cases q : H l with
 | none => rfl
 | some o =>
  rw [e l o q] at h
  cases h
theorem ah.seq {K : PySem.W.Frag} {H H' : Hp} {a : Addr} {xs : List V} (e : ah H H') (h : ay K H a xs) : ay K H' a xs := by
 rcases h with (h | ⟨o, h⟩) | h
 ·exact .inl (.inl (e _ _ h))
 ·exact .inl (.inr ⟨o, e _ _ h⟩)
 ·exact .inr h
end L2
namespace L2
open PySem PySem.Spec PyProof.Rows
def aM (env : Env) : List (Str × NameKind) → List (Str × Addr) → List (Str × Addr)
 | [], cs => cs
 | (n, k) :: r, cs => if (k == NameKind.free) = true then aM env r ((n, (env.cells.lookup n).getD 0) :: cs) else aM env r cs
theorem iu {env : Env} : ∀ (names : List (Str × NameKind)) (cs : List (Str × Addr)), (∀ y ∈ names, y.2 = .free → (env.cells.lookup y.1).isSome = true) →
  (forIn names cs (fun x (cs : List (Str × Addr)) => (match x with | (name, kind) => if (kind == NameKind.free) = true then (do let a ← cellOf env name; pure (ForInStep.yield ((name, a) :: cs))) else pure (ForInStep.yield cs) : Sem (ForInStep (List (Str × Addr))))) : Sem (List (Str × Addr))) = pure (aM env names cs)
 | [], cs, _ => rfl
 | (n, k) :: r, cs, h => by
  have hr : ∀ y ∈ r, y.2 = .free → (env.cells.lookup y.1).isSome = true := fun y hy => h y (List.mem_cons_of_mem _ hy)
  rw [List.forIn_cons]
  by_cases hk : (k == NameKind.free) = true
  ·have e : k = .free := by simpa using hk
   have hs := h (n, k) List.mem_cons_self e
   obtain ⟨a, ha⟩ := Option.isSome_iff_exists.mp hs
   simp only [hk, if_true, aM, cellOf, ha, Option.getD_some, pure_bind]
   exact iu r _ hr
  ·simp only [hk, aM, pure_bind, Bool.false_eq_true, if_false]
   exact iu r _ hr
theorem nU {env : Env} {scope : Scope} (h : ∀ y ∈ scope.names, y.2 = .free → (env.cells.lookup y.1).isSome = true) : closureFor scope env = pure (aM env scope.names []) := by
 have e := iu (env := env) scope.names [] h
 unfold closureFor
 simp only [bind_pure_comp, map_pure] at e ⊢
 rw [← e]
 simp
theorem fz {env : Env} : ∀ {names : List (Str × NameKind)} {cs : List (Str × Addr)} {y : Str} {c : Addr}, (∀ z ∈ names, z.2 = .free → (env.cells.lookup z.1).isSome = true) → (∀ y c, cs.lookup y = some c → env.cells.lookup y = some c) →
  (aM env names cs).lookup y = some c → env.cells.lookup y = some c
 | [], _, _, _, _, hc, h => hc _ _ h
 | (n, k) :: r, cs, y, c, hn, hc, h => by
  have hr : ∀ z ∈ r, z.2 = .free → (env.cells.lookup z.1).isSome = true := fun z hz => hn z (List.mem_cons_of_mem _ hz)
  unfold aM at h
  by_cases hk : (k == NameKind.free) = true
  ·rw [if_pos hk] at h
   have e : k = .free := by simpa using hk
   obtain ⟨a, ha⟩ := Option.isSome_iff_exists.mp (hn (n, k) List.mem_cons_self e)
   refine fz hr (fun z d q => ?_) h
   rw [List.lookup_cons] at q
   cases hz : z == n with
   | true =>
    have ez : z = n := by simpa using hz
    rw [hz] at q
    simp only [ha, Option.getD_some] at q
    have Wv : env.cells.lookup n = some a := ha
    rw [ez, Wv]
    exact q
   | false =>
    rw [hz] at q
    exact hc z d q
  ·rw [if_neg hk] at h
   exact fz hr hc h
theorem fA {env : Env} : ∀ {names : List (Str × NameKind)} {cs : List (Str × Addr)} {y : Str}, ((y, NameKind.free) ∈ names ∨ (cs.lookup y).isSome = true) → ((aM env names cs).lookup y).isSome = true
 | [], _, _, h => by
  rcases h with h | h
  ·cases h
  ·exact h
 | (n, k) :: r, cs, y, h => by
  unfold aM
  have key : ∀ a : Addr, (cs.lookup y).isSome = true → (List.lookup y ((n, a) :: cs)).isSome = true := fun a q => by
   rw [List.lookup_cons]
   cases y == n with
   | true => rfl
   | false => exact q
  by_cases hk : (k == NameKind.free) = true
  ·rw [if_pos hk]
   refine fA ?_
   rcases h with h | h
   ·rcases List.mem_cons.mp h with e | h
    ·cases e
     refine .inr ?_
     rw [List.lookup_cons]
     simp
    ·exact .inl h
   ·exact .inr (key _ h)
  ·rw [if_neg hk]
   refine fA ?_
   rcases h with h | h
   ·rcases List.mem_cons.mp h with e | h
    ·cases e
     exact absurd (by simp) hk
    ·exact .inl h
   ·exact .inr h
def cL (X : Cx) (scope : Scope) (cl : List (Str × Addr)) (N : List Str) (C : Addr) (s₀ : Shared) (H₀ : Hp) (ex : List Addr) : Cx where
 prog := X.prog
 w := X.w
 K := X.K
 mg := X.mg
 base := X.base
 A := X.A
 N := N
 s₀ := s₀
 H₀ := H₀
 env := compEnvC scope cl C X.env
 outer := X.stack
 stack := X.stack
 ex := ex
 fn := fun _ => false
 calm := X.calm
 pn := []
 xe := fun _ _ => False
def b8 (X : Cx) (x : Str) (aG : List Nat) : List Str := x :: aG.map fun i => X.N.getD i (Str.ofString "")
def bV (σ : St) (o : Option V) (aG : List Nat) : St := o :: aG.map fun i => (σ[i]?).join
def tO (outer scope : Scope) (x : Str) (N : List Str) : Bool :=
 decide (scope.kind = .function) && scope.names.all (fun y => decide (y.2 ≠ .cell)) && scope.names.all (fun y => decide (y.2 = .local → scope.names.lookup y.1 = some .local)) && decide (scope.names.lookup x = some .local) &&
  scope.names.all (fun y => decide (y.2 = .free → (outer.names.lookup y.1 = some .cell ∨ outer.names.lookup y.1 = some .free))) && N.tail.all (fun y => decide (scope.names.lookup y = some .free)) && decide N.Nodup
structure Jk (outer scope : Scope) (x : Str) (N : List Str) : Prop where
 kind : scope.kind = .function
 tP : ∀ y ∈ scope.names, y.2 ≠ .cell
 locs : ∀ y ∈ scope.names, y.2 = .local → scope.names.lookup y.1 = some .local
 RD : scope.names.lookup x = some .local
 frees : ∀ y ∈ scope.names, y.2 = .free → (outer.names.lookup y.1 = some .cell ∨ outer.names.lookup y.1 = some .free)
 aG : ∀ y ∈ N.tail, scope.names.lookup y = some .free
 nd : N.Nodup
theorem G5 {outer scope : Scope} {x : Str} {N : List Str} (h : tO outer scope x N = true) : Jk outer scope x N := by
 unfold tO at h
 simp only [Bool.and_eq_true, List.all_eq_true, decide_eq_true_eq] at h
 obtain ⟨⟨⟨⟨⟨⟨h1, h2⟩, h3⟩, h4⟩, h5⟩, h6⟩, h7⟩ := h
 exact ⟨h1, h2, h3, h4, h5, h6, h7⟩
theorem c8 {scope : Scope} {env : Env} {y : Str} {k' : NameKind} (h : (relabel scope env).names.lookup y = some k') : ∃ k, scope.names.lookup y = some k ∧ (k' = k ∨ (k = .free ∧ k' = .cell)) := by
 have go : ∀ (names : List (Str × NameKind)), (names.map fun (n, k) => if (k == NameKind.free && env.scope.kind == .function && env.kindOf n == some .cell) then (n, NameKind.cell) else (n, k)).lookup y = some k' →
   ∃ k, names.lookup y = some k ∧ (k' = k ∨ (k = .free ∧ k' = .cell)) := by
  intro names
  induction names with
  | nil => intro h; simp at h
  | cons a r ih =>
   obtain ⟨n, k⟩ := a
   intro h
   rw [List.map_cons] at h
   by_cases hc : (k == NameKind.free && env.scope.kind == .function && env.kindOf n == some .cell) = true
   ·simp only [hc, if_true, List.lookup_cons] at h
    rw [List.lookup_cons]
    cases hy : y == n with
    | true =>
     rw [hy] at h
     have hk : k = .free := by
      simp only [Bool.and_eq_true, beq_iff_eq] at hc
      exact hc.1.1
     exact ⟨k, rfl, .inr ⟨hk, (Option.some.inj h).symm⟩⟩
    | false =>
     rw [hy] at h
     exact ih h
   ·simp only [hc, Bool.false_eq_true, if_false, List.lookup_cons] at h
    rw [List.lookup_cons]
    cases hy : y == n with
    | true =>
     rw [hy] at h
     exact ⟨k, rfl, .inl (Option.some.inj h).symm⟩
    | false =>
     rw [hy] at h
     exact ih h
 exact go scope.names h
theorem jE {scope : Scope} {env : Env} {y : Str} (h : scope.names.lookup y = some .free) : (relabel scope env).names.lookup y = some .cell ∨ (relabel scope env).names.lookup y = some .free := by
 have go : ∀ (names : List (Str × NameKind)), names.lookup y = some .free → (names.map fun (n, k) => if (k == NameKind.free && env.scope.kind == .function && env.kindOf n == some .cell) then (n, NameKind.cell) else (n, k)).lookup y = some .cell ∨
   (names.map fun (n, k) => if (k == NameKind.free && env.scope.kind == .function && env.kindOf n == some .cell) then (n, NameKind.cell) else (n, k)).lookup y = some .free := by
  intro names
  induction names with
  | nil => intro h; simp at h
  | cons a r ih =>
   obtain ⟨n, k⟩ := a
   intro h
   rw [List.map_cons]
   rw [List.lookup_cons] at h
   by_cases hc : (k == NameKind.free && env.scope.kind == .function && env.kindOf n == some .cell) = true
   ·simp only [hc, if_true, List.lookup_cons]
    cases hy : y == n with
    | true => exact .inl rfl
    | false =>
     rw [hy] at h
     exact ih h
   ·simp only [hc, Bool.false_eq_true, if_false, List.lookup_cons]
    cases hy : y == n with
    | true =>
     rw [hy] at h
     have h' : k = .free := Option.some.inj h
     exact .inr (by rw [h'])
    | false =>
     rw [hy] at h
     exact ih h
 exact go scope.names h
def IB (X : Cx) (ifs : List Expr) (t : TT) : Prop :=
 ∀ (pins : List (Addr × Obj)) (s : Shared) (σ : St) (H : Hp) (Q : Bool → Hp → Prop), Inv X pins σ H s → t σ H Q →
  wpAny (model X.prog X.w) X.A (forIn ifs true fun c r => if r = true then do let ok ← isTrue c X.env (eval c X.env); pure (ForInStep.yield ok) else pure (ForInStep.yield r)) (TP X pins σ Q) X.xe s
def RE : TT := fun _ H Q => Q true H
theorem bH {X : Cx} : IB X [] RE := fun _ _ _ H _ I h => wpAny_tests_nil ⟨H, I, h⟩
theorem jF {X : Cx} {c : Expr} {t : TT} (h : PT X c t) : IB X [c] t := fun pins s σ H Q I hq => wpAny_tests_one (h pins s σ H Q I hq)
theorem jG {prog : Program} {w : World} {A : Around} {R : Result → Shared → Prop} {s : Shared} {elt target iter : Expr} {ifs : List Expr} {scope : Scope} {pos : Pos} {it acc : Value} {env : Env} (I : Nat → Shared → Prop)
  (turn : ∀ n s, I n s → wpAny (model prog w) A (pyNext it) (fun r s₁ => match r with
   | none => R (.ok .next) s₁
   | some v => wpAny (model prog w) A (letOwnedTupleGo target it v) (fun _ YO => wpAny (model prog w) A (assign target env v) (fun _ s₂ =>
     wpAny (model prog w) A (forIn ifs true fun c r => if r = true then do let ok ← isTrue c env (eval c env); pure (ForInStep.yield ok) else pure (ForInStep.yield r)) (fun ok s₃ =>
      if ok = true then wpAny (model prog w) A (eval elt env) (fun x s₄ =>
       wpAny (model prog w) A (call (.builtin "list.append") [acc, x]) (fun _ s₅ => ∃ m, m < n ∧ I m s₅) (fun _ _ => False) s₄) (fun _ _ => False) s₃
      else ∃ m, m < n ∧ I m s₃) (fun _ _ => False) s₂) (fun _ _ => False) YO) (fun _ _ => False) s₁) (fun _ _ => False) s)
  (n : Nat) (h : I n s) : codeAny (model prog w) A (.compLoop (.ListComp elt [⟨target, iter, ifs, 0⟩] scope pos) 0 it acc env) R s := by
 refine codeAny_loop rfl I (fun n s hI => ?_) n h
 show wpAny _ A ((compTurn (.ListComp elt [⟨target, iter, ifs, 0⟩] scope pos) 0 it acc env).onRaise (fun x => do noteFrame x env; theTreesLotGoes x)) _ _ s
 refine wpAny_noted ?_
 rw [compTurn_list]
 refine wpAny_bind (wpAny_standAt (wpAny_bind (wpAny_mono (turn n s hI) (fun r s₁ h₁ => ?_) fun _ _ h' => h'.elim)))
 cases r with
 | none => exact wpAny_pure h₁
 | some v =>
  refine wpAny_bind (wpAny_mono h₁ (fun _ YO h₁' => ?_) fun _ _ h' => h'.elim)
  refine wpAny_bind (wpAny_mono h₁' (fun _ s₂ h₂ => wpAny_bind (wpAny_mono h₂ (fun ok s₃ h₃ => ?_) fun _ _ h' => h'.elim)) fun _ _ h' => h'.elim)
  cases ok with
  | false => exact wpAny_pure ⟨rfl, h₃⟩
  | true =>
   exact wpAny_bind (wpAny_bind (wpAny_mono h₃ (fun x s₄ h₄ => wpAny_bind (wpAny_mono h₄ (fun _ s₅ h₅ => wpAny_pure (wpAny_pure ⟨rfl, h₅⟩)) fun _ _ h' => h'.elim)) fun _ _ h' => h'.elim))
def rB (tt : TT) (te : TE) (aG : List Nat) (σ : St) (Q : VK) (J : It) (H1 : Hp) (D : Addr) : Prop :=
 ∃ W : Nat → Nat → List V → Hp → Prop, (∃ m, W 0 m [] (upd H1 D (.lst []))) ∧ ∀ i m ys H, W i m ys H →
  H D = some (.lst ys) ∧ ys.length < sizeLine ∧
  ((J.stop i H ∧ Q (.ref D) H) ∨ (J.go i H ∧ ∃ N : List V → Hp → Prop, (∀ zs H', N zs H' → ∃ m', m' < m ∧ W (i + 1) m' zs H') ∧ ∀ x H', J.Ma i H x H' → tt (bV σ (some x) aG) H' fun b H2 =>
   if b = true then te (bV σ (some x) aG) H2 fun y H3 => H3 D = some (.lst ys) ∧ N (ys ++ [y]) (upd H3 D (.lst (ys ++ [y])))
   else N ys H2))
def BU (wi : TI) (tt : TT) (te : TE) (aG : List Nat) : TE := fun σ H Q => wi σ H fun J H1 => ∀ D, H1 D = none → rB tt te aG σ Q J H1 D
section
variable {X : Cx}
theorem DU {scope : Scope} {x : Str} {aG : List Nat} {pins : List (Addr × Obj)} {σ : St} {H : Hp} {s3 : Shared} {h1 : Heap} {fp : List Addr} {m : Str → Option Value} {tk : Nat} (ok : Jk X.env.scope scope x (b8 X x aG)) (I : Inv X pins σ H s3)
  (hf : ∀ b ∈ fp, dM X pins H b) (eO : ∀ b ∈ fp, b < s3.heap.objs.size) (hn : h1.Ns s3.heap.objs.size m) (keep : ∀ b o, s3.heap.get? b = some o → h1.get? b = some o) :
  Inv (cL X scope (aM X.env scope.names []) (b8 X x aG) s3.heap.objs.size s3 H fp) [] (bV σ none aG) H { s3 with heap := h1, toks := tk } := by
 have ie : ∀ z ∈ scope.names, z.2 = .free → (X.env.cells.lookup z.1).isSome = true := fun z hz rW => by
  obtain ⟨c, e⟩ := I.ok.has z.1 (by
   rcases ok.frees z hz rW with q | q
   ·exact .inl q
   ·exact .inr q)
  rw [e]; rfl
 have sub : ∀ y c, (aM X.env scope.names []).lookup y = some c → X.env.cells.lookup y = some c := fun y c h => fz ie (fun _ _ q => by simp at q) h
 have hC : H s3.heap.objs.size = none := I.bt.fresh (Nat.le_refl _)
 have II : ∀ y c, X.env.cells.lookup y = some c → c < s3.heap.objs.size := fun y c e => by
  obtain ⟨v, z⟩ := I.cell y c e
  exact z.lt
 refine ⟨⟨I.ok.mod, ?_, I.ok.glob, I.ok.blt, Nat.le_refl _, fun y z c e1 e2 => I.ok.inj y z c (sub _ _ e1) (sub _ _ e2), fun y hy => ?_, fun y c L8 _ => ?_, I.ok.hd, I.ok.frames, .inl rfl, fun b hb => ⟨Nat.ne_of_lt (eO b hb), fun y c e => (hf b hb).2.2.2.2.1 y c (sub _ _ e)⟩,
   I.bs, Nat.le_trans I.ok.FD I.sz, fun b o e hb => ?_, fun b hb Jl => ?_, I.stack, I.sy⟩,
  rfl, I.bare, Un.kept keep, ⟨m, hn, fun i y v e1 e2 e3 => ?_⟩, fun y c e => ?_, hC, fun y c e => I.kR y c (sub _ _ e), fun p hp => absurd (show p ∈ ([] : List (Addr × Obj)) from hp) (by simp), I.bt.kept keep, by simp [cL, b8, bV]⟩
 ·show (relabel scope X.env).kind = .function
  exact ok.kind
 ·have RG : (relabel scope X.env).names.lookup y = some .cell ∨ (relabel scope X.env).names.lookup y = some .free := hy
  have fr : scope.names.lookup y = some .free := by
   rcases RG with q | q
   ·obtain ⟨k, e, z⟩ := c8 q
    rcases z with z | ⟨z, _⟩
    ·exact absurd z.symm (ok.tP _ (PySem.mem_of_lookup e))
    ·rw [e, z]
   ·obtain ⟨k, e, z⟩ := c8 q
    rcases z with z | ⟨_, z⟩
    ·rw [e, z]
    ·cases z
  exact Option.isSome_iff_exists.mp (fA (.inl (PySem.mem_of_lookup fr)))
 ·exact absurd (show (fun _ => false) y = true from L8) (by simp)
 ·rcases (hf b hb).2.2.2.1 with z | z
  ·exact I.ok.DC b o e z
  ·exact absurd (Nat.lt_of_lt_of_le (Heap.lt_size e) (Nat.le_trans I.ok.FD z)) (Nat.lt_irrefl _)
 ·rcases List.mem_cons.mp (I.k0 b Jl) with z | z
  ·exact (hf b hb).2.1 z
  ·exact (hf b hb).2.2.1 z
 ·have wg : (b8 X x aG)[i]? = some y := e1
  cases i with
  | zero => simp [bV] at e2
  | succ i =>
   simp only [b8, List.getElem?_cons_succ, List.getElem?_map] at wg
   simp only [bV, List.getElem?_cons_succ, List.getElem?_map] at e2
   cases hj : aG[i]? with
   | none => rw [hj] at e2; cases e2
   | some j =>
    rw [hj] at wg e2
    simp only [Option.map_some, Option.some.injEq] at wg e2
    cases hσ : σ[j]? with
    | none => rw [hσ] at e2; cases e2
    | some o =>
     rw [hσ] at e2
     have O1 : o = some v := e2
     subst O1
     have Mq : j < X.N.length := by rw [← I.len]; exact (List.getElem?_eq_some_iff.mp hσ).1
     have eN : X.N[j]? = some y := by
      rw [Ge9 Mq]
      rw [Gd9, Ge9 Mq] at wg
      exact congrArg some wg
     have hy : scope.names.lookup y = some .free := ok.aG y (by
      show y ∈ aG.map fun i => X.N.getD i (Str.ofString "")
      exact List.mem_map.mpr ⟨j, List.mem_of_getElem? hj, wg⟩)
     have hk := ok.frees (y, .free) (PySem.mem_of_lookup hy) rfl
     obtain ⟨m', _, hl⟩ := I.loc
     obtain ⟨u, r, q⟩ := hl j y v eN hσ (.inr hk)
     refine ⟨u, r, .inr ⟨jE hy, ?_⟩⟩
     rcases q with ⟨k, _⟩ | ⟨_, c, e, z⟩
     ·have k' : X.env.scope.names.lookup y = some .local := k
      rw [k'] at hk
      rcases hk with hk | hk <;> cases hk
     ·obtain ⟨c', e'⟩ := Option.isSome_iff_exists.mp (fA (env := X.env) (cs := []) (.inl (PySem.mem_of_lookup hy)))
      have ec := sub _ _ e'
      rw [e] at ec
      cases ec
      obtain ⟨o, ho, hd⟩ := z
      exact ⟨c, e', o, keep c o ho, hd⟩
 ·obtain ⟨v, o, ho, hd⟩ := I.cell y c (sub _ _ e)
  exact ⟨v, o, keep c o ho, hd⟩
theorem xT {x : Str} {px pos p : Pos} {iter elt : Expr} {ifs : List Expr} {scope : Scope} {wi : TI} {tt : TT} {te : TE} {aG : List Nat} {use : Option (Value → Sem Unit)} {QQ : Value → Shared → Prop}
  (hc : X.calm = true) (ho : tO X.env.scope scope x (b8 X x aG) = true) (hi : PI X (.Name x px) iter wi)
  (ht : ∀ cl C s₀ H₀ ex, IB (cL X scope cl (b8 X x aG) C s₀ H₀ ex) ifs tt) (he : ∀ cl C s₀ H₀ ex, PE (cL X scope cl (b8 X x aG) C s₀ H₀ ex) elt te)
  (hs : ∀ x, foldedSetIterable iter X.env x = pure x) {pins : List (Addr × Obj)} {s : Shared} {σ : St} {H : Hp} {Q : VK} (I : Inv X pins σ H s) (h : BU wi tt te aG σ H Q)
  (fin : ∀ (D C : Addr) (H' : Hp) (s' : Shared) (m : Str → Option Value), Inv X pins σ H' s' → Q (.ref D) H' → s'.heap.Ns C m → dM X pins H' C → compPost (model X.prog X.w) X.A X.xe use QQ (.ref D) C (.ok .next) s') :
  wpAny (model X.prog X.w) X.A (comprehension (.ListComp elt [⟨.Name x px, iter, ifs, 0⟩] scope pos) scope X.env p (newList []) false (eval iter X.env) use) QQ X.xe s := by
 have ok := G5 ho
 have ie : ∀ z ∈ scope.names, z.2 = .free → (X.env.cells.lookup z.1).isSome = true := fun z hz rW => by
  obtain ⟨c, e⟩ := I.ok.has z.1 (by
   rcases ok.frees z hz rW with q | q
   ·exact .inl q
   ·exact .inr q)
  rw [e]; rfl
 refine wpAny_comprehension_free (cl := aM X.env scope.names []) (use := use) rfl hs (nU ie) ok.kind ok.locs (thn (hi pins s σ H _ I h) fun v s1 h1 => thn h1 fun Ra s2 h2 => ?_)
 obtain ⟨it, fp, tn, J, H2, e, I2, T, oN, f2, rd⟩ := h2
 subst e
 refine wpAny_newObj_type (wpAny_newFunctionEnv ok.tP (by intro y hy; simp at hy) (fun h₁ tQ DV => ?_) ok.kind)
 dsimp only at tQ DV ⊢
 have xU : H2 s2.heap.objs.size = none := I2.bt.fresh (Nat.le_refl _)
 obtain ⟨W, ⟨m0, w0⟩, turn⟩ := rd s2.heap.objs.size xU
 have BV : ∀ b ∈ fp, b < s2.heap.objs.size := fun b hb => by
  obtain ⟨o, e, _⟩ := T.obj 0 _ oN b hb
  exact Heap.lt_size e
 have hsz : (s2.heap.push { cls := .type "list", dict := none, data := .seq ([] : List Value).toArray }).objs.size = s2.heap.objs.size + 1 := Heap.size_push ..
 have I3 : Inv X pins σ (upd H2 s2.heap.objs.size (.lst [])) { s2 with heap := s2.heap.push { cls := .type "list", dict := none, data := .seq ([] : List Value).toArray } } :=
  I2.laid (t' := s2.toks) (fun b u e => Heap.get?_push_of_some _ e) (Nat.le_refl _) ⟨by simp, [], 0, .nil, Heap.get?_push_size _ rfl⟩
 have xM : tn 0 (s2.heap.push { cls := .type "list", dict := none, data := .seq ([] : List Value).toArray }) := T.keep _ _ _ oN fun b _ o e => Heap.get?_push_of_some _ e
 generalize Ww : s2.heap.push { cls := .type "list", dict := none, data := .seq ([] : List Value).toArray } = h3 at tQ DV hsz I3 xM ⊢
 generalize RH : upd H2 s2.heap.objs.size (.lst []) = H3 at I3 w0
 have yP : ∀ b ∈ fp, b < h3.objs.size := fun b hb => by rw [hsz]; exact Nat.lt_succ_of_lt (BV b hb)
 have f3 : ∀ b ∈ fp, dM X pins H3 b := fun b hb => ⟨by rw [← RH, aq (Nat.ne_of_lt (BV b hb))]; exact (f2 b hb).1, (f2 b hb).2⟩
 have keep : ∀ b o, h3.get? b = some o → h₁.get? b = some o := fun b o e => DV.extBut b o (Nat.ne_of_lt (Heap.lt_size e)) (Heap.get?_push_of_some _ e)
 have I4 := DU (s3 := { s2 with heap := h3 }) (tk := s2.toks + ([] : List (Str × Value)).length) ok I3 f3 yP tQ keep
 have BW : tn 0 h₁ := T.keep _ _ _ xM fun b _ o e => keep b o e
 generalize gn : cL X scope (aM X.env scope.names []) (b8 X x aG) ({ s2 with heap := h3 } : Shared).heap.objs.size { s2 with heap := h3 } H3 fp = X' at I4
 have eA : X'.A = X.A := by rw [← gn] <;> rfl
 have eP : X'.prog = X.prog := by rw [← gn] <;> rfl
 have ew : X'.w = X.w := by rw [← gn] <;> rfl
 have eK : X'.K = X.K := by rw [← gn] <;> rfl
 have ee : X'.env = compEnvC scope (aM X.env scope.names []) h3.objs.size X.env := by rw [← gn] <;> rfl
 have ex : X'.xe = fun _ _ => False := by rw [← gn] <;> rfl
 have eN : X'.N = b8 X x aG := by rw [← gn] <;> rfl
 have ec : X'.calm = true := by rw [← gn]; exact hc
 have RJ : X'.fs = BM X.stack := by rw [← gn] <;> rfl
 have RK : IB X' ifs tt := by rw [← gn]; exact ht _ _ _ _ _
 have RL : PE X' elt te := by rw [← gn]; exact he _ _ _ _ _
 have leave : ∀ {σ' : St} {H' : Hp} {s' : Shared}, Inv X' [] σ' H' s' → Q (.ref s2.heap.objs.size) H' → compPost (model X.prog X.w) X.A X.xe use QQ (.ref s2.heap.objs.size) h3.objs.size (.ok .next) s' := fun {σ' H' s'} J q => by
  have un : Un (BM X.stack) fp H3 H' h3 s'.heap := by have z := J.base; rw [← gn] at z; exact z
  have G1 : s'.os = s2.os := by have z := J.os; rw [← gn] at z; exact z
  have hk : nh X.prog X.w H' s'.heap := by have z := J.bt; rw [eP, ew] at z; exact z
  have Jx := I3.IK (s' := s') (ch := fp) G1 un hk J.bare fun b hb => ⟨(f3 b hb).2.2.2.1, (f3 b hb).2.1, (f3 b hb).2.2.2.2.1, (f3 b hb).2.2.2.2.2⟩
  obtain ⟨m, hn, _⟩ := J.loc
  have IJ : s'.heap.Ns h3.objs.size m := by rw [ee] at hn; exact hn
  have rW : H' h3.objs.size = none := by have z := J.free; rw [ee] at z; exact z
  exact fin _ _ H' s' m Jx q IJ (I3.tG (Nat.le_refl _) rW)
 have nN : ∀ {H' : Hp}, (∀ b ∈ fp, H' b = none) → ∀ b ∈ fp, dM X' [] H' b := fun {H'} hn b hb => by
  refine ⟨hn b hb, ?_, ?_, .inl ?_, fun y c e => ?_, fun p hp => ?_⟩
  ·rw [ee]; exact Nat.ne_of_lt (yP b hb)
  ·rw [RJ]
   intro z
   rcases List.mem_cons.mp (I3.k0 b z) with z | z
   ·exact (f3 b hb).2.1 z
   ·exact (f3 b hb).2.2.1 z
  ·rw [← gn]; exact hb
  ·have e' : (aM X.env scope.names []).lookup y = some c := by rw [ee] at e; exact e
   exact (f3 b hb).2.2.2.2.1 y c (fz ie (fun _ _ q => by simp at q) e')
  ·rw [← gn] at hp
   exact absurd (show p ∈ ([] : List (Addr × Obj)) from hp) (by simp)
 have loop : ∀ s₃ : Shared, s₃ = { s2 with heap := h₁, toks := s2.toks + ([] : List (Str × Value)).length } →
   codeAny (model X.prog X.w) X.A (.compLoop (.ListComp elt [⟨.Name x px, iter, ifs, 0⟩] scope pos) 0 (.ref it) (.ref s2.heap.objs.size) (compEnvC scope (aM X.env scope.names []) h3.objs.size X.env))
    (compPost (model X.prog X.w) X.A X.xe use QQ (.ref s2.heap.objs.size) h3.objs.size) s₃ := by
  rintro s₃ rfl
  refine jG (fun n s' => ∃ i o H' ys, Inv X' [] (bV σ o aG) H' s' ∧ tn i s'.heap ∧ (∀ b ∈ fp, H' b = none) ∧ W i n ys H') ?_ m0 ⟨0, none, H3, [], I4, BW, fun b hb => (f3 b hb).1, w0⟩
  rintro n s' ⟨i, o, H', ys, J, xK, NQ, w'⟩
  obtain ⟨YQ, hlen, alt⟩ := turn i n ys H' w'
  rcases alt with ⟨stop, q⟩ | ⟨go, N, hN, step⟩
  ·have z := T.done X' eP ew eK ec i [] s' _ H' (fun _ _ => False) J (nN NQ) xK stop
   rw [eA] at z
   refine thn z fun r s4 ⟨hr, J4⟩ => ?_
   subst hr
   exact leave J4 q
  ·have z := T.item X' eP ew eK ec i [] s' _ H' (fun _ _ => False) J (nN NQ) xK go
   rw [eA] at z
   refine thn z fun r s4 ⟨u, hr, h4⟩ => ?_
   subst hr
   refine thn h4 fun _ s5 ⟨xv, H5, J5, r5, y5, sJ, OE⟩ => ?_
   have RM := J5.pinned (nN OE) (T.obj _ _ sJ)
   have lx : (relabel scope X.env).names.lookup x = some .local := lookup_relabel_local ok.RD
   have hg : PG X' (.Name x px) (tE 0) := aK (by rw [eN]; exact ok.nd) (by rw [eN] <;> rfl) (by rw [ee]; exact .inl lx) (by rw [ee]; exact .inr lx)
   have zg := hg _ s5 _ H5 xv u (fun σ6 H6 => σ6 = bV σ (some xv) aG ∧ H6 = H5) RM r5 ⟨rfl, rfl⟩
   rw [eP, ew, eA, ee, ex] at zg
   refine thn zg fun _ s6 ⟨σ6, H6, J6, q6⟩ => ?_
   obtain ⟨e6, Wx⟩ := q6
   subst e6 Wx
   have zt := RK _ s6 _ _ _ J6 (step xv _ y5)
   rw [eP, ew, eA, ee, ex] at zt
   refine thn zt fun b s7 ⟨H7, J7, q7⟩ => ?_
   have again : ∀ {H8 : Hp} {s8 : Shared} {FU : List V}, Inv X' ([] ++ nM fp s5.heap) (bV σ (some xv) aG) H8 s8 → N FU H8 → ∃ m, m < n ∧ ∃ i o H' ys, Inv X' [] (bV σ o aG) H' s8 ∧ tn i s8.heap ∧ (∀ b ∈ fp, H' b = none) ∧ W i m ys H' := fun {H8 s8 FU} J8 n8 => by
    obtain ⟨m', hm, w8⟩ := hN FU H8 n8
    refine ⟨m', hm, i + 1, some xv, H8, FU, J8.fu, T.keep _ _ _ sJ fun b hb o e => (J8.pin (b, o) (List.mem_append_right _ (List.mem_append_right _ (bK hb e)))).1, fun b hb => ?_, w8⟩
    obtain ⟨o, e, d⟩ := T.obj _ _ sJ b hb
    exact (J8.pin (b, o) (List.mem_append_right _ (List.mem_append_right _ (bK hb e)))).2.1
   cases b with
   | false => exact again J7 q7
   | true =>
    have ze := RL _ s7 _ H7 _ J7 q7
    rw [eP, ew, eA, ee, ex] at ze
    refine thn ze fun yv s8 ⟨y, H8, J8, r8, RN, q8⟩ => ?_
    have za := aZ (X := X') _ s8 _ H8 (.ref s2.heap.objs.size) [y] (.ref s2.heap.objs.size) [yv] (fun _ H9 => H9 = upd H8 s2.heap.objs.size (.lst (ys ++ [y]))) J8 rfl (.cons r8 .nil) ⟨_, ys, y, rfl, rfl, RN, hlen, rfl⟩
    rw [eP, ew, eA, ex] at za
    refine thn za fun _ s9 ⟨_, H9, J9, _, q9⟩ => ?_
    subst q9
    exact again J9 q8
 exact codeAny_compStart_list (loop _ rfl) (T.self _ 0 _ _ _ BW (loop _ rfl))
theorem bX {x : Str} {px pos : Pos} {iter elt : Expr} {ifs : List Expr} {scope : Scope} {wi : TI} {tt : TT} {te : TE} (aG : List Nat)
  (hc : X.calm = true) (ho : tO X.env.scope scope x (b8 X x aG) = true) (hi : PI X (.Name x px) iter wi)
  (ht : ∀ cl C s₀ H₀ ex, IB (cL X scope cl (b8 X x aG) C s₀ H₀ ex) ifs tt) (he : ∀ cl C s₀ H₀ ex, PE (cL X scope cl (b8 X x aG) C s₀ H₀ ex) elt te)
  (hs : ∀ x, foldedSetIterable iter X.env x = pure x := by intro _; rfl) : PE X (.ListComp elt [⟨.Name x px, iter, ifs, 0⟩] scope pos) (BU wi tt te aG) := by
 intro pins s σ H Q I h
 rw [eval_ListComp]
 refine xT (use := none) hc ho hi ht he hs I h fun D C H' s' m J q hn hf => ?_
 exact ⟨m, hn, fun h' sb => ⟨.ref D, H', J.turned (t' := s'.toks) (fun b o hb e => (sb.2 b hb).trans e) hf.1 hf.2.1 hf.2.2.2.1 hf.2.2.2.2.1 hf.2.2.2.2.2, rfl, q⟩⟩
theorem ig {i : Nat} {x y : Str} {px py pos RO : Pos} {iter elt : Expr} {ifs : List Expr} {scope : Scope} {wi : TI} {tt : TT} {te : TE} (aG : List Nat)
  (hN : X.N.Nodup) (NR : X.N[i]? = some y) (hy : Loc X.env.scope y)
  (hc : X.calm = true) (ho : tO X.env.scope scope x (b8 X x aG) = true) (hi : PI X (.Name x px) iter wi)
  (ht : ∀ cl C s₀ H₀ ex, IB (cL X scope cl (b8 X x aG) C s₀ H₀ ex) ifs tt) (he : ∀ cl C s₀ H₀ ex, PE (cL X scope cl (b8 X x aG) C s₀ H₀ ex) elt te)
  (hsw : swapsWith (.ListComp elt [⟨.Name x px, iter, ifs, 0⟩] scope pos) (some (.Name y py)) RO.line X.env = pure true := by rfl)
  (hs : ∀ x, foldedSetIterable iter X.env x = pure x := by intro _; rfl) (hf : X.fn y = true ∨ X.env.scope.names.lookup y = some .local := by first | exact .inl rfl | exact .inr rfl | assumption) :
  PS X (.Assign [.Name y py] (.ListComp elt [⟨.Name x px, iter, ifs, 0⟩] scope pos) RO) (OC (BU wi tt te aG) (tE i)) := by
 intro pins s σ H D I h
 rw [exec_Assign_Name_used _ _ _ _ hsw]
 refine wpAny_bind (wpAny_standAt (wpAny_bind ?_))
 show wpAny _ X.A (do let _ ← comprehension (.ListComp elt [⟨.Name x px, iter, ifs, 0⟩] scope pos) scope X.env _ (newList []) false (eval iter X.env) (some (assign (.Name y py) X.env))) _ _ s
 refine wpAny_bind (wpAny_mono (xT (QQ := fun _ s' => SP X pins D .next s') (use := some (assign (.Name y py) X.env)) hc ho hi ht he hs I h fun D' C H' s' m J q hn Mr => ?_) (fun _ s' hq => wpAny_pure (wpAny_pure hq)) fun _ _ e => e)
 refine wpAny_assign_Name (xJ (v := .ref D') J hN NR hy rfl (fun s2 I2 Va => ?_) hf)
 obtain ⟨a, sb, ha⟩ := Va
 have ni : C ≠ a := by
  rcases ha with rfl | e
  ·exact Mr.2.1
  ·exact fun z => Mr.2.2.2.2.1 y a e z.symm
 exact ⟨m, hn.sameBut sb ni, fun h'' sb2 => ⟨_, H', I2.turned (t' := s2.toks) (fun b o hb e => (sb2.2 b hb).trans e) Mr.1 Mr.2.1 Mr.2.2.2.1 Mr.2.2.2.2.1 Mr.2.2.2.2.2, q⟩⟩
end
section
variable {tt : TT} {te : TE} {aG : List Nat} {σ : St} {H1 : Hp} {Q : VK}
theorem yQ {J : It} {D : Addr} (n : Nat) (hn : n < sizeLine) (at_ : Nat → V) (Pv : Nat → List V → Hp → Prop) (h0 : Pv 0 [] (upd H1 D (.lst [])))
  (OB : ∀ ys H, Pv n ys H → J.stop n H) (hgo : ∀ i ys H, Pv i ys H → i < n → J.go i H) (hy : ∀ i ys H x H', Pv i ys H → i < n → J.Ma i H x H' → H' = H ∧ x = at_ i)
  (hD : ∀ i ys H, Pv i ys H → H D = some (.lst ys) ∧ ys.length ≤ i)
  (hs : ∀ i ys H, i < n → Pv i ys H → tt (bV σ (some (at_ i)) aG) H fun b H2 =>
   if b = true then te (bV σ (some (at_ i)) aG) H2 fun y H3 => H3 D = some (.lst ys) ∧ Pv (i + 1) (ys ++ [y]) (upd H3 D (.lst (ys ++ [y])))
   else Pv (i + 1) ys H2)
  (hd : ∀ ys H, Pv n ys H → Q (.ref D) H) : rB tt te aG σ Q J H1 D := by
 refine ⟨fun i m ys H => m = n - i ∧ i ≤ n ∧ Pv i ys H, ⟨n, by simp, Nat.zero_le _, h0⟩, ?_⟩
 rintro i m ys H ⟨rfl, hi, p⟩
 obtain ⟨iw, hl⟩ := hD i ys H p
 refine ⟨iw, by omega, ?_⟩
 by_cases eO : i < n
 ·refine .inr ⟨hgo i ys H p eO, Pv (i + 1), fun zs H' q => ⟨n - (i + 1), by omega, rfl, eO, q⟩, fun x H' y => ?_⟩
  obtain ⟨e, e'⟩ := hy i ys H x H' p eO y
  subst e e'
  exact hs i ys _ eO p
 ·have e : i = n := by omega
  subst e
  exact .inl ⟨OB ys H p, hd ys H p⟩
theorem jH {lo : Int} {n : Nat} {D : Addr} (hn : n < sizeLine) (Pv : Nat → List V → Hp → Prop) (h0 : Pv 0 [] (upd H1 D (.lst [])))
  (hD : ∀ i ys H, Pv i ys H → H D = some (.lst ys) ∧ ys.length ≤ i)
  (hs : ∀ i ys H, i < n → Pv i ys H → tt (bV σ (some (.int (lo + i))) aG) H fun b H2 =>
   if b = true then te (bV σ (some (.int (lo + i))) aG) H2 fun y H3 => H3 D = some (.lst ys) ∧ Pv (i + 1) (ys ++ [y]) (upd H3 D (.lst (ys ++ [y])))
   else Pv (i + 1) ys H2)
  (hd : ∀ ys H, Pv n ys H → Q (.ref D) H) : rB tt te aG σ Q (NI lo n) H1 D :=
 yQ (J := NI lo n) (Q := Q) (D := D) (H1 := H1) n hn (fun i => .int (lo + i)) Pv h0 (fun _ _ _ => Nat.le_refl _) (fun _ _ _ _ h => h) (fun _ _ _ _ _ _ _ y => y) hD hs hd
theorem qe {K : PySem.W.Frag} {a : Addr} {xs : List V} {D : Addr} (hn : xs.length < sizeLine) (Pv : Nat → List V → Hp → Prop) (h0 : Pv 0 [] (upd H1 D (.lst [])))
  (hl : ∀ i ys H, Pv i ys H → ay K H a xs) (hD : ∀ i ys H, Pv i ys H → H D = some (.lst ys) ∧ ys.length ≤ i)
  (hs : ∀ i ys H, i < xs.length → Pv i ys H → tt (bV σ (some (xs.getD i .cJ)) aG) H fun b H2 =>
   if b = true then te (bV σ (some (xs.getD i .cJ)) aG) H2 fun y H3 => H3 D = some (.lst ys) ∧ Pv (i + 1) (ys ++ [y]) (upd H3 D (.lst (ys ++ [y])))
   else Pv (i + 1) ys H2)
  (hd : ∀ ys H, Pv xs.length ys H → Q (.ref D) H) : rB tt te aG σ Q (LX K a) H1 D :=
 yQ (J := LX K a) (Q := Q) (D := D) (H1 := H1) xs.length hn (fun i => xs.getD i .cJ) Pv h0 (fun ys H p => ⟨xs, hl _ ys H p, Nat.le_refl _⟩)
  (fun i ys H p h => ⟨xs, xs[i], hl i ys H p, by simp [h]⟩) (fun i ys H x H' p h y => ⟨y.1, by
   have z := y.2 xs (hl i ys H p)
   rw [Gd9, z] <;> rfl⟩) hD hs hd
end
def Vb (x : Str) : It := ⟨fun i _ => i < x.cps.size, fun i H v H' => H' = H ∧ ∃ c, x.cps[i]? = some c ∧ v = .str ⟨#[c]⟩, fun i _ => i = x.cps.size⟩
theorem Jm {P : Program} {w : World} {K : PySem.W.Frag} {tg : Expr} (ty : String) (NP : ty = "str_ascii_iterator" ∨ ty = "str_iterator") (it : Addr) (x : Str) (t : Tok) :
  Turn P w K tg (Vb x) [it] it (fun i h => h.IsStrIter it ty x t i) where
 mem := by simp
 obj := fun i h st b hb => by
  have e : b = it := by simpa using hb
  subst e
  obtain ⟨o, e, c, d⟩ := st
  exact ⟨o, e, fun v z => by rw [d] at z; cases z⟩
 keep := fun i h h' st k => by
  obtain ⟨o, e, r⟩ := st
  exact ⟨o, k it (by simp) o e, r⟩
 item := by
  intro X hP hw hK hc i pins s σ H E I hf st hg
  subst hP hw hK
  obtain ⟨f0, f1, f2, f3, f4, f5⟩ := hf it (by simp)
  have wk : Walks X.prog X.w X.A it [it] [it] x.cps.size (SignAt x) (fun i h => h.IsStrIter it ty x t i) := by
   rcases NP with e | e
   ·subst e; exact Walks.strAscii (I.ok.hd hc) it x t
   ·subst e; exact Walks.strWide (I.ok.hd hc) it x t
  have hn : ["enumerate", "zip", "dict_itemiterator", "dict_reverseitemiterator", "odict_iterator", "itertools.zip_longest", "itertools.pairwise"].contains ty = false := by
   rcases NP with e | e
   ·subst e; decide
   ·subst e; decide
  refine wk.item i s _ E hg st fun v h' tk hv xK kk => ?_
  obtain ⟨c, u, UZ, rfl⟩ := hv
  have I1 : Inv X pins σ H { s with heap := h', toks := tk } := I.turned (fun b o hb e => kk b o (by simpa using hb) e) f0 f1 f3 f4 f5
  obtain ⟨o, e, ec, d⟩ := id xK
  exact ⟨_, rfl, FH (s := { s with heap := h', toks := tk }) e ec d hn ⟨.str ⟨#[c]⟩, H, I1, ⟨u, rfl⟩, ⟨rfl, c, UZ, rfl⟩, xK, fun b hb => (hf b hb).1⟩⟩
 done := by
  intro X hP hw hK hc i pins s σ H E I hf st hg
  subst hP hw hK
  obtain ⟨f0, f1, f2, f3, f4, f5⟩ := hf it (by simp)
  have wk : Walks X.prog X.w X.A it [it] [it] x.cps.size (SignAt x) (fun i h => h.IsStrIter it ty x t i) := by
   rcases NP with e | e
   ·subst e; exact Walks.strAscii (I.ok.hd hc) it x t
   ·subst e; exact Walks.strWide (I.ok.hd hc) it x t
  have hi : i = x.cps.size := hg
  subst hi
  exact wk.done s _ E st fun h' tk kk => ⟨rfl, I.turned (fun b o hb e => kk b o (by simpa using hb) e) f0 f1 f3 f4 f5⟩
 self := fun A i s Q E st h => by
  rcases NP with e | e
  ·subst e; exact wpAny_pyIter_striter_ascii st h
  ·subst e; exact wpAny_pyIter_striter_wide st h
def Wy (tl : TE) : TI := fun σ H R => tl σ H fun x H1 => ∃ z, x = .str z ∧ R (Vb z) H1
section
variable {X : Cx} {tg : Expr}
theorem O2 {l : Expr} {tl : TE} (hl : PE X l tl) : PI X tg l (Wy tl) := by
 intro pins s σ H R I h
 refine thn (hl pins s σ H _ I h) fun v s1 ⟨x, H1, I1, r1, q1⟩ => ?_
 obtain ⟨z, e, q⟩ := q1
 subst e
 obtain ⟨t, rfl⟩ := r1
 have fin : ∀ ty, (ty = "str_ascii_iterator" ∨ ty = "str_iterator") → V4 X pins σ tg R (.ref s1.heap.objs.size) { s1 with heap := s1.heap.push { cls := .type ty, data := .fields #[.str z t, .int 0 0] } } := fun ty NP => by
  refine ⟨s1.heap.objs.size, [s1.heap.objs.size], _, _, H1, rfl, I1.kept (t' := s1.toks) fun b o e => Heap.get?_push_of_some _ e, Jm ty NP _ z t, ⟨_, Heap.get?_push_size _ rfl, rfl, rfl⟩, fun b hb => ?_, q⟩
  have e : b = s1.heap.objs.size := by simpa using hb
  subst e
  exact I1.tG (Nat.le_refl _) (I1.bt.fresh (Nat.le_refl _))
 cases ha : z.cps.all (· < 128)
 ·exact wpAny_pyIter_wide ha (fin _ (.inr rfl))
 ·exact wpAny_pyIter_ascii ha (fin _ (.inl rfl))
end
theorem Jn {tt : TT} {te : TE} {aG : List Nat} {σ : St} {H1 : Hp} {Q : VK} {x : Str} {D : Addr} (hn : x.cps.size < sizeLine) (Pv : Nat → List V → Hp → Prop) (h0 : Pv 0 [] (upd H1 D (.lst [])))
  (hD : ∀ i ys H, Pv i ys H → H D = some (.lst ys) ∧ ys.length ≤ i)
  (hs : ∀ i ys H, i < x.cps.size → Pv i ys H → tt (bV σ (some (.str ⟨#[x.cps.getD i 0]⟩)) aG) H fun b H2 =>
   if b = true then te (bV σ (some (.str ⟨#[x.cps.getD i 0]⟩)) aG) H2 fun y H3 => H3 D = some (.lst ys) ∧ Pv (i + 1) (ys ++ [y]) (upd H3 D (.lst (ys ++ [y])))
   else Pv (i + 1) ys H2)
  (hd : ∀ ys H, Pv x.cps.size ys H → Q (.ref D) H) : rB tt te aG σ Q (Vb x) H1 D :=
 yQ (J := Vb x) (Q := Q) (D := D) (H1 := H1) x.cps.size hn (fun i => .str ⟨#[x.cps.getD i 0]⟩) Pv h0 (fun _ _ _ => rfl) (fun _ _ _ _ h => h)
  (fun i ys H v H' p h y => ⟨y.1, by
   obtain ⟨c, e, rfl⟩ := y.2
   rw [Array.getD_eq_getD_getElem?, e] <;> rfl⟩) hD hs hd
section
variable {X : Cx}
theorem tR {zs : List Str} : ∀ {us : List Value}, Vals (zs.map V.str) us → StrsAre us zs := by
 induction zs with
 | nil => intro us r; rw [List.map_nil] at r; cases r; exact .nil
 | cons z zs ih =>
  intro us r
  rw [List.map_cons] at r
  cases r with
  | cons r1 r2 =>
   obtain ⟨t, e⟩ := r1
   subst e
   exact .cons z t (ih r2)
def rJoin (K : PySem.W.Frag) : V → List V → Hp → VK → Prop := fun x vs H Q => ∃ sep l zs, x = .str sep ∧ vs = [.ref l] ∧ (ay K H l (zs.map V.str) ∨ cP K H l (zs.map V.str)) ∧ (zs.map (·.length)).sum + zs.length * sep.length ≤ 16777216 ∧ Q (.str (Txt.join sep zs)) H
theorem sO : OS X "str.join" (rJoin X.K) := by
 intro pins s σ H x vs v us Q I rx rv h
 obtain ⟨sep, l, zs, rfl, rfl, hq, hz, q⟩ := h
 obtain ⟨t, rfl⟩ := rx
 obtain ⟨u, rfl, ru⟩ := vals1 rv
 cases ru
 rcases hq with hq | hq
 ·obtain ⟨its, r', pl, _⟩ := I.list hq
  exact join_list (items := its.toArray) pl.isList (tR r') hz fun t' k => ⟨.str _, H, I.tok _, ⟨t', rfl⟩, q⟩
 ·obtain ⟨its, r', pl, _⟩ := I.tuple hq
  exact join_tuple (items := its.toArray) pl (tR r') hz fun t' k => ⟨.str _, H, I.tok _, ⟨t', rfl⟩, q⟩
theorem BX {bs : List Bool} : ∀ {us : List Value}, Vals (bs.map V.bl) us → us = bs.map Value.bool := by
 induction bs with
 | nil => intro us r; rw [List.map_nil] at r; cases r; rfl
 | cons z zs ih =>
  intro us r
  rw [List.map_cons] at r
  cases r with
  | cons r1 r2 =>
   have e : _ = Value.bool z := r1
   rw [e, ih r2]
   rfl
theorem all_range (bs : List Bool) : ((List.range bs.length).all fun i => (bs[i]?).getD true) = bs.all id := by
 rw [Bool.eq_iff_iff, List.all_eq_true, List.all_eq_true]
 constructor
 ·intro h b hb
  obtain ⟨i, hi, rfl⟩ := List.getElem_of_mem hb
  have z := h i (List.mem_range.mpr hi)
  simpa [hi] using z
 ·intro h i hi
  have NS := List.mem_range.mp hi
  have z := h _ (List.getElem_mem NS)
  simpa [NS] using z
theorem Jo : jf X (.builtin "all") (fun xs H Q => ∃ (p : Addr) (bs : List Bool), xs = [.ref p] ∧ X.calm = true ∧ ay X.K H p (bs.map V.bl) ∧ Q (.bl (bs.all id)) H) := by
 intro pins s σ H xs us Q I r h
 obtain ⟨p, bs, rfl, hc, hq, q⟩ := h
 obtain ⟨u, rfl, rx⟩ := vals1 r
 cases rx
 obtain ⟨its, r', pl, hz⟩ := I.list hq
 have ei := BX r'
 have eO : p < s.heap.objs.size := by
  obtain ⟨_, e, _⟩ := pl.isList
  exact Heap.lt_size e
 refine call_all_walk (wpAny_pyIter_list pl.isList ?_)
 refine ⟨s.heap.objs.size, [s.heap.objs.size, p], [s.heap.objs.size], its.toArray.size, _, _, fun i => (bs[i]?).getD true, rfl, Walks.list (A := X.A.in1) (I.ok.hd hc) _ p (Nat.ne_of_lt eO) its.toArray,
  ⟨⟨_, Heap.get?_push_size _ rfl, rfl, rfl⟩, pl.isList.push _⟩, fun i v s' Q' E' hP hQ => ?_, fun h' tk hk => ?_⟩
 ·have Ms : its[i]? = some v := by simpa using hP
  rw [ei, List.getElem?_map] at Ms
  cases hb : bs[i]? with
  | none => rw [hb] at Ms; cases Ms
  | some b =>
   rw [hb] at Ms
   have ev : Value.bool b = v := Option.some.inj Ms
   subst ev
   simp only [hb, Option.getD_some] at hQ
   exact wpAny_truthy_bool hQ
 ·have el : its.toArray.size = bs.length := by rw [List.size_toArray, ei, Lm9]
  rw [el, all_range]
  refine ⟨.bl (bs.all id), H, I.kept (t' := tk) fun b o e => hk b o (fun hm => ?_) (Heap.get?_push_of_some _ e), rfl, q⟩
  rw [List.mem_singleton.mp hm] at e
  exact Nat.lt_irrefl _ (Heap.lt_size e)
theorem ij : jf X (.builtin "isinstance") (fun xs H Q => ∃ (x : V) (n : String) (t : Value) (b : Bool), xs = [x, .ty n] ∧ qb X.K H x t ∧ PySem.W.kitOne X.K t (.type n) = some b ∧ Q (.bl b) H) := by
 intro pins s σ H xs us Q I r h
 obtain ⟨x, n, t, b, rfl, ty, e, q⟩ := h
 obtain ⟨u, u2, rfl, rx, ru⟩ := vals2 r
 have e2 : u2 = Value.type n := ru
 subst e2
 exact GW I rx ty e fun tk => ⟨.bl b, H, I.tok _, rfl, q⟩
end
end L2
namespace L2
open PySem PySem.Spec PyProof.Rows
section
variable {X : Cx}
def Wz : V → Option Int → Option Int → Hp → VK → Prop := fun x lo hi H Q => ∃ z, x = .str z ∧ z.length ≤ sizeLine ∧ Q (.str (Txt.slice z lo hi)) H
theorem part_of {v : Value} {o : Option Int} (p : IsPart v o) : ∃ q : Option (Int × Tok), v = partValue q ∧ q.map (·.1) = o := by
 cases p with
 | none => exact ⟨none, rfl, rfl⟩
 | int i t => exact ⟨some (i, t), rfl, rfl⟩
theorem O3 : Rv X Wz := by
 intro pins s σ H x v vl vu lo hi sl Q I rx hs pl pu h
 obtain ⟨z, rfl, hz, q⟩ := h
 obtain ⟨t, rfl⟩ := rx
 obtain ⟨ql, rfl, el⟩ := part_of pl
 obtain ⟨qu, rfl, eu⟩ := part_of pu
 refine ⟨"str", _, F.slot_str_getitem.lookup, typeIs_str _ _ _, wpAny_getItem_str_slice (l := ql) (u := qu) (st := none) hs rfl ?_⟩
 have e : sliceMade z t ql qu none = if ((1 : Int) == 1 && (Builtin.Str.strSliceIndices lo hi 1 z.length).length == z.length) = true then .val (.str z t) else .str ⟨((Builtin.Str.strSliceIndices lo hi 1 z.length).filterMap (z.cps[·]?)).toArray⟩ := by
  unfold sliceMade slicePicked
  rw [el, eu]
  rfl
 rw [e]
 exact post_val_or_str ⟨Nat.le_trans (Txt.slice_le z lo hi) hz, fun t' k => ⟨.str (Txt.slice z lo hi), H, I.tok _, ⟨t', rfl⟩, q⟩⟩
theorem G6 {z : Str} {i j : Int} (h0 : 0 ≤ i) (h1 : i ≤ j) (h2 : j ≤ z.length) : (Txt.slice z (some i) (some j)).cps.toList = (z.cps.toList.drop i.toNat).take (j - i).toNat := by
 have e := eq_of_beq (slice_closesL (x := z) h0 h1 h2)
 rw [e]
end
inductive Dt where
 | cJ | bl (b : Bool) | int (i : Int) | str (x : Str) | tup (ds : List Dt)
 deriving Inhabited
inductive Qy (K : PySem.W.Frag) (H : Hp) : Dt → V → Prop
 | cJ : Qy K H .cJ .cJ
 | bl (b : Bool) : Qy K H (.bl b) (.bl b)
 | int (i : Int) : Qy K H (.int i) (.int i)
 | str (x : Str) : Qy K H (.str x) (.str x)
 | tup {ds : List Dt} {xs : List V} {a : Addr} (h : cP K H a xs) (l : ds.length = xs.length) (r : ∀ (i : Nat) (h1 : i < ds.length) (h2 : i < xs.length), Qy K H ds[i] xs[i]) : Qy K H (.tup ds) (.ref a)
theorem cP.same {K : PySem.W.Frag} {H H' : Hp} (e : ah H H') {a : Addr} {xs : List V} (h : cP K H a xs) : cP K H' a xs := by
 rcases h with (h | ⟨o, h⟩) | h
 ·exact .inl (.inl (e _ _ h))
 ·exact .inl (.inr ⟨o, e _ _ h⟩)
 ·exact .inr h
end L2
namespace L2
open PySem PySem.Spec PyProof.Rows
def bb (P : Program) (w : World) (K : PySem.W.Frag) (mg : Str → Option Value) (base : Heap) (x : Str) (k : Nat) (ps : List Str) (sp : Sp) : Prop :=
 ∃ f fd, aX P w K mg base cO k f fd ps sp ∧ Binds K fd ps [] ∧ PySem.W.keepIn K (.ref f) = true ∧ mg x = some (.ref f)
def Mt (P : Program) (w : World) (K : PySem.W.Frag) (mg : Str → Option Value) (base : Heap) (x : Str) (C : Addr) (k : Nat) (ps : List Str) (sp : Sp) : Prop :=
 ∃ f fd, Mk K C f ∧ aX P w K mg base cO k f fd ps sp ∧ Binds K fd ps [] ∧ mg x = some (.ref C)
def Met (P : Program) (w : World) (K : PySem.W.Frag) (mg : Str → Option Value) (base : Heap) (C : Addr) (m : Str) (k : Nat) (ps : List Str) (sp : Sp) : Prop :=
 ∃ f fd, DA K C ∧ Meth K C m f ∧ aX P w K mg base cO k f fd ps sp ∧ Binds K fd ps []
section
variable {X : Cx} {k : Nat} {C : Addr} {ps : List Str} {sp : Sp} {x m : Str} {p pos apos : Pos} {e o : Expr} {es : List Expr} {ta : TE} {t : TA}
theorem ak (c : bb X.prog X.w X.K X.mg X.base x k ps sp) (hr : de k X.A) (hg : Gl X x) (ha : PA X (e :: es) t) (GX : (x == ("__debug__" : Str)) = false := by decide) (he : starEach (e :: es) X.env = (false, eval e X.env) :: starEach es X.env := by rfl) (DB : (backTo pos (starEach es X.env)).any (·.1) = false := by rfl) :
  PE X (.Call (.Name x p) (e :: es) [] pos) (NM sp [] E0 t) := by
 obtain ⟨f, fd, F, b, kp, mg⟩ := c
 exact Me F hr hg mg kp b .nil FR ha GX he DB
theorem oQ (c : Mt X.prog X.w X.K X.mg X.base x C k ps sp) (hr : de (k + 1) X.A) (hg : Gl X x) (ha : PA X (e :: es) t) (GX : (x == ("__debug__" : Str)) = false := by decide) (he : starEach (e :: es) X.env = (false, eval e X.env) :: starEach es X.env := by rfl) (DB : (backTo pos (starEach es X.env)).any (·.1) = false := by rfl) :
  PE X (.Call (.Name x p) (e :: es) [] pos) (NN C sp [] E0 t) := by
 obtain ⟨f, fd, M, F, b, mg⟩ := c
 exact Mg M F hr hg mg b .nil FR ha GX he DB
theorem RP {pl : Sem Bool} (he : PE X o ta) (c : Met X.prog X.w X.K X.mg X.base C m k ps sp) (hr : de k X.A) (ha : PA X (e :: es) t)
  (OB : starEach (e :: es) X.env = (false, eval e X.env) :: starEach es X.env := by rfl) (DB : (backTo pos (starEach es X.env)).any (·.1) = false := by rfl)
  (ht : eval (.Call (.Attribute o m apos) (e :: es) [] pos) X.env = (do
   let ov ← eval o X.env
   standAt apos.atName
   let (f, first) ← holding [ov] (getMethod ov m pl)
   callWith pos f first (backTo pos (starEach (e :: es) X.env)) (backToKw pos (keywordEach [] X.env))) := by rfl) :
  PE X (.Call (.Attribute o m apos) (e :: es) [] pos) (FL C m sp [] E0 ta t) := by
 obtain ⟨f, fd, cl, M, F, b⟩ := c
 exact Mf he cl M F hr b .nil FR ha OB DB ht
theorem G7 {pl : Sem Bool} (he : PE X o ta) (c : Met X.prog X.w X.K X.mg X.base C m k ps sp) (hr : de k X.A)
  (ht : eval (.Call (.Attribute o m apos) [] [] pos) X.env = (do
   let ov ← eval o X.env
   standAt apos.atName
   let (f, first) ← holding [ov] (getMethod ov m pl)
   callWith pos f first (backTo pos (starEach [] X.env)) (backToKw pos (keywordEach [] X.env))) := by rfl) :
  PE X (.Call (.Attribute o m apos) [] [] pos) (FL C m sp [] E0 ta yJ) := by
 obtain ⟨f, fd, cl, M, F, b⟩ := c
 exact Jc he cl M F hr b .nil FR ht
end
end L2
namespace L2
open PySem PySem.Spec PyProof.Rows
section
variable {X : Cx}
theorem xV : ∀ {l : List (Str × Tok)} {zs : List Str}, l.map (·.1) = zs → Vals (zs.map V.str) (strValues l)
 | [], _, e => by subst e; exact .nil
 | p :: r, _, e => by
  subst e
  exact .cons ⟨p.2, rfl⟩ (xV rfl)
def O4 : V → List V → Hp → VK → Prop := fun x vs H Q => ∃ z y, x = .str z ∧ vs = [.str y] ∧ (y.length == 0) = false ∧ z.length ≤ sizeLine ∧ (Txt.split z y).length ≤ sizeLine ∧ ∀ l, H l = none → Q (.ref l) (upd H l (.lst ((Txt.split z y).map V.str)))
open Builtin Builtin.Str in
theorem Jp {prog : Program} {w : World} {A : Around} {E : Value → Shared → Prop} {s : Shared} {x y : Str} {t u : Tok} {Q : Value → Shared → Prop} (hy : (y.length == 0) = false) (hsz : x.length ≤ sizeLine) (Mu : (Txt.split x y).length ≤ sizeLine)
  (h : ∀ l k, l.map (·.1) = Txt.split x y → Q (.ref s.heap.objs.size) { s with heap := s.heap.push { cls := .type "list", data := .seq (strValues l).toArray }, toks := k }) :
  wpAny (model prog w) A (call (.builtin "str.split") [.str x t, .str y u]) Q E s := by
 unfold Txt.split at Mu h
 cases h1 : (decide (x.length < y.length) || decide (strKind x < strKind y))
 ·rw [if_neg (ne_true_of_eq_false h1)] at Mu h
  cases hf : (occurrences x y 0 x.length (x.length + 1)).isEmpty
  ·rw [if_neg (ne_true_of_eq_false hf)] at Mu h
   refine call_meets PySem.F.slot_str_split (typeIs_str _ _ _) PySem.F.entry_str_split (PySem.F.args_str_split_2 _ _) (meets_str_split_sep x y t u h1 hy hf hsz Mu) ?_
   show wants Q E _ { s with toks := _, heap := s.heap.push { cls := .type "list", data := .seq (strsFrom s.toks (partsBetween x (occurrences x y 0 x.length (x.length + 1)) y.length)).toArray } }
   rw [strsFrom_eq]
   exact h (numbered s.toks _) _ (numbered_texts _ _)
  ·rw [if_pos hf] at h
   exact call_meets PySem.F.slot_str_split (typeIs_str _ _ _) PySem.F.entry_str_split (PySem.F.args_str_split_2 _ _) (meets_str_split_not_found x y t u h1 hy hf) (h [(x, t)] s.toks rfl)
 ·rw [if_pos h1] at h
  exact call_meets PySem.F.slot_str_split (typeIs_str _ _ _) PySem.F.entry_str_split (PySem.F.args_str_split_2 _ _) (meets_str_split_cannot_occur x y t u h1) (h [(x, t)] s.toks rfl)
theorem Jq : OS X "str.split" O4 := by
 intro pins s σ H x vs v us Q I rx rv h
 obtain ⟨z, y, rfl, rfl, hy, h1, h2, q⟩ := h
 obtain ⟨t, rfl⟩ := rx
 obtain ⟨u, rfl, t', rfl⟩ := vals1 rv
 refine Jp hy h1 h2 fun l k e => ?_
 have hf : H s.heap.objs.size = none := I.bt.fresh (Nat.le_refl _)
 refine ⟨.ref s.heap.objs.size, upd H s.heap.objs.size (.lst ((Txt.split z y).map V.str)), I.laid (t' := k) (fun b u e => Heap.get?_push_of_some _ e) (Nat.le_refl _) ?_, rfl, q _ hf⟩
 exact ⟨by rw [Lm9]; exact h2, strValues l, 0, xV e, Heap.get?_push_size _ rfl⟩
def O5 : V → List V → Hp → VK → Prop := fun x vs H Q => ∃ z y, x = .str z ∧ vs = [.str y] ∧ z.length ≤ sizeLine ∧ Q (.str (Txt.stripChars z y)) H
theorem Jr : OS X "str.strip" O5 := by
 intro pins s σ H x vs v us Q I rx rv h
 obtain ⟨z, y, rfl, rfl, h1, q⟩ := h
 obtain ⟨t, rfl⟩ := rx
 obtain ⟨u, rfl, t', rfl⟩ := vals1 rv
 exact SC.stripChars (fun t2 k => ⟨.str _, H, I.tok _, ⟨t2, rfl⟩, q⟩) h1
theorem wj : jf X (.type "int") (fun xs H Q => ∃ z n, xs = [.str z] ∧ PySem.intText? z = some n ∧ z.length ≤ 640 ∧ Q (.int n) H) := by
 intro pins s σ H xs us Q I r h
 obtain ⟨z, n, rfl, hn, hl, q⟩ := h
 obtain ⟨u, rfl, t, rfl⟩ := vals1 r
 exact PySem.W.KIN.call_text hn hl ⟨.int n, H, I.tok _, ⟨_, rfl⟩, q⟩
end
end L2
namespace L2
open PySem PySem.Spec PyProof.Rows
theorem qf {M : Model} {A : Around} {E : Value → Shared → Prop} {s : Shared} {β : Type} {n : Nat} (f : Nat → β → Sem (ForInStep β)) (I : Nat → β → Shared → Prop) (Q : β → Shared → Prop) {b : β}
  (turn : ∀ i b s', i < n → I i b s' → wpAny M A (f i b) (fun r rS => match r with | .done b' => Q b' rS | .yield b' => I (i + 1) b' rS) E s')
  (fin : ∀ b s', I n b s' → Q b s') (h : I 0 b s) : wpAny M A (forIn [0:n] b f) Q E s := by
 rw [Std.Legacy.Range.forIn_eq_forIn_range']
 have hsz : ([0:n] : Std.Legacy.Range).size = n := by simp [Std.Legacy.Range.size]
 show wpAny M A (forIn (List.range' 0 ([0:n] : Std.Legacy.Range).size 1) b f) Q E s
 rw [hsz]
 refine wpAny_forIn_list f (fun rest b s' => ∃ i, i ≤ n ∧ rest = List.range' i (n - i) 1 ∧ I i b s') Q ?_ ?_ _ _ ⟨0, Nat.zero_le _, by simp, h⟩
 ·rintro x rest b s' ⟨i, hi, er, hI⟩
  have eO : i < n := by
   cases e : n - i with
   | zero => rw [e] at er; cases er
   | succ m => omega
  have e2 : n - i = (n - (i + 1)) + 1 := by omega
  rw [e2, List.range'_succ] at er
  injection er with e3 e4
  subst e3
  refine wpAny_mono (turn x b s' eO hI) (fun r rS q => ?_) fun _ _ q => q
  cases r with
  | done b' => exact q
  | yield b' => exact ⟨x + 1, eO, e4, q⟩
 ·rintro b s' ⟨i, hi, er, hI⟩
  have : i = n := by
   cases e : n - i with
   | zero => omega
   | succ m => rw [e, List.range'_succ] at er; cases er
  subst this
  exact fin b s' hI
open SeqAt in
theorem wm (l : Addr) (items : Array Value) (n : Nat) (dd : Option Addr) (sl : Array (Option Value)) (x : Value) (e : Value → Bool) (j : Nat) (hj : j < items.size) (hit : e items[j] = true) (OQ : ∀ m (hm : m < items.size), m < j → e items[m] = false) :
  Meets (Builtin.«tuple.index» ⟨[.ref l, x], []⟩)
   (fun A R s => s.heap.get? l = some { cls := .type "tuple", dict := dd, data := .seq items n, slots := sl } ∧ (∀ y, y ∈ items → EqAt A.in1 s y x (e y)) ∧ R (.ok (.ret (.int (j : Nat) s.toks))) { s with toks := s.toks + 1 }) :=
 .of_wp fun prog w A R s h => by
  obtain ⟨hp, g, d, tk, os⟩ := s; obtain ⟨hl, he, h⟩ := h
  wp_walk using wpAny_loadPart' hl, qf _ (fun i b s' => b.1 = none ∧ s' = ⟨hp, g, d, tk, os⟩ ∧ i ≤ j) _
  case turn =>
   rintro i b s' hi ⟨hb, rfl, WA⟩
   have NS : i < items.size := by omega
   rw [Array.getElem?_eq_getElem NS]
   refine wpAny_bind (he items[i] (Array.getElem_mem NS) prog w _ _ ?_)
   by_cases hy : i = j
   ·subst hy
    rw [hit]
    wp_walk
    exact ⟨_, rfl, h⟩
   ·rw [OQ i NS (by omega)]
    wp_walk
    exact ⟨rfl, rfl, by omega⟩
  case fin =>
   rintro ⟨b1, b2⟩ s' ⟨hb, rfl, WA⟩
   omega
  case h =>
   exact ⟨rfl, rfl, Nat.zero_le _⟩
end L2
namespace L2
open PySem PySem.Spec PyProof.Rows
theorem Mv {tt : TT} {te : TE} {aG : List Nat} {σ : St} {H1 : Hp} {Q : VK} {K : PySem.W.Frag} {a : Addr} {xs : List V} {D : Addr} (hn : xs.length < sizeLine) (xU : H1 D = none) (hl : ay K H1 a xs) (kp : V → Bool) (f : V → V)
  (ht : ∀ x H' R, x ∈ xs → ah H1 H' → (∀ nA, ah H' nA → R (kp x) nA) → tt (bV σ (some x) aG) H' R)
  (he : ∀ x H' R, x ∈ xs → kp x = true → ah H1 H' → (∀ nA, ah H' nA → R (f x) nA) → te (bV σ (some x) aG) H' R)
  (hd : ∀ H', ah H1 H' → H' D = some (.lst ((xs.filter kp).map f)) → Q (.ref D) H') : rB tt te aG σ Q (LX K a) H1 D := by
 refine qe (K := K) (a := a) (xs := xs) hn (fun i ys H' => ah H1 H' ∧ H' D = some (.lst ys) ∧ ys = ((xs.take i).filter kp).map f) ⟨fun b o e => by rw [aq (aI e xU)]; exact e, af, rfl⟩
  (fun i ys H' p => p.1.seq hl) (fun i ys H' p => ⟨p.2.1, ?_⟩) (fun i ys H' hi p => ?_) (fun ys H' p => ?_)
 ·rw [p.2.2, Lm9]
  refine Nat.le_trans (List.length_filter_le _ _) ?_
  rw [List.length_take]
  omega
 ·have hx : xs.getD i .cJ = xs[i] := by rw [Gd9, Ge9 hi]; rfl
  rw [hx]
  have hm : xs[i] ∈ xs := List.getElem_mem hi
  have step : ∀ b, kp xs[i] = b → ((xs.take (i + 1)).filter kp).map f = ((xs.take i).filter kp).map f ++ (if b = true then [f xs[i]] else []) := fun b hb => by
   rw [List.take_succ_eq_append_getElem hi, List.filter_append, List.map_append]
   cases b with
   | true => rw [if_pos rfl]; simp [hb]
   | false => rw [if_neg (by decide)]; simp [hb]
  refine ht _ _ _ hm p.1 fun H2 s2 => ?_
  cases hb : kp xs[i] with
  | true =>
   refine nT ?_
   refine he _ _ _ hm hb (ah.trans p.1 s2) fun H3 s3 => ?_
   refine ⟨s3 _ _ (s2 _ _ p.2.1), fun b o e => ?_, af, ?_⟩
   ·rw [aq (aI e xU)]
    exact s3 _ _ (s2 _ _ (p.1 _ _ e))
   ·rw [step true hb, if_pos rfl, p.2.2]
  | false =>
   refine bw ⟨ah.trans p.1 s2, s2 _ _ p.2.1, ?_⟩
   rw [step false hb, if_neg (by decide), List.append_nil]
   exact p.2.2
 ·rw [p.2.2, List.take_length] at p
  exact hd H' p.1 p.2.1
end L2
namespace HT
open PySem PySem.Spec PyProof.Rows
section
variable {prog : Program} {w : World} {A : Around} {E : Value → Shared → Prop} {s : Shared}
theorem oR {t sl : Addr} {items : Array Value} {vl vu : Value} {lo hi : Option Int} {Q : Value → Shared → Prop} (ht : IsTup s.heap t items) (hs : s.heap.IsSliceOf sl vl vu .none) (pl : IsPart vl lo) (pu : IsPart vu hi)
  (hw : df items.size 0 lo = 0 ∧ df items.size items.size hi = items.size) (h : Q (.ref t) s) : wpAny (model prog w) A (getItem (.ref t) (.ref sl)) Q E s := by
 obtain ⟨os, G1, U6, Rt⟩ := id hs
 have Wg : s.TypeIs (.ref sl) "slice" := ⟨os, G1, U6⟩
 unfold getItem
 try with_reducible refine wpAny_holding ?_
 first | refine wpAny_bind (wpAny_pure ?_) | skip
 refine wpAny_bind (wpAny_sequenceKey ht.typeIs (by decide) ?_)
 refine wpAny_bind (wpAny_callSpecial?_slot (name := Str.ofString "__getitem__") ht.typeIs PyProof.Rows.slot_tuple_getitem
  (wpAny_call_entry PyProof.Rows.slot_tuple_getitem ht.typeIs entry_tuple_getitem ?_ (args_tuple_getitem _ _)))
 show wpAny _ _ (Builtin.Tuple.tupleItemsOf (.ref t) >>= _) _ _ s
 refine wpAny_bind (tupleItemsOf_ ht ?_)
 refine wpAny_bind (wpAny_typeOf Wg ?_)
 rw [if_pos (by decide)]
 refine wpAny_bind (jg hs pl pu ?_)
 have WB : (((df items.size 0 lo : Nat) : Int) == 0 && (1 : Int) == 1 && (df items.size items.size hi - df items.size 0 lo) == items.size) = true := by
  rw [hw.1, hw.2]
  simp
 show wpAny _ _ (if (((df items.size 0 lo : Nat) : Int) == 0 && (1 : Int) == 1 && (df items.size items.size hi - df items.size 0 lo) == items.size) = true then _ else _) _ _ s
 rw [if_pos WB]
 unfold Builtin.Tuple.tupleIsExact
 refine wpAny_bind (wpAny_bind (wpAny_typeOf ht.typeIs (wpAny_pure ?_)))
 rw [if_pos (by decide)]
 refine wpAny_bind (wpAny_rule ?_)
 first
  | exact wpAny_pure ⟨_, rfl, wpAny_pure h⟩
  | exact wpAny_bind (wpAny_pure (wpAny_pure ⟨_, rfl, wpAny_pure h⟩))
end
end HT
namespace L2
open PySem PySem.Spec PyProof.Rows
section
variable {X : Cx}
def WC (K : PySem.W.Frag) : V → Option Int → Option Int → Hp → VK → Prop := fun x lo hi H Q => ∃ a xs, x = .ref a ∧ cP K H a xs ∧ ∀ p H', ah H H' → cP K H' p (hZ xs lo hi) → Q (.ref p) H'
theorem Mw : Rv X (WC X.K) := by
 intro pins s σ H x v vl vu lo hi sl Q I rx hs pl pu h
 obtain ⟨a, xs, rfl, hx, q⟩ := h
 by_cases hw : HT.df xs.length 0 lo = 0 ∧ HT.df xs.length xs.length hi = xs.length
 ·cases rx
  obtain ⟨its, r, ht, hz⟩ := I.tuple hx
  have hlen : its.toArray.size = xs.length := by rw [List.size_toArray]; exact r.length.symm
  refine ⟨"tuple", _, PyProof.Rows.slot_tuple_getitem.lookup, ht.typeIs, ?_⟩
  refine HT.oR ht hs pl pu (by rw [hlen]; exact hw) ⟨.ref a, H, I, rfl, q a H (ah.refl H) ?_⟩
  unfold hZ
  rw [hw.1, hw.2, List.drop_zero, Nat.sub_zero, List.take_length]
  exact hx
 ·exact OR pins s σ H (.ref a) v vl vu lo hi sl Q I rx hs pl pu ⟨a, xs, rfl, hx, hw, fun p hp => q p _ (fun b o e => by rw [aq (aI e hp)]; exact e) (cP.of af)⟩
theorem tS {xs : List V} {k : Nat} (h : k ≤ xs.length) : hZ xs (some (k : Int)) none = xs.drop k := by
 unfold hZ
 rw [HT.yK, HT.Jf, Nat.min_eq_left h, List.take_of_length_le]
 rw [List.length_drop]
 omega
end
end L2
namespace L2
open PySem PySem.Spec PyProof.Rows
theorem tT (l : Addr) (xs : Array Value) (n : Nat) (b : Addr) (ys : Array Value) (k : Nat) (dd : Option Addr) (sl : Array (Option Value)) (few : ¬(!xs.isEmpty && Builtin.List.listTooLong (xs.size + ys.size)) = true) (h1 : xs.size ≤ sizeLine) (h2 : xs.size + ys.size ≤ sizeLine + 1) :
  Meets (Builtin.«list.extend» ⟨[.ref l, .ref b], []⟩)
   (fun _ R st => st.heap.get? l = some { cls := .type "list", dict := none, data := .seq xs n, slots := #[] } ∧ st.heap.get? b = some { cls := .type "tuple", dict := dd, data := .seq ys k, slots := sl } ∧
    R (.ok (.ret Value.none)) { st with heap := st.heap.update l (Obj.mapSeq fun x => x ++ ys), toks := st.toks }) :=
 .of_wp fun prog w A R st h => by
  obtain ⟨hp, gs, dr, tk, os⟩ := st
  obtain ⟨gl, gb, hR⟩ := h
  have i1 := AutoSeq1.idx_int
  have i2 := AutoSeq1.sub_tuple_tuple
  have i3 := AutoSeq1.sub_list_list
  have i4 := AutoSeq1.sub_tuple_list
  have i5 := AutoSeq1.sub_list_tuple
  have both : (xs ++ ys).size ≤ sizeLine + 1 := by rw [Array.size_append]; exact h2
  wp_walk using (wpAny_updateSeq gl rfl (hz := h1) (_hz' := both)), AutoSeq1.wpAny_loadPart' gl, AutoSeq1.wpAny_loadPart' gb
  exact ⟨_, rfl, hR⟩
section
variable {X : Cx}
def Js (K : PySem.W.Frag) : V → List V → Hp → VK → Prop := fun x vs H Q => ∃ l b xs zs, x = .ref l ∧ vs = [.ref b] ∧ H l = some (.lst xs) ∧ cP K H b zs ∧ xs.length + zs.length ≤ sizeLine ∧ Q .cJ (upd H l (.lst (xs ++ zs)))
theorem tU : OS X "list.extend" (Js X.K) := by
 intro pins s σ H x vs v us Q I rx rv h
 obtain ⟨l, b, xs, zs, rfl, rfl, hH, hB, hz, q⟩ := h
 cases (show v = Value.ref l from rx)
 obtain ⟨u, rfl, ru⟩ := vals1 rv
 cases (show u = Value.ref b from ru)
 obtain ⟨z, its, n, r, hl, e⟩ := I.DS hH
 obtain ⟨nP, r2, pl, z2⟩ := I.tuple hB
 obtain ⟨⟨oc, od, dat, sl⟩, e2, hc, n2, hd⟩ := id pl
 simp only at hc hd
 subst hc hd
 have tN := r2.length
 have hsz : its.toArray.size + nP.toArray.size ≤ sizeLine := by rw [List.size_toArray, List.size_toArray]; omega
 have BR : ¬ (!its.toArray.isEmpty && Builtin.List.listTooLong (its.toArray.size + nP.toArray.size)) = true := by
  rw [tM hsz, Bool.and_false]
  exact Bool.false_ne_true
 refine call_meets PySem.F.slot_list_extend ⟨_, e, rfl⟩ PySem.F.entry_list_extend (PySem.F.args_list_extend_2 _ _)
  (tT l its.toArray n b nP.toArray n2 od sl BR (by rw [List.size_toArray]; omega) (by omega)) ⟨e, e2, ?_⟩
 refine ⟨.cJ, _, I.OX (its' := its ++ nP) hH e (by simp) (r.append r2) ?_, rfl, q⟩
 rw [List.length_append]
 omega
end
end L2
namespace L2
open PySem PySem.Spec PyProof.Rows
section
variable {X : Cx} {K : PySem.W.Frag} {o e : Expr} {f : Str} {pos : Pos} {ta : TE}
theorem Mx (hK : X.K = K) (he : PE X e ta) (hb : attributeBase e f X.env (eval e X.env) = eval e X.env) : PE X (.Attribute e f pos) (tFld K ta f) := by
 subst hK
 exact pe_fld he hb
end
end L2
namespace L2
open PySem PySem.Spec PyProof.Rows
section
variable {κ : Type} [DecidableEq κ]
def bF (kvs : List (κ × V)) (k : κ) : Option V := (kvs.find? fun kv => decide (kv.1 = k)).map (·.2)
def putK (kvs : List (κ × V)) (k : κ) (v : V) : List (κ × V) :=
 if (kvs.any fun kv => decide (kv.1 = k)) = true then kvs.map (fun kv => if kv.1 = k then (kv.1, v) else kv) else kvs ++ [(k, v)]
theorem k7 {p : κ × V} {r : List (κ × V)} {k : κ} (e : p.1 = k) : bF (p :: r) k = some p.2 := by simp [bF, List.find?_cons, e]
theorem k8 {p : κ × V} {r : List (κ × V)} {k : κ} (e : ¬ p.1 = k) : bF (p :: r) k = bF r k := by simp [bF, List.find?_cons, e]
theorem jh (k : κ) : ∀ kvs : List (κ × V), (kvs.any fun kv => decide (kv.1 = k)) = (bF kvs k).isSome
 | [] => rfl
 | p :: r => by
  rw [List.any_cons]
  by_cases e : p.1 = k
  ·simp only [k7 e, decide_eq_true e, Bool.true_or, Option.isSome_some]
  ·rw [k8 e, decide_eq_false e, Bool.false_or]; exact jh k r
theorem k9 (kvs : List (κ × V)) (k : κ) (v : V) : (putK kvs k v).length ≤ kvs.length + 1 := by
 unfold putK
 split
 ·rw [Lm9]; omega
 ·rw [List.length_append, List.length_cons, List.length_nil]; omega
theorem BY {kvs : List (κ × V)} {k : κ} (v : V) (h : bF kvs k = none) : putK kvs k v = kvs ++ [(k, v)] := by
 unfold putK
 rw [jh, h]
 exact if_neg (by decide)
theorem kW.qg {o : Option V} {u : Option Value} (r : kW o u) : o.isSome = u.isSome := by
 cases o with
 | none => cases u with
  | none => rfl
  | some _ => exact (show False from r).elim
 | some _ => cases u with
  | none => exact (show False from r).elim
  | some _ => rfl
theorem kW.getD {o : Option V} {u : Option Value} {d : V} {d' : Value} (r : kW o u) (rd : RelV d d') : RelV (o.getD d) (u.getD d') := by
 cases o with
 | none => cases u with
  | none => exact rd
  | some _ => exact (show False from r).elim
 | some _ => cases u with
  | none => exact (show False from r).elim
  | some _ => exact r
theorem KV.val {kvs : List (κ × V)} {vs : List (κ × Value)} (r : KV kvs vs) (k : κ) : kW (bF kvs k) (valueAt vs k) := by
 unfold KV at r
 induction r with
 | nil => exact True.intro
 | @cons p q ps qs h t ih =>
  obtain ⟨h1, h2⟩ := h
  by_cases e : p.1 = k
  ·have e' : q.1 = k := h1.symm.trans e
   have b : valueAt (q :: qs) k = some q.2 := by simp [valueAt, List.find?_cons, e']
   rw [k7 e, b]; exact h2
  ·have e' : ¬ q.1 = k := fun z => e (h1.trans z)
   have b : valueAt (q :: qs) k = valueAt qs k := by simp [valueAt, List.find?_cons, e']
   rw [k8 e, b]; exact ih
theorem KV.any {kvs : List (κ × V)} {vs : List (κ × Value)} (r : KV kvs vs) (k : κ) : (kvs.any fun kv => decide (kv.1 = k)) = vs.any fun kv => decide (kv.1 = k) := by
 unfold KV at r
 induction r with
 | nil => rfl
 | cons h t ih => rw [List.any_cons, List.any_cons, ih, h.1]
theorem KV.O6 {kvs : List (κ × V)} {vs : List (κ × Value)} (r : KV kvs vs) (k : κ) {y : V} {u : Value} (ry : RelV y u) :
  KV (kvs.map fun kv => if kv.1 = k then (kv.1, y) else kv) (vs.map fun kv => if kv.1 = k then (kv.1, u) else kv) := by
 unfold KV at r ⊢
 induction r with
 | nil => exact .nil
 | @cons p q ps qs h t ih =>
  rw [List.map_cons, List.map_cons]
  refine .cons ?_ ih
  obtain ⟨h1, h2⟩ := h
  by_cases e : p.1 = k
  ·rw [if_pos e, if_pos (h1.symm.trans e)]; exact ⟨h1, ry⟩
  ·rw [if_neg e, if_neg (fun z => e (h1.trans z))]; exact ⟨h1, h2⟩
theorem KV.put {kvs : List (κ × V)} {vs : List (κ × Value)} (r : KV kvs vs) (k : κ) {y : V} {u : Value} (ry : RelV y u) : KV (putK kvs k y) (stored vs k u) := by
 unfold putK stored
 rw [r.any k]
 by_cases e : (vs.any fun kv => decide (kv.1 = k)) = true
 ·rw [if_pos e, if_pos e]; exact r.O6 k ry
 ·rw [if_neg e, if_neg e]; exact Paired.snoc r ⟨rfl, ry⟩
theorem KV.keys {kvs : List (κ × V)} {vs : List (κ × Value)} (r : KV kvs vs) : kvs.map (·.1) = vs.map (·.1) := by
 unfold KV at r
 induction r with
 | nil => rfl
 | cons h t ih => rw [List.map_cons, List.map_cons, ih, h.1]
theorem KV.length {kvs : List (κ × V)} {vs : List (κ × Value)} (r : KV kvs vs) : kvs.length = vs.length := Paired.length r
end
theorem xW {P : Program} {w : World} {k : Key} {u : Value} (r : RelV (kV k) u) : (bE P w).is k u = true := by
 cases k with
 | inl i => obtain ⟨t, e⟩ := (show ∃ t, u = Value.int i t from r); subst e; exact BJ P w i t
 | inr x => obtain ⟨t, e⟩ := (show ∃ t, u = Value.str x t from r); subst e; exact BK P w x t
theorem xX {P : Program} {w : World} : ∀ {ks : List Key} {us : List Value}, Vals (ks.map kV) us → ItemsAre (bE P w) ks us
 | [], _, r => by rw [List.map_nil] at r; cases r; exact .nil
 | k :: ks, _, r => by
  rw [List.map_cons] at r
  cases r with
  | cons h t => exact .cons (xW h) (xX t)
abbrev KT (H : Hp) : List (List Key × V) → List (List Key × Addr × Value) → Prop := Paired fun p q => p.1 = q.1 ∧ H q.2.1 = some (.tup (p.1.map kV)) ∧ RelV p.2 q.2.2
theorem KT.val {H : Hp} {kvs : List (List Key × V)} {xs : List (List Key × Addr × Value)} (r : KT H kvs xs) (k : List Key) : kW (bF kvs k) ((atKey xs k).map (·.2)) := by
 induction r with
 | nil => exact True.intro
 | @cons p q ps qs h t ih =>
  obtain ⟨h1, _, h2⟩ := h
  by_cases e : p.1 = k
  ·have e' : q.1 = k := h1.symm.trans e
   have b : atKey (q :: qs) k = some q.2 := by simp [atKey, List.find?_cons, e']
   rw [k7 e, b]; exact h2
  ·have e' : ¬ q.1 = k := fun z => e (h1.trans z)
   have b : atKey (q :: qs) k = atKey qs k := by simp [atKey, List.find?_cons, e']
   rw [k8 e, b]; exact ih
theorem KT.O6 {H : Hp} {kvs : List (List Key × V)} {xs : List (List Key × Addr × Value)} (r : KT H kvs xs) (k : List Key) {y : V} {u : Value} (ry : RelV y u) :
  KT H (kvs.map fun kv => if kv.1 = k then (kv.1, y) else kv) (xs.map (putAt k u)) := by
 induction r with
 | nil => exact .nil
 | @cons p q ps qs h t ih =>
  rw [List.map_cons, List.map_cons]
  refine .cons ?_ ih
  obtain ⟨h1, h2, h3⟩ := h
  unfold putAt
  by_cases e : p.1 = k
  ·rw [if_pos e, if_pos (h1.symm.trans e)]; exact ⟨h1, h2, ry⟩
  ·rw [if_neg e, if_neg (fun z => e (h1.trans z))]; exact ⟨h1, h2, h3⟩
theorem KT.put {H : Hp} {kvs : List (List Key × V)} {xs : List (List Key × Addr × Value)} (r : KT H kvs xs) (k : List Key) {b : Addr} {y : V} {u : Value} (hb : H b = some (.tup (k.map kV))) (ry : RelV y u) :
  KT H (putK kvs k y) (storedH xs k b u) := by
 have e : (kvs.any fun kv => decide (kv.1 = k)) = (atKey xs k).isSome := by
  rw [jh, (r.val k).qg, Option.isSome_map]
 unfold putK storedH
 rw [e]
 by_cases q : (atKey xs k).isSome = true
 ·rw [if_pos q, if_pos q]; exact r.O6 k ry
 ·rw [if_neg q, if_neg q]; exact Paired.snoc r ⟨rfl, hb, ry⟩
theorem KT.keeps {H H' : Hp} {kvs : List (List Key × V)} {xs : List (List Key × Addr × Value)} (r : KT H kvs xs) (ht : ∀ b ys, H b = some (.tup ys) → H' b = some (.tup ys)) : KT H' kvs xs :=
 Paired.bQ r fun _ _ z => ⟨z.1, ht _ _ z.2.1, z.2.2⟩
section
variable {P : Program} {w : World} {H : Hp} {h : Heap} {a : Addr}
theorem NT {u : HO} (ok : nh P w H h) (e : Rd H a u) : cn P w H h a u := e.ok ok
theorem xY {kvs : List (Key × V)} (ok : nh P w H h) (e : Rd H a (.dK kvs)) : kvs.length ≤ sizeLine ∧ (a == sysModules) = false ∧ ∃ vs, KV kvs vs ∧ h.DictOf (bE P w) a vs :=
 show cn P w H h a (.dK kvs) from NT ok e
theorem NU {kvs : List (Key × V)} (ok : nh P w H h) (e : H a = some (.dK kvs)) : kvs.length ≤ sizeLine ∧ (a == sysModules) = false ∧ ∃ vs, KV kvs vs ∧ h.DictOf (bE P w) a vs := xY ok (.inl e)
theorem tV {ks : List Key} (ok : nh P w H h) (e : H a = some (.tup (ks.map kV))) : (tupleKind (bE P w)).is h ks a := by
 obtain ⟨_, its, r, o, h1, h2, n, h3⟩ := (show cn P w H h a (.tup (ks.map kV)) from ok a _ e)
 exact ⟨o, its.toArray, n, h1, h2, h3, by simpa using xX r⟩
theorem xZ {kvs : List (List Key × V)} (ok : nh P w H h) (e : Rd H a (.dT kvs)) : kvs.length ≤ sizeLine ∧ (a == sysModules) = false ∧
  ∃ xs, KT H kvs xs ∧ h.DictOfH (tupleKind (bE P w)) a xs := by
 obtain ⟨z, y, xs, r, o, es, ep, h1, h2, h3, h4, h5⟩ := (show cn P w H h a (.dT kvs) from NT ok e)
 refine ⟨z, y, xs, r, o, es, ep, h1, h2, h3, h4, fun x hx => ?_, h5⟩
 have all : ∀ {l : List (List Key × V)} {m : List (List Key × Addr × Value)}, KT H l m → ∀ x ∈ m, (tupleKind (bE P w)).is h x.1 x.2.1 := by
  intro l m q
  induction q with
  | nil => intro x hx; exact nomatch hx
  | @cons p q ps qs hq t ih =>
   intro x hx
   rcases List.mem_cons.mp hx with e | hx
   ·subst e
    exact tV ok (by rw [← hq.1]; exact hq.2.1)
   ·exact ih x hx
 exact all r x hx
theorem RQ {kvs : List (List Key × V)} (ok : nh P w H h) (e : H a = some (.dT kvs)) : kvs.length ≤ sizeLine ∧ (a == sysModules) = false ∧
  ∃ xs, KT H kvs xs ∧ h.DictOfH (tupleKind (bE P w)) a xs := xZ ok (.inl e)
end
def jI (H : Hp) (a : Addr) (y : V) (r : Option V) : Prop :=
 (∃ kvs k, Rd H a (.dK kvs) ∧ y = kV k ∧ r = bF kvs k) ∨ ∃ kvs k b, Rd H a (.dT kvs) ∧ y = .ref b ∧ H b = some (.tup (k.map kV)) ∧ r = bF kvs k
def G8 (H : Hp) (a : Addr) (y v : V) (H' : Hp) : Prop :=
 (∃ kvs k, H a = some (.dK kvs) ∧ y = kV k ∧ kvs.length < sizeLine ∧ H' = upd H a (.dK (putK kvs k v))) ∨
 ∃ kvs k b, H a = some (.dT kvs) ∧ y = .ref b ∧ H b = some (.tup (k.map kV)) ∧ kvs.length < sizeLine ∧ H' = upd H a (.dT (putK kvs k v))
theorem jI.k {H : Hp} {a : Addr} {kvs : List (Key × V)} {k : Key} (e : H a = some (.dK kvs)) : jI H a (kV k) (bF kvs k) := .inl ⟨kvs, k, .inl e, rfl, rfl⟩
theorem G8.k {H : Hp} {a : Addr} {kvs : List (Key × V)} {k : Key} {v : V} (e : H a = some (.dK kvs)) (hl : kvs.length < sizeLine) : G8 H a (kV k) v (upd H a (.dK (putK kvs k v))) := .inl ⟨kvs, k, e, rfl, hl, rfl⟩
section
variable {X : Cx} {pins : List (Addr × Obj)} {σ : St} {H : Hp} {s : Shared} {a : Addr} {y v : V} {u r : Value} {o : Option V} {A : Around} {E : Value → Shared → Prop}
theorem Inv.big (I : Inv X pins σ H s) : sysModules < s.heap.objs.size := by
 have h : mainGlobals < s.heap.objs.size := (I.mod.glob.keeps I.bk).lt
 exact Nat.lt_trans (by decide) h
theorem G9 {Q : Value → Shared → Prop} (hu : A.units + 1 < cLine) (I : Inv X pins σ H s) (g : jI H a y (some v)) (ry : RelV y u) (h : ∀ w' s', Inv X pins σ H s' → RelV v w' → Q w' s') :
  wpAny (model X.prog X.w) A (getItem (.ref a) u) Q E s := by
 rcases g with ⟨kvs, k, e, ey, l⟩ | ⟨kvs, k, b, e, ey, eb, l⟩
 ·subst ey
  obtain ⟨z, hd, vs, rel, dd⟩ := xY I.bt e
  obtain ⟨w', hw, DQ⟩ := kW.some_of (v := v) (o := valueAt vs k) (by rw [l]; exact rel.val k)
  exact wpAny_getItem_of (xW ry) dd.mapOf hw (h w' _ (I.tok _) DQ)
 ·subst ey
  cases (show u = Value.ref b from ry)
  obtain ⟨z, hd, xs, rel, dd⟩ := xZ I.bt e
  obtain ⟨w', hw, DQ⟩ := kW.some_of (v := v) (o := (atKey xs k).map (·.2)) (by rw [l]; exact rel.val k)
  obtain ⟨p, hp, IC⟩ := Option.map_eq_some_iff.mp hw
  refine wpAny_getItem_heap (tupleKind_room_in1 hu) (tV I.bt eb) dd hp ?_
  rw [IC]
  exact h w' _ (I.tok _) DQ
theorem My {Q : Value → Shared → Prop} (hu : A.units + 1 < cLine) (I : Inv X pins σ H s) (g : jI H a y o) (ry : RelV y u) (h : ∀ s', Inv X pins σ H s' → Q (.bool (!o.isSome)) s') :
  wpAny (model X.prog X.w) A (compareOp .NotIn u (.ref a)) Q E s := by
 rcases g with ⟨kvs, k, e, ey, l⟩ | ⟨kvs, k, b, e, ey, eb, l⟩
 ·subst ey
  obtain ⟨z, hd, vs, rel, dd⟩ := xY I.bt e
  refine wpAny_notIn_of (xW ry) hd dd.mapOf ?_
  rw [← (rel.val k).qg, ← l]
  exact h _ (I.tok _)
 ·subst ey
  cases (show u = Value.ref b from ry)
  obtain ⟨z, hd, xs, rel, dd⟩ := xZ I.bt e
  refine wpAny_notIn_heap (tupleKind_room_in1 hu) (tV I.bt eb) hd dd ?_
  have q := (rel.val k).qg
  rw [Option.isSome_map] at q
  rw [← q, ← l]
  exact h _ (I.tok _)
theorem FV {h' : Heap} {t' : Nat} {ob : HO} (I : Inv X pins σ H s) (mu : QT (H a)) (hs : Heap.SameBut a s.heap h') (he : ∃ q, h'.get? a = some q) (new : cn X.prog X.w (upd H a ob) h' a ob) :
  Inv X pins σ (upd H a ob) { s with heap := h', toks := t' } :=
 I.write (x := a) (e := a) mu (.inl rfl) (fun b q hb z => (hs.2 b hb).trans z) he new
theorem O7 {P : Program} {w : World} {H' : Hp} {h' : Heap} {kvs : List (Key × V)} {vs : List (Key × Value)} (z : kvs.length ≤ sizeLine) (hd : (a == sysModules) = false) (rel : KV kvs vs) (dd : h'.DictOf (bE P w) a vs) :
  cn P w H' h' a (.dK kvs) := ⟨z, hd, vs, rel, dd⟩
theorem Ha {H' : Hp} {Q : Unit → Shared → Prop} (hu : A.units + 1 < cLine) (I : Inv X pins σ H s) (g : G8 H a y v H') (ry : RelV y u) (rv : RelV v r) (h : ∀ s', Inv X pins σ H' s' → Q () s') :
  wpAny (model X.prog X.w) A (setItem (.ref a) u r) Q E s := by
 rcases g with ⟨kvs, k, e, ey, l, eH⟩ | ⟨kvs, k, b, e, ey, eb, l, eH⟩
 ·subst ey eH
  obtain ⟨z, hd, vs, rel, dd⟩ := NU I.bt e
  have hz : vs.length ≤ sizeLine := by rw [← rel.length]; exact z
  have hl : (putK kvs k v).length ≤ sizeLine := by have := k9 kvs k v; omega
  refine wpAny_setItem_pairs (hsz := hz) (xW ry) dd fun h' Vc hs => h _ ?_
  have he : ∃ q, h'.get? a = some q := let ⟨q, _, _, hq, _⟩ := Vc; ⟨q, hq⟩
  exact FV I (by rw [e]; exact True.intro) hs he (O7 hl hd (rel.put k rv) Vc)
 ·subst ey eH
  cases (show u = Value.ref b from ry)
  obtain ⟨z, hd, xs, rel, dd⟩ := RQ I.bt e
  have hz : xs.length ≤ sizeLine := by rw [← Paired.length rel]; exact z
  have hl : (putK kvs k v).length ≤ sizeLine := by have := k9 kvs k v; omega
  refine wpAny_setItem_heap (hsz := hz) (tupleKind_room_in1 hu) (tV I.bt eb) dd fun h' Vc hs => h _ ?_
  obtain ⟨q, es, ep, hq, h2, h3, h4, _, h5⟩ := Vc
  refine FV I (by rw [e]; exact True.intro) hs ⟨q, hq⟩ ⟨hl, hd, _, (rel.put k eb rv).keeps fun c ys ec => ?_, q, es, ep, hq, h2, h3, h4, h5⟩
  rw [aq (BL ec e (fun z => nomatch z))]
  exact ec
end
section
variable {X : Cx} {pins : List (Addr × Obj)} {σ : St} {H : Hp} {s : Shared} {a : Addr} {kvs : List (Key × V)} {k : Key} {u : Value} {A : Around} {E : Value → Shared → Prop}
end
def RR (i : Expr) : Prop := ∀ ov iv, subscripted i false ov iv = operate [ov, iv] (getItem ov iv)
theorem Mz {prog : Program} {w : World} {A : Around} {E : Value → Shared → Prop} {s : Shared} {env : Env} {value slice : Expr} {pos : Pos} {T id : String} {Q : Value → Shared → Prop}
  (hl : typeLookup (.type T) "__getitem__" = pure (some (.builtin id))) (hs : RR slice)
  (h : wpAny (model prog w) A (eval value env) (fun o s₁ => wpAny (model prog w) A (eval slice env) (fun i s₂ => s₂.TypeIs o T ∧ wpAny (model prog w) A (getItem o i) Q E s₂) E s₁) E s) :
  wpAny (model prog w) A (eval (.Subscript value slice pos) env) Q E s := by
 refine Subscript_ (wpAny_mono h (fun o s₁ h₁ => wpAny_mono h₁ (fun i s₂ h₂ => ?_) fun _ _ x => x) fun _ _ x => x)
 obtain ⟨hT, h₂⟩ := h₂
 unfold subscriptTail
 refine wpAny_bind ?_
 rw [getitemInPython_of_ne hT.not_modules]
 refine wpAny_bind (wpAny_specialOf hT hl ?_)
 have fin : wpAny (model prog w) A (subscripted slice false o i) (fun r s₃ => wpAny (model prog w) A (letTemporaryGo value o r >>= fun _ => pure r) Q E s₃) E s₂ := by
  rw [hs o i]
  exact wpAny_operating (wpAny_mono h₂ (fun r s₃ h₃ => wpAny_bind (wpAny_letTemporaryGo (wpAny_pure h₃))) fun _ _ x => x)
 first
  | exact wpAny_pure (wpAny_bind fin)
  | exact wpAny_bind (wpAny_pure (wpAny_bind fin))
  | exact wpAny_bind fin
theorem BZ {X : Cx} {pins : List (Addr × Obj)} {σ : St} {H : Hp} {s : Shared} {a : Addr} {y : V} {o : Option V} (I : Inv X pins σ H s) (g : jI H a y o) : s.TypeIs (.ref a) "dict" := by
 rcases g with ⟨kvs, k, e, _, _⟩ | ⟨kvs, k, b, e, _, _, _⟩
 ·obtain ⟨_, _, vs, _, dd⟩ := xY I.bt e
  exact dd.typeIs
 ·obtain ⟨_, _, xs, _, dd⟩ := xZ I.bt e
  exact dd.typeIs
def RT (td ty : TE) : TE := fun σ H Q => td σ H fun x H1 => ty σ H1 fun y H2 => ∃ a v, x = .ref a ∧ jI H2 a y (some v) ∧ Q v H2
def MA (ty td : TE) : TE := fun σ H Q => ty σ H fun y H1 => td σ H1 fun x H2 => ∃ a o, x = .ref a ∧ jI H2 a y o ∧ Q (.bl (!o.isSome)) H2
def RU (td ty tv : TE) : TS := fun D σ H => tv σ H fun v H1 => td σ H1 fun x H2 => ty σ H2 fun y H3 => ∃ a H4, x = .ref a ∧ G8 H3 a y v H4 ∧ D.nx σ H4
section
variable {X : Cx} {o i e value : Expr} {pos pos' Ja : Pos} {td ty tv : TE}
theorem MB (hu : X.A.units + 1 < cLine) (ho : PE X o td) (hi : PE X i ty) (hs : RR i) : PE X (.Subscript o i pos) (RT td ty) := by
 intro pins s σ H Q I h
 refine Mz PySem.F.slot_dict_getitem.lookup hs (thn (ho pins s σ H _ I h) fun u s1 ⟨x, H1, I1, rx, q1⟩ => thn (hi pins s1 σ H1 _ I1 q1) fun iv s2 ⟨y, H2, I2, ry, a, v, ex, g, q2⟩ => ?_)
 subst ex
 obtain rfl : u = Value.ref a := rx
 exact ⟨BZ I2 g, G9 hu I2 g ry fun w' s3 I3 DQ => ⟨v, H2, I3, DQ, q2⟩⟩
theorem qh (hu : X.A.units + 1 < cLine) (hi : PE X i ty) (ho : PE X o td) : PC X .NotIn i o (MA ty td) := by
 intro pins s σ H Q I h
 refine thn (hi pins s σ H _ I h) fun iv s1 ⟨y, H1, I1, ry, q1⟩ => thn (ho pins s1 σ H1 _ I1 q1) fun u s2 ⟨x, H2, I2, rx, a, ov, ex, g, q2⟩ => ?_
 subst ex
 obtain rfl : u = Value.ref a := rx
 exact My hu I2 g ry fun s3 I3 => ⟨.bl (!ov.isSome), H2, I3, rfl, q2⟩
theorem FW (hu : X.A.units + 1 < cLine) (ho : PE X o td) (hi : PE X i ty) (hv : PE X value tv) (hs : swapsWith value (some (.Subscript o i pos')) pos.line X.env = pure false) :
  PS X (.Assign [.Subscript o i pos'] value pos) (RU td ty tv) := by
 intro pins s σ H D I h
 refine wpAny_Assign_Subscript (thn (hv pins s σ H _ I h) fun r s1 ⟨v, H1, I1, rv, q1⟩ => thn (ho pins s1 σ H1 _ I1 q1) fun u s2 ⟨x, H2, I2, rx, q2⟩ => thn (hi pins s2 σ H2 _ I2 q2) fun iv s3 ⟨y, H3, I3, ry, a, H4, ex, g, q3⟩ => ?_) hs
 subst ex
 obtain rfl : u = Value.ref a := rx
 exact Ha hu I3 g ry rv fun s4 I4 => ⟨σ, H4, I4, q3⟩
end
theorem Jt {P : Program} {w : World} {H : Hp} (h : Heap) (hb : sysModules < h.objs.size) : cn P w H (h.push { cls := .type "dict", data := .dict #[] }) h.objs.size (.dK []) :=
 ⟨Nat.zero_le _, beq_eq_false_iff_ne.mpr (Ne.symm (Nat.ne_of_lt hb)), [], .nil, Heap.DictOf.new h⟩
def O8 : TE := fun _ H Q => ∀ p, H p = none → Q (.ref p) (upd H p (.dK []))
section
variable {X : Cx} {pos : Pos}
theorem B1 : PE X (.Dict [] [] pos) O8 := fun pins s σ H Q I h =>
 wpAny_Dict_empty ⟨.ref s.heap.objs.size, _, I.laid (a := s.heap.objs.size) (o := .dK []) (t' := s.toks) (fun _ _ q => Heap.get?_push_of_some _ q) (Nat.le_refl _) (Jt s.heap I.big), rfl, h _ (I.bt.fresh (Nat.le_refl _))⟩
end
abbrev VV : List (V × V) → List (Value × Value) → Prop := Paired fun p q => RelV p.1 q.1 ∧ RelV p.2 q.2
def iy (kvs more : List (Key × V)) : List (Key × V) := more.foldl (fun acc kv => putK acc kv.1 kv.2) kvs
structure M1 (X : Cx) (o : Expr) (m : Str) (apos : Pos) (e : Expr) (cpos : Pos) : Prop where
 base : attributeBase o m X.env (eval o X.env) = eval o X.env
 few : ((backTo cpos (starEach [e] X.env)).all (fun x => !x.1) && (backToKw cpos (keywordEach [] X.env)).all (fun x => x.1.isSome)
  && decide (([e] : List Expr).length + ([] : List Keyword).length + (if ([] : List Keyword).isEmpty then 0 else 1) < 30)) = true
 line : (apos.endLine == cpos.line) = true
 trees : backTo cpos (starEach [e] X.env) = [(false, eval e X.env)]
structure M2 (X : Cx) (o : Expr) (m : Str) (apos : Pos) (e f : Expr) (cpos : Pos) : Prop where
 base : attributeBase o m X.env (eval o X.env) = eval o X.env
 few : ((backTo cpos (starEach [e, f] X.env)).all (fun x => !x.1) && (backToKw cpos (keywordEach [] X.env)).all (fun x => x.1.isSome)
  && decide (([e, f] : List Expr).length + ([] : List Keyword).length + (if ([] : List Keyword).isEmpty then 0 else 1) < 30)) = true
 line : (apos.endLine == cpos.line) = true
 trees : backTo cpos (starEach [e, f] X.env) = [(false, eval e X.env), (false, eval f X.env)]
def RV (H : Hp) (a : Addr) : Prop := (∃ kvs, Rd H a (.dK kvs)) ∨ ∃ kvs, Rd H a (.dT kvs)
theorem MC {X : Cx} {pins : List (Addr × Obj)} {σ : St} {H : Hp} {s : Shared} {a : Addr} (I : Inv X pins σ H s) (d : RV H a) :
  s.TypeIs (.ref a) "dict" ∧ (∀ b, Value.ref a = .ref b → ∃ ob, s.heap.get? b = some ob ∧ ob.dict = none) ∧ (a == sysModules) = false := by
 rcases d with ⟨kvs, e⟩ | ⟨kvs, e⟩
 ·obtain ⟨_, hd, vs, _, dd⟩ := xY I.bt e
  refine ⟨dd.typeIs, fun b q => ?_, hd⟩
  cases q
  obtain ⟨ob, _, _, h1, h2, _⟩ := dd
  exact ⟨ob, h1, h2.2.1⟩
 ·obtain ⟨_, hd, xs, _, dd⟩ := xZ I.bt e
  refine ⟨dd.typeIs, fun b q => ?_, hd⟩
  cases q
  obtain ⟨ob, _, _, h1, h2, _⟩ := dd
  exact ⟨ob, h1, h2.2.1⟩
section
variable {X : Cx} {pins : List (Addr × Obj)} {σ : St} {H : Hp} {s : Shared} {a : Addr} {y d : V} {u r : Value} {o : Option V} {A : Around} {E : Value → Shared → Prop}
theorem O9 {Q : Value → Shared → Prop} (hu : A.units + 1 < cLine) (I : Inv X pins σ H s) (g : jI H a y o) (ry : RelV y u) (rd : RelV d r) (h : ∀ w' s', Inv X pins σ H s' → RelV (o.getD d) w' → Q w' s') :
  wpAny (model X.prog X.w) A (call (.builtin "dict.get") [.ref a, u, r]) Q E s := by
 rcases g with ⟨kvs, k, e, ey, l⟩ | ⟨kvs, k, b, e, ey, eb, l⟩
 ·subst ey
  obtain ⟨z, hd, vs, rel, dd⟩ := xY I.bt e
  refine call_meetsIn PySem.F.slot_dict_get dd.typeIs PySem.F.entry_dict_get (PySem.F.args_dict_get_3 _ _ _) (meets_dict_get_default (bE X.prog X.w) a (xW ry) hd r) ⟨_, dd.mapOf, h _ _ (I.tok _) ?_⟩
  rw [l]
  exact (rel.val k).getD rd
 ·subst ey
  cases (show u = Value.ref b from ry)
  obtain ⟨z, hd, xs, rel, dd⟩ := xZ I.bt e
  refine call_meetsIn PySem.F.slot_dict_get dd.typeIs PySem.F.entry_dict_get (PySem.F.args_dict_get_3 _ _ _) (meetsH_dict_get_default (tupleKind (bE X.prog X.w)) a b hd r) ⟨tupleKind_room_in1 hu, k, xs, tV I.bt eb, dd, h _ _ (I.tok _) ?_⟩
  rw [l]
  exact (rel.val k).getD rd
end
def Pa (td ty tx : TE) : TE := fun σ H Q => td σ H fun x H1 => ∃ a, x = .ref a ∧ RV H1 a ∧ ty σ H1 fun y H2 => tx σ H2 fun z H3 => ∃ o, jI H3 a y o ∧ Q (o.getD z) H3
section
variable {X : Cx} {o e f : Expr} {apos cpos : Pos} {td ty tx : TE}
theorem la (hu : X.A.units + 1 < cLine) (ho : PE X o td) (he : PE X e ty) (hf : PE X f tx) (m : M2 X o "get" apos e f cpos) : PE X (.Call (.Attribute o "get" apos) [e, f] [] cpos) (Pa td ty tx) := by
 intro pins s σ H Q I h
 refine wpAny_Call_method m.base m.few m.line PySem.F.plainAttrs_dict PySem.F.slot_dict_get PySem.F.type_dict_get (thn (ho pins s σ H _ I h) fun u s1 ⟨x, H1, I1, rx, a, ex, d, q1⟩ => ?_)
 subst ex
 obtain rfl : u = Value.ref a := rx
 obtain ⟨t1, t2, _⟩ := MC I1 d
 refine ⟨t1, t2, ?_⟩
 rw [m.trees]
 refine Calls.callWith_builtin rfl (Calls.evalArgs_plain (Calls.spliced_cons (thn (he pins s1 σ H1 _ I1 q1) fun iv s2 ⟨y, H2, I2, ry, q2⟩ =>
  Calls.spliced_cons (thn (hf pins s2 σ H2 _ I2 q2) fun fv s3 ⟨z, H3, I3, rz, ov, g, q3⟩ => Calls.spliced_nil ?_))))
 exact O9 hu I3 g ry rz fun w' s4 I4 DQ => ⟨_, H3, I4, DQ, q3⟩
end
section
variable {X : Cx} {pins : List (Addr × Obj)} {σ : St} {H : Hp} {s : Shared} {a : Addr} {kvs : List (Key × V)} {A : Around} {E : Value → Shared → Prop}
end
section
variable {X : Cx} {pins : List (Addr × Obj)} {σ : St} {H : Hp} {s : Shared} {a : Addr} {y : V} {u : Value} {A : Around} {E : Value → Shared → Prop}
end
end L2
namespace L2
open PySem PySem.Spec PyProof.Rows
section
variable {X : Cx}
end
section
variable {κ : Type} [DecidableEq κ]
theorem MD {kvs : List (κ × V)} {k : κ} {v : V} (h : bF kvs k = some v) : k ∈ kvs.map (·.1) := by
 have q : (kvs.any fun kv => decide (kv.1 = k)) = true := by
  rw [jh, h]
  all_goals rfl
 obtain ⟨p, hp, e⟩ := List.any_eq_true.mp q
 exact List.mem_map.mpr ⟨p, hp, of_decide_eq_true e⟩
end
end L2
namespace L2
open PySem PySem.Spec PyProof.Rows
theorem Pb {prog : Program} {w : World} {A : Around} {E : Value → Shared → Prop} {s : Shared} {a : Addr} {o : Obj} {xs : Array Value} {k : Nat} {Q : Option Value → Shared → Prop}
  (hx : s.heap.get? a = some o) (hc : o.cls = .type "list") (RX : o.data = .seq xs k) (hd : o.dict = none) (hA : A.handled = none)
  (h : ∀ h' tk e, Heap.NewExcOf s.heap h' e "AttributeError" → Q none { s with heap := h', toks := tk }) :
  wpAny (model prog w) A (getAttr? (.ref a) "keys") Q E s := by
 obtain ⟨c, dct, dat, sl⟩ := o
 simp only at hc RX hd
 subst hc RX hd
 obtain ⟨hp, g, d, tk, os⟩ := s
 have hT : ∀ tk', (⟨hp, g, d, tk', os⟩ : Shared).TypeIs (.ref a) "list" := fun _ => ⟨_, hx, rfl⟩
 have f1 := sub_AttributeError
 have f3 := PySem.F.slot_list_getattribute.lookup
 have f4 := PySem.F.slot_list_getattribute.bind (.ref a)
 have f5 := am_list_getattr_none
 have hmiss : typeLookup (.type "list") "keys" = pure none := by rw [typeLookup_type, builtinLookup_eq_fast]; kernel_rfl
 unfold getAttr? getAttrBy? getAttrBy
 repeat (any_goals (first | assumption | exact hT _ | ((with_reducible show wpAny _ _ (call (Value.builtin "list.__getattribute__") _ _) _ _ _); refine call_meets PySem.F.slot_list_getattribute (hT _) am_entry_list_getattribute (PySem.F.args_list_getattribute_2 _ _) (meets_getattribute_miss_list a xs k sl "keys" _ hmiss (by decide +kernel) (by decide)) ⟨hx, hA, fun h' tk' e hx' => ?_⟩) | wp_step))
 obtain ⟨t', u', he⟩ := hx'.there
 show wpAny _ _ (getattributeRaised _ _ _ _ _ _ _) _ _ _
 unfold getattributeRaised
 repeat (any_goals (first | assumption | wp_step))
 exact h _ _ _ hx'.of
end L2
namespace L2
open PySem PySem.Spec PyProof.Rows
theorem entry_dul : entryFor table "dict.update.loop" = some Builtin.«dict.update.loop» := entryFor_of_tree (by kernel_rfl)
theorem plain_dul : plainId "dict.update.loop" = true := by decide +kernel
theorem paired_at {α β : Type} {F : α → β → Prop} : ∀ {l1 : List α} {l2 : List β}, Paired F l1 l2 → ∀ i (h1 : i < l1.length) (h2 : i < l2.length), F l1[i] l2[i]
 | _, _, .cons h _, 0, _, _ => h
 | _, _, .cons _ t, i + 1, h1, h2 => paired_at t i (by simpa using h1) (by simpa using h2)
theorem tW : ∀ (ps : List (Key × V)), (iy [] ps).length ≤ ps.length := by
 have key : ∀ (ps acc : List (Key × V)), (iy acc ps).length ≤ acc.length + ps.length := by
  intro ps
  induction ps with
  | nil => intro acc; exact Nat.le_refl _
  | cons p r ih =>
   intro acc
   have z := ih (putK acc p.1 p.2)
   have z2 : (putK acc p.1 p.2).length ≤ acc.length + 1 := k9 acc p.1 p.2
   show (iy (putK acc p.1 p.2) r).length ≤ _
   rw [List.length_cons]
   omega
 intro ps
 have z := key ps []
 simpa using z
section
variable {X : Cx} {pins : List (Addr × Obj)} {σ : St} {H : Hp} {s : Shared} {a it l : Addr} {ys : List V} {its : List Value} {ps : List (Key × V)}
def FX (K : PySem.W.Frag) (H : Hp) (ps : List (Key × V)) (ys : List V) : Prop := Paired (fun (p : Key × V) (y : V) => ∃ t, y = .ref t ∧ cP K H t [kV p.1, p.2]) ps ys
theorem ME {A : Around} {R : Result → Shared → Prop} (I : Inv X pins σ H s) (hh : A.handled = none) (hl : s.heap.IsList l its.toArray) (rv : Vals ys its) (hP : FX X.K H ps ys) (hlen : ps.length ≤ 100000)
  (ha : s.heap.objs.size ≤ a) (WD : s.heap.objs.size ≤ it) (ni : a ≠ it)
  (fin : ∀ h' tk vs, (∀ b o, s.heap.get? b = some o → h'.get? b = some o) → h'.DictOf (bE X.prog X.w) a vs → KV (iy [] ps) vs → R (.ok (.ret .none)) { s with heap := h', toks := tk }) :
  ∀ (k i : Nat) (h' : Heap) (tk : Nat) (vs : List (Key × Value)), its.length - i = k → i ≤ its.length → (∀ b o, s.heap.get? b = some o → h'.get? b = some o) → h'.IsListIter it l i → h'.DictOf (bE X.prog X.w) a vs → KV (iy [] (ps.take i)) vs →
   wpAny (model X.prog X.w) A.in1 (Builtin.«dict.update.loop» ⟨[.ref a, .ref it, rawInt (i : Int), .none], []⟩) (fun fin s' => match fin with | .done f => R (.ok f) s' | .again c' => c'.quiet = true ∧ codeAny (model X.prog X.w) A c' R s') (fun e s' => R (.error e) s') { s with heap := h', toks := tk } := by
 have RY := rv.length
 have tN := Paired.length hP
 have lt : ∀ b o, s.heap.get? b = some o → b ≠ a ∧ b ≠ it := fun b o q => by
  exact ⟨Nat.ne_of_lt (Nat.lt_of_lt_of_le (Heap.lt_size q) ha), Nat.ne_of_lt (Nat.lt_of_lt_of_le (Heap.lt_size q) WD)⟩
 obtain ⟨ol, Vd, tX⟩ := id hl
 intro k
 induction k with
 | zero =>
  intro i h' tk vs hk hi kp hit hD hK
  obtain rfl : i = its.length := by omega
  unfold Builtin.«dict.update.loop»
  dsimp only [rawInt]
  refine wpAny_bind (wpAny_pyNext_list_end (s := { s with heap := h', toks := tk }) (A := A.in1) hh hit (show h'.IsList l its.toArray from ⟨ol, kp _ _ Vd, tX⟩) (by simp) fun h2 RZ => ?_)
  dsimp only
  have nV : h2.DictOf (bE X.prog X.w) a vs := hD.extBut RZ ni
  show wpAny _ _ (Builtin.Dict.addKeywords a [] >>= _) _ _ _
  refine wpAny_bind (wpAny_pure (wpAny_pure ?_))
  exact fin h2 tk vs (fun b o q => RZ b o (lt b o q).2 (kp b o q)) nV (by rw [← RY, ← tN, List.take_length] at hK; exact hK)
 | succ k ih =>
  intro i h' tk vs hk hi kp hit hD hK
  have R0 : i < its.length := by omega
  have YR : i < ps.length := by omega
  unfold Builtin.«dict.update.loop»
  dsimp only [rawInt]
  refine wpAny_bind (wpAny_pyNext_list_item (s := { s with heap := h', toks := tk }) (x := its[i]) hit (show h'.IsList l its.toArray from ⟨ol, kp _ _ Vd, tX⟩) (by simp [R0]) fun h1 R3 Va => ?_)
  dsimp only
  have Qz : ∀ b o, s.heap.get? b = some o → h1.get? b = some o := fun b o q => (Va.2 b (lt b o q).2).trans (kp b o q)
  have I1 : Inv X pins σ H { s with heap := h1, toks := tk } := I.kept Qz
  have Ve : h1.DictOf (bE X.prog X.w) a vs := hD.sameBut Va ni
  obtain ⟨u1, f1, q1⟩ := rv.get (i := i) (x := ys[i]'(by omega)) (by simp)
  have eu : its[i] = u1 := (List.getElem?_eq_some_iff.mp f1).2
  obtain ⟨t, et, hq⟩ : ∃ t, ys[i]'(by omega) = .ref t ∧ cP X.K H t [kV (ps[i]).1, (ps[i]).2] := by
   have z := hP
   unfold FX at z
   exact paired_at z i YR (by omega)
  rw [et] at q1
  have eu2 : its[i] = .ref t := by rw [eu]; exact q1
  rw [eu2]
  obtain ⟨itt, rt, pl, _⟩ := I1.tuple hq
  obtain ⟨uk, uv, rfl, rk, rvv⟩ := vals2 rt
  obtain ⟨ot, YS, hct, n, hdt⟩ := id pl
  have hTt : Shared.TypeIs { s with heap := h1, toks := tk } (.ref t) "tuple" := ⟨ot, YS, hct⟩
  refine wpAny_bind (wpAny_holding (wpAny_bind ?_))
  have hpi : ∀ {E' : Value → Shared → Prop} {Q' : List Value → Shared → Prop}, Q' [uk, uv] { s with heap := h1, toks := tk } → wpAny (model X.prog X.w) A.in1 (Builtin.Dict.pairItems (.ref t)) Q' E' { s with heap := h1, toks := tk } := fun {E' Q'} GY => by
   unfold Builtin.Dict.pairItems
   refine wpAny_bind (wpAny_typeOf hTt ?_)
   rw [if_pos (by decide)]
   refine wpAny_bind (wpAny_seqItems YS hdt (wpAny_pure ?_))
   exact GY
  refine wpAny_tryCatch (hpi ?_)
  dsimp only
  have hsz : vs.length ≤ sizeLine := by
   have z := hK.length
   have z2 := tW (ps.take i)
   rw [List.length_take] at z2
   exact Nat.le_trans (show vs.length ≤ 100000 by omega) (show 100000 ≤ sizeLine by rw [sizeLine_eq]; decide)
  refine wpAny_holding (wpAny_dictSet_pairs (hsz := hsz) (xW rk) Ve fun h2 nV R5 => ?_)
  have NV : ∀ b o, s.heap.get? b = some o → h2.get? b = some o := fun b o q => (R5.2 b (lt b o q).1).trans (Qz b o q)
  have Pc : h2.IsListIter it l (i + 1) := by
   obtain ⟨o, ho, r⟩ := R3
   exact ⟨o, (R5.2 it (Ne.symm ni)).trans ho, r⟩
  refine wpAny_pure ?_
  refine ⟨plainId_quiet plain_dul _, codeAny_builtin entry_dul ?_⟩
  rw [Around.under_plainId plain_dul _]
  refine ih (i + 1) h2 (tk + 1) _ (by omega) (by omega) NV Pc nV ?_
  rw [List.take_succ_eq_append_getElem YR]
  unfold iy
  rw [List.foldl_append]
  exact hK.put _ rvv
theorem rX (hc : X.calm = true) : jf X (.type "dict") (fun xs H Q => ∃ (l : Addr) (ys : List V) (ps : List (Key × V)), xs = [.ref l] ∧ H l = some (.lst ys) ∧ FX X.K H ps ys ∧ ps.length ≤ 100000 ∧ ∀ d, H d = none → Q (.ref d) (upd H d (.dK (iy [] ps)))) := by
 intro pins s σ H xs us Q I r h
 obtain ⟨l, ys, ps, rfl, hl, hP, hlen, q⟩ := h
 obtain ⟨u, rfl, ru⟩ := vals1 r
 cases (show u = Value.ref l from ru)
 have hh := I.ok.hd hc
 obtain ⟨hz, its, n, rv, hg⟩ := (show cn X.prog X.w H s.heap l (.lst ys) from I.bt l _ hl)
 have hf : H s.heap.objs.size = none := I.bt.fresh (Nat.le_refl _)
 refine callType_codes (Q₁ := fun obj s₁ => obj = .ref s.heap.objs.size ∧ s₁ = { s with heap := s.heap.push { cls := .type "dict", data := .dict #[] } }) PySem.F.kt_called_dict (PySem.F.kt_typeCall_dict_1 _) PySem.F.entry_dict_init (kt_code_dict_new _ ⟨rfl, rfl⟩) ?_
 rintro obj s₁ ⟨rfl, rfl⟩
 have DT : (s.heap.push { cls := .type "dict", data := .dict #[] }).DictOf (bE X.prog X.w) s.heap.objs.size [] := Heap.DictOf.new s.heap
 refine ⟨DT.typeIs, PySem.F.args_dict_init_2 _ _, ?_⟩
 unfold Builtin.«dict.__init__»
 refine wpAny_bind ?_
 unfold Builtin.Dict.selfAndRest
 refine wpAny_bind (wpAny_notOrdered_dict DT.typeIs ?_)
 show wpAny _ _ (pure (s.heap.objs.size, [Value.ref l])) _ _ _
 refine wpAny_pure ?_
 show wpAny _ _ (Builtin.Dict.updateFrom "dict.__init__" s.heap.objs.size (.ref l) [] .none) _ _ _
 unfold Builtin.Dict.updateFrom
 have WE : (s.heap.push { cls := .type "dict", data := .dict #[] }).get? l = some { cls := .type "list", data := .seq its.toArray n } := Heap.get?_push_of_some _ hg
 refine wpAny_bind (wpAny_typeOf (T := "list") ⟨_, WE, rfl⟩ ?_)
 rw [if_pos (by decide)]
 refine wpAny_bind (Pb WE rfl rfl rfl hh fun h1 YT e hx => ?_)
 rw [if_pos (show (none : Option Value).isNone = true from rfl)]
 refine wpAny_bind (wpAny_rule ?_)
 have hg2 := hx.keeps _ _ WE
 have hd2 : h1.DictOf (bE X.prog X.w) s.heap.objs.size [] := by
  obtain ⟨o, es, ep, ho, r⟩ := DT
  exact ⟨o, es, ep, hx.keeps _ _ ho, r⟩
 have R7 : s.heap.objs.size < h1.objs.size := by
  obtain ⟨o, es, ep, ho, r⟩ := hd2
  exact Heap.lt_size ho
 have rY : h1.IsList l its.toArray := ⟨_, hg2, rfl, n, rfl⟩
 refine wpAny_bind (wpAny_pyIter_list (s := { s with heap := h1, toks := YT }) rY ?_)
 refine wpAny_pure ⟨plainId_quiet plain_dul _, codeAny_builtin entry_dul ?_⟩
 rw [Around.under_plainId plain_dul _]
 have kp0 : ∀ b o, s.heap.get? b = some o → (h1.push { cls := .type "list_iterator", data := .fields #[.ref l, .int 0 0] }).get? b = some o := fun b o q => Heap.get?_push_of_some _ (hx.keeps _ _ (Heap.get?_push_of_some _ q))
 refine ME (A := X.A.in1) (its := its) (a := s.heap.objs.size) (it := h1.objs.size) I hh ⟨_, hg, rfl, n, rfl⟩ rv hP hlen (Nat.le_refl _) (Nat.le_of_lt R7) (Nat.ne_of_lt R7) (fun h' tk vs kp hD hK => ?_)
  its.length 0 (h1.push { cls := .type "list_iterator", data := .fields #[.ref l, .int 0 0] }) YT [] (by omega) (Nat.zero_le _) kp0 ⟨_, Heap.get?_push_size _ rfl, rfl, rfl⟩ (hd2.push _) .nil
 refine ⟨rfl, .ref s.heap.objs.size, upd H s.heap.objs.size (.dK (iy [] ps)), I.laid (t' := tk) kp (Nat.le_refl _) ?_, rfl, q _ hf⟩
 refine ⟨Nat.le_trans (tW ps) (Nat.le_trans hlen (by rw [sizeLine_eq]; decide)), ?_, vs, hK, hD⟩
 exact beq_eq_false_iff_ne.mpr (Nat.ne_of_gt I.big)
end
end L2
namespace L2
open PySem PySem.Spec PyProof.Rows
section
variable {X : Cx}
theorem R9 {P : Program} {w : World} {k : Key} {u : Value} (r : (bE P w).is k u = true) : RelV (kV k) u := by
 rcases bP (k := k) (v := u) r with ⟨i, t, rfl, rfl⟩ | ⟨x, t, rfl, rfl⟩
 ·exact ⟨t, rfl⟩
 ·exact ⟨t, rfl⟩
theorem yR : ∀ {xs : List V} {us : List Value}, us.length = xs.length → (∀ (j : Nat) (v : Value), us[j]? = some v → ∃ x, xs[j]? = some x ∧ RelV x v) → Vals xs us
 | [], [], _, _ => .nil
 | x :: xs, u :: us, hl, h => by
  obtain ⟨y, e, r⟩ := h 0 u rfl
  cases e
  exact .cons r (yR (by simpa using hl) fun j v e => h (j + 1) v (by simpa using e))
theorem tY (hc : X.calm = true) : jf X (.type "list") (fun xs H Q => ∃ (d : Addr) (kvs : List (Key × V)), xs = [.ref d] ∧ H d = some (.dK kvs) ∧ ∀ l, H l = none → Q (.ref l) (upd H l (.lst (kvs.map fun p => kV p.1)))) := by
 intro pins s σ H xs us Q I r h
 obtain ⟨d, kvs, rfl, hd, q⟩ := h
 obtain ⟨u, rfl, ru⟩ := vals1 r
 cases (show u = Value.ref d from ru)
 obtain ⟨hz, lo, vs, hK, hD⟩ := NU I.bt hd
 obtain ⟨o, es, ep, ho, rr⟩ := hD
 have hf : H s.heap.objs.size = none := I.bt.fresh (Nat.le_refl _)
 have hl := hK.length
 refine PySem.W.kdl_call (PySem.W.kdl_dict (knd := bE X.prog X.w) (kvs := vs) (ep := ep) lo) (I.ok.hd hc) ⟨o, es, ho, rr⟩ (by omega) fun h' tk acc c' kp hg tZ => ?_
 refine ⟨.ref s.heap.objs.size, upd H s.heap.objs.size (.lst (kvs.map fun p => kV p.1)), I.laid (t' := tk) kp (Nat.le_refl _) ?_, rfl, q _ hf⟩
 refine ⟨by rw [Lm9]; exact hz, acc.toList, c', yR ?_ fun j v e => ?_, by simpa using hg⟩
 ·rw [Lm9, Array.length_toList, tZ.1, hl]
 ·obtain ⟨k, x, e1, e2⟩ := tZ.2 j v (by rw [← Array.getElem?_toList]; exact e)
  have ek : (kvs.map (·.1))[j]? = some k := by
   rw [hK.keys, List.getElem?_map, e1]
   rfl
  rw [List.getElem?_map] at ek
  cases e3 : kvs[j]? with
  | none => rw [e3] at ek; cases ek
  | some p =>
   rw [e3] at ek
   have e4 : p.1 = k := Option.some.inj ek
   exact ⟨kV p.1, by rw [List.getElem?_map, e3]; rfl, by rw [e4]; exact R9 e2⟩
def MF (K : PySem.W.Frag) : V → List V → Hp → VK → Prop := fun x vs H Q => ∃ (p : Addr) (xs : List V) (y : V) (j : Nat), x = .ref p ∧ vs = [y] ∧ cP K H p xs ∧ eT y = true ∧ xs.all eT = true ∧ (∃ z, xs[j]? = some z ∧ v9 z y = true) ∧ (∀ m z, m < j → xs[m]? = some z → v9 z y = false) ∧ Q (.int j) H
theorem Ju : OS X "tuple.index" (MF X.K) := by
 intro pins s σ H x vs v us Q I rx rv h
 obtain ⟨p, xs, y, j, rfl, rfl, hq, fy, fx, ⟨z, ez, hz⟩, OQ, q⟩ := h
 cases (show v = Value.ref p from rx)
 obtain ⟨u, rfl, ru⟩ := vals1 rv
 obtain ⟨its, r, pl, _⟩ := I.tuple hq
 obtain ⟨⟨oc, od, dat, sl⟩, ho, hc, n, hd⟩ := id pl
 simp only at hc hd
 subst hc hd
 have hl := r.length
 have hj : j < its.toArray.size := by
  have := (List.getElem?_eq_some_iff.mp ez).1
  simp
  omega
 have at_ : ∀ m z, xs[m]? = some z → ∃ w, its[m]? = some w ∧ RelV z w := fun m z e => r.get e
 have flat : ∀ z ∈ xs, eT z = true := List.all_eq_true.mp fx
 refine call_meets PySem.F.slot_tuple_index pl.typeIs PySem.F.entry_tuple_index (PySem.F.args_tuple_index_2 _ _) (wm p its.toArray n od sl u (yN y) j hj ?_ ?_) ⟨ho, fun w hw => gv ru fy r fx w (by simpa using hw), ⟨.int j, H, I.tok _, ⟨_, rfl⟩, q⟩⟩
 ·obtain ⟨w, ew, DQ⟩ := at_ j z ez
  have e : its.toArray[j] = w := by
   have := (List.getElem?_eq_some_iff.mp ew).2
   simpa using this
  rw [e, tL DQ (flat z (List.mem_of_getElem? ez))]
  exact hz
 ·intro m hm Vf
  have WG : m < xs.length := by simp at hm; omega
  obtain ⟨w, ew, DQ⟩ := at_ m xs[m] (Ge9 WG)
  have e : its.toArray[m] = w := by
   have := (List.getElem?_eq_some_iff.mp ew).2
   simpa using this
  rw [e, tL DQ (flat _ (List.getElem_mem WG))]
  exact OQ m _ Vf (Ge9 WG)
end
end L2
namespace fZ
open PySem
abbrev iz : Str := "abcdefghijklmnopqrstuvwxyz"
abbrev qi : Str := "ABCDEFGHIJKLMNOPQRSTUVWXYZ"
abbrev MG : Str := "0123456789"
def bp (c : Nat) : Bool := decide (c ∈ iz.cps.toList) || (decide (c ∈ qi.cps.toList) || decide (c ∈ MG.cps.toList))
def Jv (c : Nat) : Bool := c == 40 || (c == 41 || c == 44)
def shut (cur : List Nat) (r : List (List Nat)) : List (List Nat) := if cur = [] then r else cur :: r
def dj : List Nat → List Nat → List (List Nat)
 | [], cur => shut cur []
 | c :: r, cur => if bp c = true then dj r (cur ++ [c]) else shut cur (if c = 32 then dj r [] else [c] :: dj r [])
def toks (l : List Nat) : List (List Nat) := dj l []
theorem t4 : ∀ (n r cur : List Nat), n.all bp = true → dj (n ++ r) cur = dj r (cur ++ n)
 | [], r, cur, _ => by simp
 | c :: n, r, cur, h => by
  rw [List.all_cons, Bool.and_eq_true] at h
  rw [List.cons_append]
  show (if bp c = true then dj (n ++ r) (cur ++ [c]) else _) = _
  rw [if_pos h.1, t4 n r _ h.2, List.append_assoc]
  rfl
def kS : List Nat → Prop
 | [] => True
 | c :: _ => bp c = false
theorem DW {r cur : List Nat} (hs : kS r) (hc : cur ≠ []) : dj r cur = cur :: toks r := by
 cases r with
 | nil =>
  show shut cur [] = cur :: shut [] []
  unfold shut
  rw [if_neg hc, if_pos rfl]
 | cons c r =>
  have MH : bp c = false := hs
  show (if bp c = true then _ else shut cur _) = cur :: (if bp c = true then _ else shut [] _)
  rw [MH, if_neg Bool.false_ne_true, if_neg Bool.false_ne_true]
  unfold shut
  rw [if_neg hc, if_pos rfl]
theorem c9 {n r : List Nat} (hn : n.all bp = true) (h0 : n ≠ []) (hs : kS r) : toks (n ++ r) = n :: toks r := by
 unfold toks
 rw [t4 n r [] hn, List.nil_append, DW hs h0]
 rfl
theorem lb : bp 32 = false := by decide +kernel
theorem MI : bp 40 = false := by decide +kernel
theorem MJ : bp 41 = false := by decide +kernel
theorem B2 : bp 44 = false := by decide +kernel
theorem dC (r : List Nat) : toks (32 :: r) = toks r := by
 show (if bp 32 = true then dj r ([] ++ [32]) else shut [] (if (32 : Nat) = 32 then dj r [] else [32] :: dj r [])) = dj r []
 rw [lb, if_neg Bool.false_ne_true, if_pos rfl]
 rfl
theorem Hb {c : Nat} (hc : Jv c = true) (r : List Nat) : toks (c :: r) = [c] :: toks r := by
 have e : c = 40 ∨ c = 41 ∨ c = 44 := by
  unfold Jv at hc
  simpa using hc
 have ha : bp c = false := by
  rcases e with e | e | e <;> rw [e]
  ·exact MI
  ·exact MJ
  ·exact B2
 have hb : c ≠ 32 := by omega
 show (if bp c = true then _ else shut [] (if c = 32 then dj r [] else [c] :: dj r [])) = _
 rw [ha, if_neg Bool.false_ne_true, if_neg hb]
 rfl
theorem fB : ∀ (k : Nat) (r : List Nat), toks (List.replicate k 32 ++ r) = toks r
 | 0, r => rfl
 | k + 1, r => by
  rw [List.replicate_succ, List.cons_append, dC, fB k r]
theorem yS (k : Nat) {r : List Nat} (h : kS r) : kS (List.replicate k 32 ++ r) := by
 cases k with
 | zero => exact h
 | succ k => exact lb
def bA (l : List Nat) : Nat := (l.takeWhile bp).length
theorem t5 {l : List Nat} (h : bA l ≠ 0) : toks l = l.take (bA l) :: toks (l.drop (bA l)) := by
 have e : l = l.takeWhile bp ++ l.dropWhile bp := (List.takeWhile_append_dropWhile).symm
 have et : l.take (bA l) = l.takeWhile bp := by
  unfold bA
  conv => lhs; arg 2; rw [e]
  rw [List.take_left']
  rfl
 have ed : l.drop (bA l) = l.dropWhile bp := by
  unfold bA
  conv => lhs; arg 2; rw [e]
  rw [List.drop_left']
  rfl
 rw [et, ed]
 conv => lhs; rw [e]
 refine c9 ?_ ?_ ?_
 ·exact List.all_takeWhile
 ·intro z
  unfold bA at h
  rw [z] at h
  exact h rfl
 ·cases q : l.dropWhile bp with
  | nil => trivial
  | cons c r =>
   have z := List.head_dropWhile_not (p := bp) (l := l) (by rw [q]; simp)
   simp only [q, List.head_cons] at z
   exact z
theorem yT {c : Nat} {r : List Nat} (h : bA (c :: r) = 0) : bp c = false := by
 unfold bA at h
 rw [List.takeWhile_cons] at h
 cases q : bp c with
 | false => rfl
 | true => rw [q] at h; simp at h
def bg (p : List Nat) : Bool := decide (1 ≤ p.length) && (decide (p.length ≤ 12) && p.all bp)
def f6 : List (List Nat) → Option (List (List Nat) × Nat)
 | n :: m :: r => if bg n = true then (if m = [41] then some ([n], 2) else if m = [44] then (f6 r).map fun q => (n :: q.1, q.2 + 2) else none) else none
 | _ => none
def between : List (List Nat) → List (List Nat)
 | [] => []
 | [a] => [a, [41]]
 | a :: r => a :: [44] :: between r
theorem nB : ∀ (as : List (List Nat)), as ≠ [] → (∀ a ∈ as, bg a = true) → f6 (between as) = some (as, (between as).length)
 | [], h, _ => absurd rfl h
 | [a], _, hn => by
  show (if bg a = true then (if ([41] : List Nat) = [41] then some ([a], 2) else _) else none) = _
  rw [if_pos (hn a (by simp)), if_pos rfl]
  rfl
 | a :: b :: r, _, hn => by
  have ih := nB (b :: r) (by simp) fun x hx => hn x (List.mem_cons_of_mem _ hx)
  show (if bg a = true then (if ([44] : List Nat) = [41] then _ else if ([44] : List Nat) = [44] then (f6 (between (b :: r))).map (fun q => (a :: q.1, q.2 + 2)) else none) else none) = _
  rw [if_pos (hn a (by simp)), if_neg (by decide), if_pos rfl, ih]
  rfl
end fZ
namespace Bk
open PySem L2 fZ
abbrev Cs := List Nat
abbrev S (p : Cs) : Str := ⟨p.toArray⟩
abbrev tx (p : Cs) : V := .str (S p)
theorem cv (p : Cs) : (S p).cps.toList = p := by simp
theorem Hc (x : Str) : S x.cps.toList = x := by cases x; simp
theorem a0 (p : Cs) : (S p).length = p.length := by simp [Str.length]
theorem yU (x : Str) : x.cps.toList.length = x.length := by simp [Str.length]
theorem x3 {a b : Cs} (h : S a = S b) : a = b := by
 have e := congrArg (fun s : Str => s.cps.toList) h
 simpa using e
theorem Jw {a b : Cs} (h : tx a = tx b) : a = b := by
 have z : S a = S b := by injection h
 exact x3 z
theorem yV (a b : Cs) : decide (tx a = tx b) = decide (a = b) := by
 rw [decide_eq_decide]
 exact ⟨Jw, fun e => by rw [e]⟩
structure Fc where
 k : Cs
 as : List Cs
structure Kd where
 n : Cs
 c : Nat
 l : Bool
structure Lk where
 same : Bool
 l : Cs
 r : Cs
structure Rl where
 title : Cs
 take : List Fc
 keep : List Fc
 dP : List Lk
 put : List Fc
 tell : List (Cs × Cs)
structure Kp (H0 H H' : Hp) : Prop where
 new : ∀ b o, H0 b = none → H b = some o → H' b = some o
 tup : ∀ b xs, H b = some (.tup xs) → H' b = some (.tup xs)
 tp : ∀ b o u, H b = some (.tp o u) → H' b = some (.tp o u)
 t6 : ∀ b, H' b = none → H b = none
theorem Kp.trans {H0 H H1 H2 : Hp} (a : Kp H0 H H1) (b : Kp H0 H1 H2) : Kp H0 H H2 :=
 ⟨fun c o n h => b.new c o n (a.new c o n h), fun c xs h => b.tup c xs (a.tup c xs h), fun c o u h => b.tp c o u (a.tp c o u h), fun c h => a.t6 c (b.t6 c h)⟩
theorem Kp.same {H0 H H' : Hp} (s : ah H H') : Kp H0 H H' := ⟨fun b o _ h => s b o h, fun b xs h => s b _ h, fun b o u h => s b _ h, fun b h => by
 cases e : H b with
 | none => rfl
 | some o => rw [s b o e] at h; cases h⟩
theorem Kp.upd {H0 H : Hp} {l : Addr} {o o' u0 : HO} (h0 : H0 l = some u0) (h : H l = some o) (nt : ∀ xs, o ≠ .tup xs) (nf : ∀ ob u, o ≠ .tp ob u) : Kp H0 H (upd H l o') := by
 refine ⟨fun b u n e => ?_, fun b xs e => ?_, fun b ob u e => ?_, fun b e => ?_⟩
 ·rw [aq (fun z => by rw [z, h0] at n; cases n)]; exact e
 ·rw [aq (fun z => by rw [z, h] at e; exact nt xs (Option.some.inj e))]; exact e
 ·rw [aq (fun z => by rw [z, h] at e; exact nf ob u (Option.some.inj e))]; exact e
 ·by_cases z : b = l
  ·rw [z, af] at e; cases e
  ·rw [aq z] at e; exact e
theorem Kp.bz {H0 H1 H H' : Hp} (k : Kp H0 H H') (d : ∀ b, H1 b = none → H0 b = none) : Kp H1 H H' := ⟨fun b o n h => k.new b o (d b n) h, k.tup, k.tp, k.t6⟩
theorem cP.keep {K : PySem.W.Frag} {H0 H H' : Hp} (k : Kp H0 H H') {a : Addr} {xs : List V} (h : cP K H a xs) : cP K H' a xs := by
 rcases h with (h | ⟨o, h⟩) | h
 ·exact .inl (.inl (k.tup _ _ h))
 ·exact .inl (.inr ⟨o, k.tp _ _ _ h⟩)
 ·exact .inr h
def Fact (K : PySem.W.Frag) (H : Hp) (f : Fc) (v : V) : Prop := ∃ t t2, v = .ref t ∧ cP K H t [tx f.k, .ref t2] ∧ cP K H t2 (f.as.map tx)
def Kind (K : PySem.W.Frag) (H : Hp) (k : Kd) (v : V) : Prop := ∃ t, v = .ref t ∧ cP K H t [tx k.n, .int k.c, .bl k.l]
def Pair (K : PySem.W.Frag) (H : Hp) (p : Cs × Cs) (v : V) : Prop := ∃ t, v = .ref t ∧ cP K H t [tx p.1, tx p.2]
theorem Fact.keep {K : PySem.W.Frag} {H0 H H' : Hp} {f : Fc} {v : V} (k : Kp H0 H H') (h : Fact K H f v) : Fact K H' f v := by
 obtain ⟨t, t2, e, h1, h2⟩ := h
 exact ⟨t, t2, e, cP.keep k h1, cP.keep k h2⟩
theorem Kind.keep {K : PySem.W.Frag} {H0 H H' : Hp} {f : Kd} {v : V} (k : Kp H0 H H') (h : Kind K H f v) : Kind K H' f v := by
 obtain ⟨t, e, h1⟩ := h
 exact ⟨t, e, cP.keep k h1⟩
theorem Pair.keep {K : PySem.W.Frag} {H0 H H' : Hp} {p : Cs × Cs} {v : V} (k : Kp H0 H H') (h : Pair K H p v) : Pair K H' p v := by
 obtain ⟨t, e, h1⟩ := h
 exact ⟨t, e, cP.keep k h1⟩
def wa (α : Type) (R : Hp → α → V → Prop) (H0 H : Hp) (v : V) (xs : List α) : Prop := ∃ l vs, v = .ref l ∧ H0 l = none ∧ H l = some (.lst vs) ∧ Paired (R H) xs vs
theorem wa.keep {α : Type} {R : Hp → α → V → Prop} {H0 H H' : Hp} {v : V} {xs : List α} (k : Kp H0 H H') (hR : ∀ a u, R H a u → R H' a u) (h : wa α R H0 H v xs) : wa α R H0 H' v xs := by
 obtain ⟨l, vs, e, n, h1, h2⟩ := h
 exact ⟨l, vs, e, n, k.new _ _ n h1, L2.Paired.bQ h2 hR⟩
theorem wa.bz {α : Type} {R : Hp → α → V → Prop} {H0 H1 H : Hp} {v : V} {xs : List α} (d : ∀ b, H1 b = none → H0 b = none) (h : wa α R H1 H v xs) : wa α R H0 H v xs := by
 obtain ⟨l, vs, e, n, h1, h2⟩ := h
 exact ⟨l, vs, e, d l n, h1, h2⟩
def WH (C : Addr) (H0 H : Hp) (v : V) (F : List (Str × V) → Prop) : Prop := ∃ a dx fs, v = .ref a ∧ H0 a = none ∧ H a = some (.ins C dx fs) ∧ F fs
structure Cl where
 same : Addr
 unlike : Addr
 rule : Addr
 book : Addr
def Cl.look (c : Cl) (b : Bool) : Addr := if b = true then c.same else c.unlike
def oS (c : Cl) (H0 H : Hp) (k : Lk) (v : V) : Prop := WH (c.look k.same) H0 H v fun fs => fs.lookup ("left" : Str) = some (tx k.l) ∧ fs.lookup ("right" : Str) = some (tx k.r) ∧ fs.lookup ("holds" : Str) = none ∧ fs.lookup ("word" : Str) = none
theorem oS.keep {c : Cl} {H0 H H' : Hp} {x : Lk} {v : V} (k : Kp H0 H H') (h : oS c H0 H x v) : oS c H0 H' x v := by
 obtain ⟨a, dx, fs, e, n, h1, h2⟩ := h
 exact ⟨a, dx, fs, e, n, k.new _ _ n h1, h2⟩
def great (x : Cs) : Bool := decide (x.headD 0 ∈ qi.cps.toList)
def once : List Cs → List Cs → List Cs
 | [], acc => acc
 | x :: r, acc => once r (if x ∈ acc then acc else acc ++ [x])
def opens (fs : List Fc) : List Cs := once ((fs.flatMap (·.as)).filter great) []
def Facts (K : PySem.W.Frag) := wa Fc (Fact K)
def Pairs (K : PySem.W.Frag) := wa (Cs × Cs) (Pair K)
def Kinds (K : PySem.W.Frag) := wa Kd (Kind K)
def oT (H0 H : Hp) (v : V) (xs : List Cs) : Prop := ∃ l, v = .ref l ∧ H0 l = none ∧ H l = some (.lst (xs.map tx))
def Looks (c : Cl) (H0 H : Hp) (v : V) (xs : List Lk) : Prop := ∃ l vs, v = .ref l ∧ H0 l = none ∧ H l = some (.lst vs) ∧ Paired (oS c H0 H) xs vs
structure oU (K : PySem.W.Frag) (c : Cl) (H0 H : Hp) (r : Rl) (fs : List (Str × V)) : Prop where
 title : fs.lookup ("title" : Str) = some (tx r.title)
 taken : ∃ v, fs.lookup ("taken" : Str) = some v ∧ Facts K H0 H v r.take
 kept : ∃ v, fs.lookup ("kept" : Str) = some v ∧ Facts K H0 H v r.keep
 dP : ∃ v, fs.lookup ("looks" : Str) = some v ∧ Looks c H0 H v r.dP
 given : ∃ v, fs.lookup ("given" : Str) = some v ∧ Facts K H0 H v r.put
 told : ∃ v, fs.lookup ("told" : Str) = some v ∧ Pairs K H0 H v r.tell
 names : ∃ v, fs.lookup ("names" : Str) = some v ∧ oT H0 H v (opens (r.take ++ r.keep))
 calls : fs.lookup ("calls" : Str) = none
def ik (K : PySem.W.Frag) (c : Cl) (H0 H : Hp) (r : Rl) (v : V) : Prop := WH c.rule H0 H v (oU K c H0 H r)
theorem oT.keep {H0 H H' : Hp} {v : V} {xs : List Cs} (k : Kp H0 H H') (h : oT H0 H v xs) : oT H0 H' v xs := by
 obtain ⟨l, e, n, h1⟩ := h
 exact ⟨l, e, n, k.new _ _ n h1⟩
theorem Looks.keep {c : Cl} {H0 H H' : Hp} {v : V} {xs : List Lk} (k : Kp H0 H H') (h : Looks c H0 H v xs) : Looks c H0 H' v xs := by
 obtain ⟨l, vs, e, n, h1, h2⟩ := h
 exact ⟨l, vs, e, n, k.new _ _ n h1, L2.Paired.bQ h2 fun _ _ z => z.keep k⟩
theorem Facts.keep {K : PySem.W.Frag} {H0 H H' : Hp} {v : V} {xs : List Fc} (k : Kp H0 H H') (h : Facts K H0 H v xs) : Facts K H0 H' v xs := wa.keep k (fun _ _ z => z.keep k) h
theorem Pairs.keep {K : PySem.W.Frag} {H0 H H' : Hp} {v : V} {xs : List (Cs × Cs)} (k : Kp H0 H H') (h : Pairs K H0 H v xs) : Pairs K H0 H' v xs := wa.keep k (fun _ _ z => z.keep k) h
theorem Kinds.keep {K : PySem.W.Frag} {H0 H H' : Hp} {v : V} {xs : List Kd} (k : Kp H0 H H') (h : Kinds K H0 H v xs) : Kinds K H0 H' v xs := wa.keep k (fun _ _ z => z.keep k) h
theorem oU.keep {K : PySem.W.Frag} {c : Cl} {H0 H H' : Hp} {r : Rl} {fs : List (Str × V)} (k : Kp H0 H H') (h : oU K c H0 H r fs) : oU K c H0 H' r fs := by
 obtain ⟨h1, ⟨v2, e2, h2⟩, ⟨v3, e3, h3⟩, ⟨v4, e4, h4⟩, ⟨v5, e5, h5⟩, ⟨v6, e6, h6⟩, ⟨v7, e7, h7⟩, h8⟩ := h
 exact ⟨h1, ⟨v2, e2, h2.keep k⟩, ⟨v3, e3, h3.keep k⟩, ⟨v4, e4, h4.keep k⟩, ⟨v5, e5, h5.keep k⟩, ⟨v6, e6, h6.keep k⟩, ⟨v7, e7, h7.keep k⟩, h8⟩
theorem ik.keep {K : PySem.W.Frag} {c : Cl} {H0 H H' : Hp} {r : Rl} {v : V} (k : Kp H0 H H') (h : ik K c H0 H r v) : ik K c H0 H' r v := by
 obtain ⟨a, dx, fs, e, n, h1, h2⟩ := h
 exact ⟨a, dx, fs, e, n, k.new _ _ n h1, h2.keep k⟩
def Rules (K : PySem.W.Frag) (c : Cl) (H0 H : Hp) (v : V) (xs : List Rl) : Prop := ∃ l vs, v = .ref l ∧ H0 l = none ∧ H l = some (.lst vs) ∧ Paired (ik K c H0 H) xs vs
structure Sa (K : PySem.W.Frag) (c : Cl) (H0 H : Hp) (ks : List Kd) (rs : List Rl) (fs : List (Str × V)) : Prop where
 kinds : ∃ v, fs.lookup ("kinds" : Str) = some v ∧ Kinds K H0 H v ks
 rules : ∃ v, fs.lookup ("rules" : Str) = some v ∧ Rules K c H0 H v rs
def t7 (K : PySem.W.Frag) (c : Cl) (H0 H : Hp) (ks : List Kd) (rs : List Rl) (v : V) : Prop := WH c.book H0 H v (Sa K c H0 H ks rs)
theorem Rules.keep {K : PySem.W.Frag} {c : Cl} {H0 H H' : Hp} {v : V} {xs : List Rl} (k : Kp H0 H H') (h : Rules K c H0 H v xs) : Rules K c H0 H' v xs := by
 obtain ⟨l, vs, e, n, h1, h2⟩ := h
 exact ⟨l, vs, e, n, k.new _ _ n h1, L2.Paired.bQ h2 fun _ _ z => z.keep k⟩
theorem t7.keep {K : PySem.W.Frag} {c : Cl} {H0 H H' : Hp} {ks : List Kd} {rs : List Rl} {v : V} (k : Kp H0 H H') (h : t7 K c H0 H ks rs v) : t7 K c H0 H' ks rs v := by
 obtain ⟨a, dx, fs, e, n, h1, ⟨v2, e2, h2⟩, ⟨v3, e3, h3⟩⟩ := h
 exact ⟨a, dx, fs, e, n, k.new _ _ n h1, ⟨v2, e2, h2.keep k⟩, ⟨v3, e3, h3.keep k⟩⟩
def aN (p : Cs) : Bool := bg p && decide (p.headD 0 ∈ iz.cps.toList)
inductive oV : List Cs → Fc → Prop
 | bare {k : Cs} (hk : aN k = true) : oV [k] ⟨k, []⟩
 | empty {k : Cs} (hk : aN k = true) : oV [k, [40], [41]] ⟨k, []⟩
 | args {k : Cs} {as : List Cs} (hk : aN k = true) (h0 : as ≠ []) (h : ∀ a ∈ as, bg a = true) : oV (k :: [40] :: between as) ⟨k, as⟩
inductive rZ : List Cs → List Fc → Prop
 | one {ps : List Cs} {f : Fc} (h : oV ps f) : rZ ps [f]
 | more {ps r : List Cs} {f : Fc} {fs : List Fc} (h : oV ps f) (t : rZ r fs) : rZ (ps ++ [44] :: r) (f :: fs)
def bO (m : Cs) : List Cs → List (List Cs) → List (List Cs)
 | [], rows => rows
 | p :: r, rows => bO m r (if p = m then rows ++ [[]] else rows.dropLast ++ [rows.getLastD [] ++ [p]])
def glue (m : Cs) : List (List Cs) → List Cs
 | [] => []
 | [q] => q
 | q :: r => q ++ m :: glue m r
theorem lh {m : Cs} : ∀ (q rest : List Cs) (done : List (List Cs)) (cur : List Cs), m ∉ q → bO m (q ++ rest) (done ++ [cur]) = bO m rest (done ++ [cur ++ q])
 | [], rest, done, cur, _ => by rw [List.nil_append, List.append_nil]
 | p :: q, rest, done, cur, h => by
  have hp : p ≠ m := fun e => h (by rw [e]; exact List.mem_cons_self)
  have hq : m ∉ q := fun z => h (List.mem_cons_of_mem _ z)
  show bO m (q ++ rest) (if p = m then _ else (done ++ [cur]).dropLast ++ [(done ++ [cur]).getLastD [] ++ [p]]) = _
  rw [if_neg hp, List.dropLast_concat, show (done ++ [cur]).getLastD [] = cur by simp, lh q rest done (cur ++ [p]) hq, List.append_assoc, List.singleton_append]
theorem f7 {m : Cs} : ∀ (qs : List (List Cs)) (done : List (List Cs)), qs ≠ [] → (∀ q ∈ qs, m ∉ q) → bO m (glue m qs) (done ++ [[]]) = done ++ qs
 | [], _, h, _ => absurd rfl h
 | [q], done, _, h => by
  have e := lh q [] done [] (h q (by simp))
  rw [List.append_nil] at e
  show bO m q _ = _
  rw [e]
  rfl
 | q :: q2 :: r, done, _, h => by
  have e := lh q (m :: glue m (q2 :: r)) done [] (h q (by simp))
  show bO m (q ++ m :: glue m (q2 :: r)) _ = _
  rw [e]
  show bO m (glue m (q2 :: r)) (if m = m then (done ++ [[] ++ q]) ++ [[]] else _) = _
  rw [if_pos rfl, f7 (q2 :: r) (done ++ [[] ++ q]) (by simp) fun x hx => h x (List.mem_cons_of_mem _ hx), List.nil_append, List.append_assoc, List.singleton_append]
end Bk
namespace Bk
open PySem L2 fZ
def fC (x : Str) : Bool := decide ((1 : Int) ≤ x.length) && (decide ((x.length : Int) ≤ 12) && x.cps.toList.all bp)
theorem oW (p : List Nat) : fC (S p) = bg p := by
 unfold fC bg
 rw [a0, cv]
 have e1 : decide ((1 : Int) ≤ (p.length : Int)) = decide (1 ≤ p.length) := by
  rw [decide_eq_decide]; omega
 have e2 : decide ((p.length : Int) ≤ 12) = decide (p.length ≤ 12) := by
  rw [decide_eq_decide]; omega
 rw [e1, e2]
theorem FY {x : Str} (h : 1 ≤ x.length) : rA x.cps.toList (0 : Int) = some (x.cps.toList.headD 0) := by
 have e := yU x
 cases q : x.cps.toList with
 | nil => rw [q] at e; simp at e; omega
 | cons a r => exact bN (j := 0) rfl
theorem Jy {x : Str} (h : fC x = true) : 1 ≤ x.length := by
 unfold fC at h
 simp only [Bool.and_eq_true, decide_eq_true_eq] at h
 omega
theorem sz {n : Nat} (h : n ≤ 100000) : n ≤ sizeLine := by rw [sizeLine_eq]; omega
theorem f9 {n : Nat} (h : n ≤ 100000) : n < sizeLine := by rw [sizeLine_eq]; omega
theorem aj {H : Hp} {p : Addr} (h : H p = none) (o : HO) : ah H (upd H p o) := fun b u q => by rw [aq (aI q h)]; exact q
theorem ah.aS {H H' : Hp} {p : Addr} (e : ah H H') (h : H p = none) (o : HO) : ah H (upd H' p o) := fun b u q => by
 rw [aq (aI q h)]
 exact e b u q
theorem mid {a b : Int} (h : 0 < b) : 0 ≤ a % b ∧ a % b < b := ⟨Int.emod_nonneg a (by omega), Int.emod_lt_of_pos a h⟩
theorem getD_get {l : List Nat} {i : Nat} (h : i < l.length) : l[i]? = some (l.getD i 0) := by
 rw [Gd9, Ge9 h]
 rfl
theorem B3 {l : List Nat} {i : Nat} (h : i < l.length) : l.drop i = l.getD i 0 :: l.drop (i + 1) := by
 rw [List.drop_eq_getElem_cons h, Gd9, Ge9 h]
 rfl
theorem Jz {x : Str} {i : Int} (h0 : 0 ≤ i) (h1 : i < x.length) : rA x.cps.toList i = some (x.cps.toList.getD i.toNat 0) := by
 have hl := yU x
 have hk : i.toNat < x.cps.toList.length := by omega
 have z := bN (xs := x.cps.toList) (j := i.toNat) (v := x.cps.toList.getD i.toNat 0) (getD_get hk)
 rw [show ((i.toNat : Nat) : Int) = i by omega] at z
 exact z
def iA (x : Str) : Bool := fC x && decide (x.cps.toList.headD 0 ∈ iz.cps.toList)
theorem B5 (p : List Nat) : iA (S p) = aN p := by
 unfold iA aN
 rw [oW, cv]
def yW : Sp := fun vs H Q _ => ∃ c, vs = [.str ⟨#[c]⟩] ∧ Q (.bl (bp c)) H
def wq (f : Str → Bool) : Sp := fun vs H Q _ => ∃ x, vs = [.str x] ∧ x.length ≤ 20000 ∧ ∀ H', ah H H' → Q (.bl (f x)) H'
def sP : Sp := fun vs H Q _ => ∃ p : Cs, vs = [tx p] ∧ p ≠ [] ∧ p.length ≤ 1000 ∧ Q (.bl (great p)) H
def JA : Sp := fun vs H Q _ => ∃ (x : Str) (p : Nat), vs = [.str x, .int p] ∧ x.length ≤ 20000 ∧ p ≤ x.length ∧ Q (.int ((p + bA (x.cps.toList.drop p) : Nat) : Int)) H
def NW (m : Str) (c : Nat) : Bool := bp c || (decide (c ∈ m.cps.toList) || c == 32)
def t8 : Sp := fun vs H Q _ => ∃ x m, vs = [.str x, .str m] ∧ x.length ≤ 20000 ∧ 32 ∉ m.cps.toList ∧ x.cps.toList.all (NW m) = true ∧ ∀ (l : Addr) (H' : Hp), ah H H' → H l = none → H' l = some (.lst ((toks x.cps.toList).map tx)) → Q (.ref l) H'
def oX : Sp := fun vs H Q _ => ∃ (l : Addr) (ps : List Cs) (p : Nat), vs = [.ref l, .int p] ∧ H l = some (.lst (ps.map tx)) ∧ ps.length ≤ 20000 ∧ Q (tx (ps.getD p [])) H
def DX : Sp := fun vs H Q _ => ∃ (l : Addr) (ps : List Cs) (p n : Nat) (as : List Cs), vs = [.ref l, .int p] ∧ H l = some (.lst (ps.map tx)) ∧ ps.length ≤ 20000 ∧
 ((as = [] ∧ n = 1 ∧ ps.getD p [] = [41]) ∨ (ps.getD p [] ≠ [41] ∧ f6 (ps.drop p) = some (as, n))) ∧
 ∀ (t t2 : Addr) (H' : Hp), ah H H' → H' t = some (.tup [.ref t2, .int ((p + n : Nat) : Int)]) → H' t2 = some (.tup (as.map tx)) → Q (.ref t) H'
inductive lj : List Cs → Cs → List Cs → Nat → Prop
 | bare {k : Cs} {r : List Cs} (hk : aN k = true) (h : r.getD 0 [] ≠ [40]) : lj (k :: r) k [] 1
 | empty {k : Cs} {r : List Cs} (hk : aN k = true) : lj (k :: [40] :: [41] :: r) k [] 3
 | args {k : Cs} {r as : List Cs} {n : Nat} (hk : aN k = true) (h0 : r.getD 0 [] ≠ [41]) (h : f6 r = some (as, n)) : lj (k :: [40] :: r) k as (n + 2)
def t9 : Sp := fun vs H Q _ => ∃ (l : Addr) (ps : List Cs) (p n : Nat) (k : Cs) (as : List Cs), vs = [.ref l, .int p] ∧ H l = some (.lst (ps.map tx)) ∧ ps.length ≤ 20000 ∧ lj (ps.drop p) k as n ∧
 ∀ (t t1 t2 : Addr) (H' : Hp), ah H H' → H' t = some (.tup [.ref t1, .int ((p + n : Nat) : Int)]) → H' t1 = some (.tup [tx k, .ref t2]) → H' t2 = some (.tup (as.map tx)) → Q (.ref t) H'
theorem DY (l : List Nat) : bA l ≤ l.length := by
 unfold bA
 exact (List.takeWhile_sublist bp).length_le
theorem yX (c : Nat) (r : List Nat) : bA (c :: r) = if bp c = true then bA r + 1 else 0 := by
 unfold bA
 rw [List.takeWhile_cons]
 split <;> simp
theorem qj : ∀ (l cur : List Nat), (dj l cur).length ≤ l.length + (if cur = [] then 0 else 1)
 | [], cur => by
  show (shut cur []).length ≤ _
  unfold shut
  by_cases h : cur = [] <;> simp [h]
 | c :: r, cur => by
  show (if bp c = true then dj r (cur ++ [c]) else shut cur (if c = 32 then dj r [] else [c] :: dj r [])).length ≤ _
  have e1 := qj r (cur ++ [c])
  have e2 := qj r []
  rw [if_neg (by simp)] at e1
  rw [if_pos rfl] at e2
  by_cases ha : bp c = true
  ·rw [if_pos ha, List.length_cons]
   omega
  ·rw [if_neg ha, List.length_cons]
   unfold shut
   by_cases h : cur = [] <;> by_cases h2 : c = 32 <;> simp [h, h2] <;> omega
theorem B6 (l : List Nat) : (toks l).length ≤ l.length := by
 have e := qj l []
 rw [if_pos rfl] at e
 exact e
theorem nW {c : Nat} (ha : bp c = false) (hb : c ≠ 32) (r : List Nat) : toks (c :: r) = [c] :: toks r := by
 show (if bp c = true then dj r ([] ++ [c]) else shut [] (if c = 32 then dj r [] else [c] :: dj r [])) = _
 rw [ha, if_neg (by simp), if_neg hb]
 rfl
theorem MK {x : Str} {p n : Nat} (h : p + n ≤ x.length) : Txt.slice x (some (p : Int)) (some ((p + n : Nat) : Int)) = S ((x.cps.toList.drop p).take n) := by
 have e := G6 (z := x) (i := p) (j := ((p + n : Nat) : Int)) (by omega) (by omega) (by omega)
 rw [← Hc (Txt.slice x (some (p : Int)) (some ((p + n : Nat) : Int))), e, show ((p : Int)).toNat = p by omega, show (((p + n : Nat) : Int) - (p : Int)).toNat = n by omega]
theorem gp {l : List Cs} {p i : Nat} : (l.drop p).getD i [] = l.getD (p + i) [] := by
 rw [Gd9, Gd9, List.getElem?_drop]
theorem Hd {l as : List Cs} {n : Nat} (h : f6 l = some (as, n)) : ∃ nm mk r, l = nm :: mk :: r ∧ bg nm = true ∧ ((mk = [41] ∧ as = [nm] ∧ n = 2) ∨ (mk = [44] ∧ ∃ LZ n', f6 r = some (LZ, n') ∧ as = nm :: LZ ∧ n = n' + 2)) := by
 match l, h with
 | nm :: mk :: r, h =>
  refine ⟨nm, mk, r, rfl, ?_⟩
  have h' : (if bg nm = true then (if mk = [41] then some ([nm], 2) else if mk = [44] then (f6 r).map (fun q => (nm :: q.1, q.2 + 2)) else none) else none) = some (as, n) := h
  by_cases hn : bg nm = true
  ·rw [if_pos hn] at h'
   refine ⟨hn, ?_⟩
   by_cases h1 : mk = [41]
   ·rw [if_pos h1] at h'
    injection h' with h'
    injection h' with a b
    exact .inl ⟨h1, a.symm, b.symm⟩
   ·rw [if_neg h1] at h'
    by_cases h2 : mk = [44]
    ·rw [if_pos h2] at h'
     cases q : f6 r with
     | none => rw [q] at h'; cases h'
     | some z =>
      rw [q] at h'
      injection h' with h'
      injection h' with a b
      exact .inr ⟨h2, z.1, z.2, rfl, a.symm, b.symm⟩
    ·rw [if_neg h2] at h'
     cases h'
  ·rw [if_neg hn] at h'
   cases h'
 | [_], h => exact nomatch h
 | [], h => exact nomatch h
theorem JB {a b : Cs} (h : a ≠ b) : decide (tx a = tx b) = false := decide_eq_false fun z => h (Jw z)
def FZ (x m : Str) (l : Addr) (H : Hp) (n : Nat) (σ : St) (H' : Hp) : Prop := ∃ (p : Nat) (done : List Cs) (o3 o4 : Option V), n = x.length - p ∧ σ = [some (.str x), some (.str m), some (.ref l), some (.int p), o3, o4] ∧ p ≤ x.length ∧ ah H H' ∧ H' l = some (.lst (done.map tx)) ∧ done ++ toks (x.cps.toList.drop p) = toks x.cps.toList
def NX (l ln : Addr) (ps as : List Cs) (e : Nat) (H : Hp) (m : Nat) (σ : St) (H' : Hp) : Prop := ∃ (p n : Nat) (done LZ : List Cs) (o3 o4 : Option V), m = (ps.drop p).length ∧ σ = [some (.ref l), some (.int p), some (.ref ln), o3, o4] ∧ ah H H' ∧ H' l = some (.lst (ps.map tx)) ∧ H' ln = some (.lst (done.map tx)) ∧ f6 (ps.drop p) = some (LZ, n) ∧ done ++ LZ = as ∧ p + n = e ∧ done.length + (ps.drop p).length ≤ 20000
theorem ji {p : Cs} (h : bg p = true) : 1 ≤ p.length ∧ p.length ≤ 12 := by
 unfold bg at h
 simp only [Bool.and_eq_true, decide_eq_true_eq] at h
 exact ⟨h.1, h.2.1⟩
theorem cj {p : Cs} (h : aN p = true) : 1 ≤ p.length ∧ p.length ≤ 12 := by
 unfold aN at h
 simp only [Bool.and_eq_true] at h
 exact ji h.1
theorem oV.at {ps : List Cs} {f : Fc} (h : oV ps f) {r : List Cs} (hr : r.getD 0 [] ≠ [40]) : lj (ps ++ r) f.k f.as ps.length := by
 cases h with
 | bare hk => exact .bare hk hr
 | empty hk => exact .empty hk
 | @args k as hk h0 h =>
  have e := nB as h0 h
  have e2 : ∀ (as : List Cs) (r : List Cs), as ≠ [] → (∀ a ∈ as, bg a = true) → f6 (between as ++ r) = some (as, (between as).length) := by
   intro as
   induction as with
   | nil => intro r z; exact absurd rfl z
   | cons a t ih =>
    intro r _ ha
    cases t with
    | nil =>
     show f6 (a :: [41] :: r) = some ([a], 2)
     show (if bg a = true then (if ([41] : Cs) = [41] then some ([a], 2) else _) else none) = _
     rw [if_pos (ha a (by simp)), if_pos rfl]
    | cons b t =>
     have WI := ih r (by simp) fun x hx => ha x (List.mem_cons_of_mem _ hx)
     show f6 (a :: [44] :: (between (b :: t) ++ r)) = some (a :: b :: t, (between (b :: t)).length + 2)
     show (if bg a = true then (if ([44] : Cs) = [41] then some ([a], 2) else if ([44] : Cs) = [44] then (f6 (between (b :: t) ++ r)).map (fun q => (a :: q.1, q.2 + 2)) else none) else none) = _
     rw [if_pos (ha a (by simp)), if_neg (by decide), if_pos rfl, WI]
     rfl
  have e3 := e2 as r h0 h
  have n41 : (between as ++ r).getD 0 [] ≠ [41] := by
   cases as with
   | nil => exact absurd rfl h0
   | cons a t =>
    have ha := h a (by simp)
    have hh : (between (a :: t) ++ r).getD 0 [] = a := by cases t <;> rfl
    rw [hh]
    intro z
    rw [z] at ha
    exact absurd ha (by decide +kernel)
  have z := lj.args hk n41 e3
  show lj (k :: [40] :: (between as ++ r)) k as ((between as).length + 2)
  exact z
theorem oV.pos {ps : List Cs} {f : Fc} (h : oV ps f) : 1 ≤ ps.length := by
 cases h <;> simp
theorem rZ.pos {ps : List Cs} {fs : List Fc} (h : rZ ps fs) : 1 ≤ ps.length := by
 cases h with
 | one h => exact h.pos
 | more h t => rw [List.length_append]; have := h.pos; omega
theorem rZ.head {ps : List Cs} {fs : List Fc} (h : rZ ps fs) : ∃ (f : Fc) (n : Nat) (Ow : List Fc), fs = f :: Ow ∧ lj ps f.k f.as n ∧ ((n = ps.length ∧ Ow = []) ∨ (n < ps.length ∧ ps.getD n [] = [44] ∧ rZ (ps.drop (n + 1)) Ow)) := by
 cases h with
 | @one _ f h =>
  have z := h.at (r := []) (by simp)
  rw [List.append_nil] at z
  exact ⟨f, ps.length, [], rfl, z, .inl ⟨rfl, rfl⟩⟩
 | @more ps r f fs h t =>
  refine ⟨f, ps.length, fs, rfl, h.at (by simp), .inr ⟨by simp, ?_, ?_⟩⟩
  ·rw [Gd9, List.getElem?_append_right (Nat.le_refl _)]
   simp
  ·have e : (ps ++ [44] :: r).drop (ps.length + 1) = r := by
    rw [← List.drop_drop, List.drop_left]
    rfl
   rw [e]
   exact t
def JC (K : PySem.W.Frag) : Sp := fun vs H Q _ => ∃ (l : Addr) (ps : List Cs) (fs : List Fc), vs = [.ref l] ∧ H l = some (.lst (ps.map tx)) ∧ ps.length ≤ 20000 ∧ rZ ps fs ∧ ∀ v H', ah H H' → Facts K H H' v fs → Q v H'
def Sb (K : PySem.W.Frag) (l lf : Addr) (ps : List Cs) (fs : List Fc) (H : Hp) (m : Nat) (σ : St) (H' : Hp) : Prop := ∃ (p : Nat) (done rest : List Fc) (vs : List V) (o3 : Option V), m = (ps.drop p).length ∧ σ = [some (.ref l), some (.ref lf), some (.int p), o3] ∧ ah H H' ∧ H' l = some (.lst (ps.map tx)) ∧ H' lf = some (.lst vs) ∧ Paired (Fact K H') done vs ∧ rZ (ps.drop p) rest ∧ done ++ rest = fs ∧ done.length + (ps.drop p).length ≤ 20000
end Bk
namespace Bk
open PySem L2 fZ
def cq : List Cs → Cs
 | [] => []
 | [a] => a
 | a :: r => a ++ 10 :: cq r
def nj : Cs → List Cs
 | [] => [[]]
 | c :: r => if c = 10 then [] :: nj r else match nj r with
  | [] => [[c]]
  | q :: qs => (c :: q) :: qs
theorem Vg : ∀ p, nj p ≠ []
 | [] => by simp [nj]
 | c :: r => by
  unfold nj
  split
  ·simp
  ·split <;> simp
theorem B7 : ∀ (a r : Cs), 10 ∉ a → nj (a ++ 10 :: r) = a :: nj r
 | [], r, _ => by
  show (if 10 = 10 then [] :: nj r else _) = _
  rw [if_pos rfl]
 | c :: a, r, h => by
  have hc : c ≠ 10 := fun e => h (by rw [e]; exact List.mem_cons_self)
  have ih := B7 a r fun z => h (List.mem_cons_of_mem _ z)
  show (if c = 10 then [] :: nj (a ++ 10 :: r) else match nj (a ++ 10 :: r) with | [] => [[c]] | q :: qs => (c :: q) :: qs) = _
  rw [if_neg hc, ih]
theorem B8 : ∀ (a : Cs), 10 ∉ a → nj a = [a]
 | [], _ => rfl
 | c :: a, h => by
  have hc : c ≠ 10 := fun e => h (by rw [e]; exact List.mem_cons_self)
  have ih := B8 a fun z => h (List.mem_cons_of_mem _ z)
  show (if c = 10 then [] :: nj a else match nj a with | [] => [[c]] | q :: qs => (c :: q) :: qs) = _
  rw [if_neg hc, ih]
theorem qk : ∀ (ls : List Cs), ls ≠ [] → (∀ l ∈ ls, 10 ∉ l) → nj (cq ls) = ls
 | [], h, _ => absurd rfl h
 | [a], _, h => B8 a (h a (by simp))
 | a :: b :: r, _, h => by
  show nj (a ++ 10 :: cq (b :: r)) = _
  rw [B7 a _ (h a (by simp)), qk (b :: r) (by simp) fun l hl => h l (List.mem_cons_of_mem _ hl)]
theorem B9 : ∀ (ls : List Str), (Str.join ⟨#[10]⟩ ls).cps.toList = cq (ls.map fun s => s.cps.toList)
 | [] => rfl
 | [a] => rfl
 | a :: b :: r => by
  have ih := B9 (b :: r)
  show ((a ++ (⟨#[10]⟩ : Str)) ++ Str.join ⟨#[10]⟩ (b :: r)).cps.toList = _
  rw [PySem.W.KT.app_list, PySem.W.KT.app_list, ih]
  show (a.cps.toList ++ [10]) ++ _ = a.cps.toList ++ 10 :: _
  simp
theorem JD (x : Str) : Txt.split x ⟨#[10]⟩ ≠ [] := by
 unfold Txt.split
 split
 ·simp
 ·split
  ·simp
  ·intro h
   have e := congrArg List.length h
   rw [PyProof.Rows.len_partsBetween] at e
   simp at e
theorem Ca {ls : List Cs} (h0 : ls ≠ []) (h : ∀ l ∈ ls, 10 ∉ l) : Txt.split (S (cq ls)) (Str.ofString "\n") = ls.map S := by
 have e0 : (Str.ofString "\n") = ⟨#[10]⟩ := by decide +kernel
 rw [e0]
 have e1 := StrLaws.join_split (S (cq ls)) ⟨#[10]⟩
 have hf := StrLaws.split_free (S (cq ls)) 10
 have hn := JD (S (cq ls))
 generalize Txt.split (S (cq ls)) ⟨#[10]⟩ = ts at e1 hf hn
 have e2 : cq (ts.map fun s => s.cps.toList) = cq ls := by
  rw [← B9, e1]
 have e3 := congrArg nj e2
 rw [qk ls h0 h, qk _ (by simpa using hn) (by
  intro l hl
  obtain ⟨t, ht, rfl⟩ := List.mem_map.mp hl
  exact hf t ht)] at e3
 rw [← e3, List.map_map]
 have e4 : (S ∘ fun s : Str => s.cps.toList) = id := by
  funext s
  exact Hc s
 rw [e4, List.map_id]
def told (p : Cs) : Bool := match p.dropWhile (· == 32) with
 | [] => false
 | c :: _ => !(c == 35)
theorem F1 (f : Nat → Bool) : ∀ (l : Cs), l.drop (l.takeWhile f).length = l.dropWhile f
 | [] => rfl
 | a :: r => by
  rw [List.takeWhile_cons, List.dropWhile_cons]
  by_cases h : f a = true
  ·rw [if_pos h, if_pos h]
   exact F1 f r
  ·rw [if_neg h, if_neg h]
   rfl
theorem JE (p : Cs) : ∃ q : Cs, Txt.stripChars (S p) (Str.ofString " ") = S q ∧ q.length ≤ p.length ∧ q.head? = (p.dropWhile (· == 32)).head? := by
 have e0 : (Str.ofString " ").cps.contains = fun c => c == 32 := by
  funext c
  have e : (Str.ofString " ").cps = #[32] := by decide +kernel
  rw [e]
  simp [Bool.beq_eq_decide_eq]
 unfold Txt.stripChars
 rw [e0, PyProof.Rows.stripBy_eq]
 obtain ⟨a1, a2, a3⟩ := PyProof.Rows.lo_facts (fun c => c == 32) (S p)
 obtain ⟨b1, b2, b3, b4⟩ := PyProof.Rows.hi_facts (fun c => c == 32) (S p) _ a1
 have YU : stripLo (fun c => c == 32) true (S p) = (p.takeWhile (· == 32)).length := by
  simp [stripLo]
 rw [a0] at a1 a3 b2 b3
 generalize hlo : stripLo (fun c => c == 32) true (S p) = lo at a1 a2 a3 b1 b2 b3 b4 YU
 generalize hhi : stripHi (fun c => c == 32) true (S p) lo = hi at b1 b2 b3 b4
 refine ⟨(p.drop lo).take (hi - lo), ?_, ?_, ?_⟩
 ·rw [← Hc (Builtin.Str.strSub (S p) lo hi), StrLaws.strSub_toList, cv]
 ·rw [List.length_take, List.length_drop]
  omega
 ·rw [← F1, ← YU]
  by_cases hx : lo = p.length
  ·rw [hx, List.drop_length, List.take_nil]
  ·have hl : lo < p.length := by omega
   have eO : lo < hi := by
    refine Nat.lt_of_not_le fun z => ?_
    have z1 := b3 lo z hl
    rcases a3 with a3 | a3
    ·exact hx a3
    ·rw [z1] at a3; cases a3
   rw [List.head?_take]
   rw [if_neg (by omega)]
def DZ : Sp := fun vs H Q _ => ∃ p : Cs, vs = [tx p] ∧ p.length ≤ 20000 ∧ Q (.bl (told p)) H
def yY : Sp := fun vs H Q _ => ∃ ls : List Cs, vs = [tx (cq ls)] ∧ ls ≠ [] ∧ (∀ l ∈ ls, 10 ∉ l) ∧ (cq ls).length ≤ 20000 ∧ ∀ v H', ah H H' → oT H H' v (ls.filter told) → Q v H'
theorem x4 : ∀ (ls : List Cs), ls.length ≤ (cq ls).length + 1
 | [] => by simp [cq]
 | [a] => by simp [cq]
 | a :: b :: r => by
  have ih := x4 (b :: r)
  show (a :: b :: r).length ≤ (a ++ 10 :: cq (b :: r)).length + 1
  rw [List.length_append, List.length_cons, List.length_cons (a := 10)]
  omega
theorem qm : ∀ (ls : List Cs) (l : Cs), l ∈ ls → l.length ≤ (cq ls).length
 | [a], l, h => by rw [List.mem_singleton.mp h]; exact Nat.le_refl _
 | a :: b :: r, l, h => by
  have ih := qm (b :: r)
  show l.length ≤ (a ++ 10 :: cq (b :: r)).length
  rw [List.length_append, List.length_cons]
  rcases List.mem_cons.mp h with e | h
  ·rw [e]; omega
  ·have := ih l h; omega
abbrev Cb : Str := "(),:;="
def D0 : Sp := fun vs H Q _ => ∃ p : Cs, vs = [tx p] ∧ p.length ≤ 20000 ∧ p.all (NW Cb) = true ∧ ∀ v H', ah H H' → oT H H' v (toks p) → Q v H'
abbrev cs (s : Str) : Cs := s.cps.toList
abbrev bS : Cs := [112, 97, 115, 115, 105, 110, 103]
abbrev bZ : Cs := [108, 97, 115, 116, 105, 110, 103]
abbrev gw : Cs := [114, 117, 108, 101]
abbrev JF : Cs := [116, 97, 107, 101]
abbrev JG : Cs := [107, 101, 101, 112]
abbrev JI : Cs := [108, 111, 111, 107]
abbrev NY : Cs := [112, 117, 116]
abbrev ua : Cs := [116, 101, 108, 108]
def x5 (k : Kd) : List Cs := [if k.l = true then bZ else bS, k.n, [48 + k.c]]
def D1 (K : PySem.W.Frag) : Sp := fun vs H Q _ => ∃ (l : Addr) (k : Kd), vs = [.ref l] ∧ H l = some (.lst ((x5 k).map tx)) ∧ aN k.n = true ∧ k.c ≤ 4 ∧ ∀ v H', ah H H' → Kind K H' k v → Q v H'
end Bk
namespace Bk
open PySem L2 fZ
theorem bM {tt : TE} {aG : List Nat} {σ : St} {H1 : Hp} {Q : VK} {K : PySem.W.Frag} {a : Addr} {xs : List V} {D : Addr} {β : Type} (bs : List β) (Out : Hp → Hp → β → V → Prop)
  (keep : ∀ H0 H H' b y, Kp H0 H H' → Out H0 H b y → Out H0 H' b y) (bz : ∀ H0 H2 H b y, (∀ c, H2 c = none → H0 c = none) → Out H2 H b y → Out H0 H b y)
  (hn : xs.length < sizeLine) (xU : H1 D = none) (hl : ay K H1 a xs) (hb : bs.length = xs.length)
  (he : ∀ (i : Nat) x b H' R, xs[i]? = some x → bs[i]? = some b → ah H1 H' → (∀ y nA, ah H' nA → Out H' nA b y → R y nA) → tt (bV σ (some x) aG) H' R)
  (hd : ∀ H' ys, ah H1 H' → H' D = some (.lst ys) → Paired (Out H1 H') bs ys → Q (.ref D) H') : rB RE tt aG σ Q (LX K a) H1 D := by
 have s0 : ah H1 (upd H1 D (.lst [])) := aj xU _
 have Pd : ∀ c, upd H1 D (.lst []) c = none → H1 c = none := fun c h => s0.free h
 refine qe (K := K) (a := a) (xs := xs) hn (fun i ys H' => ah H1 H' ∧ H' D = some (.lst ys) ∧ (∀ c, H' c = none → upd H1 D (.lst []) c = none) ∧ Paired (Out (upd H1 D (.lst [])) H') (bs.take i) ys) ⟨s0, af, fun _ h => h, .nil⟩
  (fun i ys H' p => p.1.seq hl) (fun i ys H' p => ⟨p.2.1, ?_⟩) (fun i ys H' hi p => ?_) (fun ys H' p => ?_)
 ·have z := Paired.length p.2.2.2
  rw [List.length_take] at z
  omega
 ·have hx : xs.getD i .cJ = xs[i] := by rw [Gd9, Ge9 hi]; rfl
  rw [hx]
  have eQ : i < bs.length := by omega
  refine he i xs[i] bs[i] H' _ (Ge9 hi) (Ge9 eQ) p.1 fun y H2 s2 ho => ?_
  have nV := s2 _ _ p.2.1
  have kp : Kp (upd H1 D (.lst [])) H2 (upd H2 D (.lst (ys ++ [y]))) := Kp.upd af nV (by intro xs z; cases z) (by intro o u z; cases z)
  refine ⟨nV, ah.aS (ah.trans p.1 s2) xU _, af, fun c h => ?_, ?_⟩
  ·have h2 := kp.t6 c h
   exact p.2.2.1 c (s2.free h2)
  ·rw [List.take_succ_eq_append_getElem eQ]
   refine (L2.Paired.bQ p.2.2.2 fun b v z => keep _ _ _ _ _ kp (keep _ _ _ _ _ (Kp.same s2) z)).snoc ?_
   exact keep _ _ _ _ _ kp (bz _ _ _ _ _ p.2.2.1 ho)
 ·have z := p.2.2.2
  rw [List.take_of_length_le (by omega)] at z
  exact hd H' ys p.1 p.2.1 (L2.Paired.bQ z fun b v h => bz _ _ _ _ _ (fun c h => by
   by_cases e : c = D
   ·rw [e]; exact xU
   ·exact Pd c h) h)
def jj (m p : Cs) (rows : List (List Cs)) : List (List Cs) := if p = m then rows ++ [[]] else rows.dropLast ++ [rows.getLastD [] ++ [p]]
theorem oY (m p : Cs) : ∀ (ps : List Cs) (rows : List (List Cs)), bO m (ps ++ [p]) rows = jj m p (bO m ps rows)
 | [], rows => rfl
 | q :: r, rows => oY m p r _
theorem JJ {m p : Cs} {rows : List (List Cs)} : jj m p rows ≠ [] := by
 unfold jj
 split <;> simp
theorem ub (m : Cs) : ∀ (ps : List Cs) (rows : List (List Cs)), rows ≠ [] → bO m ps rows ≠ []
 | [], rows, h => h
 | q :: r, rows, h => ub m r _ (show jj m q rows ≠ [] from JJ)
theorem rC {α β : Type} {R : α → β → Prop} : ∀ {l1 : List α} {l2 : List β}, Paired R l1 l2 → l1 ≠ [] → ∃ a1 x b1 y, l1 = a1 ++ [x] ∧ l2 = b1 ++ [y] ∧ Paired R a1 b1 ∧ R x y
 | _, _, .nil, h => absurd rfl h
 | _, _, .cons (a := a) (b := b) (l₁ := l1) (l₂ := l2) r t, _ => by
  cases t with
  | nil => exact ⟨[], a, [], b, rfl, rfl, .nil, r⟩
  | cons r2 t2 =>
   obtain ⟨a1, x, b1, y, e1, e2, h1, h2⟩ := rC (.cons r2 t2) (by simp)
   exact ⟨a :: a1, x, b :: b1, y, by rw [e1]; rfl, by rw [e2]; rfl, .cons r h1, h2⟩
theorem eU {α β : Type} {R : α → β → Prop} : ∀ {l1 : List α} {l2 : List β}, Paired R l1 l2 → ∀ {y : β}, y ∈ l2 → ∃ x, x ∈ l1 ∧ R x y
 | _, _, .nil, _, h => nomatch h
 | _, _, .cons r t, y, h => by
  rcases List.mem_cons.mp h with e | h
  ·subst e; exact ⟨_, List.mem_cons_self, r⟩
  ·obtain ⟨x, hx, hr⟩ := eU t h
   exact ⟨x, List.mem_cons_of_mem _ hx, hr⟩
theorem lu {α β : Type} {R R' : α → β → Prop} : ∀ {l1 : List α} {l2 : List β}, Paired R l1 l2 → (∀ a b, b ∈ l2 → R a b → R' a b) → Paired R' l1 l2
 | _, _, .nil, _ => .nil
 | _, _, .cons r t, h => .cons (h _ _ List.mem_cons_self r) (lu t fun a b hb => h a b (List.mem_cons_of_mem _ hb))
theorem rD {α β γ : Type} {g : β → γ} {R : α → γ → Prop} : ∀ {l1 : List α} {l2 : List β}, Paired (fun a b => R a (g b)) l1 l2 → Paired R l1 (l2.map g)
 | _, _, .nil => .nil
 | _, _, .cons r t => .cons r (rD t)
def NZ (H0 H : Hp) (row : List Cs) (v : V) : Prop := ∃ b, v = .ref b ∧ H0 b = none ∧ H b = some (.lst (row.map tx))
def Rows (H0 H : Hp) (v : V) (rows : List (List Cs)) : Prop := ∃ l vs, v = .ref l ∧ H0 l = none ∧ H l = some (.lst vs) ∧ Paired (NZ H0 H) rows vs
def ly : Sp := fun vs H Q _ => ∃ (l : Addr) (ps : List Cs) (m : Cs), vs = [.ref l, tx m] ∧ H l = some (.lst (ps.map tx)) ∧ ps.length ≤ 20000 ∧ ∀ v H', ah H H' → Rows H H' v (bO m ps [[]]) → Q v H'
theorem rE (m : Cs) : ∀ (ps : List Cs) (rows : List (List Cs)), (bO m ps rows).length ≤ rows.length + ps.length + 1
 | [], rows => by show rows.length ≤ _; omega
 | p :: r, rows => by
  have ih := rE m r (jj m p rows)
  have : (jj m p rows).length ≤ rows.length + 1 := by
   unfold jj
   split
   ·simp
   ·rw [List.length_append, List.length_dropLast, List.length_singleton]; omega
  show (bO m r (jj m p rows)).length ≤ _
  rw [List.length_cons]
  omega
theorem uc (m : Cs) : ∀ (ps : List Cs) (rows : List (List Cs)) (B : Nat), (∀ r ∈ rows, r.length ≤ B) → ∀ r ∈ bO m ps rows, r.length ≤ B + ps.length
 | [], rows, B, h, r, hr => by have := h r hr; show r.length ≤ B + 0; omega
 | p :: q, rows, B, h, r, hr => by
  have ih := uc m q (jj m p rows) (B + 1) (by
   intro x hx
   unfold jj at hx
   split at hx
   ·rcases List.mem_append.mp hx with hx | hx
    ·have := h x hx; omega
    ·rw [List.mem_singleton.mp hx]; simp
   ·rcases List.mem_append.mp hx with hx | hx
    ·have := h x ((List.dropLast_sublist rows).subset hx); omega
    ·rw [List.mem_singleton.mp hx, List.length_append]
     have : (rows.getLastD []).length ≤ B := by
      cases rows with
      | nil => exact Nat.zero_le _
      | cons a t => exact h _ (List.getLast_mem (by simp : a :: t ≠ []))
     rw [List.length_singleton]
     omega) r hr
  rw [List.length_cons]
  omega
abbrev ud : Cs := [115, 97, 109, 101]
abbrev lz : Cs := [117, 110, 108, 105, 107, 101]
def ue (k : Lk) : List Cs := [k.l, if k.same = true then ud else lz, k.r]
def uf (p : Cs × Cs) : List Cs := [p.1, [61], p.2]
def F2 : Sp := fun vs H Q _ => ∃ (l : Addr) (a m b : Cs), vs = [.ref l] ∧ H l = some (.lst [tx a, tx m, tx b]) ∧ bg a = true ∧ bg b = true ∧ ∀ H', ah H H' → Q .cJ H'
structure Cc (K : PySem.W.Frag) (C : Addr) : Prop where
 cl : DA K C
 nL : cz K C "left"
 nR : cz K C "right"
def jJ (K : PySem.W.Frag) : Sp := fun vs H Q _ => ∃ (C p dx : Addr) (l r : V), vs = [.ref p, l, r] ∧ Cc K C ∧ H p = some (.ins C dx []) ∧ ∀ H' fs, H' p = some (.ins C dx fs) → fs.lookup ("left" : Str) = some l → fs.lookup ("right" : Str) = some r → fs.lookup ("holds" : Str) = none → fs.lookup ("word" : Str) = none → (∀ b o, H b = some o → b ≠ p → H' b = some o) → Q .cJ H'
def D4 (c : Cl) : Sp := fun vs H Q _ => ∃ (l : Addr) (k : Lk), vs = [.ref l] ∧ H l = some (.lst ((ue k).map tx)) ∧ bg k.l = true ∧ bg k.r = true ∧ ∀ v H', ah H H' → oS c H H' k v → Q v H'
def D5 (K : PySem.W.Frag) : Sp := fun vs H Q _ => ∃ (l : Addr) (p : Cs × Cs), vs = [.ref l] ∧ H l = some (.lst ((uf p).map tx)) ∧ bg p.1 = true ∧ bg p.2 = true ∧ ∀ v H', ah H H' → Pair K H' p v → Q v H'
def yZ (c : Cl) : Sp := fun vs H Q _ => ∃ (l : Addr) (ks : List Lk), vs = [.ref l] ∧ H l = some (.lst ((glue [44] (ks.map ue)).map tx)) ∧ ks ≠ [] ∧ ks.length ≤ 1000 ∧ (∀ k ∈ ks, bg k.l = true ∧ bg k.r = true) ∧ ∀ v H', ah H H' → Looks c H H' v ks → Q v H'
def y0 (K : PySem.W.Frag) : Sp := fun vs H Q _ => ∃ (l : Addr) (ps : List (Cs × Cs)), vs = [.ref l] ∧ H l = some (.lst ((glue [44] (ps.map uf)).map tx)) ∧ ps ≠ [] ∧ ps.length ≤ 1000 ∧ (∀ k ∈ ps, bg k.1 = true ∧ bg k.2 = true) ∧ ∀ v H', ah H H' → Pairs K H H' v ps → Q v H'
theorem m5 {p : Cs} (h : bg p = true) : p ≠ [44] := by
 intro e
 rw [e] at h
 exact absurd h (by decide +kernel)
theorem uh {m : Cs} : ∀ (qs : List (List Cs)) (B : Nat), (∀ q ∈ qs, q.length ≤ B) → (glue m qs).length ≤ qs.length * (B + 1)
 | [], _, _ => by simp [glue]
 | [q], B, h => by
  show q.length ≤ _
  have := h q (by simp)
  simp
  omega
 | q :: q2 :: r, B, h => by
  have ih := uh (m := m) (q2 :: r) B fun x hx => h x (List.mem_cons_of_mem _ hx)
  have hq := h q (by simp)
  show (q ++ m :: glue m (q2 :: r)).length ≤ _
  rw [List.length_append, List.length_cons, List.length_cons, Nat.add_mul]
  omega
end Bk
namespace Bk
open PySem L2 fZ
inductive Pt where
 | fs (l : List Fc)
 | lk (l : List Lk)
 | pr (l : List (Cs × Cs))
def cA (K : PySem.W.Frag) (c : Cl) (H0 H : Hp) (v : V) : Pt → Prop
 | .fs l => Facts K H0 H v l
 | .lk l => Looks c H0 H v l
 | .pr l => Pairs K H0 H v l
theorem cA.keep {K : PySem.W.Frag} {c : Cl} {H0 H H' : Hp} {v : V} (k : Kp H0 H H') : ∀ {p : Pt}, cA K c H0 H v p → cA K c H0 H' v p
 | .fs _, h => Facts.keep k h
 | .lk _, h => Looks.keep k h
 | .pr _, h => Pairs.keep k h
theorem oS.bz {c : Cl} {H0 H1 H : Hp} {x : Lk} {v : V} (d : ∀ b, H1 b = none → H0 b = none) (h : oS c H1 H x v) : oS c H0 H x v := by
 obtain ⟨a, dx, fs, e, n, r⟩ := h
 exact ⟨a, dx, fs, e, d a n, r⟩
theorem Looks.bz {c : Cl} {H0 H1 H : Hp} {xs : List Lk} {v : V} (d : ∀ b, H1 b = none → H0 b = none) (h : Looks c H1 H v xs) : Looks c H0 H v xs := by
 obtain ⟨l, vs, e, n, h1, h2⟩ := h
 exact ⟨l, vs, e, d l n, h1, L2.Paired.bQ h2 fun _ _ z => z.bz d⟩
theorem cA.bz {K : PySem.W.Frag} {c : Cl} {H0 H1 H : Hp} {v : V} (d : ∀ b, H1 b = none → H0 b = none) : ∀ {p : Pt}, cA K c H1 H v p → cA K c H0 H v p
 | .fs _, h => wa.bz d h
 | .lk _, h => Looks.bz d h
 | .pr _, h => wa.bz d h
def wordAt : Nat → Cs
 | 0 => JF
 | 1 => JG
 | 2 => JI
 | 3 => NY
 | _ => ua
theorem uj {i j : Nat} (hi : i < 5) (hj : j < 5) (h : wordAt i = wordAt j) : i = j := by
 rcases (by omega : i = 0 ∨ i = 1 ∨ i = 2 ∨ i = 3 ∨ i = 4) with e | e | e | e | e <;> subst e <;>
 rcases (by omega : j = 0 ∨ j = 1 ∨ j = 2 ∨ j = 3 ∨ j = 4) with e | e | e | e | e <;> subst e <;> first | rfl | exact absurd h (by decide)
inductive oZ : Nat → List Cs → Pt → Prop
 | fs {n : Nat} {ps : List Cs} {l : List Fc} (hn : n = 0 ∨ n = 1 ∨ n = 3) (h : rZ ps l) : oZ n ps (.fs l)
 | lk {l : List Lk} (h0 : l ≠ []) (hl : l.length ≤ 1000) (h : ∀ k ∈ l, bg k.l = true ∧ bg k.r = true) : oZ 2 (glue [44] (l.map ue)) (.lk l)
 | pr {l : List (Cs × Cs)} (h0 : l ≠ []) (hl : l.length ≤ 1000) (h : ∀ k ∈ l, bg k.1 = true ∧ bg k.2 = true) : oZ 4 (glue [44] (l.map uf)) (.pr l)
def D6 (K : PySem.W.Frag) (c : Cl) : Sp := fun vs H Q _ => ∃ (l : Addr) (n : Nat) (ps : List Cs) (p : Pt), vs = [tx (wordAt n), .ref l] ∧ H l = some (.lst (ps.map tx)) ∧ ps.length ≤ 20000 ∧ oZ n ps p ∧ ∀ v H', ah H H' → cA K c H H' v p → Q v H'
structure Pr where
 n : Nat
 ps : List Cs
 p : Pt
def Pe : Nat → List Pr → Prop
 | _, [] => True
 | m, x :: r => m ≤ x.n ∧ x.n < 5 ∧ Pe (x.n + 1) r
structure F3 (title : Cs) (L : List Pr) : Prop where
 tt : aN title = true
 ne : L ≠ []
 inc : Pe 0 L
 ok : ∀ x ∈ L, oZ x.n x.ps x.p
 hd : ∃ x ∈ L, x.n = 0 ∨ x.n = 1
 no : ∀ x ∈ L, [59] ∉ x.ps
def iB (title : Cs) (L : List Pr) : List Cs := gw :: title :: [58] :: glue [59] (L.map fun x => wordAt x.n :: x.ps)
def cB (K : PySem.W.Frag) (c : Cl) (H0 H : Hp) (L : List Pr) (kvs : List (Key × V)) : Prop := Paired (fun (x : Pr) (kv : Key × V) => kv.1 = Sum.inr (S (wordAt x.n)) ∧ cA K c H0 H kv.2 x.p) L kvs
theorem cB.keep {K : PySem.W.Frag} {c : Cl} {H0 H H' : Hp} {L : List Pr} {kvs : List (Key × V)} (k : Kp H0 H H') (h : cB K c H0 H L kvs) : cB K c H0 H' L kvs := L2.Paired.bQ h fun _ _ z => ⟨z.1, z.2.keep k⟩
def D7 (K : PySem.W.Frag) (c : Cl) : Sp := fun vs H Q _ => ∃ (l : Addr) (title : Cs) (L : List Pr), vs = [.ref l] ∧ H l = some (.lst ((iB title L).map tx)) ∧ (iB title L).length ≤ 20000 ∧ F3 title L ∧
 ∀ (t d : Addr) (kvs : List (Key × V)) (H' : Hp), ah H H' → H' t = some (.tup [tx title, .ref d]) → H d = none → H' d = some (.dK kvs) → cB K c H H' L kvs → Q (.ref t) H'
theorem x6 {kvs : List (Key × V)} {k : Key} (h : ∀ p ∈ kvs, p.1 ≠ k) : bF kvs k = none := by
 cases e : bF kvs k with
 | none => rfl
 | some v =>
  obtain ⟨p, hp, hk⟩ := List.mem_map.mp (MD e)
  exact absurd hk (h p hp)
theorem qo : ∀ {L : List Pr} {m : Nat}, Pe m L → ∀ x ∈ L, m ≤ x.n ∧ x.n < 5
 | [], _, _, _, h => nomatch h
 | y :: r, m, hi, x, h => by
  rcases List.mem_cons.mp h with e | h
  ·subst e; exact ⟨hi.1, hi.2.1⟩
  ·have z := qo hi.2.2 x h
   have := hi.1
   exact ⟨by omega, z.2⟩
theorem JK : ∀ {L : List Pr} {m : Nat}, Pe m L → ∀ i (h : i < L.length), (∀ x ∈ L.take i, x.n < L[i].n) ∧ L[i].n < 5
 | y :: r, m, hi, 0, _ => ⟨(fun _ z => by cases z), hi.2.1⟩
 | y :: r, m, hi, i + 1, h => by
  have ih := JK hi.2.2 i (by simpa using h)
  refine ⟨fun x hx => ?_, ih.2⟩
  rw [List.take_succ_cons] at hx
  rcases List.mem_cons.mp hx with e | hx
  ·subst e
   have := qo hi.2.2 (r[i]'(by simpa using h)) (List.getElem_mem _)
   show x.n < (r[i]'(by simpa using h)).n
   omega
  ·exact ih.1 x hx
theorem x8 : ∀ {L : List Pr} {m : Nat}, Pe m L → ∀ i (h : i < L.length), ∀ x ∈ L.drop (i + 1), L[i].n + 1 ≤ x.n
 | y :: r, m, hi, 0, _, x, hx => (qo hi.2.2 x hx).1
 | y :: r, m, hi, i + 1, h, x, hx => x8 hi.2.2 i (by simpa using h) x hx
theorem F4 : ∀ {L : List Pr} {m : Nat}, Pe m L → m ≤ 5 → L.length ≤ 5 - m
 | [], _, _, _ => Nat.zero_le _
 | y :: r, m, hi, hm => by
  have ih := F4 hi.2.2 (by have := hi.2.1; omega)
  have := hi.1
  have := hi.2.1
  rw [List.length_cons]
  omega
theorem Cd {m : Cs} : ∀ (qs : List (List Cs)) (q : List Cs), q ∈ qs → q.length ≤ (glue m qs).length
 | [a], q, h => by rw [List.mem_singleton.mp h]; exact Nat.le_refl _
 | a :: b :: r, q, h => by
  have ih := Cd (m := m) (b :: r)
  show q.length ≤ (a ++ m :: glue m (b :: r)).length
  rw [List.length_append, List.length_cons]
  rcases List.mem_cons.mp h with e | h
  ·rw [e]; omega
  ·have := ih q h; omega
theorem x9 {K : PySem.W.Frag} {c : Cl} {H0 H : Hp} : ∀ {L : List Pr} {kvs : List (Key × V)}, cB K c H0 H L kvs → ∀ {x : Pr}, x ∈ L → (bF kvs (Sum.inr (S (wordAt x.n)) : Key)).isSome = true
 | _, _, .nil, _, h => nomatch h
 | _, _, .cons (a := a) (b := b) (l₁ := l1) (l₂ := l2) r t, x, h => by
  rw [← jh, List.any_cons]
  rcases List.mem_cons.mp h with e | h
  ·subst e
   rw [decide_eq_true r.1]
   rfl
  ·have ih := x9 t h
   rw [← jh] at ih
   rw [ih, Bool.or_true]
end Bk
namespace Bk
open PySem L2 fZ
def JL (f : Fc) : Prop := aN f.k = true ∧ f.as.length ≤ 20000 ∧ ∀ a ∈ f.as, bg a = true
def nC (x : Cs) (acc : List Cs) : List Cs := if great x = true then (if x ∈ acc then acc else acc ++ [x]) else acc
def dQ (l : List Cs) (acc : List Cs) : List Cs := l.foldl (fun acc x => nC x acc) acc
theorem lA : ∀ (l acc : List Cs), once (l.filter great) acc = dQ l acc
 | [], acc => rfl
 | x :: r, acc => by
  rw [List.filter_cons]
  by_cases h : great x = true
  ·rw [if_pos h]
   show once (r.filter great) (if x ∈ acc then acc else acc ++ [x]) = dQ r (nC x acc)
   rw [lA r]
   unfold nC
   rw [if_pos h]
  ·rw [if_neg h, lA r]
   show _ = dQ r (nC x acc)
   unfold nC
   rw [if_neg h]
theorem JM (fs : List Fc) : opens fs = dQ (fs.flatMap (·.as)) [] := lA _ _
theorem qp (a b acc : List Cs) : dQ (a ++ b) acc = dQ b (dQ a acc) := List.foldl_append ..
def wt (a : Cs) : Key × V := (Sum.inr (S a), .bl true)
theorem JN (x : Cs) (acc : List Cs) : putK (acc.map wt) (Sum.inr (S x) : Key) (.bl true) = (if x ∈ acc then acc else acc ++ [x]).map wt := by
 unfold putK
 have e : ((acc.map wt).any fun kv => decide (kv.1 = (Sum.inr (S x) : Key))) = decide (x ∈ acc) := by
  rw [Bool.eq_iff_iff, List.any_eq_true, decide_eq_true_eq]
  constructor
  ·rintro ⟨kv, hm, hk⟩
   obtain ⟨a, ha, rfl⟩ := List.mem_map.mp hm
   have := of_decide_eq_true hk
   rw [x3 (Sum.inr.inj this)] at ha
   exact ha
  ·intro h
   exact ⟨wt x, List.mem_map.mpr ⟨x, h, rfl⟩, decide_eq_true rfl⟩
 rw [e]
 by_cases h : x ∈ acc
 ·rw [decide_eq_true h, if_pos rfl, if_pos h]
  rw [List.map_map]
  refine List.map_congr_left fun a _ => ?_
  show (if (wt a).1 = _ then ((wt a).1, V.bl true) else wt a) = wt a
  split <;> rfl
 ·rw [decide_eq_false h, if_neg (by decide), if_neg h, List.map_append]
  rfl
theorem He (x : Cs) (acc : List Cs) : (nC x acc).length ≤ acc.length + 1 := by
 unfold nC
 split
 ·split <;> simp
 ·omega
def y4 (K : PySem.W.Frag) : Sp := fun vs H Q _ => ∃ (l : Addr) (us : List V) (fs : List Fc), vs = [.ref l] ∧ H l = some (.lst us) ∧ Paired (Fact K H) fs us ∧ fs.length ≤ 20000 ∧ (∀ f ∈ fs, JL f) ∧ (fs.flatMap (·.as)).length ≤ 20000 ∧ ∀ v H', ah H H' → oT H H' v (opens fs) → Q v H'
def kT (n : Nat) (L : List Pr) : Option Pr := L.find? fun x => x.n == n
def r6 (n : Nat) (L : List Pr) : List Fc := match kT n L with
 | some ⟨_, _, .fs l⟩ => l
 | _ => []
def Hf (L : List Pr) : List Lk := match kT 2 L with
 | some ⟨_, _, .lk l⟩ => l
 | _ => []
def Hg (L : List Pr) : List (Cs × Cs) := match kT 4 L with
 | some ⟨_, _, .pr l⟩ => l
 | _ => []
def ic (title : Cs) (L : List Pr) : Rl := ⟨title, r6 0 L, r6 1 L, Hf L, r6 3 L, Hg L⟩
theorem m6 {K : PySem.W.Frag} {c : Cl} {H0 H : Hp} : ∀ {L : List Pr} {kvs : List (Key × V)} {n : Nat}, cB K c H0 H L kvs → (∀ x ∈ L, x.n < 5) → n < 5 →
  (kT n L = none ∧ bF kvs (Sum.inr (S (wordAt n)) : Key) = none) ∨ ∃ x v, kT n L = some x ∧ x ∈ L ∧ x.n = n ∧ bF kvs (Sum.inr (S (wordAt n)) : Key) = some v ∧ cA K c H0 H v x.p
 | _, _, n, .nil, _, _ => .inl ⟨rfl, rfl⟩
 | _, _, n, .cons (a := a) (b := b) (l₁ := l1) (l₂ := l2) r t, h5, hn => by
  by_cases e : a.n = n
  ·refine .inr ⟨a, b.2, ?_, List.mem_cons_self, e, ?_, r.2⟩
   ·unfold kT
    rw [List.find?_cons, show (a.n == n) = true by simpa using e]
   ·exact k7 (by rw [r.1, e])
  ·have hf : kT n (a :: l1) = kT n l1 := by
    unfold kT
    rw [List.find?_cons, show (a.n == n) = false by simpa using e]
   have hv : bF (b :: l2) (Sum.inr (S (wordAt n)) : Key) = bF l2 (Sum.inr (S (wordAt n)) : Key) := k8 (by
    rw [r.1]
    intro z
    exact e (uj (h5 a List.mem_cons_self) hn (x3 (Sum.inr.inj z))))
   rw [hf, hv]
   rcases m6 (n := n) t (fun x hx => h5 x (List.mem_cons_of_mem _ hx)) hn with z | ⟨x, v, z1, z2, z3⟩
   ·exact .inl z
   ·exact .inr ⟨x, v, z1, List.mem_cons_of_mem _ z2, z3⟩
theorem Ce {K : PySem.W.Frag} {H0 H : Hp} {l : Addr} (h0 : H0 l = none) (h : H l = some (.lst [])) : Facts K H0 H (.ref l) [] := ⟨l, [], rfl, h0, h, .nil⟩
theorem Cf {c : Cl} {H0 H : Hp} {l : Addr} (h0 : H0 l = none) (h : H l = some (.lst [])) : Looks c H0 H (.ref l) [] := ⟨l, [], rfl, h0, h, .nil⟩
theorem Cg {K : PySem.W.Frag} {H0 H : Hp} {l : Addr} (h0 : H0 l = none) (h : H l = some (.lst [])) : Pairs K H0 H (.ref l) [] := ⟨l, [], rfl, h0, h, .nil⟩
theorem D8 {K : PySem.W.Frag} {c : Cl} {H0 H : Hp} {L : List Pr} {kvs : List (Key × V)} {n : Nat} {l : Addr} (pa : cB K c H0 H L kvs) (h5 : ∀ x ∈ L, x.n < 5) (bt : ∀ x ∈ L, oZ x.n x.ps x.p) (hn : n = 0 ∨ n = 1 ∨ n = 3) (h0 : H0 l = none) (h : H l = some (.lst [])) :
  Facts K H0 H ((bF kvs (Sum.inr (S (wordAt n)) : Key)).getD (.ref l)) (r6 n L) := by
 rcases m6 (n := n) pa h5 (by omega) with ⟨z1, z2⟩ | ⟨⟨xn, YV, xp⟩, v, z1, z2, rfl, z4, z5⟩
 ·rw [z2]
  unfold r6
  rw [z1]
  exact Ce h0 h
 ·rw [z4]
  unfold r6
  rw [z1]
  have hP := bt _ z2
  cases xp with
  | fs l => exact z5
  | lk l => cases hP; exact absurd (show 2 = 0 ∨ 2 = 1 ∨ 2 = 3 from hn) (by decide)
  | pr l => cases hP; exact absurd (show 4 = 0 ∨ 4 = 1 ∨ 4 = 3 from hn) (by decide)
theorem Pf {K : PySem.W.Frag} {c : Cl} {H0 H : Hp} {L : List Pr} {kvs : List (Key × V)} {l : Addr} (pa : cB K c H0 H L kvs) (h5 : ∀ x ∈ L, x.n < 5) (bt : ∀ x ∈ L, oZ x.n x.ps x.p) (h0 : H0 l = none) (h : H l = some (.lst [])) :
  Looks c H0 H ((bF kvs (Sum.inr (S (wordAt 2)) : Key)).getD (.ref l)) (Hf L) := by
 rcases m6 (n := 2) pa h5 (by omega) with ⟨z1, z2⟩ | ⟨⟨xn, YV, xp⟩, v, z1, z2, z3, z4, z5⟩
 ·rw [z2]
  unfold Hf
  rw [z1]
  exact Cf h0 h
 ·rw [z4]
  unfold Hf
  rw [z1]
  have z3 : xn = 2 := z3
  subst z3
  have hP := bt _ z2
  cases xp with
  | fs l => cases hP with | fs hn _ => exact absurd (show 2 = 0 ∨ 2 = 1 ∨ 2 = 3 from hn) (by decide)
  | lk l => exact z5
  | pr l => cases hP
theorem Pg {K : PySem.W.Frag} {c : Cl} {H0 H : Hp} {L : List Pr} {kvs : List (Key × V)} {l : Addr} (pa : cB K c H0 H L kvs) (h5 : ∀ x ∈ L, x.n < 5) (bt : ∀ x ∈ L, oZ x.n x.ps x.p) (h0 : H0 l = none) (h : H l = some (.lst [])) :
  Pairs K H0 H ((bF kvs (Sum.inr (S (wordAt 4)) : Key)).getD (.ref l)) (Hg L) := by
 rcases m6 (n := 4) pa h5 (by omega) with ⟨z1, z2⟩ | ⟨⟨xn, YV, xp⟩, v, z1, z2, z3, z4, z5⟩
 ·rw [z2]
  unfold Hg
  rw [z1]
  exact Cg h0 h
 ·rw [z4]
  unfold Hg
  rw [z1]
  have z3 : xn = 4 := z3
  subst z3
  have hP := bt _ z2
  cases xp with
  | fs l => cases hP with | fs hn _ => exact absurd (show 4 = 0 ∨ 4 = 1 ∨ 4 = 3 from hn) (by decide)
  | lk l => cases hP
  | pr l => exact z5
structure y6 (K : PySem.W.Frag) (C : Addr) : Prop where
 cl : DA K C
 n1 : cz K C "title"
 n2 : cz K C "taken"
 n3 : cz K C "kept"
 n4 : cz K C "looks"
 n5 : cz K C "given"
 n6 : cz K C "told"
 n7 : cz K C "names"
structure ML (K : PySem.W.Frag) (C : Addr) : Prop where
 cl : DA K C
 n1 : cz K C "kinds"
 n2 : cz K C "rules"
structure MM (r : Rl) : Prop where
 heads : ∀ f ∈ r.take ++ r.keep, JL f
 few : (r.take ++ r.keep).length ≤ 20000
 WJ : ((r.take ++ r.keep).flatMap (·.as)).length ≤ 20000
def sQ (K : PySem.W.Frag) (c : Cl) : Sp := fun vs H Q _ => ∃ (H0 : Hp) (p dx d : Addr) (title : Cs) (L : List Pr) (kvs : List (Key × V)) (u0 : HO), vs = [.ref p, tx title, .ref d] ∧ H p = some (.ins c.rule dx []) ∧ H0 p = some u0 ∧ (∀ b, H b = none → H0 b = none) ∧ H d = some (.dK kvs) ∧
 cB K c H0 H L kvs ∧ (∀ x ∈ L, x.n < 5) ∧ (∀ x ∈ L, oZ x.n x.ps x.p) ∧ MM (ic title L) ∧
 ∀ H' fs, H' p = some (.ins c.rule dx fs) → oU K c H0 H' (ic title L) fs → (∀ b o, H b = some o → b ≠ p → H' b = some o) → Q .cJ H'
def sR (K : PySem.W.Frag) (c : Cl) : Sp := fun vs H Q _ => ∃ (p dx : Addr) (k r : V), vs = [.ref p, k, r] ∧ H p = some (.ins c.book dx []) ∧ ∀ H' fs, H' p = some (.ins c.book dx fs) → fs.lookup ("kinds" : Str) = some k → fs.lookup ("rules" : Str) = some r → (∀ b o, H b = some o → b ≠ p → H' b = some o) → Q .cJ H'
def y7 (K : PySem.W.Frag) (c : Cl) : Sp := fun vs H Q _ => ∃ (H0 : Hp) (v : V) (r : Rl), vs = [v] ∧ ik K c H0 H r v ∧ Q (.bl (decide (r.take = []))) H
theorem jK {α β : Type} {R : α → β → Prop} : ∀ {a1 a2 : List α} {b1 b2 : List β}, Paired R a1 b1 → Paired R a2 b2 → Paired R (a1 ++ a2) (b1 ++ b2)
 | _, _, _, _, .nil, h => h
 | _, _, _, _, .cons r t, h => .cons r (jK t h)
end Bk
namespace Bk
open PySem L2 fZ
theorem o9 (a : Cs) (l : List Cs) : G2 (tx a) (l.map tx) = decide (a ∈ l) := by
 unfold G2
 rw [List.any_map, Bool.eq_iff_iff, List.any_eq_true, decide_eq_true_eq]
 constructor
 ·rintro ⟨x, hx, h⟩
  have e : (S x == S a) = true := h
  rw [x3 (eq_of_beq e)] at hx
  exact hx
 ·intro h
  exact ⟨a, h, (show (S a == S a) = true from beq_self_eq_true _)⟩
theorem lB (l : List Cs) : (l.map tx).all eT = true := by
 rw [List.all_map, List.all_eq_true]
 intro x _
 rfl
theorem jk {tt : TT} {te : TE} {aG : List Nat} {σ : St} {H1 : Hp} {Q : VK} {K : PySem.W.Frag} {a : Addr} {xs : List V} {D : Addr} {β γ : Type} (bs : List β) (kp : β → Bool) (g : β → γ) (Out : Hp → Hp → γ → V → Prop)
  (keep : ∀ H0 H H' b y, Kp H0 H H' → Out H0 H b y → Out H0 H' b y) (bz : ∀ H0 H2 H b y, (∀ c, H2 c = none → H0 c = none) → Out H2 H b y → Out H0 H b y)
  (hn : xs.length < sizeLine) (xU : H1 D = none) (hl : ay K H1 a xs) (hb : bs.length = xs.length)
  (ht : ∀ (i : Nat) x b H' R, xs[i]? = some x → bs[i]? = some b → ah H1 H' → (∀ nA, ah H' nA → R (kp b) nA) → tt (bV σ (some x) aG) H' R)
  (he : ∀ (i : Nat) x b H' R, xs[i]? = some x → bs[i]? = some b → kp b = true → ah H1 H' → (∀ y nA, ah H' nA → Out H' nA (g b) y → R y nA) → te (bV σ (some x) aG) H' R)
  (hd : ∀ H' ys, ah H1 H' → H' D = some (.lst ys) → Paired (Out H1 H') ((bs.filter kp).map g) ys → Q (.ref D) H') : rB tt te aG σ Q (LX K a) H1 D := by
 have s0 : ah H1 (upd H1 D (.lst [])) := aj xU _
 have Pd : ∀ c, upd H1 D (.lst []) c = none → H1 c = none := fun c h => s0.free h
 refine qe (K := K) (a := a) (xs := xs) hn (fun i ys H' => ah H1 H' ∧ H' D = some (.lst ys) ∧ (∀ c, H' c = none → upd H1 D (.lst []) c = none) ∧ Paired (Out (upd H1 D (.lst [])) H') (((bs.take i).filter kp).map g) ys) ⟨s0, af, fun _ h => h, .nil⟩
  (fun i ys H' p => p.1.seq hl) (fun i ys H' p => ⟨p.2.1, ?_⟩) (fun i ys H' hi p => ?_) (fun ys H' p => ?_)
 ·have z := Paired.length p.2.2.2
  rw [Lm9] at z
  have z2 := List.length_filter_le kp (bs.take i)
  rw [List.length_take] at z2
  omega
 ·have hx : xs.getD i .cJ = xs[i] := by rw [Gd9, Ge9 hi]; rfl
  rw [hx]
  have eQ : i < bs.length := by omega
  refine ht i xs[i] bs[i] H' _ (Ge9 hi) (Ge9 eQ) p.1 fun YW Ph => ?_
  have Ve := Ph _ _ p.2.1
  have Pj : ∀ c, YW c = none → upd H1 D (.lst []) c = none := fun c h => p.2.2.1 c (Ph.free h)
  cases hk : kp bs[i] with
  | false =>
   refine bw ⟨ah.trans p.1 Ph, Ve, Pj, ?_⟩
   rw [List.take_succ_eq_append_getElem eQ, List.filter_append]
   have e : [bs[i]].filter kp = [] := by simp [hk]
   rw [e, List.append_nil]
   exact L2.Paired.bQ p.2.2.2 fun b v z => keep _ _ _ _ _ (Kp.same Ph) z
  | true =>
   refine nT ?_
   refine he i xs[i] bs[i] YW _ (Ge9 hi) (Ge9 eQ) hk (ah.trans p.1 Ph) fun y H2 s2 ho => ?_
   have nV := s2 _ _ Ve
   have NV : Kp (upd H1 D (.lst [])) H2 (upd H2 D (.lst (ys ++ [y]))) := Kp.upd af nV (by intro xs z; cases z) (by intro o u z; cases z)
   refine ⟨nV, ah.aS (ah.trans (ah.trans p.1 Ph) s2) xU _, af, fun c h => ?_, ?_⟩
   ·exact Pj c (s2.free (NV.t6 c h))
   ·rw [List.take_succ_eq_append_getElem eQ, List.filter_append]
    have e : [bs[i]].filter kp = [bs[i]] := by simp [hk]
    rw [e, List.map_append]
    refine (L2.Paired.bQ p.2.2.2 fun b v z => keep _ _ _ _ _ NV (keep _ _ _ _ _ (Kp.same (ah.trans Ph s2)) z)).snoc ?_
    exact keep _ _ _ _ _ NV (bz _ _ _ _ _ Pj ho)
 ·have z := p.2.2.2
  rw [List.take_of_length_le (by omega)] at z
  exact hd H' ys p.1 p.2.1 (L2.Paired.bQ z fun b v h => bz _ _ _ _ _ (fun c h => by
   by_cases e : c = D
   ·rw [e]; exact xU
   ·exact Pd c h) h)
theorem dI : ∀ {l : List Cs} {ys : List V}, Paired (fun b y => y = tx b) l ys → ys = l.map tx
 | _, _, .nil => rfl
 | _, _, .cons r t => by rw [r, dI t]; rfl
def Pk (k : Kd) : Prop := aN k.n = true ∧ k.c ≤ 4
structure nX (K : PySem.W.Frag) (c : Cl) (H0 H : Hp) (lk lr : Addr) (ks : List Kd) (rs : List Rl) (kvs pY : List V) : Prop where
 hk : H lk = some (.lst kvs)
 pk : Paired (Kind K H) ks kvs
 hr : H lr = some (.lst pY)
 pr : Paired (ik K c H0 H) rs pY
 ne : lk ≠ lr
 ok : ∃ u, H0 lk = some u
 or : ∃ u, H0 lr = some u
 t6 : ∀ b, H b = none → H0 b = none
 fk : ks.length ≤ 10000
 fr : rs.length ≤ 10000
def D9 (K : PySem.W.Frag) (c : Cl) : Sp := fun vs H Q _ => ∃ (H0 : Hp) (lk lr : Addr) (ks : List Kd) (rs : List Rl) (kvs pY : List V) (p : Cs), vs = [.ref lk, .ref lr, tx p] ∧ nX K c H0 H lk lr ks rs kvs pY ∧ ks.length < 10000 ∧ rs.length < 10000 ∧ p.length ≤ 20000 ∧ p.all (NW Cb) = true ∧
  ((∃ k : Kd, toks p = x5 k ∧ Pk k ∧ k.n ∉ ks.map (·.n) ∧ ∀ v H', (∀ b o, b ≠ lk → H b = some o → H' b = some o) → nX K c H0 H' lk lr (ks ++ [k]) rs (kvs ++ [v]) pY → Q .cJ H') ∨
   (∃ (title : Cs) (L : List Pr), toks p = iB title L ∧ F3 title L ∧ MM (ic title L) ∧ title ∉ rs.map (·.title) ∧ ∀ v H', (∀ b o, b ≠ lr → H b = some o → H' b = some o) → nX K c H0 H' lk lr ks (rs ++ [ic title L]) kvs (pY ++ [v]) → Q .cJ H'))
theorem ik.bz {K : PySem.W.Frag} {c : Cl} {H0 H1 H : Hp} {r : Rl} {v : V} (d : ∀ b, H1 b = none → H0 b = none) (h : ik K c H1 H r v) : ik K c H0 H r v := by
 obtain ⟨a, dx, fs, e, n, h1, ⟨t1, ⟨v2, e2, h2⟩, ⟨v3, e3, h3⟩, ⟨v4, e4, h4⟩, ⟨v5, e5, h5⟩, ⟨v6, e6, h6⟩, ⟨v7, e7, h7⟩, h8⟩⟩ := h
 refine ⟨a, dx, fs, e, d a n, h1, ⟨t1, ⟨v2, e2, wa.bz d h2⟩, ⟨v3, e3, wa.bz d h3⟩, ⟨v4, e4, Looks.bz d h4⟩, ⟨v5, e5, wa.bz d h5⟩, ⟨v6, e6, wa.bz d h6⟩, ⟨v7, e7, ?_⟩, h8⟩⟩
 obtain ⟨l, el, nl, hl⟩ := h7
 exact ⟨l, el, d l nl, hl⟩
theorem cA.apart {K : PySem.W.Frag} {c : Cl} {H0 H : Hp} {v : V} {x : Addr} {o : HO} (hx : H x = none) {p : Pt} (h : cA K c H0 H v p) : cA K c (upd H0 x o) H v p := by
 have key : ∀ b u, H b = some u → H0 b = none → upd H0 x o b = none := fun b u e n => by rw [aq (aI e hx)]; exact n
 cases p with
 | fs l =>
  obtain ⟨l, vs, e, n, h1, h2⟩ := h
  exact ⟨l, vs, e, key _ _ h1 n, h1, h2⟩
 | pr l =>
  obtain ⟨l, vs, e, n, h1, h2⟩ := h
  exact ⟨l, vs, e, key _ _ h1 n, h1, h2⟩
 | lk l =>
  obtain ⟨l, vs, e, n, h1, h2⟩ := h
  exact ⟨l, vs, e, key _ _ h1 n, h1, L2.Paired.bQ h2 fun k y z => by
   obtain ⟨a, dx, fs, e, n, z1, z2⟩ := z
   exact ⟨a, dx, fs, e, key _ _ z1 n, z1, z2⟩⟩
theorem oU.bz {K : PySem.W.Frag} {c : Cl} {H0 H1 H : Hp} {r : Rl} {fs : List (Str × V)} (d : ∀ b, H1 b = none → H0 b = none) (h : oU K c H1 H r fs) : oU K c H0 H r fs := by
 obtain ⟨t1, ⟨v2, e2, h2⟩, ⟨v3, e3, h3⟩, ⟨v4, e4, h4⟩, ⟨v5, e5, h5⟩, ⟨v6, e6, h6⟩, ⟨v7, e7, h7⟩, h8⟩ := h
 refine ⟨t1, ⟨v2, e2, wa.bz d h2⟩, ⟨v3, e3, wa.bz d h3⟩, ⟨v4, e4, Looks.bz d h4⟩, ⟨v5, e5, wa.bz d h5⟩, ⟨v6, e6, wa.bz d h6⟩, ⟨v7, e7, ?_⟩, h8⟩
 obtain ⟨l, el, nl, hl⟩ := h7
 exact ⟨l, el, d l nl, hl⟩
def pb (ks : List Kd) (f : Fc) : Prop := ∃ k ∈ ks, k.n = f.k ∧ f.as.length = k.c
def um (K : PySem.W.Frag) : Sp := fun vs H Q _ => ∃ (lk lf : Addr) (kvs JO : List V) (ks : List Kd) (fs : List Fc), vs = [.ref lk, .ref lf] ∧ H lk = some (.lst kvs) ∧ Paired (Kind K H) ks kvs ∧ (ks.map (·.n)).Nodup ∧ ks.length ≤ 10000 ∧ H lf = some (.lst JO) ∧ Paired (Fact K H) fs JO ∧ (∀ f ∈ fs, pb ks f) ∧ ∀ H', ah H H' → Q .cJ H'
def uo (K : PySem.W.Frag) : Sp := fun vs H Q _ => ∃ (ll lf : Addr) (JO : List V) (ls : List Cs) (fs : List Fc), vs = [.ref ll, .ref lf] ∧ H ll = some (.lst (ls.map tx)) ∧ H lf = some (.lst JO) ∧ Paired (Fact K H) fs JO ∧ (∀ f ∈ fs, f.k ∉ ls) ∧ Q .cJ H
def uq (K : PySem.W.Frag) (c : Cl) : Sp := fun vs H Q _ => ∃ (H0 : Hp) (ll : Addr) (v : V) (ls : List Cs) (r : Rl), vs = [.ref ll, v] ∧ H ll = some (.lst (ls.map tx)) ∧ ik K c H0 H r v ∧ (r.take = [] → ∀ f ∈ r.put, f.k ∈ ls) ∧ Q .cJ H
def dD (r : Rl) : List Cs := (r.dP.flatMap fun k => [k.l, k.r]) ++ ((r.put.flatMap (·.as)) ++ (r.tell.flatMap fun p => [p.1, p.2]))
def Ea (K : PySem.W.Frag) (c : Cl) : Sp := fun vs H Q _ => ∃ (H0 : Hp) (v : V) (r : Rl), vs = [v] ∧ ik K c H0 H r v ∧ (dD r).length ≤ 20000 ∧ ∀ u H', ah H H' → oT H H' u (dD r) → Q u H'
def uu (K : PySem.W.Frag) (c : Cl) : Sp := fun vs H Q _ => ∃ (H0 : Hp) (v : V) (r : Rl), vs = [v] ∧ ik K c H0 H r v ∧ (dD r).length ≤ 20000 ∧ (∀ a ∈ dD r, bg a = true) ∧ (∀ a ∈ dD r, great a = true → a ∈ opens (r.take ++ r.keep)) ∧ ∀ H', ah H H' → Q .cJ H'
structure Eb (ks : List Kd) (r : Rl) : Prop where
 fits : ∀ f ∈ r.take ++ r.keep ++ r.put, pb ks f
 takes : ∀ f ∈ r.take, f.k ∉ (ks.filter (·.l)).map (·.n)
 calls : r.take = [] → ∀ f ∈ r.put, f.k ∈ (ks.filter (·.l)).map (·.n)
 WK : ∀ a ∈ dD r, great a = true → a ∈ opens (r.take ++ r.keep)
 names : ∀ a ∈ dD r, bg a = true
 few : (dD r).length ≤ 20000
 WL : (r.take ++ r.keep ++ r.put).length ≤ 20000
def y8 (K : PySem.W.Frag) (c : Cl) : Sp := fun vs H Q _ => ∃ (H0 : Hp) (lk lr : Addr) (ks : List Kd) (rs : List Rl) (kvs pY : List V), vs = [.ref lk, .ref lr] ∧ nX K c H0 H lk lr ks rs kvs pY ∧ (ks.map (·.n)).Nodup ∧ (∀ r ∈ rs, Eb ks r) ∧
 ∀ x dx fs H', ah H H' → H x = none → H' x = some (.ins c.book dx fs) → fs.lookup ("kinds" : Str) = some (.ref lk) → fs.lookup ("rules" : Str) = some (.ref lr) → Q (.ref x) H'
theorem ph : ∀ (ps acc : List (Key × V)), ((acc ++ ps).map (·.1)).Nodup → iy acc ps = acc ++ ps
 | [], acc, _ => by show acc = acc ++ []; rw [List.append_nil]
 | p :: r, acc, h => by
  have hn : bF acc p.1 = none := x6 fun q hq e => by
   rw [List.map_append, List.map_cons, List.nodup_append] at h
   exact h.2.2 q.1 (List.mem_map.mpr ⟨q, hq, rfl⟩) p.1 List.mem_cons_self e
  have ih := ph r (acc ++ [p]) (by rw [List.append_assoc]; exact h)
  show iy (putK acc p.1 p.2) r = _
  rw [BY _ hn, ih, List.append_assoc]
  rfl
theorem ya : ∀ {ps : List (Key × V)} {k : Key} {v : V}, (ps.map (·.1)).Nodup → (k, v) ∈ ps → bF ps k = some v
 | p :: r, k, v, hn, h => by
  rw [List.map_cons, List.nodup_cons] at hn
  rcases List.mem_cons.mp h with e | h
  ·subst e; exact k7 rfl
  ·have : p.1 ≠ k := fun e => hn.1 (List.mem_map.mpr ⟨(k, v), h, e.symm⟩)
   rw [k8 this]
   exact ya hn.2 h
theorem qr {α : Type} (g : α → List Cs) (l : List α) (i : Nat) : ((l.take i).flatMap g).length ≤ (l.flatMap g).length := by
 have e : l.flatMap g = (l.take i).flatMap g ++ (l.drop i).flatMap g := by rw [← List.flatMap_append, List.take_append_drop]
 rw [e, List.length_append]
 omega
def rF (k : Kd) : Key × V := (Sum.inr (S k.n), .int k.c)
theorem rG {K : PySem.W.Frag} {H : Hp} : ∀ {ks : List Kd} {ys : List V}, Paired (fun (k : Kd) (y : V) => ∃ t, y = .ref t ∧ cP K H t [tx k.n, .int k.c]) ks ys → FX K H (ks.map rF) ys
 | _, _, .nil => .nil
 | _, _, .cons r t => .cons r (rG t)
theorem rH {ks : List Kd} (h : (ks.map (·.n)).Nodup) : ((ks.map rF).map (·.1)).Nodup := by
 rw [List.map_map]
 have e : ((fun p : Key × V => p.1) ∘ rF) = (fun n : Cs => (Sum.inr (S n) : Key)) ∘ (fun k : Kd => k.n) := rfl
 rw [e, ← List.map_map]
 exact List.pairwise_map.mpr (List.Pairwise.imp (fun ni e => ni (x3 (Sum.inr.inj e))) h)
end Bk
namespace Bk
open PySem L2 fZ
inductive It where
 | kind (k : Kd)
 | rule (title : Cs) (L : List Pr)
def It.ps : It → List Cs
 | .kind k => x5 k
 | .rule t L => iB t L
def kX : List It → List Kd
 | [] => []
 | .kind k :: r => k :: kX r
 | .rule _ _ :: r => kX r
def kY : List It → List Rl
 | [] => []
 | .kind _ :: r => kY r
 | .rule t L :: r => ic t L :: kY r
theorem lC (a b : List It) : kX (a ++ b) = kX a ++ kX b := by
 induction a with
 | nil => rfl
 | cons x r ih => cases x <;> simp [kX, ih]
theorem lD (a b : List It) : kY (a ++ b) = kY a ++ kY b := by
 induction a with
 | nil => rfl
 | cons x r ih => cases x <;> simp [kY, ih]
def WM : It → Prop
 | .kind k => Pk k
 | .rule t L => F3 t L ∧ MM (ic t L)
structure N0 (ls : List Cs) (its : List (Cs × It)) : Prop where
 lines : ls.filter told = its.map (·.1)
 ok : ∀ x ∈ its, x.1.all (NW Cb) = true ∧ toks x.1 = x.2.ps ∧ WM x.2
 nk : ((kX (its.map (·.2))).map (·.n)).Nodup
 nr : ((kY (its.map (·.2))).map (·.title)).Nodup
 good : ∀ r ∈ kY (its.map (·.2)), Eb (kX (its.map (·.2))) r
 few : its.length < 10000
def Ec (K : PySem.W.Frag) (c : Cl) : Sp := fun vs H Q _ => ∃ (ls : List Cs) (its : List (Cs × It)), vs = [tx (cq ls)] ∧ ls ≠ [] ∧ (∀ l ∈ ls, 10 ∉ l) ∧ (cq ls).length ≤ 20000 ∧ N0 ls its ∧ ∀ v H', ah H H' → t7 K c H H' (kX (its.map (·.2))) (kY (its.map (·.2))) v → Q v H'
theorem uw : ∀ (a : List It), (kX a).length ≤ a.length
 | [] => Nat.le_refl _
 | .kind k :: r => by show (kX r).length + 1 ≤ _; have := uw r; rw [List.length_cons]; omega
 | .rule t L :: r => by show (kX r).length ≤ _; have := uw r; rw [List.length_cons]; omega
theorem ux : ∀ (a : List It), (kY a).length ≤ a.length
 | [] => Nat.le_refl _
 | .kind k :: r => by show (kY r).length ≤ _; have := ux r; rw [List.length_cons]; omega
 | .rule t L :: r => by show (kY r).length + 1 ≤ _; have := ux r; rw [List.length_cons]; omega
end Bk
namespace L2
open PySem PySem.Spec PyProof.Rows
section
variable {X : Cx}
end
end L2
namespace L2
open PySem PySem.Spec PyProof.Rows
end L2
namespace Bk
open PySem L2 fZ
abbrev aaV : Str := "abcdefghijklmnopqrstuvwxyz0123456789ABCDEFGHIJKLMNOPQRSTUVWXYZ"
abbrev aSF : Str := "abcdefghijklmnopqrstuvwxyz0123456789"
theorem gx (a b : List Nat) : S a ++ S b = S (a ++ b) := by
 rw [← Hc (S a ++ S b), PySem.W.KT.app_list, cv, cv]
theorem sS : ∀ {as : List (List Nat)} {B : Nat}, (∀ a ∈ as, a.length ≤ B) → ((as.map S).map (·.length)).sum ≤ as.length * B
 | [], _, _ => by simp
 | a :: r, B, h => by
  have z := h a (by simp)
  have ih := sS (as := r) (B := B) fun x hx => h x (List.mem_cons_of_mem _ hx)
  rw [List.map_cons, List.map_cons, List.sum_cons, a0, List.length_cons, Nat.add_mul]
  omega
def Ed (K : PySem.W.Frag) : Sp := fun vs H Q _ => ∃ (a : Addr) (ns : List Int) (k : Int), vs = [.ref a, .int k] ∧ ay K H a (ns.map V.int) ∧ 0 ≤ k ∧ ∀ v : Int, Q (.int v) H
def F5 (K : PySem.W.Frag) : Sp := fun vs H Q _ => ∃ (a : Addr) (ns : List Int), vs = [.ref a] ∧ ay K H a (ns.map V.int) ∧ ns.length ≤ 63 ∧ ∀ H', Q (.bl true) H'
theorem r9 {α : Type} {n : Nat} {g : Nat → α} (h : ∀ i j, i < n → j < n → g i = g j → i = j) : ((List.range n).map g).Nodup := by
 rw [List.nodup_iff_pairwise_ne, List.pairwise_map]
 refine List.Pairwise.imp_of_mem ?_ (List.nodup_range (n := n))
 intro a b ha hb ni e
 exact ni (h a b (List.mem_range.mp ha) (List.mem_range.mp hb) e)
theorem y9 {zs : List (List Nat)} {i : Int} (h0 : 0 ≤ i) (h1 : i < zs.length) : rA (zs.map tx) i = some (tx (zs.getD i.toNat [])) := by
 have hk : i.toNat < zs.length := by omega
 have z := bN (xs := zs.map tx) (j := i.toNat) (v := tx (zs.getD i.toNat [])) (by rw [List.getElem?_map, Ge9 hk, Gd9, Ge9 hk]; rfl)
 rw [show ((i.toNat : Nat) : Int) = i by omega] at z
 exact z
theorem JP (ns : List Int) (lo hi : Option Int) : ∃ ms : List Int, hZ (ns.map V.int) lo hi = ms.map V.int ∧ ms.length ≤ ns.length := by
 refine ⟨(ns.drop (HT.df ns.length 0 lo)).take (HT.df ns.length ns.length hi - HT.df ns.length 0 lo), ?_, ?_⟩
 ·unfold hZ
  rw [Lm9, List.map_take, List.map_drop]
 ·rw [List.length_take, List.length_drop]
  omega
theorem uy {K : PySem.W.Frag} {t : Value} : PySem.W.kitOne K t t = some true := by
 unfold PySem.W.kitOne
 rw [if_pos (beq_self_eq_true t)]
end Bk
namespace Bk
open PySem L2 fZ
def Ci (c : Nat) : List Cs → Cs
 | [] => []
 | [a] => a
 | a :: r => a ++ c :: Ci c r
theorem yb (c : Nat) : ∀ (ls : List Str), (Str.join ⟨#[c]⟩ ls).cps.toList = Ci c (ls.map fun s => s.cps.toList)
 | [] => rfl
 | [a] => rfl
 | a :: b :: r => by
  have ih := yb c (b :: r)
  show ((a ++ (⟨#[c]⟩ : Str)) ++ Str.join ⟨#[c]⟩ (b :: r)).cps.toList = _
  rw [PySem.W.KT.app_list, PySem.W.KT.app_list, ih]
  show (a.cps.toList ++ [c]) ++ _ = a.cps.toList ++ c :: _
  simp
theorem F6 : ∀ ls, Ci 10 ls = cq ls
 | [] => rfl
 | [a] => rfl
 | a :: b :: r => by
  show a ++ 10 :: Ci 10 (b :: r) = a ++ 10 :: cq (b :: r)
  rw [F6 (b :: r)]
theorem MN (c : Nat) (ls : List Cs) : Txt.join ⟨#[c]⟩ (ls.map S) = S (Ci c ls) := by
 show Builtin.Str.glued ⟨#[c]⟩ _ = _
 rw [StrLaws.glued_eq_join, ← Hc (Str.join ⟨#[c]⟩ (ls.map S)), yb, List.map_map]
 have e : ((fun s : Str => s.cps.toList) ∘ S) = id := by
  funext p
  exact cv p
 rw [e, List.map_id]
theorem Cj : ∀ (ls : List Cs) (B : Nat), (∀ l ∈ ls, l.length ≤ B) → (cq ls).length ≤ ls.length * (B + 1)
 | [], _, _ => by simp [cq]
 | [a], B, h => by
  have := h a (by simp)
  show a.length ≤ 1 * (B + 1)
  omega
 | a :: b :: r, B, h => by
  have ih := Cj (b :: r) B fun l hl => h l (List.mem_cons_of_mem _ hl)
  have h1 := h a (by simp)
  show (a ++ 10 :: cq (b :: r)).length ≤ ((b :: r).length + 1) * (B + 1)
  rw [List.length_append, List.length_cons, Nat.add_mul]
  omega
def rJ (k : Kd) (a b c d : Nat) : Cs := List.replicate a 32 ++ ((if k.l = true then bZ else bS) ++ (List.replicate b 32 ++ (k.n ++ (List.replicate c 32 ++ ([48 + k.c] ++ List.replicate d 32)))))
def bG (k : Kd) : Cs := (if k.l = true then bZ else bS) ++ (32 :: (k.n ++ (32 :: [48 + k.c])))
theorem nY (k : Kd) : bG k = rJ k 0 1 1 0 := by
 unfold bG rJ
 simp [List.replicate]
theorem JQ (b : Bool) : (if b = true then bZ else bS).all bp = true ∧ (if b = true then bZ else bS).length = 7 := by cases b <;> exact ⟨by decide +kernel, rfl⟩
theorem JR {c : Nat} (h : c ≤ 4) : bp (48 + c) = true := by
 rcases (by omega : c = 0 ∨ c = 1 ∨ c = 2 ∨ c = 3 ∨ c = 4) with e | e | e | e | e <;> subst e <;> decide +kernel
theorem gy {p : Cs} (h : aN p = true) : p.all bp = true := by
 unfold aN bg at h
 simp only [Bool.and_eq_true] at h
 exact h.1.2.2
theorem yc {n : Nat} (h : 1 ≤ n) (r : Cs) : kS (List.replicate n 32 ++ r) := by
 cases n with
 | zero => omega
 | succ n => exact lb
theorem Ee {k : Kd} {a b c d : Nat} (hn : aN k.n = true) (hc : k.c ≤ 4) (hb : 1 ≤ b) (hc1 : 1 ≤ c) : toks (rJ k a b c d) = x5 k := by
 have h1 := JQ k.l
 have hl := cj hn
 unfold rJ x5
 rw [fB, c9 h1.1 (fun z => by rw [z] at h1; exact absurd h1.2 (by decide)) (yc hb _), fB, c9 (gy hn) (fun z => by rw [z] at hl; simp at hl) (yc hc1 _), fB,
  c9 (n := [48 + k.c]) (by simp [JR hc]) (by simp) (by have z := yS d (r := []) trivial; rwa [List.append_nil] at z)]
 have z := fB d []
 rw [List.append_nil] at z
 rw [z]
 rfl
theorem Pl {m : Str} {c : Nat} (h : bp c = true) : NW m c = true := by
 unfold NW
 rw [h]
 rfl
theorem sT {f : Nat → Bool} (h : f 32 = true) (n : Nat) : (List.replicate n 32).all f = true := by
 rw [List.all_eq_true]
 intro x hx
 rw [(List.mem_replicate.mp hx).2]
 exact h
theorem Hh {f : Nat → Bool} (Ef : f 32 = true) (ID : ∀ c, bp c = true → f c = true) {k : Kd} {a b c d : Nat} (hn : aN k.n = true) (hc : k.c ≤ 4) : (rJ k a b c d).all f = true := by
 have up : ∀ p : Cs, p.all bp = true → p.all f = true := fun p h => by
  rw [List.all_eq_true] at h ⊢
  exact fun x hx => ID x (h x hx)
 unfold rJ
 rw [List.all_append, List.all_append, List.all_append, List.all_append, List.all_append, List.all_append, sT Ef, sT Ef, sT Ef, sT Ef, up _ (JQ k.l).1, up _ (gy hn), up [48 + k.c] (by simp [JR hc])]
 rfl
theorem JS {n : Nat} {r : Cs} : (List.replicate n 32 ++ r).dropWhile (· == 32) = r.dropWhile (· == 32) := by
 induction n with
 | zero => rfl
 | succ n ih => rw [List.replicate_succ, List.cons_append, List.dropWhile_cons, if_pos (by decide)]; exact ih
theorem Eg {k : Kd} {a b c d : Nat} : told (rJ k a b c d) = true := by
 unfold told rJ
 rw [JS]
 cases k.l <;> rfl
end Bk
namespace Bk
open PySem L2 fZ
theorem zb {k : Kd} (h : k.n.length ≤ 12) : (bG k).length ≤ 22 := by
 unfold bG
 have := (JQ k.l).2
 simp only [List.length_append, List.length_cons, List.length_nil]
 omega
end Bk
namespace Bk
open PySem L2 fZ
theorem zc {K : PySem.W.Frag} : PySem.W.kitOne K (.type "int") (.type "bool") = some false := by
 unfold PySem.W.kitOne PySem.W.kitCls
 rw [if_neg (by decide +kernel)]
 show (if PySem.W.kitMeta "bool" = true then PySem.W.subIn K (.type "int") (.type "bool") else none) = some false
 rw [if_pos (by decide +kernel)]
 rfl
theorem fR {p : Cs} {z : Str} {t : Tok} (e : z = S p) : RelV (tx p) (Value.str z t) := ⟨t, by rw [e]⟩
end Bk
namespace L2
open PySem PySem.Spec PyProof.Rows
section
variable {X : Cx} {pins : List (Addr × Obj)} {σ : St} {H : Hp} {s : Shared} {h' : Heap}
theorem Inv.gc {t' : Nat} {ch : List Addr} (I : Inv X pins σ H s) (k : ∀ b o, b ∉ ch → s.heap.get? b = some o → h'.get? b = some o) (hf : ∀ it ∈ ch, H it = none ∧ it ≠ X.env.locals ∧ (it ∈ X.ex ∨ X.s₀.heap.objs.size ≤ it) ∧ (∀ x c, X.env.cells.lookup x = some c → c ≠ it) ∧ ∀ p ∈ X.pn ++ pins, p.1 ≠ it) :
  Inv X pins σ H { s with heap := h', toks := t' } := by
 have QY : ∀ b u, H b = some u → b ∉ ch := fun b u e z => by rw [(hf b z).1] at e; cases e
 refine I.step (g' := s.gens) (d' := s.drawn) (ch := ch) (fun b hb => ?_) (fun b o _ _ hc e _ => k b o hc e) (fun b o _ _ hc e _ => ⟨o.slots, k b o hc e⟩) (fun _ _ _ _ n => n)
  (fun b o hc e => ⟨o, k b o hc e⟩) (fun _ _ e => e) (fun _ _ _ e => e) (fun b ps e => ⟨#[], by rw [e]; simp⟩) (fun m hm => ?_) (fun b u e => ?_) I.bare
 ·obtain ⟨_, a2, a3, a4, a5⟩ := hf b hb
  exact ⟨a3, a2, a4, a5⟩
 ·obtain ⟨o, es, ep, ho, r⟩ := hm
  exact ⟨o, es, ep, k _ o (fun z => (hf _ z).2.1 rfl) ho, r⟩
 ·refine (I.bt b u e).b7 (fun c v hc q => k c v ?_ q) (fun _ q => q) fun _ _ q => q
  rcases hc with z | z
  ·rw [z]; exact QY b u e
  ·exact QY c _ z
theorem rK (h : Heap) (a : Addr) (o : Obj) (ha : a ≠ h.objs.size) : (h.push o).get? a = h.get? a := by
 cases h
 simp only [Heap.push, Heap.get?, Array.getElem?_push]
 rw [if_neg ha]
def QA (K : PySem.W.Frag) (a : Addr) : It :=
 ⟨fun i H => ∃ xs x, ay K H a xs ∧ xs[i]? = some x, fun i H x H' => ∃ t v, H t = none ∧ H' = upd H t (.tup [.int (i : Int), v]) ∧ x = .ref t ∧ ∀ xs, ay K H a xs → xs[i]? = some v, fun i H => ∃ xs, ay K H a xs ∧ xs.length ≤ i⟩
theorem Hi {P : Program} {w : World} {K : PySem.W.Frag} {elts : List Expr} {x1 : Nat} {pos : Pos} (a e it : Addr) (ni : e ≠ it) : Turn P w K (.Tuple elts x1 pos) (QA K a) [e, it] e (fun i h => (∃ old, IsEnum h e it ((i : Nat) : Int) old) ∧ h.IsListIter it a i) where
 mem := by simp
 obj := fun i h st b hb => by
  obtain ⟨⟨old, zh⟩, oN⟩ := st
  rcases (by simpa using hb : b = e ∨ b = it) with z | z
  ·subst z
   exact ⟨_, zh, fun v z => nomatch z⟩
  ·subst z
   obtain ⟨o, e, c, d⟩ := oN
   exact ⟨o, e, fun v z => by rw [d] at z; cases z⟩
 keep := fun i h h' st k => by
  obtain ⟨⟨old, zh⟩, oN⟩ := st
  exact ⟨⟨old, k e (by simp) _ zh⟩, oN.at fun o q => k it (by simp) o q⟩
 item := by
  intro X hP hw hK hc i pins s σ H E I hf st hg
  subst hP hw hK
  obtain ⟨⟨old, zh⟩, oN⟩ := st
  obtain ⟨xs, x, hq, hx⟩ := hg
  obtain ⟨its, rv, p, hz⟩ := I.list hq
  obtain ⟨u, hu, ru⟩ := rv.get hx
  have fe := hf e (by simp)
  have fi := hf it (by simp)
  refine wpAny_pyNext_enum_item zh oN p.isList (x := u) (by simpa using hu) ni fun h1 NF WN N1 WO Vh => ?_
  refine ⟨_, rfl, wpAny_letOwnedTupleGo_enum NF fun h2 QB tJ => ?_⟩
  replace tJ : Heap.SameBut e h1 h2 := tJ
  have rW : H s.heap.objs.size = none := I.bt.fresh (Nat.le_refl _)
  have WQ : e < s.heap.objs.size := Heap.lt_size zh
  have sU : it < s.heap.objs.size := by
   obtain ⟨o, q, _⟩ := id oN
   exact Heap.lt_size q
  have Eh : h2.get? s.heap.objs.size = some { cls := .type "tuple", data := .seq #[.int i s.toks, u] } := (tJ.2 _ (Nat.ne_of_gt WQ)).trans N1
  have I1 : Inv X pins σ (upd H s.heap.objs.size (.tup [.int (i : Int), x])) { s with heap := s.heap.push { cls := .type "tuple", data := .seq #[.int i s.toks, u] }, toks := s.toks + 1 } := by
   refine I.laid (t' := s.toks + 1) (fun b u q => Heap.get?_push_of_some _ q) (Nat.le_refl _) ?_
   exact ⟨(by show 2 ≤ sizeLine; decide), [.int i s.toks, u], .cons ⟨_, rfl⟩ (.cons ru .nil), ⟨_, Heap.get?_push_size _ rfl, rfl, 0, rfl⟩⟩
  have I2 : Inv X pins σ (upd H s.heap.objs.size (.tup [.int (i : Int), x])) { s with heap := h2, toks := s.toks + 1 } := by
   refine Inv.gc (s := { s with heap := s.heap.push { cls := .type "tuple", data := .seq #[.int i s.toks, u] }, toks := s.toks + 1 }) (h' := h2) (t' := s.toks + 1) (ch := [e, it]) I1 (fun b o hb q => ?_) (fun b hb => ?_)
   ·have Pm : b ≠ e := fun z => hb (by simp [z])
    have F7 : b ≠ it := fun z => hb (by simp [z])
    by_cases Sd : b = s.heap.objs.size
    ·subst Sd
     have q2 : (s.heap.push { cls := .type "tuple", data := .seq #[.int i s.toks, u] }).get? s.heap.objs.size = some o := q
     rw [Heap.get?_push_size _ rfl] at q2
     rw [Eh, ← q2]
    ·have q2 : (s.heap.push { cls := .type "tuple", data := .seq #[.int i s.toks, u] }).get? b = some o := q
     have q3 : s.heap.get? b = some o := (rK _ _ _ Sd).symm.trans q2
     exact (tJ.2 b Pm).trans (Vh b o Pm F7 q3)
   ·have f := hf b hb
    refine ⟨?_, f.2.1, f.2.2.2.1, f.2.2.2.2.1, f.2.2.2.2.2⟩
    rw [aq]
    ·exact f.1
    ·rcases (by simpa using hb : b = e ∨ b = it) with z | z <;> rw [z]
     ·exact Nat.ne_of_lt WQ
     ·exact Nat.ne_of_lt sU
  refine ⟨.ref s.heap.objs.size, _, I2, rfl, ⟨_, x, rW, rfl, rfl, fun ys hy => by rw [I.oK hy hq]; exact hx⟩, ⟨⟨u, ?_⟩, ?_⟩, fun b hb => ?_⟩
  ·show IsEnum h2 e it (((i + 1 : Nat)) : Int) u
   have e1 : (((i + 1 : Nat)) : Int) = (i : Int) + 1 := by push_cast; rfl
   rw [e1]
   exact QB
  ·exact WN.at fun o q => (tJ.2 it (Ne.symm ni)).trans q
  ·rw [aq]
   ·exact (hf b hb).1
   ·rcases (by simpa using hb : b = e ∨ b = it) with z | z <;> rw [z]
    ·exact Nat.ne_of_lt WQ
    ·exact Nat.ne_of_lt sU
 done := by
  intro X hP hw hK hc i pins s σ H E I hf st hg
  subst hP hw hK
  obtain ⟨⟨old, zh⟩, oN⟩ := st
  obtain ⟨xs, hq, hx⟩ := hg
  obtain ⟨its, rv, p, hz⟩ := I.list hq
  have hl := rv.length
  obtain ⟨f0, f1, f2, f3, f4, f5⟩ := hf it (by simp)
  exact wpAny_pyNext_enum_end (I.ok.hd hc) zh oN p.isList (by simp; omega) fun h' eb => ⟨rfl, I.turned (t' := s.toks) (fun b o hb e => eb b o hb e) f0 f1 f3 f4 f5⟩
 self := fun _ _ _ _ _ st h => by
  obtain ⟨⟨old, zh⟩, _⟩ := st
  exact wpAny_pyIter_enum zh h
def Se (K : PySem.W.Frag) (tl : TE) : TI := fun σ H R => tl σ H fun x H1 => ∃ a, x = .ref a ∧ (∃ xs, ay K H1 a xs) ∧ R (QA K a) H1
theorem zi {l : Expr} {tl : TE} {elts : List Expr} {x1 : Nat} {Ja p cpos : Pos} (hl : PE X l tl) (hg : Gl X "enumerate") (hm : X.mg "enumerate" = none) (hv : bootBuiltins "enumerate" = some (.type "enumerate"))
  (he : starEach [l] X.env = (false, eval l X.env) :: starEach [] X.env := by rfl) : PI X (.Tuple elts x1 Ja) (.Call (.Name "enumerate" p) [l] [] cpos) (Se X.K tl) := by
 intro pins s σ H R I h
 refine wpAny_Call_Name_kw (jA I hg hm hv ?_ (by decide) (by decide))
 have MO : PA X [l] (rq tl yJ) := aa hl ae he
 refine PyProof.Rows.callWith_type1 (thn (MO cpos pins s σ H (fun vs H1 => match vs with | [x] => ∃ a, x = .ref a ∧ (∃ xs, ay X.K H1 a xs) ∧ R (QA X.K a) H1 | _ => False) I h) fun us s1 ⟨vs, H1, I1, r1, q1⟩ => ?_) he rfl
 match vs, r1, q1 with
 | [x], r1, ⟨a, ex, ⟨xs, hq⟩, q⟩ =>
  subst ex
  obtain ⟨u, rfl, ru⟩ := vals1 r1
  cases ru
  obtain ⟨its, rv, p, hz⟩ := I1.list hq
  refine call_enumerate_list p.isList fun h' he hit F8 hk => wpAny_pyIter_enum he ?_
  refine ⟨s1.heap.objs.size + 1, [s1.heap.objs.size + 1, s1.heap.objs.size], _, _, H1, rfl, I1.kept (t' := s1.toks) hk, Hi a _ _ (Nat.succ_ne_self _), ⟨⟨_, he⟩, hit⟩, fun b hb => ?_, q⟩
  have Ck : s1.heap.objs.size ≤ b := by
   rcases (by simpa using hb : b = s1.heap.objs.size + 1 ∨ b = s1.heap.objs.size) with z | z <;> rw [z]
   ·exact Nat.le_succ _
   ·exact Nat.le_refl _
  exact I1.tG Ck (I1.bt.fresh Ck)
theorem uz {K : PySem.W.Frag} {a : Addr} {xs : List V} {g : TG} {tb : TS} {D : Ends} {σ : St} {H : Hp} (Pv : Nat → St → Hp → Prop) (h0 : Pv 0 σ H) (hl : ∀ i σ H, i ≤ xs.length → Pv i σ H → ay K H a xs)
  (hs : ∀ i x σ H t, xs[i]? = some x → Pv i σ H → H t = none → g (.ref t) σ (upd H t (.tup [.int (i : Int), x])) fun σ2 H2 => tb { D with nx := Pv (i + 1), ct := Pv (i + 1), bk := D.nx } σ2 H2) (hd : ∀ σ H, Pv xs.length σ H → D.nx σ H) :
  ∃ W : Nat → Nat → St → Hp → Prop, (∃ m, W 0 m σ H) ∧ ∀ i m σ H, W i m σ H →
   ((QA K a).stop i H ∧ D.nx σ H) ∨ ((QA K a).go i H ∧ ∃ N : St → Hp → Prop, (∀ σ' H', N σ' H' → ∃ m', m' < m ∧ W (i + 1) m' σ' H') ∧ ∀ x H', (QA K a).Ma i H x H' → g x σ H' fun σ2 H2 => tb { D with nx := N, ct := N, bk := D.nx } σ2 H2) := by
 refine ⟨fun i m σ H => m = xs.length - i ∧ i ≤ xs.length ∧ Pv i σ H, ⟨xs.length, by simp, Nat.zero_le _, h0⟩, ?_⟩
 rintro i m σ H ⟨rfl, hi, p⟩
 have q := hl i σ H hi p
 by_cases eO : i < xs.length
 ·refine .inr ⟨⟨xs, xs[i], q, by simp [eO]⟩, Pv (i + 1), fun σ' H' p' => ⟨xs.length - (i + 1), by omega, rfl, eO, p'⟩, fun x H' y => ?_⟩
  obtain ⟨t, v, ht, rfl, rfl, hv⟩ := y
  exact hs i v σ H t (hv xs q) p ht
 ·have e : i = xs.length := by omega
  exact .inl ⟨⟨xs, q, by omega⟩, hd σ H (by rw [← e]; exact p)⟩
end
end L2
namespace L2
open PySem PySem.Spec PyProof.Rows
section
variable {prog : Program} {w : World} {A : Around} {E : Value → Shared → Prop} {s : Shared}
theorem MP : typeLookup (.type "list_reverseiterator") "__len__" = pure none := by rw [typeLookup_type, builtinLookup_eq_fast]; kernel_rfl
theorem JT : typeLookup (.type "list_reverseiterator") "__length_hint__" = pure (some (.builtin "list_reverseiterator.__length_hint__")) := by rw [typeLookup_type, builtinLookup_eq_fast]; kernel_rfl
theorem JU {r : Addr} {Q : Bool → Shared → Prop} (hT : s.TypeIs (.ref r) "list_reverseiterator") (h : Q false s) : wpAny (model prog w) A (Builtin.List.listLengthHint (.ref r)) Q E s := by
 unfold Builtin.List.listLengthHint
 refine wpAny_bind (wpAny_specialOf hT MP ?_)
 refine wpAny_bind (wpAny_specialOf hT JT ?_)
 generalize YX : ("list_reverseiterator.__length_hint__" : String) = id0
 wp_delta
 rw [show splitId id0 = some ("list_reverseiterator", "__length_hint__") from by subst YX; decide +kernel]
 subst YX
 refine wpAny_bind (wpAny_isInstance (T := "list_reverseiterator") (b := true) hT (by rw [isSubtype_type]; kernel_rfl) ?_)
 refine wpAny_ite_split (fun z => absurd z (by decide)) (fun _ => ?_)
 refine wpAny_ite_split (fun _ => ?_) (fun z => absurd (by decide +kernel) z)
 refine wpAny_ite_split (fun z => absurd z (by decide +kernel)) (fun _ => ?_)
 exact wpAny_pure h
theorem MQ {R : Result → Shared → Prop} {it l : Addr} {vs : Array Value} (hh : A.handled = none) (ni : l ≠ it) (st : s.heap.IsRevIter it l ((vs.size : Int) - 1)) (hl : s.heap.IsList l vs) (S : Addr) (n1 : S ≠ it) (n2 : S ≠ l) (c₀ : Nat) (hS : s.heap.get? S = some { cls := .type "list", data := .seq #[] c₀ })
  (hR : ∀ h' tk acc c', (∀ b o, b ≠ S → b ≠ it → s.heap.get? b = some o → h'.get? b = some o) → h'.get? S = some { cls := .type "list", dict := none, data := .seq acc c', slots := #[] } → ItemsOf (fun i v => vs[vs.size - 1 - i]? = some v) acc vs.size → R (.ok (.ret .none)) { s with heap := h', toks := tk }) (hn : vs.size ≤ sizeLine) :
  wpAny (model prog w) A.in1 (Builtin.List.listExtendWith (.ref S) (.ref it) .none)
   (fun fin s' => match fin with | .done f => R (.ok f) s' | .again c' => c'.quiet = true ∧ codeAny (model prog w) A c' R s') (fun e s' => R (.error e) s') s := by
 have nf : S ∉ [it, l] := by simp [n1, n2]
 have W := Walks.listRev (prog := prog) (w := w) (A := A.in1) hh it l ni vs
 unfold Builtin.List.listExtendWith
 refine wpAny_bind (wpAny_typeOf st.typeIs ?_)
 have q1 : Builtin.List.listSameRef (.ref S) (.ref it) = false := by simp [Builtin.List.listSameRef, n1]
 have q2 : (Value.type "list_reverseiterator" == Value.type "list") = false := by decide
 have q3 : (Value.type "list_reverseiterator" == Value.type "tuple") = false := by decide
 simp only [q1, q2, q3, Bool.or_false, Bool.false_eq_true, if_false]
 refine wpAny_bind (wpAny_pyIter_revIter st ?_)
 refine wpAny_bind (wpAny_holding (JU st.typeIs ?_))
 refine wpAny_ite_split (fun z => absurd z (by decide)) (fun _ => ?_)
 refine wpAny_pure ⟨plainId_quiet PySem.F.plain_extend_loop _, ?_⟩
 refine codeAny_extend_loopS W.toS hn S nf .none vs.size 0 _ #[] c₀ rfl (Nat.zero_le _) ⟨Nat.zero_le _, by simpa using st, hl⟩ hS (ItemsOf.nil _) fun s' WR c' hm WS tZ => ?_
 rw [Moved.eq_with hm]
 refine hR s'.heap s'.toks WR c' (fun b o hb F7 e => hm.heap b o (fun z => ?_) e) WS tZ
 rcases List.mem_cons.mp z with z | z
 ·exact hb z
 ·exact F7 (List.mem_singleton.mp z)
theorem JV {R : Result → Shared → Prop} {it l : Addr} {vs : Array Value} (hh : A.handled = none) (ni : l ≠ it) (st : s.heap.IsRevIter it l ((vs.size : Int) - 1)) (hl : s.heap.IsList l vs) (S : Addr) (n1 : S ≠ it) (n2 : S ≠ l) (hS : s.heap.get? S = some { cls := .type "list", data := .seq #[] })
  (hR : ∀ h' tk acc c', (∀ b o, b ≠ S → b ≠ it → s.heap.get? b = some o → h'.get? b = some o) → h'.get? S = some { cls := .type "list", dict := none, data := .seq acc c', slots := #[] } → ItemsOf (fun i v => vs[vs.size - 1 - i]? = some v) acc vs.size → R (.ok (.ret .none)) { s with heap := h', toks := tk }) (hn : vs.size ≤ sizeLine) :
  wpAny (model prog w) A.in1 (Builtin.«list.__init__» ⟨[.ref S, .ref it], []⟩)
   (fun fin s' => match fin with | .done f => R (.ok f) s' | .again c' => c'.quiet = true ∧ codeAny (model prog w) A c' R s') (fun e s' => R (.error e) s') s := by
 show wpAny _ _ (do let o0 ← Builtin.List.listItems (.ref S); Builtin.List.listUpdate (.ref S) (fun _ => #[]); letGo o0.toList.reverse; Builtin.List.listExtendWith (.ref S) (.ref it) .none) _ _ s
 refine wpAny_bind ?_
 unfold Builtin.List.listItems
 refine wpAny_bind (wpAny_seqItems hS rfl (wpAny_pure ?_))
 show wpAny _ _ (updateSeq S (fun _ => #[]) >>= fun _ => letGo (#[] : Array Value).toList.reverse >>= fun _ => Builtin.List.listExtendWith (.ref S) (.ref it) .none) _ _ s
 refine wpAny_bind (wpAny_updateSeq hS rfl ?_)
 have g2 := Heap.get?_update_self (Obj.mapSeq (fun _ => (#[] : Array Value))) hS rfl
 have kp : ∀ b o, b ≠ S → s.heap.get? b = some o → (s.heap.update S (Obj.mapSeq (fun _ => (#[] : Array Value)))).get? b = some o := fun b o hb e => (Heap.get?_update_other _ _ (Ne.symm hb)).trans e
 refine wpAny_bind (wpAny_letGo ?_)
 exact MQ hh ni (st.at fun o e => kp _ o (Ne.symm n1) e) (hl.at fun o e => kp _ o (Ne.symm n2) e) S n1 n2 _ g2 (fun h' tk acc c' k1 k2 k3 => hR h' tk acc c' (fun b o hb F7 e => k1 b o hb F7 (kp b o hb e)) k2 k3) hn
theorem JW {Q : Value → Shared → Prop} {it l : Addr} {vs : Array Value} (hh : A.handled = none) (ni : l ≠ it) (st : s.heap.IsRevIter it l ((vs.size : Int) - 1)) (hl : s.heap.IsList l vs) (hn : vs.size ≤ sizeLine)
  (hQ : ∀ h' tk acc c', (∀ b o, b ≠ it → s.heap.get? b = some o → h'.get? b = some o) → h'.get? s.heap.objs.size = some { cls := .type "list", dict := none, data := .seq acc c', slots := #[] } → ItemsOf (fun i v => vs[vs.size - 1 - i]? = some v) acc vs.size → Q (.ref s.heap.objs.size) { s with heap := h', toks := tk }) :
  wpAny (model prog w) A (call (.type "list") [.ref it]) Q E s := by
 refine callType_codes (Q₁ := fun x s1 => x = .ref s.heap.objs.size ∧ s1 = { s with heap := s.heap.push { cls := .type "list", data := .seq #[] } }) PySem.F.called_list (PySem.F.typeCall_list_1 _) PySem.F.entry_list_init (code_list_new _ ⟨rfl, rfl⟩) fun x s1 h1 => ?_
 obtain ⟨rfl, rfl⟩ := h1
 have g : (s.heap.push { cls := .type "list", data := .seq #[] }).get? s.heap.objs.size = some { cls := .type "list", data := .seq #[] } := Heap.get?_push_size _ rfl
 have l1 : it < s.heap.objs.size := by obtain ⟨o, e, _⟩ := id st; exact Heap.lt_size e
 have l2 : l < s.heap.objs.size := by obtain ⟨o, e, _⟩ := id hl; exact Heap.lt_size e
 refine ⟨⟨_, g, rfl⟩, PySem.F.args_list_init_2 _ _, JV (A := A.in1) hh ni (st.at fun o e => Heap.get?_push_of_some _ e) (hl.at fun o e => Heap.get?_push_of_some _ e) _ (Nat.ne_of_gt l1) (Nat.ne_of_gt l2) g (fun h' tk acc c' k1 k2 k3 => ?_) hn⟩
 exact ⟨rfl, hQ h' tk acc c' (fun b o hb e => k1 b o (Nat.ne_of_lt (Heap.lt_size e)) hb (Heap.get?_push_of_some _ e)) k2 k3⟩
end
section
variable {X : Cx}
def JX (K : PySem.W.Frag) (te : TE) : TE := fun σ H Q => te σ H fun x H1 => ∃ a xs, x = .ref a ∧ ay K H1 a xs ∧ ∀ p, H1 p = none → Q (.ref p) (upd H1 p (.lst xs.reverse))
theorem Ei {e : Expr} {te : TE} {p1 p2 c1 c2 : Pos} (hc : X.calm = true) (he : PE X e te) (gL : Gl X "list") (mL : X.mg "list" = none) (bL : bootBuiltins "list" = some (.type "list")) (gR : Gl X "reversed") (mR : X.mg "reversed" = none) (bR : bootBuiltins "reversed" = some (.type "reversed"))
  (h1 : starEach [e] X.env = (false, eval e X.env) :: starEach [] X.env := by rfl)
  (h2 : starEach [.Call (.Name "reversed" p2) [e] [] c2] X.env = (false, eval (.Call (.Name "reversed" p2) [e] [] c2) X.env) :: starEach [] X.env := by rfl) :
  PE X (.Call (.Name "list" p1) [.Call (.Name "reversed" p2) [e] [] c2] [] c1) (JX X.K te) := by
 intro pins s σ H Q I h
 refine wpAny_Call_Name_kw (jA I gL mL bL ?_ (by decide) (by decide))
 refine PyProof.Rows.callWith_type1 ?_ h2 rfl
 rw [h2]
 refine Calls.spliced_cons ?_
 refine wpAny_Call_Name_kw (jA I gR mR bR ?_ (by decide) (by decide))
 have MO : PA X [e] (rq te yJ) := aa he ae h1
 refine PyProof.Rows.callWith_type1 (thn (MO c2 pins s σ H (fun vs H1 => match vs with | [x] => ∃ a xs, x = .ref a ∧ ay X.K H1 a xs ∧ ∀ p, H1 p = none → Q (.ref p) (upd H1 p (.lst xs.reverse)) | _ => False) I h) fun us s1 ⟨vs, H1, I1, r1, q1⟩ => ?_) h1 rfl
 match vs, r1, q1 with
 | [x], r1, ⟨a, xs, ex, hq, q⟩ =>
  subst ex
  obtain ⟨u, rfl, ru⟩ := vals1 r1
  cases ru
  obtain ⟨its, rv, p, hz⟩ := I1.list hq
  have hlen := rv.length
  refine call_reversed_list p.isList (Calls.spliced_nil ?_)
  have al : a < s1.heap.objs.size := by obtain ⟨o, e, _⟩ := id p.isList; exact Heap.lt_size e
  refine JW (I.ok.hd hc) (Nat.ne_of_lt al) (vs := its.toArray) ⟨_, Heap.get?_push_size _ rfl, rfl, rfl⟩ (p.isList.at fun o e => Heap.get?_push_of_some _ e) (by rw [List.size_toArray]; omega) fun h' tk acc c' kp hg tZ => ?_
  have hsz : (s1.heap.push (revObj a ((its.toArray.size : Int) - 1))).objs.size = s1.heap.objs.size + 1 := Heap.size_push ..
  have hg' : h'.get? (s1.heap.objs.size + 1) = some { cls := .type "list", dict := none, data := .seq acc c', slots := #[] } := by
   have z := hg
   rw [show ({ s1 with heap := s1.heap.push (revObj a ((its.toArray.size : Int) - 1)) } : Shared).heap.objs.size = s1.heap.objs.size + 1 from hsz] at z
   exact z
  have rn : H1 (s1.heap.objs.size + 1) = none := I1.bt.fresh (Nat.le_succ _)
  refine ⟨.ref (s1.heap.objs.size + 1), upd H1 (s1.heap.objs.size + 1) (.lst xs.reverse), I1.laid (t' := tk) (fun b o e => kp b o (Nat.ne_of_lt (Heap.lt_size e)) (Heap.get?_push_of_some _ e)) (Nat.le_succ _) ?_, ?_, q _ rn⟩
  ·refine ⟨by rw [List.length_reverse]; exact hz, acc.toList, c', yR ?_ fun j v ev => ?_, by simpa using hg'⟩
   ·rw [List.length_reverse, Array.length_toList, tZ.1, List.size_toArray, hlen]
   ·have YY : acc[j]? = some v := by rw [← Array.getElem?_toList]; exact ev
    have k := tZ.2 j v YY
    have hj : j < its.length := by
     have z := (Array.getElem?_eq_some_iff.mp YY).1
     rw [tZ.1, List.size_toArray] at z
     exact z
    have k2 : its[its.length - 1 - j]? = some v := by simpa using k
    have hx : xs.length - 1 - j < xs.length := by omega
    obtain ⟨u, eu, ru⟩ := rv.get (i := xs.length - 1 - j) (x := xs[xs.length - 1 - j]) (Ge9 hx)
    rw [hlen] at eu
    rw [eu] at k2
    cases k2
    refine ⟨xs[xs.length - 1 - j], ?_, ru⟩
    rw [List.getElem?_reverse (by omega), Ge9 hx]
  ·show Value.ref _ = Value.ref _
   rw [show ({ s1 with heap := s1.heap.push (revObj a ((its.toArray.size : Int) - 1)) } : Shared).heap.objs.size = s1.heap.objs.size + 1 from hsz]
end
end L2
namespace L2
open PySem PySem.Spec PyProof.Rows
section
variable {X : Cx}
def Sf : R2 := fun x y H Q => ∃ (c : Nat) (n : Int), x = .str ⟨#[c]⟩ ∧ y = .int n ∧ -(2 ^ 62) ≤ n ∧ n ≤ 1000000 ∧ Q (.str ⟨(List.replicate n.toNat c).toArray⟩) H
theorem yd (c : Nat) : ∀ (k : Nat) (a : Array Nat), (List.replicate k (#[c] : Array Nat)).foldl (fun x1 x2 => x1 ++ x2) a = a ++ (List.replicate k c).toArray
 | 0, a => by simp
 | k + 1, a => by
  rw [List.replicate_succ, List.foldl_cons, yd c k, List.replicate_succ]
  apply Array.ext'
  simp
theorem F9 : pX X (binaryOp .Mult) Sf := by
 intro pins s σ H x y v u Q I rx ry h
 obtain ⟨c, n, rfl, rfl, h1, h2, q⟩ := h
 obtain ⟨t, rfl⟩ := rx
 obtain ⟨t', rfl⟩ := ry
 have hl : (⟨#[c]⟩ : Str).length = 1 := rfl
 refine PySem.P.mul_str ?_ (fun a b => ?_) (fun a b => ?_) ?_
 ·have z1 : ¬ n < -(2 ^ 63 : Int) := by omega
  have z2 : ¬ n ≥ 2 ^ 63 := by omega
  rw [decide_eq_false z1, decide_eq_false z2]
  rfl
 ·rw [hl]
  have : (1 : Int) ≤ (2 ^ 63 - 1) / n := by
   rw [Int.le_ediv_iff_mul_le (by omega)]
   omega
  omega
 ·rw [hl]
  have e : (2 : Nat) ^ 24 = 16777216 := by decide
  unfold Builtin.Str.tooLong sizeLine
  exact decide_eq_false (by omega)
 ·by_cases a : n < 1
  ·rw [if_pos a]
   refine ⟨by decide, ⟨.str _, H, I.tok _, ⟨_, rfl⟩, ?_⟩⟩
   have e : n.toNat = 0 := by omega
   rw [e] at q
   exact q
  ·rw [if_neg a]
   by_cases b : (n == 1 || (⟨#[c]⟩ : Str).length == 0) = true
   ·rw [if_pos b]
    have e1 : n = 1 := by
     rw [hl] at b
     simpa using b
    refine ⟨.str _, H, I, ⟨_, rfl⟩, ?_⟩
    rw [e1] at q
    exact q
   ·rw [if_neg b]
    have e : (⟨(List.replicate n.toNat (⟨#[c]⟩ : Str).cps).foldl (· ++ ·) #[]⟩ : Str) = ⟨(List.replicate n.toNat c).toArray⟩ := by
     show (⟨(List.replicate n.toNat (#[c] : Array Nat)).foldl (fun x1 x2 => x1 ++ x2) #[]⟩ : Str) = _
     rw [yd]
     simp
    rw [e]
    refine ⟨?_, ⟨.str _, H, I.tok _, ⟨_, rfl⟩, q⟩⟩
    rw [sizeLine_eq]
    show (List.replicate n.toNat c).toArray.size ≤ _
    simp
    omega
def Ej (K : PySem.W.Frag) : V → List V → Hp → VK → Prop := fun x vs H Q => ∃ a xs y, x = .ref a ∧ vs = [y] ∧ ay K H a xs ∧ eT y = true ∧ xs.all eT = true ∧ Q (.int ((xs.countP fun z => v9 z y : Nat) : Int)) H
theorem ye {x : V} : ∀ {xs : List V} {us : List Value}, Vals xs us → xs.all eT = true → us.countP (yN x) = xs.countP fun y => v9 y x
 | _, _, .nil, _ => rfl
 | y :: xs, u :: us, .cons r t, f => by
  rw [List.all_cons, Bool.and_eq_true] at f
  rw [List.countP_cons, List.countP_cons, tL r f.1, ye t f.2]
theorem Cm : OS X "list.count" (Ej X.K) := by
 intro pins s σ H x vs v us Q I rx rv h
 obtain ⟨a, xs, y, rfl, rfl, hq, fy, fx, q⟩ := h
 cases (show v = Value.ref a from rx)
 obtain ⟨u, rfl, ru⟩ := vals1 rv
 obtain ⟨its, r, pl, _⟩ := I.list hq
 obtain ⟨⟨oc, od, dat, sl⟩, ho, hc, n, hd⟩ := id pl.isList
 simp only at hc hd
 subst hc hd
 refine call_meets PySem.F.slot_list_count pl.isList.typeIs PySem.F.entry_list_count (PySem.F.args_list_count_2 _ _) (SeqAt.list_countAt a its.toArray n od sl u (yN y)) ⟨ho, fun w hw => gv ru fy r fx w (by simpa using hw), ⟨.int _, H, I.tok _, ⟨_, rfl⟩, ?_⟩⟩
 rw [show its.toArray.toList.countP (yN y) = xs.countP fun z => v9 z y from ye r fx]
 exact q
end
end L2
namespace L2
open PySem PySem.Spec PyProof.Rows
def jL (X : Cx) (x : Str) (scope : Scope) (cl : List (Str × Addr)) (N : List Str) (C : Addr) (s₀ : Shared) (H₀ : Hp) (ex : List Addr) : Cx where
 prog := X.prog
 w := X.w
 K := X.K
 mg := X.mg
 base := X.base
 A := X.A
 N := N
 s₀ := s₀
 H₀ := H₀
 env := compEnvC scope cl C X.env
 outer := X.stack
 stack := X.stack
 ex := ex
 fn := fun y => decide (y = x)
 calm := X.calm
 pn := []
 xe := fun _ _ => False
def sV (outer scope : Scope) (x : Str) (N : List Str) : Bool :=
 decide (scope.kind = .function) && decide (scope.names.filter (fun y => y.2 == .cell) = [(x, .cell)]) && scope.names.all (fun y => decide (y.2 = .local → scope.names.lookup y.1 = some .local)) && decide (scope.names.lookup x = some .cell) &&
  scope.names.all (fun y => decide (y.2 = .free → (outer.names.lookup y.1 = some .cell ∨ outer.names.lookup y.1 = some .free))) && N.tail.all (fun y => decide (scope.names.lookup y = some .free)) && decide N.Nodup
structure Ga (outer scope : Scope) (x : Str) (N : List Str) : Prop where
 kind : scope.kind = .function
 one : scope.names.filter (fun y => y.2 == .cell) = [(x, .cell)]
 locs : ∀ y ∈ scope.names, y.2 = .local → scope.names.lookup y.1 = some .local
 RD : scope.names.lookup x = some .cell
 frees : ∀ y ∈ scope.names, y.2 = .free → (outer.names.lookup y.1 = some .cell ∨ outer.names.lookup y.1 = some .free)
 aG : ∀ y ∈ N.tail, scope.names.lookup y = some .free
 nd : N.Nodup
theorem Ek {outer scope : Scope} {x : Str} {N : List Str} (h : sV outer scope x N = true) : Ga outer scope x N := by
 unfold sV at h
 simp only [Bool.and_eq_true, List.all_eq_true, decide_eq_true_eq] at h
 obtain ⟨⟨⟨⟨⟨⟨h1, h2⟩, h3⟩, h4⟩, h5⟩, h6⟩, h7⟩ := h
 exact ⟨h1, h2, h3, h4, h5, h6, h7⟩
theorem uA : ∀ (names : List (Str × NameKind)) (n : Nat) (acc : List (Str × Addr)) (h : Heap), names.filter (fun y => y.2 == .cell) = [] → cellsFrom n names acc = acc ∧ pushCells h names = h
 | [], _, _, _, _ => ⟨rfl, rfl⟩
 | (y, k) :: r, n, acc, h, e => by
  rw [List.filter_cons] at e
  by_cases hk : (k == NameKind.cell) = true
  ·rw [if_pos hk] at e
   cases e
  ·rw [if_neg hk] at e
   unfold cellsFrom pushCells
   rw [if_neg hk, if_neg hk]
   exact uA r n acc h e
theorem yf {x : Str} : ∀ (names : List (Str × NameKind)) (n : Nat) (acc : List (Str × Addr)) (h : Heap), names.filter (fun y => y.2 == .cell) = [(x, .cell)] → cellsFrom n names acc = (x, n) :: acc ∧ pushCells h names = h.push { cls := .type "cell", data := .cell none }
 | (y, k) :: r, n, acc, h, e => by
  rw [List.filter_cons] at e
  by_cases hk : (k == NameKind.cell) = true
  ·rw [if_pos hk] at e
   obtain ⟨e1, e2⟩ := List.cons.inj e
   injection e1 with e1 e3
   subst e1
   unfold cellsFrom pushCells
   rw [if_pos hk, if_pos hk]
   exact uA r (n + 1) _ _ e2
  ·rw [if_neg hk] at e
   unfold cellsFrom pushCells
   rw [if_neg hk, if_neg hk]
   exact yf r n acc h e
theorem El {M : Model} {A : Around} {E : Value → Shared → Prop} {s : Shared} {scope : Scope} {globals : Addr} {cl : List (Str × Addr)} {qual : Str} {around : Env} {x : Str} {Q : Env → Shared → Prop} (h1 : scope.names.filter (fun y => y.2 == .cell) = [(x, .cell)])
  (hQ : ∀ h', h'.Ns s.heap.objs.size (fun _ => none) → h'.IsCell (s.heap.objs.size + 1) none → (∀ b o, s.heap.get? b = some o → h'.get? b = some o) → Q (newEnv scope s.heap.objs.size globals ((x, s.heap.objs.size + 1) :: cl) qual none .none (some around) builtinsNs) { s with heap := h' }) :
  wpAny M A (newFunctionEnv scope globals cl [] qual none .none (some around)) Q E s := by
 simp only [newFunctionEnv, Option.isSome_some, if_true]
 refine wpAny_bind (wpAny_alloc ?_)
 refine wpAny_bind (wpAny_layCells _ (fun name kind cells => by cases hkc : kind == NameKind.cell <;> simp [hkc]) _ _ _ _ ?_)
 have hz : (s.heap.push { cls := .type "dict", data := .dict #[] }).objs.size = s.heap.objs.size + 1 := Heap.size_push ..
 rw [show ({ s with heap := s.heap.push { cls := .type "dict", data := .dict #[] } } : Shared).heap.objs.size = s.heap.objs.size + 1 from hz]
 obtain ⟨e1, e2⟩ := yf scope.names (s.heap.objs.size + 1) cl (s.heap.push { cls := .type "dict", data := .dict #[] }) h1
 rw [e1]
 show wpAny M A _ _ _ { s with heap := pushCells (s.heap.push { cls := .type "dict", data := .dict #[] }) scope.names }
 rw [e2]
 refine wpAny_bind ?_
 rw [List.forIn_nil]
 refine wpAny_pure (wpAny_pure ?_)
 refine hQ _ ((Heap.Ns.new s.heap (.type "dict")).keeps fun b o e => Heap.get?_push_of_some _ e) ?_ fun b o e => Heap.get?_push_of_some _ (Heap.get?_push_of_some _ e)
 have z := Heap.get?_push_size (s.heap.push { cls := .type "dict", data := .dict #[] }) (o := { cls := .type "cell", data := .cell none }) rfl
 rw [hz] at z
 exact ⟨_, z, rfl⟩
theorem zj {scope : Scope} {env : Env} {y : Str} (h : scope.names.lookup y = some .cell) : (relabel scope env).names.lookup y = some .cell := by
 have go : ∀ (names : List (Str × NameKind)), names.lookup y = some .cell → (names.map fun (n, k) => if (k == NameKind.free && env.scope.kind == .function && env.kindOf n == some .cell) then (n, NameKind.cell) else (n, k)).lookup y = some .cell := by
  intro names
  induction names with
  | nil => intro h; simp at h
  | cons a r ih =>
   obtain ⟨n, k⟩ := a
   intro h
   rw [List.map_cons]
   rw [List.lookup_cons] at h
   by_cases hc : (k == NameKind.free && env.scope.kind == .function && env.kindOf n == some .cell) = true
   ·simp only [hc, if_true, List.lookup_cons]
    cases hy : y == n with
    | true => rfl
    | false =>
     rw [hy] at h
     exact ih h
   ·simp only [hc, Bool.false_eq_true, if_false, List.lookup_cons]
    cases hy : y == n with
    | true =>
     rw [hy] at h
     exact h
    | false =>
     rw [hy] at h
     exact ih h
 exact go scope.names h
section
variable {X : Cx}
theorem uB {x y : Str} {c0 c : Addr} {cl : List (Str × Addr)} (h : ((x, c0) :: cl).lookup y = some c) : (y = x ∧ c = c0) ∨ (y ≠ x ∧ cl.lookup y = some c) := by
 rw [List.lookup_cons] at h
 by_cases e : y = x
 ·subst e
  rw [beq_self_eq_true] at h
  exact .inl ⟨rfl, (Option.some.inj h).symm⟩
 ·rw [beq_eq_false_iff_ne.mpr e] at h
  exact .inr ⟨e, h⟩
theorem yg {x y : Str} {c0 : Addr} {cl : List (Str × Addr)} (h : y ≠ x) : ((x, c0) :: cl).lookup y = cl.lookup y := by
 rw [List.lookup_cons, beq_eq_false_iff_ne.mpr h]
theorem Cn {scope : Scope} {x : Str} {aG : List Nat} {pins : List (Addr × Obj)} {σ : St} {H : Hp} {s3 : Shared} {h1 : Heap} {fp : List Addr} {m : Str → Option Value} {tk : Nat} {c0 : Addr} (ok : Ga X.env.scope scope x (b8 X x aG)) (I : Inv X pins σ H s3)
  (hf : ∀ b ∈ fp, dM X pins H b) (eO : ∀ b ∈ fp, b < s3.heap.objs.size) (hn : h1.Ns s3.heap.objs.size m) (keep : ∀ b o, s3.heap.get? b = some o → h1.get? b = some o) (Vi : s3.heap.objs.size ≤ c0) (hcl : h1.IsCell c0 none) :
  Inv (jL X x scope ((x, c0) :: aM X.env scope.names []) (b8 X x aG) s3.heap.objs.size s3 H fp) [] (bV σ none aG) H { s3 with heap := h1, toks := tk } := by
 have ie : ∀ z ∈ scope.names, z.2 = .free → (X.env.cells.lookup z.1).isSome = true := fun z hz rW => by
  obtain ⟨c, e⟩ := I.ok.has z.1 (by
   rcases ok.frees z hz rW with q | q
   ·exact .inl q
   ·exact .inr q)
  rw [e]; rfl
 have Sg : ∀ y c, (aM X.env scope.names []).lookup y = some c → X.env.cells.lookup y = some c := fun y c h => fz ie (fun _ _ q => by simp at q) h
 have sub : ∀ y c, ((x, c0) :: aM X.env scope.names []).lookup y = some c → (y = x ∧ c = c0) ∨ (y ≠ x ∧ X.env.cells.lookup y = some c) := fun y c h => by
  rcases uB h with z | ⟨z1, z2⟩
  ·exact .inl z
  ·exact .inr ⟨z1, Sg y c z2⟩
 have hC : H s3.heap.objs.size = none := I.bt.fresh (Nat.le_refl _)
 have hC0 : H c0 = none := I.bt.fresh Vi
 have II : ∀ y c, X.env.cells.lookup y = some c → c < s3.heap.objs.size := fun y c e => by
  obtain ⟨v, z⟩ := I.cell y c e
  exact z.lt
 have YZ : ∀ y, X.env.cells.lookup y ≠ some c0 := fun y e => Nat.lt_irrefl _ (Nat.lt_of_lt_of_le (II y c0 e) Vi)
 refine ⟨⟨I.ok.mod, ?_, I.ok.glob, I.ok.blt, Nat.le_refl _, fun y z c e1 e2 => ?_, fun y hy => ?_, fun y c L8 e => ?_, I.ok.hd, I.ok.frames, .inl rfl, fun b hb => ⟨Nat.ne_of_lt (eO b hb), fun y c e => ?_⟩,
   I.bs, Nat.le_trans I.ok.FD I.sz, fun b o e hb => ?_, fun b hb Jl => ?_, I.stack, I.sy⟩,
  rfl, I.bare, Un.kept keep, ⟨m, hn, fun i y v e1 e2 e3 => ?_⟩, fun y c e => ?_, hC, fun y c e => ?_, fun p hp => absurd (show p ∈ ([] : List (Addr × Obj)) from hp) (by simp), I.bt.kept keep, by simp [jL, b8, bV]⟩
 ·show (relabel scope X.env).kind = .function
  exact ok.kind
 ·rcases sub y c e1 with ⟨a1, a2⟩ | ⟨a1, a2⟩ <;> rcases sub z c e2 with ⟨b1, b2⟩ | ⟨b1, b2⟩
  ·rw [a1, b1]
  ·rw [a2] at b2
   exact absurd b2 (YZ z)
  ·rw [b2] at a2
   exact absurd a2 (YZ y)
  ·exact I.ok.inj y z c a2 b2
 ·have RG : (relabel scope X.env).names.lookup y = some .cell ∨ (relabel scope X.env).names.lookup y = some .free := hy
  show ∃ c, ((x, c0) :: aM X.env scope.names []).lookup y = some c
  by_cases Pn : y = x
  ·subst Pn
   exact ⟨c0, by rw [List.lookup_cons, beq_self_eq_true]⟩
  ·rw [yg Pn]
   have fr : scope.names.lookup y = some .free := by
    rcases RG with q | q
    ·obtain ⟨k, e, z⟩ := c8 q
     rcases z with z | ⟨z, _⟩
     ·have hm : (y, k) ∈ scope.names.filter (fun y => y.2 == .cell) := List.mem_filter.mpr ⟨PySem.mem_of_lookup e, by rw [← z]; rfl⟩
      rw [ok.one] at hm
      have := List.mem_singleton.mp hm
      injection this with h1 h2
      exact absurd h1 Pn
     ·rw [e, z]
    ·obtain ⟨k, e, z⟩ := c8 q
     rcases z with z | ⟨_, z⟩
     ·rw [e, z]
     ·cases z
   exact Option.isSome_iff_exists.mp (fA (.inl (PySem.mem_of_lookup fr)))
 ·have Pn : y = x := of_decide_eq_true (show decide (y = x) = true from L8)
  rcases sub y c e with ⟨_, a2⟩ | ⟨a1, _⟩
  ·rw [a2]
   exact Vi
  ·exact absurd Pn a1
 ·rcases sub y c e with ⟨_, a2⟩ | ⟨_, a2⟩
  ·rw [a2]
   exact Nat.ne_of_gt (Nat.lt_of_lt_of_le (eO b hb) Vi)
  ·exact (hf b hb).2.2.2.2.1 y c a2
 ·rcases (hf b hb).2.2.2.1 with z | z
  ·exact I.ok.DC b o e z
  ·exact absurd (Nat.lt_of_lt_of_le (Heap.lt_size e) (Nat.le_trans I.ok.FD z)) (Nat.lt_irrefl _)
 ·rcases List.mem_cons.mp (I.k0 b Jl) with z | z
  ·exact (hf b hb).2.1 z
  ·exact (hf b hb).2.2.1 z
 ·have wg : (b8 X x aG)[i]? = some y := e1
  cases i with
  | zero => simp [bV] at e2
  | succ i =>
   simp only [b8, List.getElem?_cons_succ, List.getElem?_map] at wg
   simp only [bV, List.getElem?_cons_succ, List.getElem?_map] at e2
   cases hj : aG[i]? with
   | none => rw [hj] at e2; cases e2
   | some j =>
    rw [hj] at wg e2
    simp only [Option.map_some, Option.some.injEq] at wg e2
    cases hσ : σ[j]? with
    | none => rw [hσ] at e2; cases e2
    | some o =>
     rw [hσ] at e2
     have O1 : o = some v := e2
     subst O1
     have Mq : j < X.N.length := by rw [← I.len]; exact (List.getElem?_eq_some_iff.mp hσ).1
     have eN : X.N[j]? = some y := by
      rw [Ge9 Mq]
      rw [Gd9, Ge9 Mq] at wg
      exact congrArg some wg
     have hy : scope.names.lookup y = some .free := ok.aG y (by
      show y ∈ aG.map fun i => X.N.getD i (Str.ofString "")
      exact List.mem_map.mpr ⟨j, List.mem_of_getElem? hj, wg⟩)
     have Pn : y ≠ x := fun z => by rw [z, ok.RD] at hy; cases hy
     have hk := ok.frees (y, .free) (PySem.mem_of_lookup hy) rfl
     obtain ⟨m', _, hl⟩ := I.loc
     obtain ⟨u, r, q⟩ := hl j y v eN hσ (.inr hk)
     refine ⟨u, r, .inr ⟨jE hy, ?_⟩⟩
     rcases q with ⟨k, _⟩ | ⟨_, c, e, z⟩
     ·have k' : X.env.scope.names.lookup y = some .local := k
      rw [k'] at hk
      rcases hk with hk | hk <;> cases hk
     ·obtain ⟨c', e'⟩ := Option.isSome_iff_exists.mp (fA (env := X.env) (cs := []) (.inl (PySem.mem_of_lookup hy)))
      have ec := Sg _ _ e'
      rw [e] at ec
      cases ec
      obtain ⟨o, ho, hd⟩ := z
      exact ⟨c, (yg Pn).trans e', o, keep c o ho, hd⟩
 ·rcases sub y c e with ⟨_, a2⟩ | ⟨_, a2⟩
  ·rw [a2]
   exact ⟨none, hcl⟩
  ·obtain ⟨v, o, ho, hd⟩ := I.cell y c a2
   exact ⟨v, o, keep c o ho, hd⟩
 ·rcases sub y c e with ⟨_, a2⟩ | ⟨_, a2⟩
  ·rw [a2]
   exact hC0
  ·exact I.kR y c a2
theorem Em {x : Str} {px pos p : Pos} {iter elt : Expr} {ifs : List Expr} {scope : Scope} {wi : TI} {tt : TT} {te : TE} {aG : List Nat} {use : Option (Value → Sem Unit)} {QQ : Value → Shared → Prop}
  (hc : X.calm = true) (ho : sV X.env.scope scope x (b8 X x aG) = true) (hi : PI X (.Name x px) iter wi)
  (ht : ∀ cl C s₀ H₀ ex, IB (jL X x scope cl (b8 X x aG) C s₀ H₀ ex) ifs tt) (he : ∀ cl C s₀ H₀ ex, PE (jL X x scope cl (b8 X x aG) C s₀ H₀ ex) elt te)
  (hs : ∀ x, foldedSetIterable iter X.env x = pure x) {pins : List (Addr × Obj)} {s : Shared} {σ : St} {H : Hp} {Q : VK} (I : Inv X pins σ H s) (h : BU wi tt te aG σ H Q)
  (fin : ∀ (D C : Addr) (H' : Hp) (s' : Shared) (m : Str → Option Value), Inv X pins σ H' s' → Q (.ref D) H' → s'.heap.Ns C m → dM X pins H' C → compPost (model X.prog X.w) X.A X.xe use QQ (.ref D) C (.ok .next) s') :
  wpAny (model X.prog X.w) X.A (comprehension (.ListComp elt [⟨.Name x px, iter, ifs, 0⟩] scope pos) scope X.env p (newList []) false (eval iter X.env) use) QQ X.xe s := by
 have ok := Ek ho
 have ie : ∀ z ∈ scope.names, z.2 = .free → (X.env.cells.lookup z.1).isSome = true := fun z hz rW => by
  obtain ⟨c, e⟩ := I.ok.has z.1 (by
   rcases ok.frees z hz rW with q | q
   ·exact .inl q
   ·exact .inr q)
  rw [e]; rfl
 refine wpAny_comprehension_free (cl := aM X.env scope.names []) (use := use) rfl hs (nU ie) ok.kind ok.locs (thn (hi pins s σ H _ I h) fun v s1 h1 => thn h1 fun Ra s2 h2 => ?_)
 obtain ⟨it, fp, tn, J, H2, e, I2, T, oN, f2, rd⟩ := h2
 subst e
 refine wpAny_newObj_type (El ok.one fun h₁ tQ Po Pp => ?_)
 dsimp only at tQ Po Pp ⊢
 have xU : H2 s2.heap.objs.size = none := I2.bt.fresh (Nat.le_refl _)
 obtain ⟨W, ⟨m0, w0⟩, turn⟩ := rd s2.heap.objs.size xU
 have BV : ∀ b ∈ fp, b < s2.heap.objs.size := fun b hb => by
  obtain ⟨o, e, _⟩ := T.obj 0 _ oN b hb
  exact Heap.lt_size e
 have hsz : (s2.heap.push { cls := .type "list", dict := none, data := .seq ([] : List Value).toArray }).objs.size = s2.heap.objs.size + 1 := Heap.size_push ..
 have I3 : Inv X pins σ (upd H2 s2.heap.objs.size (.lst [])) { s2 with heap := s2.heap.push { cls := .type "list", dict := none, data := .seq ([] : List Value).toArray } } :=
  I2.laid (t' := s2.toks) (fun b u e => Heap.get?_push_of_some _ e) (Nat.le_refl _) ⟨by simp, [], 0, .nil, Heap.get?_push_size _ rfl⟩
 have xM : tn 0 (s2.heap.push { cls := .type "list", dict := none, data := .seq ([] : List Value).toArray }) := T.keep _ _ _ oN fun b _ o e => Heap.get?_push_of_some _ e
 generalize Ww : s2.heap.push { cls := .type "list", dict := none, data := .seq ([] : List Value).toArray } = h3 at tQ Po Pp hsz I3 xM ⊢
 generalize RH : upd H2 s2.heap.objs.size (.lst []) = H3 at I3 w0
 have yP : ∀ b ∈ fp, b < h3.objs.size := fun b hb => by rw [hsz]; exact Nat.lt_succ_of_lt (BV b hb)
 have f3 : ∀ b ∈ fp, dM X pins H3 b := fun b hb => ⟨by rw [← RH, aq (Nat.ne_of_lt (BV b hb))]; exact (f2 b hb).1, (f2 b hb).2⟩
 have keep : ∀ b o, h3.get? b = some o → h₁.get? b = some o := Pp
 have I4 := Cn (s3 := { s2 with heap := h3 }) (tk := s2.toks) ok I3 f3 yP tQ keep (Nat.le_succ _) Po
 have BW : tn 0 h₁ := T.keep _ _ _ xM fun b _ o e => keep b o e
 generalize gn : jL X x scope ((x, h3.objs.size + 1) :: aM X.env scope.names []) (b8 X x aG) ({ s2 with heap := h3 } : Shared).heap.objs.size { s2 with heap := h3 } H3 fp = X' at I4
 have eA : X'.A = X.A := by rw [← gn] <;> rfl
 have eP : X'.prog = X.prog := by rw [← gn] <;> rfl
 have ew : X'.w = X.w := by rw [← gn] <;> rfl
 have eK : X'.K = X.K := by rw [← gn] <;> rfl
 have ee : X'.env = compEnvC scope ((x, h3.objs.size + 1) :: aM X.env scope.names []) h3.objs.size X.env := by rw [← gn] <;> rfl
 have ex : X'.xe = fun _ _ => False := by rw [← gn] <;> rfl
 have eN : X'.N = b8 X x aG := by rw [← gn] <;> rfl
 have ec : X'.calm = true := by rw [← gn]; exact hc
 have RJ : X'.fs = BM X.stack := by rw [← gn] <;> rfl
 have RK : IB X' ifs tt := by rw [← gn]; exact ht _ _ _ _ _
 have RL : PE X' elt te := by rw [← gn]; exact he _ _ _ _ _
 have leave : ∀ {σ' : St} {H' : Hp} {s' : Shared}, Inv X' [] σ' H' s' → Q (.ref s2.heap.objs.size) H' → compPost (model X.prog X.w) X.A X.xe use QQ (.ref s2.heap.objs.size) h3.objs.size (.ok .next) s' := fun {σ' H' s'} J q => by
  have un : Un (BM X.stack) fp H3 H' h3 s'.heap := by have z := J.base; rw [← gn] at z; exact z
  have G1 : s'.os = s2.os := by have z := J.os; rw [← gn] at z; exact z
  have hk : nh X.prog X.w H' s'.heap := by have z := J.bt; rw [eP, ew] at z; exact z
  have Jx := I3.IK (s' := s') (ch := fp) G1 un hk J.bare fun b hb => ⟨(f3 b hb).2.2.2.1, (f3 b hb).2.1, (f3 b hb).2.2.2.2.1, (f3 b hb).2.2.2.2.2⟩
  obtain ⟨m, hn, _⟩ := J.loc
  have IJ : s'.heap.Ns h3.objs.size m := by rw [ee] at hn; exact hn
  have rW : H' h3.objs.size = none := by have z := J.free; rw [ee] at z; exact z
  exact fin _ _ H' s' m Jx q IJ (I3.tG (Nat.le_refl _) rW)
 have nN : ∀ {H' : Hp}, (∀ b ∈ fp, H' b = none) → ∀ b ∈ fp, dM X' [] H' b := fun {H'} hn b hb => by
  refine ⟨hn b hb, ?_, ?_, .inl ?_, fun y c e => ?_, fun p hp => ?_⟩
  ·rw [ee]; exact Nat.ne_of_lt (yP b hb)
  ·rw [RJ]
   intro z
   rcases List.mem_cons.mp (I3.k0 b z) with z | z
   ·exact (f3 b hb).2.1 z
   ·exact (f3 b hb).2.2.1 z
  ·rw [← gn]; exact hb
  ·have e' : ((x, h3.objs.size + 1) :: aM X.env scope.names []).lookup y = some c := by rw [ee] at e; exact e
   rcases uB e' with ⟨_, z2⟩ | ⟨_, z2⟩
   ·rw [z2]
    exact Nat.ne_of_gt (Nat.lt_succ_of_lt (yP b hb))
   ·exact (f3 b hb).2.2.2.2.1 y c (fz ie (fun _ _ q => by simp at q) z2)
  ·rw [← gn] at hp
   exact absurd (show p ∈ ([] : List (Addr × Obj)) from hp) (by simp)
 have loop : ∀ s₃ : Shared, s₃ = { s2 with heap := h₁, toks := s2.toks } →
   codeAny (model X.prog X.w) X.A (.compLoop (.ListComp elt [⟨.Name x px, iter, ifs, 0⟩] scope pos) 0 (.ref it) (.ref s2.heap.objs.size) (compEnvC scope ((x, h3.objs.size + 1) :: aM X.env scope.names []) h3.objs.size X.env))
    (compPost (model X.prog X.w) X.A X.xe use QQ (.ref s2.heap.objs.size) h3.objs.size) s₃ := by
  rintro s₃ rfl
  refine jG (fun n s' => ∃ i o H' ys, Inv X' [] (bV σ o aG) H' s' ∧ tn i s'.heap ∧ (∀ b ∈ fp, H' b = none) ∧ W i n ys H') ?_ m0 ⟨0, none, H3, [], I4, BW, fun b hb => (f3 b hb).1, w0⟩
  rintro n s' ⟨i, o, H', ys, J, xK, NQ, w'⟩
  obtain ⟨YQ, hlen, alt⟩ := turn i n ys H' w'
  rcases alt with ⟨stop, q⟩ | ⟨go, N, hN, step⟩
  ·have z := T.done X' eP ew eK ec i [] s' _ H' (fun _ _ => False) J (nN NQ) xK stop
   rw [eA] at z
   refine thn z fun r s4 ⟨hr, J4⟩ => ?_
   subst hr
   exact leave J4 q
  ·have z := T.item X' eP ew eK ec i [] s' _ H' (fun _ _ => False) J (nN NQ) xK go
   rw [eA] at z
   refine thn z fun r s4 ⟨u, hr, h4⟩ => ?_
   subst hr
   refine thn h4 fun _ s5 ⟨xv, H5, J5, r5, y5, sJ, OE⟩ => ?_
   have RM := J5.pinned (nN OE) (T.obj _ _ sJ)
   have lx : (relabel scope X.env).names.lookup x = some .cell := zj ok.RD
   have hg : PG X' (.Name x px) (tE 0) := aK (by rw [eN]; exact ok.nd) (by rw [eN] <;> rfl) (by rw [ee]; exact .inr lx) (by rw [← gn]; exact .inl (decide_eq_true rfl))
   have zg := hg _ s5 _ H5 xv u (fun σ6 H6 => σ6 = bV σ (some xv) aG ∧ H6 = H5) RM r5 ⟨rfl, rfl⟩
   rw [eP, ew, eA, ee, ex] at zg
   refine thn zg fun _ s6 ⟨σ6, H6, J6, q6⟩ => ?_
   obtain ⟨e6, Wx⟩ := q6
   subst e6 Wx
   have zt := RK _ s6 _ _ _ J6 (step xv _ y5)
   rw [eP, ew, eA, ee, ex] at zt
   refine thn zt fun b s7 ⟨H7, J7, q7⟩ => ?_
   have again : ∀ {H8 : Hp} {s8 : Shared} {FU : List V}, Inv X' ([] ++ nM fp s5.heap) (bV σ (some xv) aG) H8 s8 → N FU H8 → ∃ m, m < n ∧ ∃ i o H' ys, Inv X' [] (bV σ o aG) H' s8 ∧ tn i s8.heap ∧ (∀ b ∈ fp, H' b = none) ∧ W i m ys H' := fun {H8 s8 FU} J8 n8 => by
    obtain ⟨m', hm, w8⟩ := hN FU H8 n8
    refine ⟨m', hm, i + 1, some xv, H8, FU, J8.fu, T.keep _ _ _ sJ fun b hb o e => (J8.pin (b, o) (List.mem_append_right _ (List.mem_append_right _ (bK hb e)))).1, fun b hb => ?_, w8⟩
    obtain ⟨o, e, d⟩ := T.obj _ _ sJ b hb
    exact (J8.pin (b, o) (List.mem_append_right _ (List.mem_append_right _ (bK hb e)))).2.1
   cases b with
   | false => exact again J7 q7
   | true =>
    have ze := RL _ s7 _ H7 _ J7 q7
    rw [eP, ew, eA, ee, ex] at ze
    refine thn ze fun yv s8 ⟨y, H8, J8, r8, RN, q8⟩ => ?_
    have za := aZ (X := X') _ s8 _ H8 (.ref s2.heap.objs.size) [y] (.ref s2.heap.objs.size) [yv] (fun _ H9 => H9 = upd H8 s2.heap.objs.size (.lst (ys ++ [y]))) J8 rfl (.cons r8 .nil) ⟨_, ys, y, rfl, rfl, RN, hlen, rfl⟩
    rw [eP, ew, eA, ex] at za
    refine thn za fun _ s9 ⟨_, H9, J9, _, q9⟩ => ?_
    subst q9
    exact again J9 q8
 exact codeAny_compStart_list (loop _ rfl) (T.self _ 0 _ _ _ BW (loop _ rfl))
theorem JY {x : Str} {px pos : Pos} {iter elt : Expr} {ifs : List Expr} {scope : Scope} {wi : TI} {tt : TT} {te : TE} (aG : List Nat)
  (hc : X.calm = true) (ho : sV X.env.scope scope x (b8 X x aG) = true) (hi : PI X (.Name x px) iter wi)
  (ht : ∀ cl C s₀ H₀ ex, IB (jL X x scope cl (b8 X x aG) C s₀ H₀ ex) ifs tt) (he : ∀ cl C s₀ H₀ ex, PE (jL X x scope cl (b8 X x aG) C s₀ H₀ ex) elt te)
  (hs : ∀ x, foldedSetIterable iter X.env x = pure x := by intro _; rfl) : PE X (.ListComp elt [⟨.Name x px, iter, ifs, 0⟩] scope pos) (BU wi tt te aG) := by
 intro pins s σ H Q I h
 rw [eval_ListComp]
 refine Em (use := none) hc ho hi ht he hs I h fun D C H' s' m J q hn hf => ?_
 exact ⟨m, hn, fun h' sb => ⟨.ref D, H', J.turned (t' := s'.toks) (fun b o hb e => (sb.2 b hb).trans e) hf.1 hf.2.1 hf.2.2.2.1 hf.2.2.2.2.1 hf.2.2.2.2.2, rfl, q⟩⟩
theorem JZ {K : PySem.W.Frag} {tg l : Expr} {tl : TE} (hK : X.K = K) (hl : PE X l tl) : PI X tg l (NJ K tl) := by
 subst hK
 exact aJ hl
end
end L2
namespace L2
open PySem PySem.Spec PyProof.Rows
def dR (X : Cx) (xs : List Str) (aG : List Nat) : List Str := xs ++ aG.map fun i => X.N.getD i (Str.ofString "")
def nZ (k : Nat) (σ : St) (aG : List Nat) : St := List.replicate k none ++ aG.map fun i => (σ[i]?).join
def sW (outer scope : Scope) (xs : List Str) (N : List Str) : Bool :=
 decide (scope.kind = .function) && scope.names.all (fun y => decide (y.2 ≠ .cell)) && scope.names.all (fun y => decide (y.2 = .local → scope.names.lookup y.1 = some .local)) && xs.all (fun x => decide (scope.names.lookup x = some .local)) &&
  scope.names.all (fun y => decide (y.2 = .free → (outer.names.lookup y.1 = some .cell ∨ outer.names.lookup y.1 = some .free))) && (N.drop xs.length).all (fun y => decide (scope.names.lookup y = some .free)) && decide N.Nodup
structure Gb (outer scope : Scope) (xs : List Str) (N : List Str) : Prop where
 kind : scope.kind = .function
 tP : ∀ y ∈ scope.names, y.2 ≠ .cell
 locs : ∀ y ∈ scope.names, y.2 = .local → scope.names.lookup y.1 = some .local
 RD : ∀ x ∈ xs, scope.names.lookup x = some .local
 frees : ∀ y ∈ scope.names, y.2 = .free → (outer.names.lookup y.1 = some .cell ∨ outer.names.lookup y.1 = some .free)
 aG : ∀ y ∈ N.drop xs.length, scope.names.lookup y = some .free
 nd : N.Nodup
theorem En {outer scope : Scope} {xs : List Str} {N : List Str} (h : sW outer scope xs N = true) : Gb outer scope xs N := by
 unfold sW at h
 simp only [Bool.and_eq_true, List.all_eq_true, decide_eq_true_eq] at h
 obtain ⟨⟨⟨⟨⟨⟨h1, h2⟩, h3⟩, h4⟩, h5⟩, h6⟩, h7⟩ := h
 exact ⟨h1, h2, h3, h4, h5, h6, h7⟩
def J0 (k : Nat) (g : TG) (tt : TT) (te : TE) (aG : List Nat) (σ : St) (Q : VK) (J : It) (H1 : Hp) (D : Addr) : Prop :=
 ∃ W : Nat → Nat → List V → St → Hp → Prop, (∃ m, W 0 m [] (nZ k σ aG) (upd H1 D (.lst []))) ∧ ∀ i m ys τ H, W i m ys τ H →
  H D = some (.lst ys) ∧ ys.length < sizeLine ∧
  ((J.stop i H ∧ Q (.ref D) H) ∨ (J.go i H ∧ ∃ N : List V → St → Hp → Prop, (∀ zs τ' H', N zs τ' H' → ∃ m', m' < m ∧ W (i + 1) m' zs τ' H') ∧ ∀ x H', J.Ma i H x H' → g x τ H' fun τ2 H2 => tt τ2 H2 fun b H3 =>
   if b = true then te τ2 H3 fun y H4 => H4 D = some (.lst ys) ∧ N (ys ++ [y]) τ2 (upd H4 D (.lst (ys ++ [y])))
   else N ys τ2 H3))
def Ka (k : Nat) (wi : TI) (g : TG) (tt : TT) (te : TE) (aG : List Nat) : TE := fun σ H Q => wi σ H fun J H1 => ∀ D, H1 D = none → J0 k g tt te aG σ Q J H1 D
section
variable {X : Cx}
theorem Co {scope : Scope} {xs : List Str} {aG : List Nat} {pins : List (Addr × Obj)} {σ : St} {H : Hp} {s3 : Shared} {h1 : Heap} {fp : List Addr} {m : Str → Option Value} {tk : Nat} (ok : Gb X.env.scope scope xs (dR X xs aG)) (I : Inv X pins σ H s3)
  (hf : ∀ b ∈ fp, dM X pins H b) (eO : ∀ b ∈ fp, b < s3.heap.objs.size) (hn : h1.Ns s3.heap.objs.size m) (keep : ∀ b o, s3.heap.get? b = some o → h1.get? b = some o) :
  Inv (cL X scope (aM X.env scope.names []) (dR X xs aG) s3.heap.objs.size s3 H fp) [] (nZ xs.length σ aG) H { s3 with heap := h1, toks := tk } := by
 have ie : ∀ z ∈ scope.names, z.2 = .free → (X.env.cells.lookup z.1).isSome = true := fun z hz rW => by
  obtain ⟨c, e⟩ := I.ok.has z.1 (by
   rcases ok.frees z hz rW with q | q
   ·exact .inl q
   ·exact .inr q)
  rw [e]; rfl
 have sub : ∀ y c, (aM X.env scope.names []).lookup y = some c → X.env.cells.lookup y = some c := fun y c h => fz ie (fun _ _ q => by simp at q) h
 have hC : H s3.heap.objs.size = none := I.bt.fresh (Nat.le_refl _)
 have II : ∀ y c, X.env.cells.lookup y = some c → c < s3.heap.objs.size := fun y c e => by
  obtain ⟨v, z⟩ := I.cell y c e
  exact z.lt
 refine ⟨⟨I.ok.mod, ?_, I.ok.glob, I.ok.blt, Nat.le_refl _, fun y z c e1 e2 => I.ok.inj y z c (sub _ _ e1) (sub _ _ e2), fun y hy => ?_, fun y c L8 _ => ?_, I.ok.hd, I.ok.frames, .inl rfl, fun b hb => ⟨Nat.ne_of_lt (eO b hb), fun y c e => (hf b hb).2.2.2.2.1 y c (sub _ _ e)⟩,
   I.bs, Nat.le_trans I.ok.FD I.sz, fun b o e hb => ?_, fun b hb Jl => ?_, I.stack, I.sy⟩,
  rfl, I.bare, Un.kept keep, ⟨m, hn, fun i y v e1 e2 e3 => ?_⟩, fun y c e => ?_, hC, fun y c e => I.kR y c (sub _ _ e), fun p hp => absurd (show p ∈ ([] : List (Addr × Obj)) from hp) (by simp), I.bt.kept keep, by simp [cL, dR, nZ]⟩
 ·show (relabel scope X.env).kind = .function
  exact ok.kind
 ·have RG : (relabel scope X.env).names.lookup y = some .cell ∨ (relabel scope X.env).names.lookup y = some .free := hy
  have fr : scope.names.lookup y = some .free := by
   rcases RG with q | q
   ·obtain ⟨k, e, z⟩ := c8 q
    rcases z with z | ⟨z, _⟩
    ·exact absurd z.symm (ok.tP _ (PySem.mem_of_lookup e))
    ·rw [e, z]
   ·obtain ⟨k, e, z⟩ := c8 q
    rcases z with z | ⟨_, z⟩
    ·rw [e, z]
    ·cases z
  exact Option.isSome_iff_exists.mp (fA (.inl (PySem.mem_of_lookup fr)))
 ·exact absurd (show (fun _ => false) y = true from L8) (by simp)
 ·rcases (hf b hb).2.2.2.1 with z | z
  ·exact I.ok.DC b o e z
  ·exact absurd (Nat.lt_of_lt_of_le (Heap.lt_size e) (Nat.le_trans I.ok.FD z)) (Nat.lt_irrefl _)
 ·rcases List.mem_cons.mp (I.k0 b Jl) with z | z
  ·exact (hf b hb).2.1 z
  ·exact (hf b hb).2.2.1 z
 ·have wg : (dR X xs aG)[i]? = some y := e1
  have Hj : (nZ xs.length σ aG)[i]? = some (some v) := e2
  rcases Nat.lt_or_ge i xs.length with Sh | Sh
  ·unfold nZ at Hj
   rw [List.getElem?_append_left (by rw [List.length_replicate]; exact Sh), List.getElem?_replicate, if_pos Sh] at Hj
   cases Hj
  ·unfold dR at wg
   unfold nZ at Hj
   rw [List.getElem?_append_right Sh, List.getElem?_map] at wg
   rw [List.getElem?_append_right (by rw [List.length_replicate]; exact Sh), List.length_replicate, List.getElem?_map] at Hj
   cases hj : aG[i - xs.length]? with
   | none => rw [hj] at Hj; cases Hj
   | some j =>
    rw [hj] at wg Hj
    simp only [Option.map_some, Option.some.injEq] at wg Hj
    cases hσ : σ[j]? with
    | none => rw [hσ] at Hj; cases Hj
    | some o =>
     rw [hσ] at Hj
     have O1 : o = some v := Hj
     subst O1
     have Mq : j < X.N.length := by rw [← I.len]; exact (List.getElem?_eq_some_iff.mp hσ).1
     have eN : X.N[j]? = some y := by
      rw [Ge9 Mq]
      rw [Gd9, Ge9 Mq] at wg
      exact congrArg some wg
     have hy : scope.names.lookup y = some .free := ok.aG y (by
      show y ∈ (xs ++ aG.map fun i => X.N.getD i (Str.ofString "")).drop xs.length
      rw [List.drop_left]
      exact List.mem_map.mpr ⟨j, List.mem_of_getElem? hj, wg⟩)
     have hk := ok.frees (y, .free) (PySem.mem_of_lookup hy) rfl
     obtain ⟨m', _, hl⟩ := I.loc
     obtain ⟨u, r, q⟩ := hl j y v eN hσ (.inr hk)
     refine ⟨u, r, .inr ⟨jE hy, ?_⟩⟩
     rcases q with ⟨k, _⟩ | ⟨_, c, e, z⟩
     ·have k' : X.env.scope.names.lookup y = some .local := k
      rw [k'] at hk
      rcases hk with hk | hk <;> cases hk
     ·obtain ⟨c', e'⟩ := Option.isSome_iff_exists.mp (fA (env := X.env) (cs := []) (.inl (PySem.mem_of_lookup hy)))
      have ec := sub _ _ e'
      rw [e] at ec
      cases ec
      obtain ⟨o, ho, hd⟩ := z
      exact ⟨c, e', o, keep c o ho, hd⟩
 ·obtain ⟨v, o, ho, hd⟩ := I.cell y c (sub _ _ e)
  exact ⟨v, o, keep c o ho, hd⟩
theorem Ep {xs : List Str} {pos p : Pos} {tg iter elt : Expr} {g : TG} {ifs : List Expr} {scope : Scope} {wi : TI} {tt : TT} {te : TE} {aG : List Nat} {use : Option (Value → Sem Unit)} {QQ : Value → Shared → Prop}
  (hc : X.calm = true) (ho : sW X.env.scope scope xs (dR X xs aG) = true) (hi : PI X tg iter wi) (hg : ∀ cl C s₀ H₀ ex, PG (cL X scope cl (dR X xs aG) C s₀ H₀ ex) tg g)
  (ht : ∀ cl C s₀ H₀ ex, IB (cL X scope cl (dR X xs aG) C s₀ H₀ ex) ifs tt) (he : ∀ cl C s₀ H₀ ex, PE (cL X scope cl (dR X xs aG) C s₀ H₀ ex) elt te)
  (hs : ∀ x, foldedSetIterable iter X.env x = pure x) {pins : List (Addr × Obj)} {s : Shared} {σ : St} {H : Hp} {Q : VK} (I : Inv X pins σ H s) (h : Ka xs.length wi g tt te aG σ H Q)
  (fin : ∀ (D C : Addr) (H' : Hp) (s' : Shared) (m : Str → Option Value), Inv X pins σ H' s' → Q (.ref D) H' → s'.heap.Ns C m → dM X pins H' C → compPost (model X.prog X.w) X.A X.xe use QQ (.ref D) C (.ok .next) s') :
  wpAny (model X.prog X.w) X.A (comprehension (.ListComp elt [⟨tg, iter, ifs, 0⟩] scope pos) scope X.env p (newList []) false (eval iter X.env) use) QQ X.xe s := by
 have ok := En ho
 have ie : ∀ z ∈ scope.names, z.2 = .free → (X.env.cells.lookup z.1).isSome = true := fun z hz rW => by
  obtain ⟨c, e⟩ := I.ok.has z.1 (by
   rcases ok.frees z hz rW with q | q
   ·exact .inl q
   ·exact .inr q)
  rw [e]; rfl
 refine wpAny_comprehension_free (cl := aM X.env scope.names []) (use := use) rfl hs (nU ie) ok.kind ok.locs (thn (hi pins s σ H _ I h) fun v s1 h1 => thn h1 fun Ra s2 h2 => ?_)
 obtain ⟨it, fp, tn, J, H2, e, I2, T, oN, f2, rd⟩ := h2
 subst e
 refine wpAny_newObj_type (wpAny_newFunctionEnv ok.tP (by intro y hy; simp at hy) (fun h₁ tQ DV => ?_) ok.kind)
 dsimp only at tQ DV ⊢
 have xU : H2 s2.heap.objs.size = none := I2.bt.fresh (Nat.le_refl _)
 obtain ⟨W, ⟨m0, w0⟩, turn⟩ := rd s2.heap.objs.size xU
 have BV : ∀ b ∈ fp, b < s2.heap.objs.size := fun b hb => by
  obtain ⟨o, e, _⟩ := T.obj 0 _ oN b hb
  exact Heap.lt_size e
 have hsz : (s2.heap.push { cls := .type "list", dict := none, data := .seq ([] : List Value).toArray }).objs.size = s2.heap.objs.size + 1 := Heap.size_push ..
 have I3 : Inv X pins σ (upd H2 s2.heap.objs.size (.lst [])) { s2 with heap := s2.heap.push { cls := .type "list", dict := none, data := .seq ([] : List Value).toArray } } :=
  I2.laid (t' := s2.toks) (fun b u e => Heap.get?_push_of_some _ e) (Nat.le_refl _) ⟨by simp, [], 0, .nil, Heap.get?_push_size _ rfl⟩
 have xM : tn 0 (s2.heap.push { cls := .type "list", dict := none, data := .seq ([] : List Value).toArray }) := T.keep _ _ _ oN fun b _ o e => Heap.get?_push_of_some _ e
 generalize Ww : s2.heap.push { cls := .type "list", dict := none, data := .seq ([] : List Value).toArray } = h3 at tQ DV hsz I3 xM ⊢
 generalize RH : upd H2 s2.heap.objs.size (.lst []) = H3 at I3 w0
 have yP : ∀ b ∈ fp, b < h3.objs.size := fun b hb => by rw [hsz]; exact Nat.lt_succ_of_lt (BV b hb)
 have f3 : ∀ b ∈ fp, dM X pins H3 b := fun b hb => ⟨by rw [← RH, aq (Nat.ne_of_lt (BV b hb))]; exact (f2 b hb).1, (f2 b hb).2⟩
 have keep : ∀ b o, h3.get? b = some o → h₁.get? b = some o := fun b o e => DV.extBut b o (Nat.ne_of_lt (Heap.lt_size e)) (Heap.get?_push_of_some _ e)
 have I4 := Co (s3 := { s2 with heap := h3 }) (tk := s2.toks + ([] : List (Str × Value)).length) ok I3 f3 yP tQ keep
 have BW : tn 0 h₁ := T.keep _ _ _ xM fun b _ o e => keep b o e
 generalize gn : cL X scope (aM X.env scope.names []) (dR X xs aG) ({ s2 with heap := h3 } : Shared).heap.objs.size { s2 with heap := h3 } H3 fp = X' at I4
 have eA : X'.A = X.A := by rw [← gn] <;> rfl
 have eP : X'.prog = X.prog := by rw [← gn] <;> rfl
 have ew : X'.w = X.w := by rw [← gn] <;> rfl
 have eK : X'.K = X.K := by rw [← gn] <;> rfl
 have ee : X'.env = compEnvC scope (aM X.env scope.names []) h3.objs.size X.env := by rw [← gn] <;> rfl
 have ex : X'.xe = fun _ _ => False := by rw [← gn] <;> rfl
 have ec : X'.calm = true := by rw [← gn]; exact hc
 have RJ : X'.fs = BM X.stack := by rw [← gn] <;> rfl
 have RK : IB X' ifs tt := by rw [← gn]; exact ht _ _ _ _ _
 have hG' : PG X' tg g := by rw [← gn]; exact hg _ _ _ _ _
 have RL : PE X' elt te := by rw [← gn]; exact he _ _ _ _ _
 have leave : ∀ {σ' : St} {H' : Hp} {s' : Shared}, Inv X' [] σ' H' s' → Q (.ref s2.heap.objs.size) H' → compPost (model X.prog X.w) X.A X.xe use QQ (.ref s2.heap.objs.size) h3.objs.size (.ok .next) s' := fun {σ' H' s'} J q => by
  have un : Un (BM X.stack) fp H3 H' h3 s'.heap := by have z := J.base; rw [← gn] at z; exact z
  have G1 : s'.os = s2.os := by have z := J.os; rw [← gn] at z; exact z
  have hk : nh X.prog X.w H' s'.heap := by have z := J.bt; rw [eP, ew] at z; exact z
  have Jx := I3.IK (s' := s') (ch := fp) G1 un hk J.bare fun b hb => ⟨(f3 b hb).2.2.2.1, (f3 b hb).2.1, (f3 b hb).2.2.2.2.1, (f3 b hb).2.2.2.2.2⟩
  obtain ⟨m, hn, _⟩ := J.loc
  have IJ : s'.heap.Ns h3.objs.size m := by rw [ee] at hn; exact hn
  have rW : H' h3.objs.size = none := by have z := J.free; rw [ee] at z; exact z
  exact fin _ _ H' s' m Jx q IJ (I3.tG (Nat.le_refl _) rW)
 have nN : ∀ {H' : Hp}, (∀ b ∈ fp, H' b = none) → ∀ b ∈ fp, dM X' [] H' b := fun {H'} hn b hb => by
  refine ⟨hn b hb, ?_, ?_, .inl ?_, fun y c e => ?_, fun p hp => ?_⟩
  ·rw [ee]; exact Nat.ne_of_lt (yP b hb)
  ·rw [RJ]
   intro z
   rcases List.mem_cons.mp (I3.k0 b z) with z | z
   ·exact (f3 b hb).2.1 z
   ·exact (f3 b hb).2.2.1 z
  ·rw [← gn]; exact hb
  ·have e' : (aM X.env scope.names []).lookup y = some c := by rw [ee] at e; exact e
   exact (f3 b hb).2.2.2.2.1 y c (fz ie (fun _ _ q => by simp at q) e')
  ·rw [← gn] at hp
   exact absurd (show p ∈ ([] : List (Addr × Obj)) from hp) (by simp)
 have loop : ∀ s₃ : Shared, s₃ = { s2 with heap := h₁, toks := s2.toks + ([] : List (Str × Value)).length } →
   codeAny (model X.prog X.w) X.A (.compLoop (.ListComp elt [⟨tg, iter, ifs, 0⟩] scope pos) 0 (.ref it) (.ref s2.heap.objs.size) (compEnvC scope (aM X.env scope.names []) h3.objs.size X.env))
    (compPost (model X.prog X.w) X.A X.xe use QQ (.ref s2.heap.objs.size) h3.objs.size) s₃ := by
  rintro s₃ rfl
  refine jG (fun n s' => ∃ i τ H' ys, Inv X' [] τ H' s' ∧ tn i s'.heap ∧ (∀ b ∈ fp, H' b = none) ∧ W i n ys τ H') ?_ m0 ⟨0, _, H3, [], I4, BW, fun b hb => (f3 b hb).1, w0⟩
  rintro n s' ⟨i, τ, H', ys, J, xK, NQ, w'⟩
  obtain ⟨YQ, hlen, alt⟩ := turn i n ys τ H' w'
  rcases alt with ⟨stop, q⟩ | ⟨go, N, hN, step⟩
  ·have z := T.done X' eP ew eK ec i [] s' _ H' (fun _ _ => False) J (nN NQ) xK stop
   rw [eA] at z
   refine thn z fun r s4 ⟨hr, J4⟩ => ?_
   subst hr
   exact leave J4 q
  ·have z := T.item X' eP ew eK ec i [] s' _ H' (fun _ _ => False) J (nN NQ) xK go
   rw [eA] at z
   refine thn z fun r s4 ⟨u, hr, h4⟩ => ?_
   subst hr
   refine thn h4 fun _ s5 ⟨xv, H5, J5, r5, y5, sJ, OE⟩ => ?_
   have RM := J5.pinned (nN OE) (T.obj _ _ sJ)
   have zg := hG' _ s5 _ H5 xv u _ RM r5 (step xv _ y5)
   rw [eP, ew, eA, ee, ex] at zg
   refine thn zg fun _ s6 ⟨τ6, H6, J6, q6⟩ => ?_
   have zt := RK _ s6 _ _ _ J6 q6
   rw [eP, ew, eA, ee, ex] at zt
   refine thn zt fun b s7 ⟨H7, J7, q7⟩ => ?_
   have again : ∀ {H8 : Hp} {s8 : Shared} {FU : List V}, Inv X' ([] ++ nM fp s5.heap) τ6 H8 s8 → N FU τ6 H8 → ∃ m, m < n ∧ ∃ i τ H' ys, Inv X' [] τ H' s8 ∧ tn i s8.heap ∧ (∀ b ∈ fp, H' b = none) ∧ W i m ys τ H' := fun {H8 s8 FU} J8 n8 => by
    obtain ⟨m', hm, w8⟩ := hN FU τ6 H8 n8
    refine ⟨m', hm, i + 1, τ6, H8, FU, J8.fu, T.keep _ _ _ sJ fun b hb o e => (J8.pin (b, o) (List.mem_append_right _ (List.mem_append_right _ (bK hb e)))).1, fun b hb => ?_, w8⟩
    obtain ⟨o, e, d⟩ := T.obj _ _ sJ b hb
    exact (J8.pin (b, o) (List.mem_append_right _ (List.mem_append_right _ (bK hb e)))).2.1
   cases b with
   | false => exact again J7 q7
   | true =>
    have ze := RL _ s7 _ H7 _ J7 q7
    rw [eP, ew, eA, ee, ex] at ze
    refine thn ze fun yv s8 ⟨y, H8, J8, r8, RN, q8⟩ => ?_
    have za := aZ (X := X') _ s8 _ H8 (.ref s2.heap.objs.size) [y] (.ref s2.heap.objs.size) [yv] (fun _ H9 => H9 = upd H8 s2.heap.objs.size (.lst (ys ++ [y]))) J8 rfl (.cons r8 .nil) ⟨_, ys, y, rfl, rfl, RN, hlen, rfl⟩
    rw [eP, ew, eA, ex] at za
    refine thn za fun _ s9 ⟨_, H9, J9, _, q9⟩ => ?_
    subst q9
    exact again J9 q8
 exact codeAny_compStart_list (loop _ rfl) (T.self _ 0 _ _ _ BW (loop _ rfl))
theorem Kb {pos : Pos} {tg iter elt : Expr} {ifs : List Expr} {scope : Scope} {wi : TI} {tt : TT} {te : TE} {g : TG} (xs : List Str) (aG : List Nat)
  (hc : X.calm = true) (ho : sW X.env.scope scope xs (dR X xs aG) = true) (hi : PI X tg iter wi) (hg : ∀ cl C s₀ H₀ ex, PG (cL X scope cl (dR X xs aG) C s₀ H₀ ex) tg g)
  (ht : ∀ cl C s₀ H₀ ex, IB (cL X scope cl (dR X xs aG) C s₀ H₀ ex) ifs tt) (he : ∀ cl C s₀ H₀ ex, PE (cL X scope cl (dR X xs aG) C s₀ H₀ ex) elt te)
  (hs : ∀ x, foldedSetIterable iter X.env x = pure x := by intro _; rfl) : PE X (.ListComp elt [⟨tg, iter, ifs, 0⟩] scope pos) (Ka xs.length wi g tt te aG) := by
 intro pins s σ H Q I h
 rw [eval_ListComp]
 refine Ep (use := none) hc ho hi hg ht he hs I h fun D C H' s' m J q hn hf => ?_
 exact ⟨m, hn, fun h' sb => ⟨.ref D, H', J.turned (t' := s'.toks) (fun b o hb e => (sb.2 b hb).trans e) hf.1 hf.2.1 hf.2.2.2.1 hf.2.2.2.2.1 hf.2.2.2.2.2, rfl, q⟩⟩
end
end L2
namespace L2
open PySem PySem.Spec PyProof.Rows
def Vj (K : PySem.W.Frag) (a b : Addr) : It :=
  ⟨fun i H => ∃ xs ys x y, ay K H a xs ∧ ay K H b ys ∧ xs[i]? = some x ∧ ys[i]? = some y,
   fun i H x H' => ∃ t v u, H t = none ∧ H' = upd H t (.tup [v, u]) ∧ x = .ref t ∧ (∀ xs, ay K H a xs → xs[i]? = some v) ∧ ∀ ys, ay K H b ys → ys[i]? = some u,
   fun i H => ∃ xs ys, ay K H a xs ∧ ay K H b ys ∧ (xs.length ≤ i ∨ ys.length ≤ i)⟩
theorem Kc {P : Program} {w : World} {K : PySem.W.Frag} {elts : List Expr} {x1 : Nat} {pos : Pos} (a b z TI TO i1 i2 : Addr) (D : ZipApart z TI TO i1 i2 a b) : Turn P w K (.Tuple elts x1 pos) (Vj K a b) [z, TI, TO, i1, i2] z
  (fun i h => IsZip h z TI TO .none ∧ IsPair h TI (.ref i1) (.ref i2) ∧ (∃ u v, IsPair h TO u v) ∧ h.IsListIter i1 a i ∧ h.IsListIter i2 b i) where
 mem := by simp
 obj := fun i h st c hc => by
  obtain ⟨zh, oN, ⟨u, v, xM⟩, BW, sJ⟩ := st
  rcases (by simpa using hc : c = z ∨ c = TI ∨ c = TO ∨ c = i1 ∨ c = i2) with e | e | e | e | e <;> subst e
  ·exact ⟨_, zh, fun v z => nomatch z⟩
  ·exact ⟨_, oN, fun v z => nomatch z⟩
  ·exact ⟨_, xM, fun v z => nomatch z⟩
  ·obtain ⟨o, e, c, d⟩ := BW
   exact ⟨o, e, fun v z => by rw [d] at z; cases z⟩
  ·obtain ⟨o, e, c, d⟩ := sJ
   exact ⟨o, e, fun v z => by rw [d] at z; cases z⟩
 keep := fun i h h' st k => by
  obtain ⟨zh, oN, ⟨u, v, xM⟩, BW, sJ⟩ := st
  exact ⟨k z (by simp) _ zh, k TI (by simp) _ oN, ⟨u, v, k TO (by simp) _ xM⟩, BW.at fun o q => k i1 (by simp) o q, sJ.at fun o q => k i2 (by simp) o q⟩
 item := by
  intro X hP hw hK hc i pins s σ H E I hf st hg
  subst hP hw hK
  obtain ⟨zh, oN, ⟨u0, v0, xM⟩, BW, sJ⟩ := st
  obtain ⟨xs, ys, x, y, hq, QC, hx, hy⟩ := hg
  obtain ⟨its, rv, p, hz⟩ := I.list hq
  obtain ⟨nP, Vk, p2, Vl⟩ := I.list QC
  obtain ⟨u, hu, ru⟩ := rv.get hx
  obtain ⟨u2, hu2, WT⟩ := Vk.get hy
  refine wpAny_pyNext_zip_item D zh oN xM BW sJ p.isList p2.isList (x := u) (y := u2) (by simpa using hu) (by simpa using hu2) fun h1 WO WU R0 WV hT1 Vm Vh => ?_
  refine ⟨_, rfl, wpAny_letOwnedTupleGo_zip WO fun h2 QB tJ => ?_⟩
  replace tJ : Heap.SameBut z h1 h2 := tJ
  have rW : H s.heap.objs.size = none := I.bt.fresh (Nat.le_refl _)
  have lt : ∀ c ∈ [z, TI, TO, i1, i2], c < s.heap.objs.size := fun c hc => by
   rcases (by simpa using hc : c = z ∨ c = TI ∨ c = TO ∨ c = i1 ∨ c = i2) with e | e | e | e | e <;> rw [e]
   ·exact Heap.lt_size zh
   ·exact Heap.lt_size oN
   ·exact Heap.lt_size xM
   ·obtain ⟨o, q, _⟩ := id BW
    exact Heap.lt_size q
   ·obtain ⟨o, q, _⟩ := id sJ
    exact Heap.lt_size q
  have Vn := lt z (by simp)
  have Eh : h2.get? s.heap.objs.size = some { cls := .type "tuple", data := .seq #[u, u2] } := (tJ.2 _ (Nat.ne_of_gt Vn)).trans hT1
  have I1 : Inv X pins σ (upd H s.heap.objs.size (.tup [x, y])) { s with heap := s.heap.push { cls := .type "tuple", data := .seq #[u, u2] }, toks := s.toks } := by
   refine I.laid (t' := s.toks) (fun b u q => Heap.get?_push_of_some _ q) (Nat.le_refl _) ?_
   exact ⟨(by show 2 ≤ sizeLine; decide), [u, u2], .cons ru (.cons WT .nil), ⟨_, Heap.get?_push_size _ rfl, rfl, 0, rfl⟩⟩
  have I2 : Inv X pins σ (upd H s.heap.objs.size (.tup [x, y])) { s with heap := h2, toks := s.toks } := by
   refine Inv.gc (s := { s with heap := s.heap.push { cls := .type "tuple", data := .seq #[u, u2] }, toks := s.toks }) (h' := h2) (t' := s.toks) (ch := [z, TI, TO, i1, i2]) I1 (fun b o hb q => ?_) (fun b hb => ?_)
   ·have Pm : b ≠ z := fun e => hb (by simp [e])
    have F7 : b ≠ TO := fun e => hb (by simp [e])
    have WW : b ≠ i1 := fun e => hb (by simp [e])
    have WX : b ≠ i2 := fun e => hb (by simp [e])
    by_cases Sd : b = s.heap.objs.size
    ·subst Sd
     have q2 : (s.heap.push { cls := .type "tuple", data := .seq #[u, u2] }).get? s.heap.objs.size = some o := q
     rw [Heap.get?_push_size _ rfl] at q2
     rw [Eh, ← q2]
    ·have q2 : (s.heap.push { cls := .type "tuple", data := .seq #[u, u2] }).get? b = some o := q
     have q3 : s.heap.get? b = some o := (rK _ _ _ Sd).symm.trans q2
     exact (tJ.2 b Pm).trans (Vh b o Pm F7 WW WX q3)
   ·have f := hf b hb
    refine ⟨?_, f.2.1, f.2.2.2.1, f.2.2.2.2.1, f.2.2.2.2.2⟩
    rw [aq (Nat.ne_of_lt (lt b hb))]
    exact f.1
  refine ⟨.ref s.heap.objs.size, _, I2, rfl, ⟨_, x, y, rW, rfl, rfl, fun zs WY => by rw [I.oK WY hq]; exact hx, fun zs WY => by rw [I.oK WY QC]; exact hy⟩, ⟨QB, ?_, ⟨u, u2, ?_⟩, ?_, ?_⟩, fun b hb => ?_⟩
  ·exact (tJ.2 TI D.TIz).trans (Vh TI _ D.TIz D.TITO D.TIi1 D.TIi2 oN)
  ·exact (tJ.2 TO D.TOz).trans WU
  ·exact R0.at fun o q => (tJ.2 i1 D.i1z).trans q
  ·exact WV.at fun o q => (tJ.2 i2 D.i2z).trans q
  ·rw [aq (Nat.ne_of_lt (lt b hb))]
   exact (hf b hb).1
 done := by
  intro X hP hw hK hc i pins s σ H E I hf st hg
  subst hP hw hK
  obtain ⟨zh, oN, ⟨u0, v0, xM⟩, BW, sJ⟩ := st
  obtain ⟨xs, ys, hq, QC, hx⟩ := hg
  obtain ⟨its, rv, p, hz⟩ := I.list hq
  obtain ⟨nP, Vk, p2, Vl⟩ := I.list QC
  have hl := rv.length
  have tN := Vk.length
  refine wpAny_pyNext_zip_end (I.ok.hd hc) D zh oN xM BW sJ p.isList p2.isList ?_ fun h' eb => ⟨rfl, ?_⟩
  ·rcases hx with hx | hx
   ·exact .inl (by simp; omega)
   ·exact .inr (by simp; omega)
  ·refine Inv.gc (s := s) (t' := s.toks) (ch := [z, TI, TO, i1, i2]) I (fun b o hb e => eb b o (fun e => hb (by simp [e])) (fun e => hb (by simp [e])) (fun e => hb (by simp [e])) (fun e => hb (by simp [e])) e) fun b hb => ?_
   have f := hf b hb
   exact ⟨f.1, f.2.1, f.2.2.2.1, f.2.2.2.2.1, f.2.2.2.2.2⟩
 self := fun _ _ _ _ _ st h => wpAny_pyIter_zip st.1 h
section
variable {X : Cx}
theorem neA {a b : Nat} (h : a < b ∨ b < a) : a ≠ b := fun e => by omega
theorem Hk (n a b : Nat) (ha : a < n) (hb : b < n) : ZipApart (n + 4) (n + 2) (n + 3) n (n + 1) a b := by
 constructor <;> (refine neA ?_; omega)
def WZ (K : PySem.W.Frag) (tl tm : TE) : TI := fun σ H R => tl σ H fun x H1 => tm σ H1 fun y H2 => ∃ a b, x = .ref a ∧ y = .ref b ∧ (∃ xs, ay K H2 a xs) ∧ (∃ ys, ay K H2 b ys) ∧ R (Vj K a b) H2
theorem Pq {l m : Expr} {tl tm : TE} {elts : List Expr} {x1 : Nat} {Ja p cpos : Pos} (hl : PE X l tl) (hm2 : PE X m tm) (hg : Gl X "zip") (hm : X.mg "zip" = none) (hv : bootBuiltins "zip" = some (.type "zip"))
  (he : starEach [l, m] X.env = (false, eval l X.env) :: starEach [m] X.env) (QB : starEach [m] X.env = (false, eval m X.env) :: starEach [] X.env) : PI X (.Tuple elts x1 Ja) (.Call (.Name "zip" p) [l, m] [] cpos) (WZ X.K tl tm) := by
 intro pins s σ H R I h
 refine wpAny_Call_Name_kw (jA I hg hm hv ?_ (by decide) (by decide))
 have MO : PA X [l, m] (rq tl (rq tm yJ)) := aa hl (aa hm2 ae QB) he
 refine PyProof.Rows.callWith_type1 (thn (MO cpos pins s σ H (fun vs H1 => match vs with | [x, y] => ∃ a b, x = .ref a ∧ y = .ref b ∧ (∃ xs, ay X.K H1 a xs) ∧ (∃ ys, ay X.K H1 b ys) ∧ R (Vj X.K a b) H1 | _ => False) I h) fun us s1 ⟨vs, H1, I1, r1, q1⟩ => ?_) he (by rw [QB]; rfl)
 match vs, r1, q1 with
 | [x, y], r1, ⟨a, b, ex, ey, ⟨xs, hq⟩, ⟨ys, QC⟩, q⟩ =>
  subst ex ey
  obtain ⟨u, u2, rfl, ru, WT⟩ := vals2 r1
  cases ru
  cases WT
  obtain ⟨its, rv, p, hz⟩ := I1.list hq
  obtain ⟨nP, Vk, p2, Vl⟩ := I1.list QC
  have ha : a < s1.heap.objs.size := by
   obtain ⟨_, e, _⟩ := p.isList
   exact Heap.lt_size e
  have hb : b < s1.heap.objs.size := by
   obtain ⟨_, e, _⟩ := p2.isList
   exact Heap.lt_size e
  have D := Hk s1.heap.objs.size a b ha hb
  refine call_zip_2 p.isList p2.isList fun h' hz hTI hTO R0 WV hsz hk => wpAny_pyIter_zip hz ?_
  refine ⟨s1.heap.objs.size + 4, [s1.heap.objs.size + 4, s1.heap.objs.size + 2, s1.heap.objs.size + 3, s1.heap.objs.size, s1.heap.objs.size + 1], _, _, H1, rfl, I1.kept (t' := s1.toks) hk, Kc a b _ _ _ _ _ D, ⟨hz, hTI, ⟨_, _, hTO⟩, R0, WV⟩, fun c hc => ?_, q⟩
  have Ck : s1.heap.objs.size ≤ c := by
   rcases (by simpa using hc : c = s1.heap.objs.size + 4 ∨ c = s1.heap.objs.size + 2 ∨ c = s1.heap.objs.size + 3 ∨ c = s1.heap.objs.size ∨ c = s1.heap.objs.size + 1) with z | z | z | z | z <;> rw [z]
   ·exact Nat.le_add_right _ _
   ·exact Nat.le_add_right _ _
   ·exact Nat.le_add_right _ _
   ·exact Nat.le_refl _
   ·exact Nat.le_add_right _ _
  exact I1.tG Ck (I1.bt.fresh Ck)
end
end L2
namespace L2
open PySem PySem.Spec PyProof.Rows
section
variable {X : Cx} {pins : List (Addr × Obj)} {σ : St}
theorem dM.at {H H' : Hp} {b : Addr} (h : dM X pins H b) (n : H' b = none) : dM X pins H' b := ⟨n, h.2⟩
theorem dM.Hl {H : Hp} {b : Addr} (f : dM X pins H b) : H b = none ∧ b ≠ X.env.locals ∧ (b ∈ X.ex ∨ X.s₀.heap.objs.size ≤ b) ∧ (∀ x c, X.env.cells.lookup x = some c → c ≠ b) ∧ ∀ p ∈ X.pn ++ pins, p.1 ≠ b := ⟨f.1, f.2.1, f.2.2.2.1, f.2.2.2.2.1, f.2.2.2.2.2⟩
theorem Ke (hc : X.calm = true) {l q I S : Addr} {xs : List V} (kf : Nat → Int) (P : Hp → Prop) {Rr : Result → Shared → Prop} (hl : ∀ H', P H' → ay X.K H' l xs) (Si : l ≠ I) (N2 : S ≠ I)
  (turn : ∀ (pl : List (Addr × Obj)) (s' : Shared) (H' : Hp) (i : Nat) (x : V) (u : Value), Inv X (pins ++ pl) σ H' s' → P H' → xs[i]? = some x → RelV x u → wpAny (model X.prog X.w) X.A.in1 (call (.ref q) [u]) (fun v rS => ∃ nA t, v = .int (kf i) t ∧ Inv X (pins ++ pl) σ nA rS ∧ P nA) (fun _ _ => False) s')
  (hR : ∀ (s' : Shared) (H' : Hp) (i : Nat) (x : V) (v : Value), Inv X pins σ H' s' → P H' → xs[i]? = some x → RelV x v → (∀ j, j < xs.length → kf i ≤ kf j ∧ (j < i → kf i < kf j)) → Rr (.ok (.ret v)) s') :
  ∀ (r j i : Nat) (s' : Shared) (H' : Hp) (x : V) (vb : Value) (tb : Tok) (c : Nat), xs.length - (j + 1) = r → j + 1 ≤ xs.length → Inv X pins σ H' s' → P H' → dM X pins H' I → dM X pins H' S → s'.heap.get? S = some (seqObj "list" #[vb, .int (kf i) tb] c) → s'.heap.IsListIter I l (j + 1) → xs[i]? = some x → RelV x vb → i ≤ j → (∀ j', j' ≤ j → kf i ≤ kf j' ∧ (j' < i → kf i < kf j')) →
   codeAny (model X.prog X.w) X.A (.builtin "min.loop" ⟨[.ref I, .ref q, .ref S], []⟩) Rr s' := by
 have Cp : (toString "min" ++ toString ".loop" : String) = "min.loop" := by decide
 intro r
 induction r with
 | zero =>
  intro j i s' H' x vb tb c hr hj J hP fI fS nS hit hx rx WA Gd
  obtain ⟨its, rv, p, hz⟩ := J.list (hl H' hP)
  have hlen := rv.length
  have QD : j + 1 = xs.length := by omega
  have W := Walks.list (prog := X.prog) (w := X.w) (A := X.A.in1) (J.ok.hd hc) I l Si its.toArray
  have hsz : its.toArray.size = j + 1 := by rw [List.size_toArray]; omega
  refine codeAny_builtin PySem.F.entry_min_loop ?_
  rw [Around.under_plainId PySem.F.plain_min_loop _]
  show wpAny _ X.A.in1 (seqItems? (.ref S) >>= _) _ _ _
  refine wpAny_bind (wpAny_seqItems nS rfl ?_)
  show wpAny _ X.A.in1 (tryCatch (pyNext (.ref I)) _ >>= _) _ _ _
  refine wpAny_bind (wpAny_tryCatch (W.done _ _ _ ⟨by rw [hsz]; exact hit, p.isList⟩ fun h' tk' Ge => ?_))
  have J1 := Inv.gc (s := s') (h' := h') (t' := tk') (ch := [I]) J (fun b o hb e => Ge b o hb e) fun b hb => by rw [List.mem_singleton.mp hb]; exact fI.Hl
  have WS := Ge S _ (by simpa using N2) nS
  have s1 := Heap.SameBut.update h' S (Obj.mapSeq fun _ => (#[] : Array Value))
  show wpAny _ X.A.in1 (updateSeq S (fun _ => #[]) >>= _) _ _ _
  refine wpAny_bind ?_
  refine wpAny_updateSeq WS rfl (wpAny_bind (wpAny_letGo (wpAny_pure ?_)))
  have J2 := Inv.gc (s := { s' with heap := h', toks := tk' }) (h' := h'.update S (Obj.mapSeq fun _ => (#[] : Array Value))) (t' := tk') (ch := [S]) J1 (fun b o hb e => (s1.2 b (by simpa using hb)).trans e) fun b hb => by rw [List.mem_singleton.mp hb]; exact fS.Hl
  exact hR _ H' i x vb J2 hP hx rx fun j' W0 => Gd j' (by omega)
 | succ r ih =>
  intro j i s' H' x vb tb c hr hj J hP fI fS nS hit hx rx WA Gd
  obtain ⟨its, rv, p, hz⟩ := J.list (hl H' hP)
  have hlen := rv.length
  have eO : j + 1 < xs.length := by omega
  have W := Walks.list (prog := X.prog) (w := X.w) (A := X.A.in1) (J.ok.hd hc) I l Si its.toArray
  refine codeAny_builtin PySem.F.entry_min_loop ?_
  rw [Around.under_plainId PySem.F.plain_min_loop _]
  show wpAny _ X.A.in1 (seqItems? (.ref S) >>= _) _ _ _
  refine wpAny_bind (wpAny_seqItems nS rfl ?_)
  show wpAny _ X.A.in1 (tryCatch (pyNext (.ref I)) _ >>= _) _ _ _
  refine wpAny_bind (wpAny_tryCatch (W.item (j + 1) _ _ _ (by rw [List.size_toArray]; omega) ⟨hit, p.isList⟩ fun v h' tk' W2 Pu Ge => ?_))
  have hv : its[j + 1]? = some v := by simpa using W2
  have hy : xs[j + 1]? = some xs[j + 1] := Ge9 eO
  obtain ⟨u, hu, ru⟩ := rv.get hy
  rw [hv] at hu
  cases hu
  obtain ⟨QE, Kf, Ox, QF⟩ := id Pu.1
  have J1 := Inv.gc (s := s') (h' := h') (t' := tk') (ch := [I]) J (fun b o hb e => Ge b o hb e) fun b hb => by rw [List.mem_singleton.mp hb]; exact fI.Hl
  have Sj := Ge S _ (by simpa using N2) nS
  have W3 := J1.pinned (fp := [I, S]) (fun b hb => by
   rcases (by simpa using hb : b = I ∨ b = S) with e | e <;> rw [e]
   ·exact fI
   ·exact fS) (fun b hb => by
   rcases (by simpa using hb : b = I ∨ b = S) with e | e <;> rw [e]
   ·exact ⟨QE, Kf, fun v z => by rw [QF] at z; cases z⟩
   ·exact ⟨_, Sj, fun v z => nomatch z⟩)
  show wpAny _ X.A.in1 (tryCatch (holding [v] (call (.ref q) [v])) _ >>= _) _ _ _
  refine wpAny_bind (wpAny_tryCatch (wpAny_holding (wpAny_mono (turn _ _ H' (j + 1) _ v W3 hP hy ru) (fun x' rS he => ?_) fun _ _ hF => hF.elim)))
  obtain ⟨H2, t2, rfl, Pw, Vo⟩ := he
  have J2 := Pw.fu
  have pS := Pw.pin (S, _) (List.mem_append_right _ (List.mem_append_right _ (bK (by simp) Sj)))
  have pI := Pw.pin (I, _) (List.mem_append_right _ (List.mem_append_right _ (bK (by simp) Kf)))
  have W4 := pS.1
  have Pc : rS.heap.IsListIter I l (j + 1 + 1) := ⟨QE, pI.1, Ox, QF⟩
  have Y0 : dM X pins H2 I := fI.at pI.2.1
  have W5 : dM X pins H2 S := fS.at pS.2.1
  show wpAny _ X.A.in1 (tryCatch (holding [v, .int (kf (j + 1)) t2] (richCompare .Lt (.int (kf (j + 1)) t2) (.int (kf i) tb) >>= _)) _ >>= _) _ _ _
  refine wpAny_bind (wpAny_tryCatch (wpAny_holding (wpAny_bind (CmpOf.ints_lt (prog := X.prog) (w := X.w) (A := X.A.in1) (P := fun i v => ∃ t, v = .int (kf i) t) kf (fun i v h => h) (j + 1) i _ _ _ _ _ ⟨t2, rfl⟩ ⟨tb, rfl⟩ ?_))))
  refine wpAny_bind (wpAny_holding (wpAny_truthy_bool ?_))
  refine wpAny_bind (wpAny_letGo (wpAny_pure ?_))
  by_cases Ck : kf (j + 1) < kf i
  ·have s1 := Heap.SameBut.update rS.heap S (Obj.mapSeq fun _ => #[v, .int (kf (j + 1)) t2])
   obtain ⟨c2, W6⟩ : ∃ c2, (rS.heap.update S (Obj.mapSeq fun _ => #[v, .int (kf (j + 1)) t2])).get? S = some (seqObj "list" #[v, .int (kf (j + 1)) t2] c2) := ⟨_, get?_update_seq W4 fun _ => #[v, .int (kf (j + 1)) t2]⟩
   simp only [Ck, decide_true, if_true]
   refine wpAny_bind ?_
   refine wpAny_updateSeq W4 rfl (wpAny_bind (wpAny_letGo ?_))
   rw [Cp]
   have J3 := Inv.gc (s := rS) (h' := rS.heap.update S (Obj.mapSeq fun _ => #[v, .int (kf (j + 1)) t2])) (t' := rS.toks) (ch := [S]) J2 (fun b o hb e => (s1.2 b (by simpa using hb)).trans e) fun b hb => by rw [List.mem_singleton.mp hb]; exact W5.Hl
   refine wpAny_pure ⟨plainId_quiet PySem.F.plain_min_loop _, ih (j + 1) (j + 1) _ H2 _ v t2 c2 (by omega) eO J3 Vo Y0 W5 W6 ⟨QE, (s1.2 I N2.symm).trans pI.1, Ox, QF⟩ hy ru (Nat.le_refl _) fun j' W0 => ?_⟩
   by_cases e : j' = j + 1
   ·subst e
    exact ⟨by omega, fun _ => by omega⟩
   ·have Pm := Gd j' (by omega)
    have F7 := Pm.1
    exact ⟨by omega, fun _ => by omega⟩
  ·simp only [Ck, decide_false, Bool.false_eq_true, if_false]
   refine wpAny_bind (wpAny_letGo ?_)
   rw [Cp]
   refine wpAny_pure ⟨plainId_quiet PySem.F.plain_min_loop _, ih (j + 1) i _ H2 x vb tb c (by omega) eO J2 Vo Y0 W5 W4 Pc hx rx (by omega) fun j' W0 => ?_⟩
   by_cases e : j' = j + 1
   ·subst e
    exact ⟨by omega, fun _ => by omega⟩
   ·exact Gd j' (by omega)
theorem zm (hc : X.calm = true) {l q : Addr} {xs : List V} (kf : Nat → Int) (P : Hp → Prop) {s : Shared} {H : Hp} {Q : VK} {E : Value → Shared → Prop} (J : Inv X pins σ H s) (hP : P H) (hl : ∀ H', P H' → ay X.K H' l xs) (ni : 0 < xs.length)
  (turn : ∀ (pl : List (Addr × Obj)) (s' : Shared) (H' : Hp) (i : Nat) (x : V) (u : Value), Inv X (pins ++ pl) σ H' s' → P H' → xs[i]? = some x → RelV x u → wpAny (model X.prog X.w) X.A.in1 (call (.ref q) [u]) (fun v rS => ∃ nA t, v = .int (kf i) t ∧ Inv X (pins ++ pl) σ nA rS ∧ P nA) (fun _ _ => False) s')
  (hQ : ∀ (H' : Hp) (i : Nat) (x : V), P H' → xs[i]? = some x → (∀ j, j < xs.length → kf i ≤ kf j ∧ (j < i → kf i < kf j)) → Q x H') :
  wpAny (model X.prog X.w) X.A (call (.builtin "min") [.ref l] [(Str.ofString "key", .ref q)]) (EP X pins σ Q) E s := by
 have Cp : (toString "min" ++ toString ".loop" : String) = "min.loop" := by decide
 obtain ⟨its, rv, p, hz⟩ := J.list (hl H hP)
 have hlen := rv.length
 obtain ⟨ol, Vd, _⟩ := id p.isList
 have MR : l < s.heap.objs.size := Heap.lt_size Vd
 refine kmk_tree PySem.F.kind_min PySem.F.plain_min PySem.F.entry_min (kmk_min_key _ _) ?_
 show wpAny _ X.A.in1 (Builtin.Builtins.bindParams "min" ["key", "default"] 0 ⟨[], [(Str.ofString "key", .ref q)]⟩ >>= _) _ _ s
 refine wpAny_bind (wpAny_of_eq (show Builtin.Builtins.bindParams "min" ["key", "default"] 0 ⟨[], [(Str.ofString "key", .ref q)]⟩ = pure [some (.ref q), none] from rfl) ?_)
 refine wpAny_bind (wpAny_pure ?_)
 refine wpAny_bind (wpAny_pyIter_list p.isList ?_)
 refine wpAny_bind (wpAny_newList ?_ (Nat.zero_le _))
 rw [Cp]
 have hS : (s.heap.push { cls := .type "list_iterator", data := .fields #[.ref l, .int 0 0] }).objs.size = s.heap.objs.size + 1 := size_push' ..
 have Si : l ≠ s.heap.objs.size := Nat.ne_of_lt MR
 have N2 : (s.heap.push { cls := .type "list_iterator", data := .fields #[.ref l, .int 0 0] }).objs.size ≠ s.heap.objs.size := by rw [hS]; exact Nat.ne_of_gt (Nat.lt_succ_self _)
 refine wpAny_pure ⟨plainId_quiet PySem.F.plain_min_loop _, ?_⟩
 have JH : Inv X pins σ H { s with heap := (s.heap.push { cls := .type "list_iterator", data := .fields #[.ref l, .int 0 0] }).push (seqObj "list" #[] 0), toks := s.toks } := J.kept (t' := s.toks) fun b o e => Heap.get?_push_of_some _ (Heap.get?_push_of_some _ e)
 have gI : ((s.heap.push { cls := .type "list_iterator", data := .fields #[.ref l, .int 0 0] }).push (seqObj "list" #[] 0)).get? s.heap.objs.size = some { cls := .type "list_iterator", data := .fields #[.ref l, .int 0 0] } :=
  Heap.get?_push_of_some _ (Heap.get?_push_size _ rfl)
 have gS : ((s.heap.push { cls := .type "list_iterator", data := .fields #[.ref l, .int 0 0] }).push (seqObj "list" #[] 0)).get? (s.heap.push { cls := .type "list_iterator", data := .fields #[.ref l, .int 0 0] }).objs.size = some (seqObj "list" #[] 0) := Heap.get?_push_size _ rfl
 have fI : dM X pins H s.heap.objs.size := J.tG (Nat.le_refl _) (J.bt.fresh (Nat.le_refl _))
 have fS : dM X pins H (s.heap.push { cls := .type "list_iterator", data := .fields #[.ref l, .int 0 0] }).objs.size := by
  rw [hS]
  exact J.tG (Nat.le_succ _) (J.bt.fresh (Nat.le_succ _))
 generalize hSg : (s.heap.push { cls := .type "list_iterator", data := .fields #[.ref l, .int 0 0] }).objs.size = S at N2 gS fS
 generalize hHg : (s.heap.push { cls := .type "list_iterator", data := .fields #[.ref l, .int 0 0] }).push (seqObj "list" #[] 0) = hH at gI gS JH
 obtain ⟨Sk, Y1, p1, WO⟩ := JH.list (hl H hP)
 have N3 := Y1.length
 have W := Walks.list (prog := X.prog) (w := X.w) (A := X.A.in1) (J.ok.hd hc) s.heap.objs.size l Si Sk.toArray
 refine codeAny_builtin PySem.F.entry_min_loop ?_
 rw [Around.under_plainId PySem.F.plain_min_loop _]
 show wpAny _ X.A.in1 (seqItems? (.ref _) >>= _) _ _ _
 refine wpAny_bind (wpAny_seqItems gS rfl ?_)
 show wpAny _ X.A.in1 (tryCatch (pyNext (.ref s.heap.objs.size)) _ >>= _) _ _ _
 refine wpAny_bind (wpAny_tryCatch (W.item 0 _ _ _ (by rw [List.size_toArray]; omega) ⟨⟨_, gI, rfl, rfl⟩, p1.isList⟩ fun v h' tk' W2 Pu Ge => ?_))
 have hv : Sk[0]? = some v := by simpa using W2
 have hy : xs[0]? = some xs[0] := Ge9 ni
 obtain ⟨u, hu, ru⟩ := Y1.get hy
 rw [hv] at hu
 cases hu
 obtain ⟨QE, Kf, Ox, QF⟩ := id Pu.1
 have J1 := Inv.gc (s := { s with heap := hH, toks := s.toks }) (h' := h') (t' := tk') (ch := [s.heap.objs.size]) JH (fun b o hb e => Ge b o hb e) fun b hb => by rw [List.mem_singleton.mp hb]; exact fI.Hl
 have Sj := Ge S _ (by simpa using N2) gS
 have W3 := J1.pinned (fp := [s.heap.objs.size, S]) (fun b hb => by
  rcases (by simpa using hb : b = s.heap.objs.size ∨ b = S) with e | e <;> rw [e]
  ·exact fI
  ·exact fS) (fun b hb => by
  rcases (by simpa using hb : b = s.heap.objs.size ∨ b = S) with e | e <;> rw [e]
  ·exact ⟨QE, Kf, fun v z => by rw [QF] at z; cases z⟩
  ·exact ⟨_, Sj, fun v z => nomatch z⟩)
 show wpAny _ X.A.in1 (tryCatch (holding [v] (call (.ref q) [v])) _ >>= _) _ _ _
 refine wpAny_bind (wpAny_tryCatch (wpAny_holding (wpAny_mono (turn _ _ H 0 _ v W3 hP hy ru) (fun x' rS he => ?_) fun _ _ hF => hF.elim)))
 obtain ⟨H2, t2, rfl, Pw, Vo⟩ := he
 have J2 := Pw.fu
 have pS := Pw.pin (S, _) (List.mem_append_right _ (List.mem_append_right _ (bK (by simp) Sj)))
 have pI := Pw.pin (s.heap.objs.size, _) (List.mem_append_right _ (List.mem_append_right _ (bK (by simp) Kf)))
 have s1 := Heap.SameBut.update rS.heap S (Obj.mapSeq fun _ => #[v, .int (kf 0) t2])
 obtain ⟨c2, W6⟩ : ∃ c2, (rS.heap.update S (Obj.mapSeq fun _ => #[v, .int (kf 0) t2])).get? S = some (seqObj "list" #[v, .int (kf 0) t2] c2) := ⟨_, get?_update_seq pS.1 fun _ => #[v, .int (kf 0) t2]⟩
 have J3 := Inv.gc (s := rS) (h' := rS.heap.update S (Obj.mapSeq fun _ => #[v, .int (kf 0) t2])) (t' := rS.toks) (ch := [S]) J2 (fun b o hb e => (s1.2 b (by simpa using hb)).trans e) fun b hb => by rw [List.mem_singleton.mp hb]; exact (fS.at pS.2.1).Hl
 show wpAny _ X.A.in1 (updateSeq S (fun _ => #[v, .int (kf 0) t2]) >>= _) _ _ _
 refine wpAny_bind ?_
 refine wpAny_updateSeq pS.1 rfl ?_
 rw [Cp]
 refine wpAny_pure ⟨plainId_quiet PySem.F.plain_min_loop _, Ke hc kf P hl Si N2 turn (fun s' H' i x v J hP hx rx hb => ⟨x, H', J, rx, hQ H' i x hP hx hb⟩) _ 0 0 _ H2 _ v t2 c2 rfl ni J3 Vo (fI.at pI.2.1) (fS.at pS.2.1) W6 ⟨QE, (s1.2 _ N2.symm).trans pI.1, Ox, QF⟩ hy ru (Nat.le_refl _) fun j' W0 => ?_⟩
 have e : j' = 0 := by omega
 subst e
 exact ⟨by omega, fun h => absurd h (Nat.lt_irrefl _)⟩
end
end L2
namespace L2
open PySem PySem.Spec PyProof.Rows
section
variable {X : Cx}
def Sl (i j : Int) : Prop := 0 < j ∧ (j < 1073741824 ∨ j.natAbs.log2 < 9000)
theorem Cq : pX X (binaryOp .FloorDiv) (rI Sl fun i j => .int (i / j)) := Rg fun i j _ _ _ _ _ hc q => by
 have h1 : (0 : Int) < j := hc.1
 have h2 : j < 1073741824 ∨ j.natAbs.log2 < 9000 := hc.2
 refine PyProof.Rows.floordiv_int (by omega) (by rw [Int.fdiv_eq_ediv_of_nonneg i (by omega)]; exact q) (.inl ?_)
 rcases h2 with h2 | h2
 ·exact PyProof.noPylong_small (by omega)
 ·exact PyProof.noPylong_of_log2 h2
def Sm (i j : Int) : Prop := i.natAbs.log2 < 100000 ∧ j.natAbs.log2 < 100000
theorem Gf {i : Int} (h : i.natAbs.log2 < 100000) : Builtin.Int.intBits i ≤ 2 ^ 20 := by
 unfold Builtin.Int.intBits
 split
 ·exact Nat.zero_le _
 ·omega
theorem sX : pX X (binaryOp .Mult) (rI Sm fun i j => .int (i * j)) := Rg fun _ _ _ _ _ _ _ hc q => PyProof.Rows.mul_int q (IntMulOk.of_bits (Gf hc.1) (Gf hc.2))
def gz (kf : Nat → Int) (n i : Nat) : Prop := ∀ j, j < n → kf i ≤ kf j ∧ (j < i → kf i < kf j)
theorem Cr {kf : Nat → Int} {n i j : Nat} (hi : i < n) (hj : j < n) (h1 : gz kf n i) (h2 : gz kf n j) : i = j := by
 rcases Nat.lt_trichotomy i j with q | q | q
 ·have a := (h2 i hi).2 q
  have b := (h1 j hj).1
  omega
 ·exact q
 ·have a := (h1 j hj).2 q
  have b := (h2 i hi).1
  omega
def Sn (K : PySem.W.Frag) (sp : Sp) (t : TE) : TE := fun σ H Q => t σ H fun x H1 => ∃ (l : Addr) (xs : List V) (kf : Nat → Int) (P : Hp → Prop), x = .ref l ∧ P H1 ∧ 0 < xs.length ∧ (∀ H', P H' → ay K H' l xs) ∧
 (∀ H' i x, P H' → xs[i]? = some x → sp [x] H' (fun v nA => v = .int (kf i) ∧ P nA) (fun _ _ _ => False)) ∧ ∀ H' i x, P H' → xs[i]? = some x → gz kf xs.length i → Q x H'
theorem MS {k : Nat} {sp : Sp} {a : Expr} {ta : TE} {fx q1 : Str} {p p2 kp pos : Pos} (hc : X.calm = true) (c : bb X.prog X.w X.K X.mg X.base fx k [q1] sp) (hr : de (k + 1) X.A) (hg : Gl X "min") (hm : X.mg "min" = none) (hgx : Gl X fx) (ha : PE X a ta) (GX : (fx == ("__debug__" : Str)) = false := by decide)
  (hs : starEach [a] X.env = (false, eval a X.env) :: starEach [] X.env := by rfl) : PE X (.Call (.Name "min" p) [a] [⟨some "key", .Name fx p2, kp⟩] pos) (Sn X.K sp ta) := by
 intro pins s σ H Q I h
 obtain ⟨fa, fd, Fo, hb, kpn, hmf⟩ := c
 refine wpAny_Call_Name_kw (jA I hg hm PyProof.Rows.boot_min ?_ (by decide) (by decide))
 have MO : PA X [a] (rq ta yJ) := aa ha ae hs
 have hpk : PK X [⟨some "key", .Name fx p2, kp⟩] (rq (fun _ H Q => Q (.ref fa) H) yJ) := Mh (fun pins s σ H Q I h => sE I hgx hmf ⟨.ref fa, H, I, rfl, h⟩ GX) ON
 refine PyProof.Rows.callWith_kw (thn (MO pos pins s σ H (fun vs H1 => match vs with | [v] => (∃ (l : Addr) (xs : List V) (kf : Nat → Int) (P : Hp → Prop), v = .ref l ∧ P H1 ∧ 0 < xs.length ∧ (∀ H', P H' → ay X.K H' l xs) ∧
  (∀ H' i x, P H' → xs[i]? = some x → sp [x] H' (fun v nA => v = .int (kf i) ∧ P nA) (fun _ _ _ => False)) ∧ ∀ H' i x, P H' → xs[i]? = some x → gz kf xs.length i → Q x H') | _ => False) I h) fun us s1 ⟨vs, H1, I1, rr, Y2⟩ => ?_) (by rw [hs]; rfl) (by rw [hs]; rfl)
 obtain ⟨v, ev⟩ : ∃ v, vs = [v] := by
  match vs, Y2 with
  | [v], _ => exact ⟨v, rfl⟩
 subst ev
 obtain ⟨l, xs, kf, P, el, hP, ni, hl, hk, hq⟩ := Y2
 subst el
 obtain ⟨u, rfl, ru⟩ := vals1 rr
 refine thn (hpk pos pins s1 σ H1 (fun zs H2 => zs = [.ref fa] ∧ H2 = H1) I1 ⟨rfl, rfl⟩) fun kvs s2 ⟨zs, H2, I2, rz, ez, eH⟩ => ?_
 subst ez eH
 obtain ⟨kv, rfl, rk⟩ := vals1 rz
 obtain rfl : kv = Value.ref fa := rk
 obtain rfl : u = Value.ref l := ru
 show wpAny (model X.prog X.w) X.A (call (.builtin "min") [.ref l] [(Str.ofString "key", .ref fa)]) _ _ s2
 refine zm (xs := xs) hc kf P I2 hP hl ni (fun pl s' H' i v u J Ms hv ruv => ?_) fun H' i v Ms hv QG => hq H' i v Ms hv QG
 have LY := hk H' i v Ms hv
 have Ck := hb s' [u] J.rm rfl
 rw [List.append_nil] at Ck
 have e0 := J.OM
 refine wpAny_call (codeAny_mono (Fo.run X.A.in1 X.stack s' H' ⟨[u], []⟩ [u] [v] _ _ hr.in1 ⟨e0.frames, e0.mod, e0.bs, e0.FD, e0.pZ, e0.NG, e0.bt, e0.bare⟩ Ck (.cons ruv .nil) LY) fun r rS GY => ?_)
 cases r with
 | error e =>
  obtain ⟨_, _, _, _, _, _, _, z⟩ := GY
 | ok fl =>
  cases fl with
  | ret u' =>
   obtain ⟨v', nA, J'', rv', e', P'⟩ := J.after GY
   subst e'
   obtain ⟨t', rfl⟩ := rv'
   exact ⟨nA, t', rfl, J'', P'⟩
  | next => exact False.elim GY
  | brk => exact False.elim GY
  | cont => exact False.elim GY
end
end L2
namespace L2
open PySem PySem.Spec PyProof.Rows
end L2
namespace La
abbrev Row := List Int
def dot (row nums : Row) : Int := ((row.zip nums).map fun p => p.1 * p.2).sum
def jl (a : Int) (u : Row) (b : Int) (v : Row) : Row := (u.zip v).map fun p => a * p.1 + b * p.2
def eV (k : Int) (u : Row) : Row := u.map (k * ·)
theorem a7 {a b : Int} {u v : Row} {w : Nat} (hu : u.length = w) (hv : v.length = w) : (jl a u b v).length = w := by
 unfold jl
 rw [Lm9, List.length_zip, hu, hv, Nat.min_self]
theorem ff {k : Int} {u : Row} : (eV k u).length = u.length := by unfold eV; rw [Lm9]
theorem cR {a b : Int} : ∀ {u v : Row} (i : Nat), u.length = v.length → (jl a u b v).getD i 0 = a * u.getD i 0 + b * v.getD i 0
 | [], [], i, _ => by simp [jl]
 | x :: u, y :: v, 0, _ => by simp [jl]
 | x :: u, y :: v, i + 1, h => by
  have ih := cR (a := a) (b := b) (u := u) (v := v) i (by simpa using h)
  unfold jl at ih ⊢
  rw [List.zip_cons_cons, List.map_cons, List.getD_cons_succ, List.getD_cons_succ, List.getD_cons_succ]
  exact ih
 | [], y :: v, i, h => by simp at h
 | x :: u, [], i, h => by simp at h
theorem cS {k : Int} : ∀ {u : Row} (i : Nat), (eV k u).getD i 0 = k * u.getD i 0
 | [], i => by simp [eV]
 | x :: u, 0 => by simp [eV]
 | x :: u, i + 1 => by
  have ih := cS (k := k) (u := u) i
  unfold eV at ih ⊢
  rw [List.map_cons, List.getD_cons_succ, List.getD_cons_succ]
  exact ih
theorem dS {u v : Row} (hl : u.length = v.length) (h : ∀ i, u.getD i 0 = v.getD i 0) : u = v := by
 apply List.ext_getElem hl
 intro i h1 h2
 have := h i
 rw [Gd9, Gd9, Ge9 h1, Ge9 h2] at this
 exact this
theorem pj {a b : Int} : ∀ (e u v : Row), u.length = v.length → dot e (jl a u b v) = a * dot e u + b * dot e v
 | [], u, v, _ => by simp [dot]
 | x :: e, [], [], _ => by simp [dot, jl]
 | x :: e, y :: u, z :: v, h => by
  have ih := pj (a := a) (b := b) e u v (by simpa using h)
  unfold dot jl at ih ⊢
  simp only [List.zip_cons_cons, List.map_cons, List.sum_cons]
  rw [ih]
  simp only [Int.mul_add, Int.add_mul]
  rw [← Int.mul_assoc x a y, ← Int.mul_assoc x b z, Int.mul_comm x a, Int.mul_comm x b, Int.mul_assoc, Int.mul_assoc]
  omega
 | x :: e, [], z :: v, h => by simp at h
 | x :: e, y :: u, [], h => by simp at h
theorem pw {k : Int} : ∀ (e u : Row), dot e (eV k u) = k * dot e u
 | [], u => by simp [dot]
 | x :: e, [] => by simp [dot, eV]
 | x :: e, y :: u => by
  have ih := pw (k := k) e u
  unfold dot eV at ih ⊢
  simp only [List.map_cons, List.zip_cons_cons, List.sum_cons]
  rw [ih, Int.mul_add, ← Int.mul_assoc x k y, Int.mul_comm x k, Int.mul_assoc]
theorem gA : ∀ (u v : Row), dot u v = dot v u
 | [], v => by simp [dot]
 | x :: u, [] => by simp [dot]
 | x :: u, y :: v => by
  have ih := gA u v
  unfold dot at ih ⊢
  simp only [List.zip_cons_cons, List.map_cons, List.sum_cons]
  rw [ih, Int.mul_comm]
theorem zx {k : Int} {u : Row} : jl k u 0 u = eV k u := by
 refine dS (by rw [a7 rfl rfl, ff]) fun i => ?_
 rw [cR i rfl, cS]
 omega
structure dg (w : Nat) (P : Row → Prop) : Prop where
 zero : P (List.replicate w 0)
 mix : ∀ (a b : Int) (u v : Row), u.length = w → v.length = w → P u → P v → P (jl a u b v)
 div : ∀ (k : Int) (u : Row), k ≠ 0 → u.length = w → P (eV k u) → P u
theorem dg.eV {w : Nat} {P : Row → Prop} (C : dg w P) {k : Int} {u : Row} (hu : u.length = w) (h : P u) : P (eV k u) := by
 rw [← zx]
 exact C.mix k 0 u u hu hu h h
theorem lE (w : Nat) (E : List Row) : dg w fun v => ∀ e ∈ E, dot e v = 0 := by
 refine ⟨fun e _ => ?_, fun a b u v hu hv h1 h2 e he => ?_, fun k u hk hu h e he => ?_⟩
 ·have := pw (k := 0) e (List.replicate w 0)
  have e2 : eV 0 (List.replicate w 0) = List.replicate w 0 := by unfold eV; simp
  rw [e2] at this
  omega
 ·rw [pj e u v (by omega), h1 e he, h2 e he]
  simp
 ·have := h e he
  rw [pw] at this
  rcases Int.mul_eq_zero.mp this with h | h
  ·exact absurd h hk
  ·exact h
theorem pz (w : Nat) (n : Row) : dg w fun v => dot v n = 0 := by
 have c := lE w [n]
 refine ⟨?_, fun a b u v hu hv h1 h2 => ?_, fun k u hk hu h => ?_⟩
 ·rw [gA]; exact c.zero n (by simp)
 ·show dot _ n = 0
  rw [gA, pj n u v (by omega), gA n u, gA n v]
  have h1 : dot u n = 0 := h1
  have h2 : dot v n = 0 := h2
  rw [h1, h2]
  simp
 ·have h : dot (La.eV k u) n = 0 := h
  rw [gA, pw, gA] at h
  rcases Int.mul_eq_zero.mp h with h | h
  ·exact absurd h hk
  ·exact h
def eR (row : Row) : Nat := row.foldl (fun f n => Nat.gcd f n.natAbs) 0
theorem yh : ∀ (row : Row) (f : Nat), row.foldl (fun f n => Nat.gcd f n.natAbs) f ∣ f ∧ ∀ n ∈ row, ((row.foldl (fun f n => Nat.gcd f n.natAbs) f : Nat) : Int) ∣ n
 | [], f => ⟨Nat.dvd_refl _, fun _ h => by cases h⟩
 | x :: row, f => by
  obtain ⟨h1, h2⟩ := yh row (Nat.gcd f x.natAbs)
  refine ⟨Nat.dvd_trans h1 (Nat.gcd_dvd_left _ _), fun n hn => ?_⟩
  rcases List.mem_cons.mp hn with e | hn
  ·subst e
   exact Int.ofNat_dvd_left.mpr (Nat.dvd_trans h1 (Nat.gcd_dvd_right _ _))
  ·exact h2 n hn
theorem lF {row : Row} {n : Int} (h : n ∈ row) : ((eR row : Nat) : Int) ∣ n := (yh row 0).2 n h
theorem Hm {row : Row} (h : eR row = 0) : ∀ n ∈ row, n = 0 := fun n hn => by
 have := lF hn
 rw [h] at this
 exact Int.zero_dvd.mp this
def slim (row : Row) : Row := if eR row = 0 then row else row.map fun n => n / (eR row : Nat)
theorem uC {row : Row} : (slim row).length = row.length := by
 unfold slim
 split
 ·rfl
 ·rw [Lm9]
theorem m7 (row : Row) : ∃ k : Int, 0 < k ∧ row = eV k (slim row) := by
 unfold slim
 by_cases h : eR row = 0
 ·rw [if_pos h]
  refine ⟨1, by decide, ?_⟩
  unfold eV
  simp
 ·rw [if_neg h]
  refine ⟨(eR row : Nat), by omega, ?_⟩
  unfold eV
  rw [List.map_map]
  refine List.ext_getElem (by simp) fun i h1 h2 => ?_
  rw [List.getElem_map]
  exact (Int.mul_ediv_cancel' (lF (List.getElem_mem h1))).symm
theorem dg.slim {w : Nat} {P : Row → Prop} (C : dg w P) {u : Row} (hu : u.length = w) : P (slim u) ↔ P u := by
 obtain ⟨k, hk, e⟩ := m7 u
 have hl : (La.slim u).length = w := by rw [uC, hu]
 constructor
 ·intro h
  rw [e]
  exact C.eV hl h
 ·intro h
  rw [e] at h
  exact C.div k _ (by omega) hl h
end La
namespace La
def fp : Row → Nat
 | [] => 0
 | x :: r => if x = 0 then fp r + 1 else 0
theorem Kg : ∀ r : Row, fp r ≤ r.length
 | [] => Nat.le_refl _
 | x :: r => by
  have := Kg r
  unfold fp
  split
  ·rw [List.length_cons]; omega
  ·exact Nat.zero_le _
theorem eX : ∀ {r : Row} {i : Nat}, i < fp r → r.getD i 0 = 0
 | [], i, h => by simp
 | x :: r, i, h => by
  unfold fp at h
  split at h
  ·rename_i hx
   cases i with
   | zero => rw [List.getD_cons_zero]; exact hx
   | succ i => rw [List.getD_cons_succ]; exact eX (by omega)
  ·omega
theorem yi : ∀ {r : Row}, fp r < r.length → r.getD (fp r) 0 ≠ 0
 | [], h => by simp [fp] at h
 | x :: r, h => by
  unfold fp at h ⊢
  by_cases hx : x = 0
  ·rw [if_pos hx] at h ⊢
   rw [List.getD_cons_succ]
   exact yi (by rw [List.length_cons] at h; omega)
  ·rw [if_neg hx]
   rw [List.getD_cons_zero]
   exact hx
theorem Gg {r : Row} {p : Nat} (h1 : ∀ i, i < p → r.getD i 0 = 0) (h2 : r.getD p 0 ≠ 0) : fp r = p := by
 have hp : p < r.length := by
  rcases Nat.lt_or_ge p r.length with h | h
  ·exact h
  ·rw [Gd9, List.getElem?_eq_none h] at h2
   exact absurd rfl h2
 rcases Nat.lt_trichotomy (fp r) p with h | h | h
 ·exact absurd (h1 _ h) (yi (by omega))
 ·exact h
 ·exact absurd (eX h) h2
theorem So {r : Row} {p : Nat} (h : ∀ i, i ≤ p → r.getD i 0 = 0) (hl : fp r < r.length) : p < fp r := by
 rcases Nat.lt_or_ge p (fp r) with q | q
 ·exact q
 ·exact absurd (h _ q) (yi hl)
theorem sY {r : Row} (h : ∀ i, r.getD i 0 = 0) : fp r = r.length := by
 rcases Nat.lt_or_ge (fp r) r.length with q | q
 ·exact absurd (h _) (yi q)
 ·exact Nat.le_antisymm (Kg r) q
def above (row : Row) : Row := slim (if row.getD (fp row) 0 < 0 then row.map fun n => 0 - n else row)
def nq (lead : Row) (p : Nat) (row : Row) : Row := slim (jl (lead.getD p 0) row (0 - row.getD p 0) lead)
theorem Gh (u : Row) : u.map (fun n => 0 - n) = eV (-1) u := by
 unfold eV
 apply List.map_congr_left
 intro n _
 omega
theorem qt {u : Row} : (above u).length = u.length := by
 unfold above
 rw [uC]
 split
 ·rw [Lm9]
 ·rfl
theorem uD (u : Row) : ∃ k : Int, k ≠ 0 ∧ u = eV k (above u) := by
 unfold above
 by_cases h : u.getD (fp u) 0 < 0
 ·rw [if_pos h, Gh]
  obtain ⟨k, hk, e⟩ := m7 (eV (-1) u)
  refine ⟨-k, by omega, ?_⟩
  have e2 : eV (-1) (eV (-1) u) = u := by
   unfold eV
   rw [List.map_map]
   have : ((fun x : Int => -1 * x) ∘ fun x => -1 * x) = id := by funext x; simp
   rw [this, List.map_id]
  have e3 : eV (-1) (eV k (slim (eV (-1) u))) = eV (-k) (slim (eV (-1) u)) := by
   unfold eV
   rw [List.map_map]
   apply List.map_congr_left
   intro n _
   show -1 * (k * n) = -k * n
   rw [Int.neg_mul, Int.neg_mul, Int.one_mul]
  rw [← e3, ← e, e2]
 ·rw [if_neg h]
  obtain ⟨k, hk, e⟩ := m7 u
  exact ⟨k, by omega, e⟩
theorem dg.above {w : Nat} {P : Row → Prop} (C : dg w P) {u : Row} (hu : u.length = w) : P (above u) ↔ P u := by
 obtain ⟨k, hk, e⟩ := uD u
 have hl : (La.above u).length = w := by rw [qt, hu]
 constructor
 ·intro h
  rw [e]
  exact C.eV hl h
 ·intro h
  rw [e] at h
  exact C.div k _ hk hl h
theorem sZ {lead row : Row} {p w : Nat} (h1 : lead.length = w) (h2 : row.length = w) : (nq lead p row).length = w := by
 unfold nq
 rw [uC, a7 h2 h1]
theorem zA {lead row : Row} {p : Nat} (h : row.length = lead.length) : ∃ k : Int, 0 < k ∧ ∀ i, k * (nq lead p row).getD i 0 = lead.getD p 0 * row.getD i 0 - row.getD p 0 * lead.getD i 0 := by
 obtain ⟨k, hk, e⟩ := m7 (jl (lead.getD p 0) row (0 - row.getD p 0) lead)
 refine ⟨k, hk, fun i => ?_⟩
 have : (jl (lead.getD p 0) row (0 - row.getD p 0) lead).getD i 0 = k * (nq lead p row).getD i 0 := by
  conv => lhs; rw [e]
  rw [cS]
  rfl
 rw [← this, cR i h]
 have : (0 - row.getD p 0) * lead.getD i 0 = - (row.getD p 0 * lead.getD i 0) := by rw [Int.zero_sub, Int.neg_mul]
 omega
theorem dg.nq {w : Nat} {P : Row → Prop} (C : dg w P) {lead row : Row} {p : Nat} (h1 : lead.length = w) (h2 : row.length = w) (hl : P lead) (hp : lead.getD p 0 ≠ 0) : P (nq lead p row) ↔ P row := by
 unfold La.nq
 rw [C.slim (a7 h2 h1)]
 constructor
 ·intro h
  have e : jl 1 (jl (lead.getD p 0) row (0 - row.getD p 0) lead) (row.getD p 0) lead = La.eV (lead.getD p 0) row := by
   refine dS (by rw [a7 (a7 h2 h1) h1, ff, h2]) fun i => ?_
   rw [cR i (by rw [a7 h2 h1, h1]), cR i (by omega), cS]
   have : (0 - row.getD p 0) * lead.getD i 0 = - (row.getD p 0 * lead.getD i 0) := by rw [Int.zero_sub, Int.neg_mul]
   omega
  have := C.mix 1 (row.getD p 0) _ _ (a7 h2 h1) h1 h hl
  rw [e] at this
  exact C.div _ _ hp h2 this
 ·intro h
  exact C.mix _ _ _ _ h2 h1 h hl
structure uE (w : Nat) (found : List Row) : Prop where
 len : ∀ r ∈ found, r.length = w
 pos : ∀ r ∈ found, fp r < w ∧ 0 < r.getD (fp r) 0
 ord : found.Pairwise fun r s => fp r < fp s ∧ r.getD (fp s) 0 = 0
structure Red (w : Nat) (found left : List Row) : Prop where
 wu : uE w found
 len : ∀ r ∈ left, r.length = w ∧ fp r < w
 low : ∀ r ∈ found, ∀ l ∈ left, fp r < fp l
def wo (rows : List Row) : List Row := rows.filter fun r => decide (fp r < r.length)
def wx : List Row → Row
 | [] => []
 | r :: rs => rs.foldl (fun a b => if fp b < fp a then b else a) r
theorem yj : ∀ (rs : List Row) (a : Row), (rs.foldl (fun a b => if fp b < fp a then b else a) a = a ∨ rs.foldl (fun a b => if fp b < fp a then b else a) a ∈ rs) ∧ fp (rs.foldl (fun a b => if fp b < fp a then b else a) a) ≤ fp a ∧ ∀ r ∈ rs, fp (rs.foldl (fun a b => if fp b < fp a then b else a) a) ≤ fp r
 | [], a => ⟨.inl rfl, Nat.le_refl _, fun _ h => by cases h⟩
 | b :: rs, a => by
  obtain ⟨h1, h2, h3⟩ := yj rs (if fp b < fp a then b else a)
  rw [List.foldl_cons]
  by_cases hb : fp b < fp a
  ·rw [if_pos hb] at h1 h2 h3 ⊢
   refine ⟨.inr ?_, by omega, fun r hr => ?_⟩
   ·rcases h1 with e | h
    ·rw [e]; exact List.mem_cons_self
    ·exact List.mem_cons_of_mem _ h
   ·rcases List.mem_cons.mp hr with e | hr
    ·rw [e]; exact h2
    ·exact h3 r hr
  ·rw [if_neg hb] at h1 h2 h3 ⊢
   refine ⟨?_, h2, fun r hr => ?_⟩
   ·rcases h1 with e | h
    ·exact .inl e
    ·exact .inr (List.mem_cons_of_mem _ h)
   ·rcases List.mem_cons.mp hr with e | hr
    ·rw [e]; omega
    ·exact h3 r hr
theorem lG {rs : List Row} (h : rs ≠ []) : wx rs ∈ rs ∧ ∀ r ∈ rs, fp (wx rs) ≤ fp r := by
 cases rs with
 | nil => exact absurd rfl h
 | cons a rs =>
  obtain ⟨h1, h2, h3⟩ := yj rs a
  show rs.foldl _ a ∈ _ ∧ ∀ r ∈ _, fp (rs.foldl _ a) ≤ _
  refine ⟨?_, fun r hr => ?_⟩
  ·rcases h1 with e | h
   ·rw [e]; exact List.mem_cons_self
   ·exact List.mem_cons_of_mem _ h
  ·rcases List.mem_cons.mp hr with e | hr
   ·rw [e]; exact h2
   ·exact h3 r hr
theorem Px {k : Int} (hk : k ≠ 0) {u : Row} : fp (eV k u) = fp u := by
 rcases Nat.lt_or_ge (fp u) u.length with h | h
 ·refine Gg (fun i hi => ?_) ?_
  ·rw [cS, eX hi]; simp
  ·rw [cS]
   exact fun e => by
    rcases Int.mul_eq_zero.mp e with e | e
    ·exact hk e
    ·exact yi h e
 ·have e := Nat.le_antisymm (Kg u) h
  rw [e, ← ff (k := k)]
  refine sY fun i => ?_
  rw [cS]
  have : u.getD i 0 = 0 := by
   rcases Nat.lt_or_ge i u.length with q | q
   ·exact eX (by omega)
   ·rw [Gd9, List.getElem?_eq_none q]; rfl
  rw [this]; simp
theorem Er {k x : Int} (hk : 0 < k) (h : 0 < k * x) : 0 < x := by
 rcases Int.lt_or_le 0 x with q | q
 ·exact q
 ·have := Int.mul_le_mul_of_nonneg_left q (Int.le_of_lt hk)
  rw [Int.mul_zero] at this
  omega
theorem at_of {u v : Row} {k : Int} (e : u = eV k v) (i : Nat) : u.getD i 0 = k * v.getD i 0 := by
 rw [← cS, ← e]
theorem Kh (u : Row) : fp (above u) = fp u := by
 obtain ⟨k, hk, e⟩ := uD u
 conv => rhs; rw [e]
 rw [Px hk]
theorem Hn {u : Row} (h : fp u < u.length) : 0 < (above u).getD (fp u) 0 := by
 unfold above
 have h0 := yi h
 by_cases hn : u.getD (fp u) 0 < 0
 ·rw [if_pos hn, Gh]
  obtain ⟨k, hk, e⟩ := m7 (eV (-1) u)
  have := at_of e (fp u)
  rw [cS] at this
  exact Er hk (by omega)
 ·rw [if_neg hn]
  obtain ⟨k, hk, e⟩ := m7 u
  have := at_of e (fp u)
  exact Er hk (by omega)
end La
namespace La
abbrev aU (left : List Row) : Row := above (wx left)
abbrev bh (left : List Row) : Nat := fp (aU left)
def dJ (found left : List Row) : List Row := found.map (nq (aU left) (bh left)) ++ [aU left]
def jm (left : List Row) : List Row := wo (left.map (nq (aU left) (bh left)))
theorem pA {k x : Int} (hk : 0 < k) (h : k * x = 0) : x = 0 := by
 rcases Int.mul_eq_zero.mp h with e | e
 ·omega
 ·exact e
section
variable {w : Nat} {found left : List Row}
theorem Red.lead (R : Red w found left) (h : left ≠ []) : (aU left).length = w ∧ bh left < w ∧ 0 < (aU left).getD (bh left) 0 ∧ (∀ l ∈ left, bh left ≤ fp l) ∧ (∀ r ∈ found, fp r < bh left) := by
 obtain ⟨hm, hle⟩ := lG h
 obtain ⟨h1, h2⟩ := R.len _ hm
 have e : bh left = fp (wx left) := Kh _
 refine ⟨by rw [qt]; exact h1, by rw [e]; exact h2, ?_, fun l hl => by rw [e]; exact hle l hl, fun r hr => by rw [e]; exact R.low r hr _ hm⟩
 rw [e]
 exact Hn (by omega)
theorem jn (R : Red w found left) (h : left ≠ []) {r : Row} (hr : r ∈ found) : fp (nq (aU left) (bh left) r) = fp r ∧ 0 < (nq (aU left) (bh left) r).getD (fp r) 0 ∧ (nq (aU left) (bh left) r).getD (bh left) 0 = 0 := by
 obtain ⟨l1, l2, l3, l4, l5⟩ := R.lead h
 have hl := R.wu.len r hr
 obtain ⟨q1, q2⟩ := R.wu.pos r hr
 have eO := l5 r hr
 obtain ⟨k, hk, e⟩ := zA (lead := aU left) (row := r) (p := bh left) (by omega)
 have MT : 0 < (nq (aU left) (bh left) r).getD (fp r) 0 := by
  refine Er hk ?_
  rw [e, eX eO, Int.mul_zero, Int.sub_zero]
  exact Int.mul_pos l3 q2
 refine ⟨Gg (fun i hi => pA hk ?_) (by omega), MT, pA hk ?_⟩
 ·rw [e, eX hi, eX (show i < fp (aU left) from Nat.lt_trans hi eO)]
  simp
 ·rw [e, Int.mul_comm]
  omega
theorem Ki (R : Red w found left) (h : left ≠ []) {l : Row} (hl : l ∈ left) : ∀ i, i ≤ bh left → (nq (aU left) (bh left) l).getD i 0 = 0 := by
 obtain ⟨l1, l2, l3, l4, l5⟩ := R.lead h
 obtain ⟨k, hk, e⟩ := zA (lead := aU left) (row := l) (p := bh left) (by rw [l1]; exact (R.len l hl).1)
 intro i hi
 refine pA hk ?_
 rw [e]
 rcases Nat.lt_or_ge i (bh left) with q | q
 ·rw [eX (show i < fp (aU left) from q), eX (Nat.lt_of_lt_of_le q (l4 l hl))]
  simp
 ·have : i = bh left := Nat.le_antisymm hi q
  rw [this, Int.mul_comm]
  omega
theorem MU (h : left ≠ []) : ∀ i, (nq (aU left) (bh left) (wx left)).getD i 0 = 0 := by
 obtain ⟨c, hc, em⟩ := uD (wx left)
 obtain ⟨k, hk, e⟩ := zA (lead := aU left) (row := wx left) (p := bh left) (by rw [qt])
 intro i
 refine pA hk ?_
 rw [e, at_of em i, at_of em (bh left)]
 show (aU left).getD (bh left) 0 * (c * (aU left).getD i 0) - c * (aU left).getD (bh left) 0 * (aU left).getD i 0 = 0
 rw [← Int.mul_assoc, Int.mul_comm _ c]
 omega
theorem Red.step (R : Red w found left) (h : left ≠ []) : Red w (dJ found left) (jm left) ∧ (jm left).length < left.length := by
 obtain ⟨l1, l2, l3, l4, l5⟩ := R.lead h
 have Sq : ∀ r ∈ found, (nq (aU left) (bh left) r).length = w := fun r hr => sZ l1 (R.wu.len r hr)
 have Sr : ∀ r ∈ left, (nq (aU left) (bh left) r).length = w := fun r hr => sZ l1 (R.len r hr).1
 have hF : ∀ r ∈ dJ found left, fp r ≤ bh left := by
  intro r hr
  rcases List.mem_append.mp hr with hr | hr
  ·obtain ⟨r', nu, rfl⟩ := List.mem_map.mp hr
   rw [(jn R h nu).1]
   exact Nat.le_of_lt (l5 r' nu)
  ·rw [List.mem_singleton.mp hr]
   exact Nat.le_refl _
 have hL : ∀ l ∈ jm left, l.length = w ∧ fp l < w ∧ bh left < fp l := by
  intro l hl
  obtain ⟨RY, tN⟩ := List.mem_filter.mp hl
  obtain ⟨l', hl', rfl⟩ := List.mem_map.mp RY
  have hw := Sr l' hl'
  have eO : fp (nq (aU left) (bh left) l') < (nq (aU left) (bh left) l').length := of_decide_eq_true tN
  exact ⟨hw, by omega, So (Ki R h hl') eO⟩
 refine ⟨⟨⟨fun r hr => ?_, fun r hr => ?_, ?_⟩, fun l hl => ⟨(hL l hl).1, (hL l hl).2.1⟩, fun r hr l hl => Nat.lt_of_le_of_lt (hF r hr) (hL l hl).2.2⟩, ?_⟩
 ·rcases List.mem_append.mp hr with hr | hr
  ·obtain ⟨r', nu, rfl⟩ := List.mem_map.mp hr
   exact Sq r' nu
  ·rw [List.mem_singleton.mp hr]
   exact l1
 ·rcases List.mem_append.mp hr with hr | hr
  ·obtain ⟨r', nu, rfl⟩ := List.mem_map.mp hr
   obtain ⟨a, b, _⟩ := jn R h nu
   rw [a]
   exact ⟨(R.wu.pos r' nu).1, b⟩
  ·rw [List.mem_singleton.mp hr]
   exact ⟨l2, l3⟩
 ·unfold dJ
  rw [List.pairwise_append]
  refine ⟨?_, List.pairwise_singleton _ _, fun r hr s hs => ?_⟩
  ·rw [List.pairwise_map]
   refine List.Pairwise.imp_of_mem ?_ R.wu.ord
   intro r s hr hs ⟨o1, o2⟩
   obtain ⟨a, _, _⟩ := jn R h hr
   obtain ⟨b, _, _⟩ := jn R h hs
   rw [a, b]
   refine ⟨o1, ?_⟩
   obtain ⟨k, hk, e⟩ := zA (lead := aU left) (row := r) (p := bh left) (by rw [l1]; exact R.wu.len r hr)
   refine pA hk ?_
   rw [e, o2, eX (show fp s < fp (aU left) from l5 s hs)]
   simp
  ·rw [List.mem_singleton.mp hs]
   obtain ⟨r', nu, rfl⟩ := List.mem_map.mp hr
   obtain ⟨a, _, c⟩ := jn R h nu
   rw [a]
   exact ⟨l5 r' nu, c⟩
 ·have : (wo (left.map (nq (aU left) (bh left)))).length < (left.map (nq (aU left) (bh left))).length := by
   unfold wo
   rw [List.length_filter_lt_length_iff_exists]
   refine ⟨nq (aU left) (bh left) (wx left), List.mem_map.mpr ⟨_, (lG h).1, rfl⟩, ?_⟩
   rw [sY (MU h)]
   simp
  rw [Lm9] at this
  exact this
theorem Kj {r : Row} (hl : r.length = w) (h : ¬ fp r < r.length) : r = List.replicate w 0 := by
 refine dS (by rw [List.length_replicate]; exact hl) fun i => ?_
 have e : (List.replicate w (0 : Int)).getD i 0 = 0 := by
  rw [Gd9, List.getElem?_replicate]
  split <;> rfl
 rw [e]
 rcases Nat.lt_or_ge i r.length with q | q
 ·exact eX (by omega)
 ·rw [Gd9, List.getElem?_eq_none q]; rfl
theorem yk {P : Row → Prop} (C : dg w P) {rows : List Row} (hl : ∀ r ∈ rows, r.length = w) : (∀ r ∈ wo rows, P r) ↔ ∀ r ∈ rows, P r := by
 constructor
 ·intro h r hr
  by_cases q : fp r < r.length
  ·exact h r (List.mem_filter.mpr ⟨hr, decide_eq_true q⟩)
  ·rw [Kj (hl r hr) q]
   exact C.zero
 ·intro h r hr
  exact h r (List.mem_filter.mp hr).1
theorem Ct {P : Row → Prop} (C : dg w P) (R : Red w found left) (h : left ≠ []) : (∀ r ∈ dJ found left ++ jm left, P r) ↔ ∀ r ∈ found ++ left, P r := by
 obtain ⟨l1, l2, l3, l4, l5⟩ := R.lead h
 have hm := (lG h).1
 have hml := (R.len _ hm).1
 have hp : (aU left).getD (bh left) 0 ≠ 0 := by omega
 have hlen : ∀ r ∈ left.map (nq (aU left) (bh left)), r.length = w := fun r hr => by
  obtain ⟨l, hl, rfl⟩ := List.mem_map.mp hr
  exact sZ l1 (R.len l hl).1
 constructor
 ·intro hP
  have pB : P (aU left) := hP _ (by simp [dJ])
  have hL : ∀ r ∈ left.map (nq (aU left) (bh left)), P r := (yk C hlen).mp fun r hr => hP r (List.mem_append_right _ hr)
  intro r hr
  rcases List.mem_append.mp hr with hr | hr
  ·exact (C.nq l1 (R.wu.len r hr) pB hp).mp (hP _ (List.mem_append_left _ (List.mem_append_left _ (List.mem_map.mpr ⟨r, hr, rfl⟩))))
  ·exact (C.nq l1 (R.len r hr).1 pB hp).mp (hL _ (List.mem_map.mpr ⟨r, hr, rfl⟩))
 ·intro hP
  have pB : P (aU left) := (C.above hml).mpr (hP _ (List.mem_append_right _ hm))
  intro r hr
  rcases List.mem_append.mp hr with hr | hr
  ·rcases List.mem_append.mp hr with hr | hr
   ·obtain ⟨r', nu, rfl⟩ := List.mem_map.mp hr
    exact (C.nq l1 (R.wu.len r' nu) pB hp).mpr (hP r' (List.mem_append_left _ nu))
   ·rw [List.mem_singleton.mp hr]
    exact pB
  ·obtain ⟨r', nu, rfl⟩ := List.mem_map.mp (List.mem_filter.mp hr).1
   exact (C.nq l1 (R.len r' nu).1 pB hp).mpr (hP r' (List.mem_append_right _ nu))
end
def red : Nat → List Row → List Row → List Row
 | 0, found, _ => found
 | n + 1, found, left => if left = [] then found else red n (dJ found left) (jm left)
theorem zB {w : Nat} : ∀ (n : Nat) (found left : List Row), Red w found left → left.length ≤ n → uE w (red n found left) ∧ (∀ P, dg w P → ((∀ r ∈ red n found left, P r) ↔ ∀ r ∈ found ++ left, P r)) ∧ found.length ≤ (red n found left).length ∧ (red n found left).length ≤ found.length + left.length
 | 0, found, left, R, h => by
  have e : left = [] := List.eq_nil_of_length_eq_zero (by omega)
  subst e
  exact ⟨R.wu, fun P _ => by rw [List.append_nil]; exact Iff.rfl, Nat.le_refl _, Nat.le_add_right _ _⟩
 | n + 1, found, left, R, h => by
  unfold red
  by_cases hl : left = []
  ·rw [if_pos hl]
   subst hl
   exact ⟨R.wu, fun P _ => by rw [List.append_nil], Nat.le_refl _, by omega⟩
  ·rw [if_neg hl]
   obtain ⟨R', eO⟩ := R.step hl
   obtain ⟨a, b, c, d⟩ := zB n _ _ R' (by omega)
   have hF : (dJ found left).length = found.length + 1 := by unfold dJ; simp
   refine ⟨a, fun P C => (b P C).trans (Ct C R hl), by omega, by omega⟩
def reduced (rows : List Row) : List Row := red (wo rows).length [] (wo rows)
theorem jo {w : Nat} {rows : List Row} (hl : ∀ r ∈ rows, r.length = w) : Red w [] (wo rows) := by
 refine ⟨⟨(fun _ h => by cases h), (fun _ h => by cases h), .nil⟩, fun r hr => ?_, (fun _ h => by cases h)⟩
 obtain ⟨h1, h2⟩ := List.mem_filter.mp hr
 have q := of_decide_eq_true h2
 exact ⟨hl r h1, by rw [← hl r h1]; exact q⟩
theorem jM {w : Nat} {rows : List Row} (hl : ∀ r ∈ rows, r.length = w) : uE w (reduced rows) ∧ (∀ P, dg w P → ((∀ r ∈ reduced rows, P r) ↔ ∀ r ∈ rows, P r)) ∧ (reduced rows).length ≤ rows.length := by
 obtain ⟨a, b, _, d⟩ := zB (wo rows).length [] (wo rows) (jo hl) (Nat.le_refl _)
 refine ⟨a, fun P C => (b P C).trans ?_, ?_⟩
 ·rw [List.nil_append]
  exact yk C hl
 ·have : (wo rows).length ≤ rows.length := List.length_filter_le _ _
  simp at d
  unfold reduced
  omega
end La
namespace La
theorem zC : ∀ {u v : Row} {w : Nat}, u.length = w → v.length = w → dot u v = ((List.range w).map fun i => u.getD i 0 * v.getD i 0).sum
 | [], [], w, hu, hv => by
  subst hu
  rfl
 | x :: u, y :: v, w, hu, hv => by
  obtain ⟨w', rfl⟩ : ∃ w', w = w' + 1 := ⟨u.length, by rw [← hu]; rfl⟩
  have ih := zC (u := u) (v := v) (w := w') (by simpa using hu) (by simpa using hv)
  unfold dot at ih ⊢
  rw [List.zip_cons_cons, List.map_cons, List.sum_cons, ih, List.range_succ_eq_map, List.map_cons, List.sum_cons, List.map_map]
  rfl
 | [], y :: v, w, hu, hv => by subst hu; simp at hv
 | x :: u, [], w, hu, hv => by subst hv; simp at hu
theorem Cu {g : Nat → Int} : ∀ (w : Nat), (∀ i, i < w → g i = 0) → ((List.range w).map g).sum = 0
 | 0, _ => rfl
 | w + 1, h => by
  rw [List.range_succ, List.map_append, List.sum_append, Cu w fun i hi => h i (by omega)]
  simp [h w (by omega)]
theorem tf {g : Nat → Int} {a : Nat} : ∀ (w : Nat), a < w → (∀ i, i < w → i ≠ a → g i = 0) → ((List.range w).map g).sum = g a
 | 0, h, _ => by omega
 | w + 1, h, hz => by
  rw [List.range_succ, List.map_append, List.sum_append]
  rcases Nat.lt_or_ge a w with q | q
  ·rw [tf w q fun i hi => hz i (by omega)]
   simp [hz w (by omega) (by omega)]
  ·have e : a = w := by omega
   subst e
   rw [Cu a fun i hi => hz i (by omega) (by omega)]
   simp
theorem Gi {g : Nat → Int} {a b : Nat} (MV : a ≠ b) : ∀ (w : Nat), a < w → b < w → (∀ i, i < w → i ≠ a → i ≠ b → g i = 0) → ((List.range w).map g).sum = g a + g b
 | 0, h, _, _ => by omega
 | w + 1, ha, hb, hz => by
  rw [List.range_succ, List.map_append, List.sum_append]
  rcases Nat.lt_or_ge a w with q | q <;> rcases Nat.lt_or_ge b w with q2 | q2
  ·rw [Gi MV w q q2 fun i hi => hz i (by omega)]
   simp [hz w (by omega) (by omega) (by omega)]
  ·have e : b = w := by omega
   subst e
   rw [tf b q fun i hi h => hz i (by omega) h (by omega)]
   simp
  ·have e : a = w := by omega
   subst e
   rw [tf a q2 fun i hi h => hz i (by omega) (by omega) h]
   simp [Int.add_comm]
  ·omega
def a9 (R : List Row) : Int := R.foldl (fun t r => t * r.getD (fp r) 0) 1
theorem n0 : ∀ (R : List Row) (t : Int), (∀ r ∈ R, 0 < r.getD (fp r) 0) → 0 < t → 0 < R.foldl (fun t r => t * r.getD (fp r) 0) t ∧ t ∣ R.foldl (fun t r => t * r.getD (fp r) 0) t ∧ ∀ r ∈ R, r.getD (fp r) 0 ∣ R.foldl (fun t r => t * r.getD (fp r) 0) t
 | [], t, _, ht => ⟨ht, Int.dvd_refl _, fun _ h => by cases h⟩
 | a :: R, t, h, ht => by
  have ha := h a List.mem_cons_self
  obtain ⟨h1, h2, h3⟩ := n0 R (t * a.getD (fp a) 0) (fun r hr => h r (List.mem_cons_of_mem _ hr)) (Int.mul_pos ht ha)
  refine ⟨h1, Int.dvd_trans (Int.dvd_mul_right _ _) h2, fun r hr => ?_⟩
  rcases List.mem_cons.mp hr with e | hr
  ·subst e
   exact Int.dvd_trans (Int.dvd_mul_left _ _) h2
  ·exact h3 r hr
def b7 (R : List Row) (f w : Nat) : Row := R.foldl (fun y r => y.set (fp r) (0 - r.getD f 0 * (a9 R / r.getD (fp r) 0))) ((List.replicate w 0).set f (a9 R))
section
variable {w : Nat} {R : List Row}
theorem zD {y : Row} {i j : Nat} {x : Int} : (y.set i x).getD j 0 = if i = j ∧ j < y.length then x else y.getD j 0 := by
 rw [Gd9, List.getElem?_set, Gd9]
 by_cases h : i = j
 ·rw [if_pos h]
  by_cases h2 : j < y.length
  ·rw [if_pos (by omega), if_pos ⟨h, h2⟩]; rfl
  ·rw [if_neg (by omega), if_neg (fun q => h2 q.2), List.getElem?_eq_none (by omega)]
 ·rw [if_neg h, if_neg (fun q => h q.1)]
theorem bI {f : Nat} : (b7 R f w).length = w := by
 unfold b7
 have : ∀ (L : List Row) (y : Row) (g : Row → Int), (L.foldl (fun y r => y.set (fp r) (g r)) y).length = y.length := by
  intro L
  induction L with
  | nil => intro y g; rfl
  | cons a L ih => intro y g; rw [List.foldl_cons, ih, List.length_set]
 rw [this, List.length_set, List.length_replicate]
theorem pC (g : Row → Int) : ∀ (L : List Row) (y : Row) (i : Nat), L.Pairwise (fun r s => fp r < fp s) → (∀ r ∈ L, fp r < y.length) → (∀ r ∈ L, fp r = i → (L.foldl (fun y r => y.set (fp r) (g r)) y).getD i 0 = g r) ∧ ((∀ r ∈ L, fp r ≠ i) → (L.foldl (fun y r => y.set (fp r) (g r)) y).getD i 0 = y.getD i 0)
 | [], y, i, _, _ => ⟨fun _ h => (by cases h), fun _ => rfl⟩
 | a :: L, y, i, hp, hl => by
  rw [List.pairwise_cons] at hp
  obtain ⟨h1, h2⟩ := pC g L (y.set (fp a) (g a)) i hp.2 fun r hr => by rw [List.length_set]; exact hl r (List.mem_cons_of_mem _ hr)
  rw [List.foldl_cons]
  refine ⟨fun r hr e => ?_, fun h => ?_⟩
  ·rcases List.mem_cons.mp hr with q | hr
   ·subst q
    have hn : ∀ s ∈ L, fp s ≠ i := fun s hs => by have := hp.1 s hs; omega
    rw [h2 hn, zD, if_pos ⟨e, by have := hl r List.mem_cons_self; omega⟩]
   ·exact h1 r hr e
  ·rw [h2 fun r hr => h r (List.mem_cons_of_mem _ hr), zD, if_neg fun q => h a List.mem_cons_self q.1]
theorem uE.inc (E : uE w R) : R.Pairwise fun r s => fp r < fp s := E.ord.imp fun h => h.1
theorem uE.other (E : uE w R) {r s : Row} (hr : r ∈ R) (hs : s ∈ R) (h : fp r ≠ fp s) : r.getD (fp s) 0 = 0 := by
 rcases Nat.lt_or_ge (fp s) (fp r) with q | q
 ·exact eX q
 ·
  have key : ∀ (L : List Row), L.Pairwise (fun r s => fp r < fp s ∧ r.getD (fp s) 0 = 0) → r ∈ L → s ∈ L → fp r < fp s → r.getD (fp s) 0 = 0 := by
   intro L
   induction L with
   | nil => intro _ h; cases h
   | cons a L ih =>
    intro hp h1 h2 eO
    rw [List.pairwise_cons] at hp
    rcases List.mem_cons.mp h1 with e | g1
    ·subst e
     rcases List.mem_cons.mp h2 with e | g2
     ·subst e; omega
     ·exact (hp.1 s g2).2
    ·rcases List.mem_cons.mp h2 with e | g2
     ·subst e
      have := (hp.1 r g1).1
      omega
     ·exact ih hp.2 g1 g2 eO
  exact key R E.ord hr hs (by omega)
theorem Es (E : uE w R) {f : Nat} {r : Row} (hr : r ∈ R) : (b7 R f w).getD (fp r) 0 = 0 - r.getD f 0 * (a9 R / r.getD (fp r) 0) := by
 unfold b7
 exact (pC (fun r => 0 - r.getD f 0 * (a9 R / r.getD (fp r) 0)) R _ (fp r) E.inc fun s hs => by rw [List.length_set, List.length_replicate]; exact (E.pos s hs).1).1 r hr rfl
theorem yl (E : uE w R) {f : Nat} (hf : f < w) (hn : ∀ r ∈ R, fp r ≠ f) : (b7 R f w).getD f 0 = a9 R := by
 unfold b7
 rw [(pC (fun r => 0 - r.getD f 0 * (a9 R / r.getD (fp r) 0)) R _ f E.inc fun s hs => by rw [List.length_set, List.length_replicate]; exact (E.pos s hs).1).2 hn, zD, if_pos ⟨rfl, by rw [List.length_replicate]; exact hf⟩]
theorem ym (E : uE w R) {f i : Nat} (hi : i ≠ f) (hn : ∀ r ∈ R, fp r ≠ i) : (b7 R f w).getD i 0 = 0 := by
 unfold b7
 rw [(pC (fun r => 0 - r.getD f 0 * (a9 R / r.getD (fp r) 0)) R _ i E.inc fun s hs => by rw [List.length_set, List.length_replicate]; exact (E.pos s hs).1).2 hn, zD, if_neg fun q => hi q.1.symm, Gd9, List.getElem?_replicate]
 split <;> rfl
theorem yn (E : uE w R) {f : Nat} (hf : f < w) (hn : ∀ r ∈ R, fp r ≠ f) {r : Row} (hr : r ∈ R) : dot r (b7 R f w) = 0 := by
 obtain ⟨hp, MT⟩ := E.pos r hr
 rw [zC (E.len r hr) bI, Gi (hn r hr) w hp hf fun i hi h1 h2 => ?_, Es E hr, yl E hf hn]
 ·have hd := (n0 R 1 (fun r hr => (E.pos r hr).2) (by decide)).2.2 r hr
  have e : r.getD (fp r) 0 * (a9 R / r.getD (fp r) 0) = a9 R := Int.mul_ediv_cancel' hd
  rw [Int.mul_sub, Int.mul_zero, ← Int.mul_assoc, Int.mul_comm (r.getD (fp r) 0) (r.getD f 0), Int.mul_assoc, e]
  omega
 ·by_cases q : ∃ s ∈ R, fp s = i
  ·obtain ⟨s, hs, e⟩ := q
   rw [← e, E.other hr hs (by omega)]
   simp
  ·rw [ym E h2 fun s hs e => q ⟨s, hs, e⟩]
   simp
theorem Ho (E : uE w R) {n : Row} (hl : n.length = w) (hn : ∀ r ∈ R, dot r n = 0) {P : Row → Prop} (C : dg w P) (fs : List Nat) (W7 : fs.Nodup) (Jl : ∀ f, f ∈ fs ↔ f < w ∧ ∀ r ∈ R, fp r ≠ f) (hP : ∀ f ∈ fs, P (b7 R f w)) : P n := by
 have ht := (n0 R 1 (fun r hr => (E.pos r hr).2) (by decide)).1
 have hlen : ∀ (L : List Nat) (v : Row), v.length = w → (L.foldl (fun v f => jl 1 v (- n.getD f 0) (b7 R f w)) v).length = w := by
  intro L
  induction L with
  | nil => intro v h; exact h
  | cons a L ih => intro v h; rw [List.foldl_cons]; exact ih _ (a7 h bI)
 have Ss : ∀ (L : List Nat) (v : Row), v.length = w → (∀ f ∈ L, P (b7 R f w)) → P (L.foldl (fun v f => jl 1 v (- n.getD f 0) (b7 R f w)) v) → P v := by
  intro L
  induction L with
  | nil => intro v _ _ h; exact h
  | cons a L ih =>
   intro v hv hy h
   rw [List.foldl_cons] at h
   have h1 := ih _ (a7 hv bI) (fun f hf => hy f (List.mem_cons_of_mem _ hf)) h
   have e : jl 1 (jl 1 v (- n.getD a 0) (b7 R a w)) (n.getD a 0) (b7 R a w) = v := by
    refine dS (by rw [a7 (a7 hv bI) bI, hv]) fun i => ?_
    rw [cR i (by rw [a7 hv bI, bI]), cR i (by rw [hv, bI]), Int.neg_mul]
    omega
   rw [← e]
   exact C.mix _ _ _ _ (a7 hv bI) bI h1 (hy a List.mem_cons_self)
 have Su : ∀ (L : List Nat) (v : Row), v.length = w → (∀ f ∈ L, f < w ∧ ∀ r ∈ R, fp r ≠ f) → (∀ r ∈ R, dot r v = 0) → ∀ r ∈ R, dot r (L.foldl (fun v f => jl 1 v (- n.getD f 0) (b7 R f w)) v) = 0 := by
  intro L
  induction L with
  | nil => intro v _ _ h; exact h
  | cons a L ih =>
   intro v hv hf h
   rw [List.foldl_cons]
   refine ih _ (a7 hv bI) (fun f h => hf f (List.mem_cons_of_mem _ h)) fun r hr => ?_
   obtain ⟨q1, q2⟩ := hf a List.mem_cons_self
   rw [pj r v _ (by rw [hv, bI]), h r hr, yn E q1 q2 hr]
   simp
 have Py : ∀ (L : List Nat) (v : Row) (i : Nat), v.length = w → L.Nodup → (∀ r ∈ R, fp r ≠ i) → i < w → (L.foldl (fun v f => jl 1 v (- n.getD f 0) (b7 R f w)) v).getD i 0 = if i ∈ L then v.getD i 0 - n.getD i 0 * a9 R else v.getD i 0 := by
  intro L
  induction L with
  | nil => intro v i _ _ _ _; simp
  | cons a L ih =>
   intro v i hv hL hi MW
   rw [List.nodup_cons] at hL
   rw [List.foldl_cons, ih _ i (a7 hv bI) hL.2 hi MW, cR i (by rw [hv, bI])]
   by_cases e : i = a
   ·subst e
    rw [if_neg hL.1, if_pos List.mem_cons_self, yl E MW hi, Int.neg_mul]
    omega
   ·rw [ym E e hi]
    by_cases h2 : i ∈ L
    ·rw [if_pos h2, if_pos (List.mem_cons_of_mem _ h2)]
     omega
    ·rw [if_neg h2, if_neg (fun q => by rcases List.mem_cons.mp q with q | q; exact e q; exact h2 q)]
     omega
 have hs : (eV (a9 R) n).length = w := by rw [ff, hl]
 have rn : ∀ i, i < w → (∀ r ∈ R, fp r ≠ i) → (fs.foldl (fun v f => jl 1 v (- n.getD f 0) (b7 R f w)) (eV (a9 R) n)).getD i 0 = 0 := fun i MW hi => by
  rw [Py fs _ i hs W7 hi MW, if_pos ((Jl i).mpr ⟨MW, hi⟩), cS, Int.mul_comm]
  omega
 have Pz := Su fs (eV (a9 R) n) hs (fun f hf => (Jl f).mp hf) fun r hr => by rw [pw, hn r hr]; simp
 have hzero : fs.foldl (fun v f => jl 1 v (- n.getD f 0) (b7 R f w)) (eV (a9 R) n) = List.replicate w 0 := by
  refine dS (by rw [hlen fs _ hs, List.length_replicate]) fun i => ?_
  have e0 : (List.replicate w (0 : Int)).getD i 0 = 0 := by
   rw [Gd9, List.getElem?_replicate]
   split <;> rfl
  rw [e0]
  rcases Nat.lt_or_ge i w with MW | MW
  ·by_cases q : ∃ r ∈ R, fp r = i
   ·obtain ⟨r, hr, e⟩ := q
    obtain ⟨hp, MT⟩ := E.pos r hr
    have hd := Pz r hr
    rw [zC (E.len r hr) (hlen fs _ hs), tf w hp fun j hj ni => ?_, e] at hd
    ·rcases Int.mul_eq_zero.mp hd with h | h
     ·rw [e] at MT; omega
     ·exact h
    ·by_cases q : ∃ s ∈ R, fp s = j
     ·obtain ⟨s, MH, es⟩ := q
      rw [← es, E.other hr MH (by omega)]
      simp
     ·rw [rn j hj fun s MH es => q ⟨s, MH, es⟩]
      simp
   ·exact rn i MW fun r hr e => q ⟨r, hr, e⟩
  ·rw [Gd9, List.getElem?_eq_none (by rw [hlen fs _ hs]; exact MW)]
   rfl
 refine C.div _ _ (by show a9 R ≠ 0; have : 0 < a9 R := ht; omega) hl (Ss fs _ hs hP ?_)
 rw [hzero]
 exact C.zero
end
end La
namespace La
def el (s v : Row) : Row := jl (s.getD (fp s) 0) v (0 - v.getD (fp s) 0) s
def elim (S : List Row) (v : Row) : Row := S.foldl (fun v s => el s v) v
theorem zE {s v : Row} {w : Nat} (h1 : s.length = w) (h2 : v.length = w) : (el s v).length = w := a7 h2 h1
theorem uF {w : Nat} : ∀ (S : List Row) (v : Row), (∀ s ∈ S, s.length = w) → v.length = w → (elim S v).length = w
 | [], v, _, h => h
 | s :: S, v, hS, h => uF S (el s v) (fun t ht => hS t (List.mem_cons_of_mem _ ht)) (zE (hS s List.mem_cons_self) h)
theorem PB {s u v : Row} {a b : Int} {w : Nat} (hs : s.length = w) (hu : u.length = w) (hv : v.length = w) : el s (jl a u b v) = jl a (el s u) b (el s v) := by
 unfold el
 refine dS (by rw [a7 (a7 hu hv) hs, a7 (a7 hu hs) (a7 hv hs)]) fun i => ?_
 rw [cR (u := jl a u b v) (v := s) i (by rw [a7 hu hv, hs]), cR (u := jl _ u _ s) (v := jl _ v _ s) i (by rw [a7 hu hs, a7 hv hs]), cR (u := u) (v := v) i (by omega), cR (u := u) (v := v) (fp s) (by omega), cR (u := u) (v := s) i (by omega), cR (u := v) (v := s) i (by omega)]
 generalize s.getD (fp s) 0 = c
 generalize u.getD (fp s) 0 = u0
 generalize v.getD (fp s) 0 = v0
 generalize u.getD i 0 = ui
 generalize v.getD i 0 = vi
 generalize s.getD i 0 = si
 simp only [Int.mul_add, Int.add_mul, Int.sub_mul, Int.zero_sub, Int.neg_mul, Int.mul_neg, Int.neg_add]
 have e1 : c * (a * ui) = a * (c * ui) := by rw [← Int.mul_assoc, Int.mul_comm c a, Int.mul_assoc]
 have e2 : c * (b * vi) = b * (c * vi) := by rw [← Int.mul_assoc, Int.mul_comm c b, Int.mul_assoc]
 have e3 : a * u0 * si = a * (u0 * si) := Int.mul_assoc _ _ _
 have e4 : b * v0 * si = b * (v0 * si) := Int.mul_assoc _ _ _
 omega
theorem uG {w : Nat} {a b : Int} : ∀ (S : List Row) (u v : Row), (∀ s ∈ S, s.length = w) → u.length = w → v.length = w → elim S (jl a u b v) = jl a (elim S u) b (elim S v)
 | [], u, v, _, _, _ => rfl
 | s :: S, u, v, hS, hu, hv => by
  have hs := hS s List.mem_cons_self
  show elim S (el s (jl a u b v)) = jl a (elim S (el s u)) b (elim S (el s v))
  rw [PB hs hu hv]
  exact uG S _ _ (fun t ht => hS t (List.mem_cons_of_mem _ ht)) (zE hs hu) (zE hs hv)
theorem Cv {w : Nat} {k : Int} (S : List Row) (u : Row) (hS : ∀ s ∈ S, s.length = w) (hu : u.length = w) : elim S (eV k u) = eV k (elim S u) := by
 rw [← zx, uG S u u hS hu hu, zx]
theorem pE {w i : Nat} : (List.replicate w (0 : Int)).getD i 0 = 0 := by
 rw [Gd9, List.getElem?_replicate]
 split <;> rfl
theorem Kk {w : Nat} {k : Int} : eV k (List.replicate w 0) = List.replicate w 0 := by
 unfold eV
 simp
theorem yo {w : Nat} (S : List Row) (hS : ∀ s ∈ S, s.length = w) : elim S (List.replicate w 0) = List.replicate w 0 := by
 have h := Cv (k := 0) S (List.replicate w 0) hS (by simp)
 have e : ∀ u : Row, u.length = w → eV 0 u = List.replicate w 0 := fun u hu => dS (by rw [ff, hu, List.length_replicate]) fun i => by rw [cS, pE, Int.zero_mul]
 rw [Kk, e _ (uF S _ hS (by simp))] at h
 exact h
theorem Cw {w : Nat} (S : List Row) (hS : ∀ s ∈ S, s.length = w) : dg w fun v => elim S v = List.replicate w 0 := by
 refine ⟨yo S hS, fun a b u v hu hv h1 h2 => ?_, fun k u hk hu h => ?_⟩
 ·show elim S (jl a u b v) = _
  have h1 : elim S u = List.replicate w 0 := h1
  have h2 : elim S v = List.replicate w 0 := h2
  rw [uG S u v hS hu hv, h1, h2]
  refine dS (by rw [a7 (w := w) (by simp) (by simp), List.length_replicate]) fun i => ?_
  rw [cR i rfl, pE]
  simp
 ·have h : elim S (eV k u) = List.replicate w 0 := h
  rw [Cv S u hS hu] at h
  refine dS (by rw [uF S u hS hu, List.length_replicate]) fun i => ?_
  have := cS (k := k) (u := elim S u) i
  rw [h, pE] at this
  rw [pE]
  rcases Int.mul_eq_zero.mp this.symm with e | e
  ·exact absurd e hk
  ·exact e
theorem Kl {w : Nat} {S : List Row} (E : uE w S) : ∀ s ∈ S, elim S s = List.replicate w 0 := by
 have key : ∀ (L : List Row) (s : Row) (c : Int), (∀ t ∈ L, t.length = w) → L.Pairwise (fun r s => fp r < fp s) → s ∈ L → elim L (eV c s) = List.replicate w 0 := by
  intro L
  induction L with
  | nil => intro s c _ _ h; cases h
  | cons a L ih =>
   intro s c hL hp hs
   rw [List.pairwise_cons] at hp
   have ha := hL a List.mem_cons_self
   have MH := hL s hs
   show elim L (el a (eV c s)) = _
   rcases List.mem_cons.mp hs with e | g
   ·subst e
    have e2 : el s (eV c s) = List.replicate w 0 := by
     unfold el
     refine dS (by rw [a7 (w := w) (by rw [ff, ha]) ha, List.length_replicate]) fun i => ?_
     rw [cR i (by rw [ff]), cS, cS, pE, Int.zero_sub, Int.neg_mul, ← Int.mul_assoc, Int.mul_comm _ c]
     omega
    rw [e2]
    exact yo L fun t ht => hL t (List.mem_cons_of_mem _ ht)
   ·have e2 : el a (eV c s) = eV (a.getD (fp a) 0 * c) s := by
     unfold el
     refine dS (by rw [a7 (w := w) (by rw [ff, MH]) ha, ff, MH]) fun i => ?_
     rw [cR i (by rw [ff, ha, MH]), cS, cS, cS, eX (hp.1 s g), Int.mul_zero, Int.sub_zero, Int.zero_mul, Int.add_zero, Int.mul_assoc]
    rw [e2]
    exact ih s _ (fun t ht => hL t (List.mem_cons_of_mem _ ht)) hp.2 g
 intro s hs
 have := key S s 1 E.len E.inc hs
 have e : eV 1 s = s := by unfold eV; simp
 rw [e] at this
 exact this
theorem Cy {w : Nat} {e : Row} : ∀ (S : List Row) (n : Row), (∀ s ∈ S, s.length = w ∧ 0 < s.getD (fp s) 0 ∧ dot e s = 0) → n.length = w → ∃ K : Int, 0 < K ∧ dot e (elim S n) = K * dot e n
 | [], n, _, _ => ⟨1, by decide, by rw [Int.one_mul]; rfl⟩
 | s :: S, n, h, hn => by
  obtain ⟨h1, h2, h3⟩ := h s List.mem_cons_self
  obtain ⟨K, hK, e⟩ := Cy S (el s n) (fun t ht => h t (List.mem_cons_of_mem _ ht)) (zE h1 hn)
  refine ⟨K * s.getD (fp s) 0, Int.mul_pos hK h2, ?_⟩
  show dot _ (elim S (el s n)) = _
  rw [e]
  unfold el
  rw [pj _ n s (by omega), h3, Int.mul_zero, Int.add_zero, Int.mul_assoc]
def cM (R : List Row) (w : Nat) : List Nat := (List.range w).filter fun p => !decide (p ∈ R.map fp)
theorem pF {R : List Row} {w f : Nat} : f ∈ cM R w ↔ f < w ∧ ∀ r ∈ R, fp r ≠ f := by
 unfold cM
 rw [List.mem_filter, List.mem_range]
 simp
theorem uH {R : List Row} {w : Nat} : (cM R w).Nodup := List.nodup_range.sublist List.filter_sublist
def cE (E : List Row) (w : Nat) : List Row := reduced ((cM (reduced E) w).map fun f => b7 (reduced E) f w)
theorem rL {E : List Row} {w : Nat} (hE : ∀ e ∈ E, e.length = w) : uE w (cE E w) ∧ (∀ s ∈ cE E w, ∀ e ∈ E, dot e s = 0) ∧ ∀ n : Row, n.length = w → ((∀ e ∈ E, dot e n = 0) ↔ elim (cE E w) n = List.replicate w 0) := by
 obtain ⟨R1, R2, _⟩ := jM hE
 have hY : ∀ y ∈ (cM (reduced E) w).map fun f => b7 (reduced E) f w, y.length = w := fun y hy => by
  obtain ⟨f, _, rfl⟩ := List.mem_map.mp hy
  exact bI
 obtain ⟨S1, S2, _⟩ := jM hY
 have hO : ∀ s ∈ cE E w, ∀ e ∈ E, dot e s = 0 := by
  refine (S2 (fun v => ∀ e ∈ E, dot e v = 0) (lE w E)).mpr fun y hy => ?_
  obtain ⟨f, hf, rfl⟩ := List.mem_map.mp hy
  obtain ⟨h1, h2⟩ := pF.mp hf
  exact (R2 (fun v => dot v (b7 (reduced E) f w) = 0) (pz w _)).mp fun r hr => yn R1 h1 h2 hr
 refine ⟨S1, hO, fun n hn => ⟨fun h => ?_, fun h e he => ?_⟩⟩
 ·have hr : ∀ r ∈ reduced E, dot r n = 0 := (R2 (fun v => dot v n = 0) (pz w n)).mpr h
  have C := Cw (cE E w) S1.len
  have hy := (S2 _ C).mp (Kl S1)
  exact Ho R1 hn hr C (cM (reduced E) w) uH (fun f => pF) fun f hf => hy _ (List.mem_map.mpr ⟨f, hf, rfl⟩)
 ·obtain ⟨K, hK, e2⟩ := Cy (e := e) (cE E w) n (fun s hs => ⟨S1.len s hs, (S1.pos s hs).2, hO s hs e he⟩) hn
  rw [h] at e2
  have z := (lE w E).zero e he
  have z : dot e (List.replicate w 0) = 0 := z
  rw [z] at e2
  rcases Int.mul_eq_zero.mp e2.symm with q | q
  ·omega
  ·exact q
end La
namespace La
abbrev Bd (B : Nat) (r : Row) : Prop := ∀ x ∈ r, x.natAbs ≤ 2 ^ B
theorem Bd.at {B : Nat} {r : Row} (h : Bd B r) (i : Nat) : (r.getD i 0).natAbs ≤ 2 ^ B := by
 rw [Gd9]
 cases e : r[i]? with
 | none => exact Nat.zero_le _
 | some x => exact h x (List.mem_of_getElem? e)
theorem Bd.mono {B C : Nat} {r : Row} (h : Bd B r) (hc : B ≤ C) : Bd C r := fun x hx => Nat.le_trans (h x hx) (Nat.pow_le_pow_right (by decide) hc)
theorem Km {B : Nat} {u v : Row} {a b : Int} (ha : a.natAbs ≤ 2 ^ B) (hb : b.natAbs ≤ 2 ^ B) (hu : Bd B u) (hv : Bd B v) : Bd (2 * B + 1) (jl a u b v) := by
 intro x hx
 unfold jl at hx
 obtain ⟨p, hp, rfl⟩ := List.mem_map.mp hx
 have h1 := hu p.1 (List.of_mem_zip hp).1
 have h2 := hv p.2 (List.of_mem_zip hp).2
 have e1 : (a * p.1).natAbs ≤ 2 ^ (2 * B) := by
  rw [Int.natAbs_mul, Nat.two_mul, Nat.pow_add]
  exact Nat.mul_le_mul ha h1
 have e2 : (b * p.2).natAbs ≤ 2 ^ (2 * B) := by
  rw [Int.natAbs_mul, Nat.two_mul, Nat.pow_add]
  exact Nat.mul_le_mul hb h2
 have e3 := Int.natAbs_add_le (a * p.1) (b * p.2)
 rw [Nat.pow_succ]
 omega
theorem Gj {B : Nat} {u : Row} (hu : Bd B u) : Bd B (slim u) := by
 unfold slim
 split
 ·exact hu
 ·intro x hx
  obtain ⟨n, hn, rfl⟩ := List.mem_map.mp hx
  exact Nat.le_trans (Int.natAbs_ediv_le_natAbs _ _) (hu n hn)
theorem PD {B : Nat} {u : Row} (hu : Bd B u) : eR u ≤ 2 ^ B := by
 by_cases h : ∃ x ∈ u, x ≠ 0
 ·obtain ⟨x, hx, h0⟩ := h
  have hd := lF hx
  have := Nat.le_of_dvd (by omega) (Int.ofNat_dvd_left.mp hd)
  exact Nat.le_trans this (hu x hx)
 ·have : ∀ (l : Row) (f : Nat), (∀ x ∈ l, x = 0) → l.foldl (fun f n => Nat.gcd f n.natAbs) f = f := by
   intro l
   induction l with
   | nil => intro f _; rfl
   | cons a l ih =>
    intro f hl
    rw [List.foldl_cons, hl a List.mem_cons_self]
    show l.foldl _ (Nat.gcd f 0) = f
    rw [Nat.gcd_zero_right]
    exact ih f fun x hx => hl x (List.mem_cons_of_mem _ hx)
  have e : eR u = 0 := this u 0 fun x hx => by
   rcases Int.lt_trichotomy x 0 with q | q | q
   ·exact absurd ⟨x, hx, by omega⟩ h
   ·exact q
   ·exact absurd ⟨x, hx, by omega⟩ h
  rw [e]
  exact Nat.zero_le _
theorem Cz {B : Nat} {u : Row} (hu : Bd B u) : Bd B (above u) := by
 unfold above
 refine Gj ?_
 split
 ·intro x hx
  obtain ⟨n, hn, rfl⟩ := List.mem_map.mp hx
  have := hu n hn
  omega
 ·exact hu
theorem uI {B : Nat} {x : Int} (h : x.natAbs ≤ 2 ^ B) : (0 - x).natAbs ≤ 2 ^ B := by omega
theorem Kn {B : Nat} {lead row : Row} {p : Nat} (h1 : Bd B lead) (h2 : Bd B row) : Bd (2 * B + 1) (nq lead p row) := Gj (Km (h1.at p) (uI (h2.at p)) h2 h1)
theorem Gk {w B : Nat} {found left : List Row} (R : Red w found left) (h : left ≠ []) (hb : ∀ r ∈ found ++ left, Bd B r) : ∀ r ∈ dJ found left ++ jm left, Bd (2 * B + 1) r := by
 have hl : Bd B (aU left) := Cz (hb _ (List.mem_append_right _ (lG h).1))
 intro r hr
 rcases List.mem_append.mp hr with hr | hr
 ·rcases List.mem_append.mp hr with hr | hr
  ·obtain ⟨r', nu, rfl⟩ := List.mem_map.mp hr
   exact Kn hl (hb r' (List.mem_append_left _ nu))
  ·rw [List.mem_singleton.mp hr]
   exact hl.mono (by omega)
 ·obtain ⟨r', nu, rfl⟩ := List.mem_map.mp (List.mem_filter.mp hr).1
  exact Kn hl (hb r' (List.mem_append_right _ nu))
theorem Et {w : Nat} : ∀ (n B : Nat) (found left : List Row), Red w found left → left.length ≤ n → (∀ r ∈ found ++ left, Bd B r) → ∀ r ∈ red n found left, Bd ((B + 1) * 2 ^ ((red n found left).length - found.length) - 1) r
 | 0, B, found, left, R, h, hb => fun r hr => by
  have nu : r ∈ found := hr
  exact (hb r (List.mem_append_left _ nu)).mono (by
   show B ≤ (B + 1) * 2 ^ (found.length - found.length) - 1
   rw [Nat.sub_self]
   omega)
 | n + 1, B, found, left, R, h, hb => by
  unfold red
  by_cases hl : left = []
  ·rw [if_pos hl]
   intro r hr
   exact (hb r (List.mem_append_left _ hr)).mono (by rw [Nat.sub_self]; omega)
  ·rw [if_neg hl]
   obtain ⟨R', eO⟩ := R.step hl
   have ih := Et n (2 * B + 1) _ _ R' (by omega) (Gk R hl hb)
   obtain ⟨_, _, c, _⟩ := zB n _ _ R' (by omega)
   have hF : (dJ found left).length = found.length + 1 := by unfold dJ; simp
   intro r hr
   refine (ih r hr).mono ?_
   rw [hF, show (red n (dJ found left) (jm left)).length - found.length = (red n (dJ found left) (jm left)).length - (found.length + 1) + 1 by omega, Nat.pow_succ, show 2 * B + 1 + 1 = (B + 1) * 2 by omega, Nat.mul_assoc, Nat.mul_comm 2]
   exact Nat.le_refl _
theorem yp : ∀ (w : Nat) (l : List Nat), l.Nodup → (∀ x ∈ l, x < w) → l.length ≤ w
 | 0, l, _, h => by
  cases l with
  | nil => exact Nat.le_refl _
  | cons a l => exact absurd (h a List.mem_cons_self) (by omega)
 | w + 1, l, hn, h => by
  have ih := yp w (l.erase w) (hn.erase w) fun x hx => by
   have h1 := h x (List.mem_of_mem_erase hx)
   have h2 : x ≠ w := fun e => by subst e; exact (hn.not_mem_erase) hx
   omega
  have := List.length_erase (a := w) (l := l)
  split at this <;> omega
theorem Hq {w : Nat} {R : List Row} (E : uE w R) : (R.map fp).Nodup := by
 unfold List.Nodup
 rw [List.pairwise_map]
 exact E.inc.imp fun h => Nat.ne_of_lt h
theorem CA {w : Nat} {R : List Row} (E : uE w R) : (cM R w).length + R.length ≤ w := by
 have := yp w (cM R w ++ R.map fp) (by
  rw [List.nodup_append]
  refine ⟨uH, Hq E, fun a ha b hb => ?_⟩
  obtain ⟨r, hr, rfl⟩ := List.mem_map.mp hb
  exact fun e => (pF.mp ha).2 r hr e.symm) fun x hx => by
  rcases List.mem_append.mp hx with hx | hx
  ·exact (pF.mp hx).1
  ·obtain ⟨r, hr, rfl⟩ := List.mem_map.mp hx
   exact (E.pos r hr).1
 rw [List.length_append, Lm9] at this
 exact this
theorem uJ {B : Nat} : ∀ (R : List Row) (t : Int) (C : Nat), (∀ r ∈ R, Bd B r) → t.natAbs ≤ 2 ^ C → (R.foldl (fun t r => t * r.getD (fp r) 0) t).natAbs ≤ 2 ^ (C + R.length * B)
 | [], t, C, _, h => by simpa using h
 | a :: R, t, C, hR, h => by
  rw [List.foldl_cons, List.length_cons, Nat.succ_mul]
  have := uJ R (t * a.getD (fp a) 0) (C + B) (fun r hr => hR r (List.mem_cons_of_mem _ hr)) (by
   rw [Int.natAbs_mul, Nat.pow_add]
   exact Nat.mul_le_mul h ((hR a List.mem_cons_self).at _))
  rw [show C + (R.length * B + B) = C + B + R.length * B by omega]
  exact this
theorem Gm {B w f : Nat} {R : List Row} (hR : ∀ r ∈ R, Bd B r) : Bd (R.length * B + B) (b7 R f w) := by
 have ht : (a9 R).natAbs ≤ 2 ^ (R.length * B) := by
  have := uJ R 1 0 hR (by decide)
  rw [Nat.zero_add] at this
  exact this
 have hp : 2 ^ (R.length * B) ≤ 2 ^ (R.length * B + B) := Nat.pow_le_pow_right (by decide) (by omega)
 have key : ∀ (L : List Row) (y : Row), (∀ r ∈ L, Bd B r) → Bd (R.length * B + B) y → Bd (R.length * B + B) (L.foldl (fun y r => y.set (fp r) (0 - r.getD f 0 * (a9 R / r.getD (fp r) 0))) y) := by
  intro L
  induction L with
  | nil => intro y _ h; exact h
  | cons a L ih =>
   intro y hL hy
   rw [List.foldl_cons]
   refine ih _ (fun r hr => hL r (List.mem_cons_of_mem _ hr)) fun x hx => ?_
   rcases List.mem_or_eq_of_mem_set hx with hx | e
   ·exact hy x hx
   ·subst e
    refine uI ?_
    rw [Int.natAbs_mul, Nat.add_comm, Nat.pow_add]
    exact Nat.mul_le_mul ((hL a List.mem_cons_self).at f) (Nat.le_trans (Int.natAbs_ediv_le_natAbs _ _) ht)
 unfold b7
 refine key R _ hR fun x hx => ?_
 rcases List.mem_or_eq_of_mem_set hx with hx | e
 ·rw [(List.mem_replicate.mp hx).2]
  exact Nat.zero_le _
 ·subst e
  omega
end La
namespace La
theorem yq {d : Nat} : ∀ (row : Row) (f : Nat), d ∣ f → (∀ n ∈ row, (d : Int) ∣ n) → d ∣ row.foldl (fun f n => Nat.gcd f n.natAbs) f
 | [], _, h, _ => h
 | x :: r, f, h, hr => by
  rw [List.foldl_cons]
  refine yq r _ (Nat.dvd_gcd h ?_) fun n hn => hr n (List.mem_cons_of_mem _ hn)
  exact Int.ofNat_dvd_left.mp (hr x List.mem_cons_self)
theorem Hr {r : Row} (h : eR r ≠ 0) : eR (slim r) = 1 := by
 have h1 : eR r * eR (slim r) ∣ eR r := by
  refine yq r 0 (Nat.dvd_zero _) fun n hn => ?_
  have hm : n / ((eR r : Nat) : Int) ∈ slim r := by
   unfold slim
   rw [if_neg h]
   exact List.mem_map.mpr ⟨n, hn, rfl⟩
  obtain ⟨c, hc⟩ := lF hm
  have e : n = ((eR r : Nat) : Int) * (n / ((eR r : Nat) : Int)) := (Int.mul_ediv_cancel' (lF hn)).symm
  rw [e, hc, Int.natCast_mul, ← Int.mul_assoc]
  exact ⟨c, rfl⟩
 obtain ⟨c, hc⟩ := h1
 rw [Nat.mul_assoc] at hc
 have e : eR (slim r) * c = 1 := by
  have hp : 0 < eR r := Nat.pos_of_ne_zero h
  have : eR r * (eR (slim r) * c) = eR r * 1 := by rw [Nat.mul_one]; exact hc.symm
  exact Nat.eq_of_mul_eq_mul_left hp this
 exact Nat.eq_one_of_mul_eq_one_right e
def Ko (r : Row) : Prop := ∃ u, r = slim u
theorem CB : ∀ (n : Nat) (found left : List Row), (∀ r ∈ found, Ko r) → ∀ r ∈ red n found left, Ko r
 | 0, _, _, h => h
 | n + 1, found, left, h => by
  unfold red
  split
  ·exact h
  ·refine CB n _ _ fun r hr => ?_
   unfold dJ at hr
   rcases List.mem_append.mp hr with hr | hr
   ·obtain ⟨x, _, rfl⟩ := List.mem_map.mp hr
    exact ⟨_, rfl⟩
   ·rw [List.mem_singleton.mp hr]
    exact ⟨_, rfl⟩
theorem Kq {r : Row} (h : Ko r) {i : Nat} (hi : r.getD i 0 ≠ 0) : eR r = 1 := by
 obtain ⟨u, rfl⟩ := h
 refine Hr fun z => hi ?_
 unfold slim
 rw [if_pos z, Gd9]
 cases e : u[i]? with
 | none => rfl
 | some x => exact Hm z x (List.mem_of_getElem? e)
theorem zF {E : List Row} {w : Nat} (hE : ∀ e ∈ E, e.length = w) : ∀ s ∈ cE E w, eR s = 1 := fun s hs => by
 have h := (rL hE).1.pos s hs
 unfold cE reduced at hs
 exact Kq (CB _ _ _ (fun _ h => absurd h List.not_mem_nil) s hs) (i := fp s) (by omega)
end La
namespace Bk
open PySem L2 fZ
def b9 (sep : Cs) : List Cs → Cs
 | [] => []
 | [a] => a
 | a :: r => a ++ (sep ++ b9 sep r)
theorem yr (sep : Cs) : ∀ (ls : List Str), (Str.join (S sep) ls).cps.toList = b9 sep (ls.map fun s => s.cps.toList)
 | [] => rfl
 | [a] => rfl
 | a :: b :: r => by
  have ih := yr sep (b :: r)
  show ((a ++ S sep) ++ Str.join (S sep) (b :: r)).cps.toList = _
  rw [PySem.W.KT.app_list, PySem.W.KT.app_list, ih, cv]
  show (a.cps.toList ++ sep) ++ _ = a.cps.toList ++ (sep ++ _)
  simp
theorem tj (sep : Cs) (ls : List Cs) : Txt.join (S sep) (ls.map S) = S (b9 sep ls) := by
 show Builtin.Str.glued (S sep) _ = _
 rw [StrLaws.glued_eq_join, ← Hc (Str.join (S sep) (ls.map S)), yr, List.map_map]
 have e : ((fun s : Str => s.cps.toList) ∘ S) = id := by
  funext p
  exact cv p
 rw [e, List.map_id]
theorem lH (sep : Cs) : ∀ (ls : List Cs) (B : Nat), (∀ l ∈ ls, l.length ≤ B) → (b9 sep ls).length ≤ ls.length * (B + sep.length)
 | [], _, _ => by simp [b9]
 | [a], B, h => by
  have := h a (by simp)
  show a.length ≤ 1 * (B + sep.length)
  omega
 | a :: b :: r, B, h => by
  have ih := lH sep (b :: r) B fun l hl => h l (List.mem_cons_of_mem _ hl)
  have h1 := h a (by simp)
  show (a ++ (sep ++ b9 sep (b :: r))).length ≤ ((b :: r).length + 1) * (B + sep.length)
  rw [List.length_append, List.length_append, Nat.add_mul]
  omega
def gB : List Cs → List Cs
 | [] => []
 | [a] => [a]
 | a :: r => a :: [44] :: gB r
abbrev bare (n : Cs) : Fc := ⟨n, []⟩
theorem uK : ∀ (ns : List Cs), ns ≠ [] → (∀ n ∈ ns, aN n = true) → rZ (gB ns) (ns.map bare)
 | [], h, _ => absurd rfl h
 | [a], _, h => .one (.bare (h a (by simp)))
 | a :: b :: r, _, h => .more (.bare (h a (by simp))) (uK (b :: r) (by simp) fun n hn => h n (List.mem_cons_of_mem _ hn))
theorem uL {p : Cs} (h : aN p = true) : p ≠ [] := fun z => by
 have := cj h
 rw [z] at this
 simp at this
theorem rM : ∀ (ns : List Cs) (r : Cs), ns ≠ [] → (∀ n ∈ ns, aN n = true) → kS r → toks (b9 [44, 32] ns ++ r) = gB ns ++ toks r
 | [], _, h, _, _ => absurd rfl h
 | [a], r, _, h, hs => by
  show toks (a ++ r) = a :: toks r
  exact c9 (gy (h a (by simp))) (uL (h a (by simp))) hs
 | a :: b :: t, r, _, h, hs => by
  have ih := rM (b :: t) r (by simp) (fun n hn => h n (List.mem_cons_of_mem _ hn)) hs
  show toks ((a ++ ([44, 32] ++ b9 [44, 32] (b :: t))) ++ r) = a :: [44] :: (gB (b :: t) ++ toks r)
  rw [List.append_assoc, c9 (gy (h a (by simp))) (uL (h a (by simp))) (show kS (([44, 32] ++ b9 [44, 32] (b :: t)) ++ r) from B2)]
  rw [List.append_assoc]
  show a :: toks (44 :: 32 :: (b9 [44, 32] (b :: t) ++ r)) = _
  rw [Hb (by decide), dC, ih]
theorem CC : ∀ (ns : List Cs), (∀ n ∈ ns, aN n = true) → [59] ∉ gB ns := by
 have one : ∀ n : Cs, aN n = true → [59] ≠ n := fun n hn e => by rw [← e] at hn; exact absurd hn (by decide +kernel)
 intro ns
 induction ns with
 | nil => intro _; simp [gB]
 | cons a r ih =>
  intro h
  cases r with
  | nil =>
   show [59] ∉ [a]
   rw [List.mem_singleton]
   exact one a (h a (by simp))
  | cons b t =>
   have WI := ih fun n hn => h n (List.mem_cons_of_mem _ hn)
   show [59] ∉ a :: [44] :: gB (b :: t)
   simp only [List.mem_cons, not_or]
   exact ⟨one a (h a (by simp)), by decide, WI⟩
abbrev PN := Nat × List Cs
def aP (x : PN) : Cs := wordAt x.1 ++ (32 :: b9 [44, 32] x.2)
def jq (x : PN) : Pr := ⟨x.1, gB x.2, .fs (x.2.map bare)⟩
structure uM (x : PN) : Prop where
 n : x.1 = 0 ∨ x.1 = 1 ∨ x.1 = 3
 ne : x.2 ≠ []
 sm : ∀ n ∈ x.2, aN n = true
theorem jN (n : Nat) : (wordAt n).all bp = true ∧ wordAt n ≠ [] ∧ (wordAt n).length ≤ 4 := by
 match n with
 | 0 => exact ⟨by decide +kernel, by decide, by decide⟩
 | 1 => exact ⟨by decide +kernel, by decide, by decide⟩
 | 2 => exact ⟨by decide +kernel, by decide, by decide⟩
 | 3 => exact ⟨by decide +kernel, by decide, by decide⟩
 | n + 4 => exact ⟨by show ua.all bp = true; decide +kernel, by show ua ≠ []; decide, by show ua.length ≤ 4; decide⟩
theorem Gn {x : PN} (h : uM x) {r : Cs} (hs : kS r) : toks (aP x ++ r) = (wordAt x.1 :: gB x.2) ++ toks r := by
 obtain ⟨h1, h2, _⟩ := jN x.1
 unfold aP
 rw [List.append_assoc, c9 h1 h2 (show kS ((32 :: b9 [44, 32] x.2) ++ r) from lb), List.cons_append, dC, rM _ _ h.ne h.sm hs]
 rfl
theorem Gp : bp 59 = false := by decide +kernel
theorem CD : ∀ (L : List PN), L ≠ [] → (∀ x ∈ L, uM x) → toks (b9 [59, 32] (L.map aP)) = glue [59] ((L.map jq).map fun x => wordAt x.n :: x.ps)
 | [], h, _ => absurd rfl h
 | [x], _, h => by
  have z := Gn (h x (by simp)) (r := []) trivial
  rw [List.append_nil] at z
  show toks (aP x) = wordAt x.1 :: gB x.2
  rw [z]
  show _ ++ [] = _
  simp
 | x :: y :: t, _, h => by
  have ih := CD (y :: t) (by simp) fun z hz => h z (List.mem_cons_of_mem _ hz)
  show toks (aP x ++ ([59, 32] ++ b9 [59, 32] ((y :: t).map aP))) = (wordAt x.1 :: gB x.2) ++ [59] :: glue [59] (((y :: t).map jq).map fun x => wordAt x.n :: x.ps)
  rw [Gn (h x (by simp)) (show kS ([59, 32] ++ b9 [59, 32] ((y :: t).map aP)) from Gp), ← ih]
  show _ ++ toks (59 :: 32 :: b9 [59, 32] ((y :: t).map aP)) = _
  rw [nW Gp (by decide), dC]
def rN (title : Cs) (L : List PN) : Cs := gw ++ (32 :: (title ++ (58 :: 32 :: b9 [59, 32] (L.map aP))))
theorem CF : bp 58 = false := by decide +kernel
theorem Hs {title : Cs} {L : List PN} (ht : aN title = true) (h0 : L ≠ []) (h : ∀ x ∈ L, uM x) : toks (rN title L) = iB title (L.map jq) := by
 unfold rN iB
 rw [c9 (by decide +kernel) (by decide) (show kS (32 :: (title ++ (58 :: 32 :: b9 [59, 32] (L.map aP)))) from lb), dC, c9 (gy ht) (uL ht) (show kS (58 :: 32 :: b9 [59, 32] (L.map aP)) from CF), nW CF (by decide), dC, CD L h0 h]
theorem qv {f : Nat → Bool} {sep : Cs} (hs : sep.all f = true) : ∀ (ls : List Cs), (∀ l ∈ ls, l.all f = true) → (b9 sep ls).all f = true
 | [], _ => rfl
 | [a], h => h a (by simp)
 | a :: b :: r, h => by
  have ih := qv hs (b :: r) fun l hl => h l (List.mem_cons_of_mem _ hl)
  show (a ++ (sep ++ b9 sep (b :: r))).all f = true
  rw [List.all_append, List.all_append, h a (by simp), hs, ih]
  rfl
theorem PF {f : Nat → Bool} (ID : ∀ c, bp c = true → f c = true) (Ef : f 32 = true) (PH : f 44 = true) {x : PN} (h : uM x) : (aP x).all f = true := by
 have up : ∀ p : Cs, p.all bp = true → p.all f = true := fun p h => by
  rw [List.all_eq_true] at h ⊢
  exact fun x hx => ID x (h x hx)
 unfold aP
 rw [List.all_append, up _ (jN x.1).1, List.all_cons, Ef, qv (by simp [Ef, PH]) _ fun l hl => up l (gy (h.sm l hl))]
 rfl
theorem Kr {f : Nat → Bool} (ID : ∀ c, bp c = true → f c = true) (Ef : f 32 = true) (PH : f 44 = true) (W8 : f 58 = true) (W9 : f 59 = true) {title : Cs} {L : List PN} (ht : aN title = true) (h : ∀ x ∈ L, uM x) : (rN title L).all f = true := by
 have up : ∀ p : Cs, p.all bp = true → p.all f = true := fun p h => by
  rw [List.all_eq_true] at h ⊢
  exact fun x hx => ID x (h x hx)
 unfold rN
 rw [List.all_append, up gw (by decide +kernel), List.all_cons, Ef, List.all_append, up _ (gy ht), List.all_cons, W8, List.all_cons, Ef, qv (by simp [Ef, W9]) _ fun l hl => by
  obtain ⟨x, hx, rfl⟩ := List.mem_map.mp hl
  exact PF ID Ef PH (h x hx)]
 rfl
theorem MX {p : Cs} (h : p.all (fun c => !(c == 10)) = true) : 10 ∉ p := fun z => by
 rw [List.all_eq_true] at h
 exact absurd (h 10 z) (by decide)
theorem MY (c : Nat) (h : bp c = true) : (!(c == 10)) = true := by
 cases e : (c == 10) with
 | false => rfl
 | true =>
  rw [beq_iff_eq.mp e] at h
  exact absurd h (by decide +kernel)
theorem Ht (title : Cs) (L : List PN) : told (rN title L) = true := rfl
def MZ : Nat → List PN → Prop
 | _, [] => True
 | m, x :: r => m ≤ x.1 ∧ x.1 < 5 ∧ MZ (x.1 + 1) r
theorem Ks : ∀ (m : Nat) (L : List PN), MZ m L → Pe m (L.map jq)
 | _, [], _ => trivial
 | m, x :: r, h => ⟨h.1, h.2.1, Ks (x.1 + 1) r h.2.2⟩
theorem PJ {title : Cs} {L : List PN} (ht : aN title = true) (h0 : L ≠ []) (h : ∀ x ∈ L, uM x) (hi : MZ 0 L) (hd : ∃ x ∈ L, x.1 = 0 ∨ x.1 = 1) : F3 title (L.map jq) := by
 refine ⟨ht, by simpa using h0, Ks 0 L hi, fun x hx => ?_, ?_, fun x hx => ?_⟩
 ·obtain ⟨y, hy, rfl⟩ := List.mem_map.mp hx
  exact .fs (h y hy).n (uK _ (h y hy).ne (h y hy).sm)
 ·obtain ⟨x, hx, e⟩ := hd
  exact ⟨jq x, List.mem_map.mpr ⟨x, hx, rfl⟩, e⟩
 ·obtain ⟨y, hy, rfl⟩ := List.mem_map.mp hx
  exact CC _ (h y hy).sm
def eS (n : Nat) (L : List PN) : List Cs := match L.find? fun x => x.1 == n with
 | some x => x.2
 | none => []
theorem zG (n : Nat) (L : List PN) : r6 n (L.map jq) = (eS n L).map bare := by
 unfold r6 kT eS
 rw [List.find?_map]
 show (match Option.map jq (L.find? fun x => x.1 == n) with | some ⟨_, _, .fs l⟩ => l | _ => []) = _
 cases L.find? fun x => x.1 == n with
 | none => rfl
 | some x => rfl
theorem Kt {n : Nat} {L : List PN} {z : Cs} (h : z ∈ eS n L) : ∃ x ∈ L, z ∈ x.2 := by
 unfold eS at h
 cases e : L.find? fun x => x.1 == n with
 | none => rw [e] at h; cases h
 | some x => rw [e] at h; exact ⟨x, List.mem_of_find?_eq_some e, h⟩
theorem M0 {L : List PN} : Hf (L.map jq) = [] := by
 unfold Hf kT
 rw [List.find?_map]
 generalize L.find? ((fun x => x.n == 2) ∘ jq) = o
 cases o with
 | none => rfl
 | some x => rfl
theorem M3 {L : List PN} : Hg (L.map jq) = [] := by
 unfold Hg kT
 rw [List.find?_map]
 generalize L.find? ((fun x => x.n == 4) ∘ jq) = o
 cases o with
 | none => rfl
 | some x => rfl
theorem il (title : Cs) (L : List PN) : ic title (L.map jq) = ⟨title, (eS 0 L).map bare, (eS 1 L).map bare, [], (eS 3 L).map bare, []⟩ := by
 unfold ic
 rw [zG, zG, zG, M0, M3]
theorem qw (ns : List Cs) : (ns.map bare).flatMap (·.as) = [] := by
 induction ns with
 | nil => rfl
 | cons a r ih =>
  rw [List.map_cons, List.flatMap_cons, ih]
  rfl
end Bk
namespace Bk
open PySem L2 fZ
def Ku (K : PySem.W.Frag) : Sp := fun vs H Q _ => ∃ (c : Int) (l : Addr) (ms : List Int), vs = [.int c, .ref l] ∧ ay K H l (ms.map V.int) ∧ ms.length ≤ 10 ∧ (∀ m ∈ ms, 0 < m ∧ m ≤ 1000) ∧
 ∀ (p : Addr) (ds : List Int) (H' : Hp), ah H H' → H p = none → H' p = some (.lst (ds.map V.int)) → Paired (fun m d : Int => 0 ≤ d ∧ d < m) ms ds → Q (.ref p) H'
abbrev cT : Cs := [97, 98, 99, 100, 101, 102, 103, 104]
def nameOf (a b k : Nat) : Cs := List.replicate a 109 ++ ([cT.getD k 0] ++ List.replicate b 109)
def Eu : Sp := fun vs H Q _ => ∃ (st : Int) (k : Nat), vs = [.int st, .int k] ∧ 0 ≤ st ∧ k < 8 ∧ ∀ a b : Nat, a = (st / 5 % (1 + st % 5)).toNat → b = (1 + st % 5 - 1 - st / 5 % (1 + st % 5)).toNat → a + b ≤ 4 → Q (tx (nameOf a b k)) H
theorem Ew {a b k : Nat} (hk : k < 8) (MV : a + b ≤ 4) : aN (nameOf a b k) = true := by
 have all : ∀ k, k < 8 → bp (cT.getD k 0) = true ∧ (cT.getD k 0) ∈ iz.cps.toList := by
  intro k hk
  rcases (by omega : k = 0 ∨ k = 1 ∨ k = 2 ∨ k = 3 ∨ k = 4 ∨ k = 5 ∨ k = 6 ∨ k = 7) with e | e | e | e | e | e | e | e <;> subst e <;> exact ⟨by decide +kernel, by decide +kernel⟩
 have rep : ∀ n : Nat, (List.replicate n 109).all bp = true := fun n => by
  rw [List.all_eq_true]
  intro x hx
  rw [(List.mem_replicate.mp hx).2]
  decide +kernel
 unfold aN bg nameOf
 have e1 : (List.replicate a 109 ++ ([cT.getD k 0] ++ List.replicate b 109)).all bp = true := by
  rw [List.all_append, List.all_append, rep, rep, List.all_cons, (all k hk).1]
  rfl
 have e2 : (List.replicate a 109 ++ ([cT.getD k 0] ++ List.replicate b 109)).headD 0 ∈ iz.cps.toList := by
  cases a with
  | zero => exact (all k hk).2
  | succ a =>
   show (109 : Nat) ∈ iz.cps.toList
   decide +kernel
 rw [e1, decide_eq_true e2]
 simp only [List.length_append, List.length_replicate, List.length_cons, List.length_nil, Bool.and_true, Bool.and_eq_true, decide_eq_true_eq]
 omega
theorem Kv {a b j k : Nat} (hj : j < 8) (hk : k < 8) (h : nameOf a b j = nameOf a b k) : j = k := by
 unfold nameOf at h
 have h2 := List.append_inj_right h rfl
 have h3 : cT.getD j 0 = cT.getD k 0 := (List.cons.inj h2).1
 have e : cT.Nodup := by decide
 have gd : ∀ i, i < 8 → cT.getD i 0 = 97 + i := by
  intro i hi
  rcases (by omega : i = 0 ∨ i = 1 ∨ i = 2 ∨ i = 3 ∨ i = 4 ∨ i = 5 ∨ i = 6 ∨ i = 7) with e | e | e | e | e | e | e | e <;> subst e <;> rfl
 rw [gd j hj, gd k hk] at h3
 omega
abbrev zz : Cs := [122, 122]
theorem M4 {a b k : Nat} (hk : k < 8) : nameOf a b k ≠ zz := by
 intro h
 have hl : cT.getD k 0 ∈ nameOf a b k := by
  unfold nameOf
  simp
 rw [h] at hl
 have gd : cT.getD k 0 = 97 + k := by
  rcases (by omega : k = 0 ∨ k = 1 ∨ k = 2 ∨ k = 3 ∨ k = 4 ∨ k = 5 ∨ k = 6 ∨ k = 7) with e | e | e | e | e | e | e | e <;> subst e <;> rfl
 rw [gd] at hl
 have : 97 + k = 122 := by simpa using hl
 omega
def Kw (r : Rl) (z : Cs) : Int := ((r.put.filter fun f => decide (f.k = z)).length : Int) - ((r.take.filter fun f => decide (f.k = z)).length : Int)
def passing (ks : List Kd) : List Cs := (ks.filter fun k => !k.l).map (·.n)
def zH (K : PySem.W.Frag) (c : Cl) : Sp := fun vs H Q _ => ∃ (v : V) (H0 : Hp) (ks : List Kd) (rs : List Rl), vs = [v] ∧ t7 K c H0 H ks rs v ∧ ks.length ≤ 10000 ∧ ∀ u H', ah H H' → oT H H' u (passing ks) → Q u H'
def Kx (K : PySem.W.Frag) (c : Cl) : Sp := fun vs H Q _ => ∃ (v : V) (H0 : Hp) (r : Rl) (z : Cs), vs = [v, tx z] ∧ ik K c H0 H r v ∧ r.put.length ≤ 10000 ∧ r.take.length ≤ 10000 ∧ ∀ H', ah H H' → Q (.int (Kw r z)) H'
def lI (H0 H : Hp) (row : List Int) (u : V) : Prop := ∃ a, u = .ref a ∧ H0 a = none ∧ H a = some (.lst (row.map V.int))
theorem lI.keep {H0 H H' : Hp} {row : List Int} {u : V} (k : Kp H0 H H') (h : lI H0 H row u) : lI H0 H' row u := by
 obtain ⟨a, e, n, h1⟩ := h
 exact ⟨a, e, n, k.new _ _ n h1⟩
theorem lI.bz {H0 H1 H : Hp} {row : List Int} {u : V} (d : ∀ b, H1 b = none → H0 b = none) (h : lI H1 H row u) : lI H0 H row u := by
 obtain ⟨a, e, n, h1⟩ := h
 exact ⟨a, e, d a n, h1⟩
def Table (H0 H : Hp) (v : V) (rows : List (List Int)) : Prop := ∃ l vs, v = .ref l ∧ H0 l = none ∧ H l = some (.lst vs) ∧ Paired (lI H0 H) rows vs
def uN (ks : List Kd) (rs : List Rl) : List (List Int) := rs.map fun r => (passing ks).map (Kw r)
def Ex (K : PySem.W.Frag) (c : Cl) : Sp := fun vs H Q _ => ∃ (v : V) (H0 : Hp) (ks : List Kd) (rs : List Rl), vs = [v] ∧ t7 K c H0 H ks rs v ∧ ks.length ≤ 10000 ∧ rs.length ≤ 10000 ∧ (∀ r ∈ rs, r.put.length ≤ 10000 ∧ r.take.length ≤ 10000) ∧ ∀ u H', ah H H' → Table H H' u (uN ks rs) → Q u H'
def pG (K : PySem.W.Frag) : Sp := fun vs H Q _ => ∃ (a : Addr) (row : List Int) (n : Int), vs = [.ref a, .int n] ∧ H a = some (.lst (row.map V.int)) ∧ n = row.length ∧ Q (.bl true) H
theorem paired_ints : ∀ {l : List Int} {ys : List V}, Paired (fun b y => y = V.int b) l ys → ys = l.map V.int
 | _, _, .nil => rfl
 | _, _, .cons r t => by rw [r, paired_ints t]; rfl
end Bk
namespace Bk
open PySem L2 fZ
abbrev RI := List Nat × List Nat
abbrev nI (l : List Nat) : List V := l.map fun (n : Nat) => V.int (n : Int)
structure Ey (many : Nat) (r : RI) : Prop where
 l1 : r.1.length ≤ 4
 l2 : r.2.length ≤ 4
 m1 : ∀ n ∈ r.1, n < many
 m2 : ∀ n ∈ r.2, n < many
structure lJ (zs : List Cs) (place : Nat) (rs : List RI) : Prop where
 few : zs.length ≤ 5
 pl : place ≤ zs.length
 many : rs.length ≤ 8
 nd : zs.Nodup
 sm : ∀ z ∈ zs, aN z = true
 nz : ∀ z ∈ zs, z ≠ zz
 ok : ∀ r ∈ rs, Ey zs.length r
def uO (K : PySem.W.Frag) (H : Hp) (r : RI) (v : V) : Prop := ∃ t a b, v = .ref t ∧ cP K H t [.ref a, .ref b] ∧ H a = some (.lst (nI r.1)) ∧ H b = some (.lst (nI r.2))
theorem uO.same {K : PySem.W.Frag} {H H' : Hp} {r : RI} {v : V} (s : ah H H') (h : uO K H r v) : uO K H' r v := by
 obtain ⟨t, a, b, e, h1, h2, h3⟩ := h
 exact ⟨t, a, b, e, h1.same s, s _ _ h2, s _ _ h3⟩
def zI (K : PySem.W.Frag) : Sp := fun vs H Q _ => ∃ (s : Addr) (ns : List Int), vs = [.ref s] ∧ ay K H s (ns.map V.int) ∧ ns.length ≤ 63 ∧
 ∀ (t ln lr : Addr) (zs : List Cs) (place : Nat) (rs : List RI) (us : List V) (H' : Hp), ah H H' → H' t = some (.tup [.ref ln, .int (place : Int), .ref lr]) → H' ln = some (.lst (zs.map tx)) → H' lr = some (.lst us) → Paired (uO K H') rs us → lJ zs place rs → Q (.ref t) H'
structure Cells (H : Hp) (n : Nat) (T : Nat → Addr) (A : Nat → Nat → Addr) (R : Nat → Nat → List Nat) : Prop where
 tup : ∀ i, i < n → H (T i) = some (.tup [.ref (A i 0), .ref (A i 1)])
 lst : ∀ i u, i < n → u < 2 → H (A i u) = some (.lst (nI (R i u)))
 inj : ∀ i u j v, i < n → u < 2 → j < n → v < 2 → A i u = A j v → i = j ∧ u = v
theorem Cells.same {H H' : Hp} {n : Nat} {T : Nat → Addr} {A : Nat → Nat → Addr} {R : Nat → Nat → List Nat} (s : ah H H') (h : Cells H n T A R) : Cells H' n T A R :=
 ⟨fun i hi => s _ _ (h.tup i hi), fun i u hi hu => s _ _ (h.lst i u hi hu), h.inj⟩
theorem Cells.snoc {H : Hp} {n : Nat} {T : Nat → Addr} {A : Nat → Nat → Addr} {R : Nat → Nat → List Nat} (h : Cells H n T A R) {H' : Hp} {t a b : Addr} (s : ah H H') (na : H a = none) (nb : H b = none) (MV : a ≠ b) (ha : H' a = some (.lst [])) (hb : H' b = some (.lst [])) (ht : H' t = some (.tup [.ref a, .ref b])) :
  Cells H' (n + 1) (fun i => if i = n then t else T i) (fun i u => if i = n then (if u = 0 then a else b) else A i u) (fun i u => if i = n then [] else R i u) := by
 refine ⟨fun i hi => ?_, fun i u hi hu => ?_, fun i u j v hi hu hj hv e => ?_⟩
 ·by_cases e : i = n
  ·subst e
   simp only [if_true]
   exact ht
  ·simp only [if_neg e]
   exact s _ _ (h.tup i (by omega))
 ·by_cases e : i = n
  ·subst e
   simp only [if_true]
   by_cases e2 : u = 0
   ·rw [if_pos e2]; exact ha
   ·rw [if_neg e2]; exact hb
  ·simp only [if_neg e]
   exact s _ _ (h.lst i u (by omega) hu)
 ·have old : ∀ i u x, i < n → u < 2 → H x = none → A i u ≠ x := fun i u x hi hu hx z => by
   have y := h.lst i u hi hu
   rw [z, hx] at y
   cases y
  by_cases e1 : i = n <;> by_cases e2 : j = n
  ·subst e1; subst e2
   simp only [if_true] at e
   refine ⟨rfl, ?_⟩
   by_cases z1 : u = 0 <;> by_cases z2 : v = 0
   ·rw [z1, z2]
   ·rw [if_pos z1, if_neg z2] at e; exact absurd e MV
   ·rw [if_neg z1, if_pos z2] at e; exact absurd e.symm MV
   ·omega
  ·subst e1
   simp only [if_true, if_neg e2] at e
   by_cases z1 : u = 0
   ·rw [if_pos z1] at e; exact absurd e.symm (old j v a (by omega) hv na)
   ·rw [if_neg z1] at e; exact absurd e.symm (old j v b (by omega) hv nb)
  ·subst e2
   simp only [if_true, if_neg e1] at e
   by_cases z1 : v = 0
   ·rw [if_pos z1] at e; exact absurd e (old i u a (by omega) hu na)
   ·rw [if_neg z1] at e; exact absurd e (old i u b (by omega) hu nb)
  ·simp only [if_neg e1, if_neg e2] at e
   exact h.inj i u j v (by omega) hu (by omega) hv e
theorem Cells.write {H : Hp} {n : Nat} {T : Nat → Addr} {A : Nat → Nat → Addr} {R : Nat → Nat → List Nat} (h : Cells H n T A R) {i u : Nat} (hi : i < n) (hu : u < 2) (l : List Nat) :
  Cells (upd H (A i u) (.lst (nI l))) n T A (fun j v => if j = i ∧ v = u then l else R j v) := by
 refine ⟨fun j hj => ?_, fun j v hj hv => ?_, h.inj⟩
 ·rw [aq fun z => by
   have y := h.tup j hj
   rw [z, h.lst i u hi hu] at y
   cases y]
  exact h.tup j hj
 ·by_cases e : j = i ∧ v = u
  ·rw [e.1, e.2, af]
   simp
  ·rw [aq fun z => e (h.inj j v i u hj hv hi hu z)]
   simp only [if_neg e]
   exact h.lst j v hj hv
theorem pH {α β : Type} {R : α → β → Prop} {f : Nat → α} {g : Nat → β} : ∀ {n : Nat}, (∀ i, i < n → R (f i) (g i)) → Paired R ((List.range n).map f) ((List.range n).map g)
 | 0, _ => .nil
 | n + 1, h => by
  rw [List.range_succ, List.map_append, List.map_append]
  exact Paired.snoc (pH fun i hi => h i (by omega)) (h n (by omega))
theorem Cells.paired {K : PySem.W.Frag} {H : Hp} {n : Nat} {T : Nat → Addr} {A : Nat → Nat → Addr} {R : Nat → Nat → List Nat} (h : Cells H n T A R) : Paired (uO K H) ((List.range n).map fun i => (R i 0, R i 1)) ((List.range n).map fun i => V.ref (T i)) :=
 pH fun i hi => ⟨T i, A i 0, A i 1, rfl, cP.of (h.tup i hi), h.lst i 0 hi (by decide), h.lst i 1 hi (by decide)⟩
theorem M5 {α β : Type} {R : α → β → Prop} {a b c : α} {ds : List β} (h : Paired R [a, b, c] ds) : ∃ x y z, ds = [x, y, z] ∧ R a x ∧ R b y ∧ R c z := by
 obtain ⟨_⟩ | ⟨h1, h⟩ := h
 obtain ⟨_⟩ | ⟨h2, h⟩ := h
 obtain ⟨_⟩ | ⟨h3, h⟩ := h
 obtain ⟨_⟩ | _ := h
 exact ⟨_, _, _, rfl, h1, h2, h3⟩
theorem M6 {α β : Type} {R : α → β → Prop} {a b c d e : α} {ds : List β} (h : Paired R [a, b, c, d, e] ds) : ∃ x y z p q, ds = [x, y, z, p, q] ∧ R a x ∧ R b y ∧ R c z ∧ R d p ∧ R e q := by
 obtain ⟨_⟩ | ⟨h1, h⟩ := h
 obtain ⟨_⟩ | ⟨h2, h⟩ := h
 obtain ⟨_⟩ | ⟨h3, h⟩ := h
 obtain ⟨_⟩ | ⟨h4, h⟩ := h
 obtain ⟨_⟩ | ⟨h5, h⟩ := h
 obtain ⟨_⟩ | _ := h
 exact ⟨_, _, _, _, _, rfl, h1, h2, h3, h4, h5⟩
theorem M7 {v : V} {k : Int} (h : 0 ≤ k) : hZ [v] none (some k) = if k = 0 then [] else [v] := by
 by_cases e : k = 0
 ·subst e
  rfl
 ·rw [if_neg e]
  obtain ⟨j, rfl⟩ : ∃ j : Nat, k = (j : Int) := ⟨k.toNat, by omega⟩
  have z : 1 ≤ j := by omega
  unfold hZ
  rw [show ([v] : List V).length = 1 from rfl, HT.yK, show HT.df 1 0 none = 0 from rfl, Nat.min_eq_right z]
  rfl
end Bk
namespace Bk
open PySem L2 fZ
theorem Cells.other {H : Hp} {n : Nat} {T : Nat → Addr} {A : Nat → Nat → Addr} {R : Nat → Nat → List Nat} (h : Cells H n T A R) {D : Addr} {xs : List V} (hD : H D = some (.lst xs)) (ne : ∀ i u, i < n → u < 2 → A i u ≠ D) (o : HO) : Cells (upd H D o) n T A R := by
 refine ⟨fun i hi => ?_, fun i u hi hu => ?_, h.inj⟩
 ·rw [aq fun z => by
   have y := h.tup i hi
   rw [z, hD] at y
   cases y]
  exact h.tup i hi
 ·rw [aq (ne i u hi hu)]
  exact h.lst i u hi hu
theorem Hu {n : Nat} {T : Nat → Addr} {t : Addr} : (List.range (n + 1)).map (fun k => V.ref (if k = n then t else T k)) = (List.range n).map (fun k => V.ref (T k)) ++ [V.ref t] := by
 rw [List.range_succ, List.map_append]
 congr 1
 ·refine List.map_congr_left fun k hk => ?_
  rw [if_neg (Nat.ne_of_lt (List.mem_range.mp hk))]
 ·show [V.ref (if n = n then t else T n)] = _
  rw [if_pos rfl]
theorem Ky {n : Nat} {T : Nat → Addr} {j : Int} (h0 : 0 ≤ j) (h1 : j < n) : rA ((List.range n).map (fun k => V.ref (T k))) j = some (.ref (T j.toNat)) := by
 have z := bN (xs := (List.range n).map (fun k => V.ref (T k))) (j := j.toNat) (v := .ref (T j.toNat)) (by
  rw [List.getElem?_map, List.getElem?_range (by omega)]
  rfl)
 rw [show ((j.toNat : Nat) : Int) = j by omega] at z
 exact z
theorem PL {a b : Addr} {A : Nat → Addr} {j : Int} (e0 : A 0 = a) (e1 : A 1 = b) (h0 : 0 ≤ j) (h1 : j < 2) : rA [V.ref a, V.ref b] j = some (.ref (A j.toNat)) := by
 rcases (by omega : j = 0 ∨ j = 1) with e | e <;> subst e
 ·show some (V.ref a) = some (V.ref (A 0))
  rw [e0]
 ·show some (V.ref b) = some (V.ref (A 1))
  rw [e1]
end Bk
namespace Bk
theorem Hv {α : Type} {l : List α} (h : l.Nodup) : l.reverse.Nodup := List.pairwise_reverse.mpr (List.Pairwise.imp (fun h => Ne.symm h) h)
end Bk
namespace Bk
open PySem L2 fZ
def nm (zs : List Cs) (l : List Nat) : List Cs := l.map fun n => zs.getD n []
def aT (zs : List Cs) (i : Nat) (r : RI) : List PN :=
 if r.1 = [] then [(1, [(zs ++ [zz]).getD 0 []])] ++ (if r.2 = [] then [] else [(3, [zz])])
 else ([(0, nm zs r.1)] ++ (if i % 2 = 1 then [(1, [zs.getD (zs.length - 1) []])] else [])) ++ (if r.2 = [] then [] else [(3, nm zs r.2)])
abbrev dh (i : Nat) : Cs := [114, 48 + i]
def uP (zs : List Cs) (i : Nat) (r : RI) : Cs := rN (dh i) (aT zs i r)
abbrev kdOf (z : Cs) : Kd := ⟨z, 0, false⟩
abbrev Sv : Kd := ⟨zz, 0, true⟩
def oI (zs : List Cs) (place : Nat) : List Kd := (zs.take place).map kdOf ++ [Sv] ++ (zs.drop place).map kdOf
def di (zs : List Cs) (rs : List RI) (n : Nat) : List Cs := (List.range n).map fun i => uP zs i (rs.getD i ([], []))
def cx (zs : List Cs) (place : Nat) (rs : List RI) : List Cs := (oI zs place).map bG ++ di zs rs rs.length
def uQ (K : PySem.W.Frag) : Sp := fun vs H Q _ => ∃ (ln lr : Addr) (zs : List Cs) (place : Nat) (rs : List RI) (us : List V), vs = [.ref ln, .int (place : Int), .ref lr] ∧ H ln = some (.lst (zs.map tx)) ∧ H lr = some (.lst us) ∧ Paired (uO K H) rs us ∧ lJ zs place rs ∧
 ∀ H', ah H H' → Q (tx (cq (cx zs place rs))) H'
theorem uR (l : List Cs) : l.map tx = (l.map S).map V.str := by rw [List.map_map]; rfl
theorem m8 {s : Str} {n : Nat} {ns : List Cs} (h : s = S (wordAt n ++ [32])) : s ++ S (b9 [44, 32] ns) = S (aP (n, ns)) := by
 rw [h, gx]
 unfold aP
 rw [List.append_assoc]
 rfl
theorem Kz {xs : List V} {k : Nat} (h : k ≤ xs.length) : hZ xs none (some (k : Int)) = xs.take k := by
 unfold hZ
 rw [HT.yK, Nat.min_eq_left h]
 rfl
theorem br {c : Prop} [Decidable c] {A : Prop} {Rest : Hp → Prop} {H0 : Hp} (PM : Hp → Prop) (hB : c → (∀ H', PM H' → Rest H') → A) (hC : ¬ c → PM H0) (hR : ∀ H', PM H' → Rest H') : if c then A else Rest H0 := by
 by_cases h : c
 ·rw [if_pos h]; exact hB h hR
 ·rw [if_neg h]; exact hR _ (hC h)
theorem Xa {c : Nat} (h : c < 8) : (Str.ofString (toString (c : Int))) = S [48 + c] ∧ (c : Int).natAbs.log2 < 1920 := by
 rcases (by omega : c = 0 ∨ c = 1 ∨ c = 2 ∨ c = 3 ∨ c = 4 ∨ c = 5 ∨ c = 6 ∨ c = 7) with e | e | e | e | e | e | e | e <;> subst e <;> exact ⟨by decide +kernel, by decide +kernel⟩
theorem KA {zs : List Cs} {l : List Nat} (hz : ∀ z ∈ zs, aN z = true) (hl : ∀ n ∈ l, n < zs.length) : ∀ x ∈ nm zs l, aN x = true := by
 intro x hx
 obtain ⟨n, hn, rfl⟩ := List.mem_map.mp hx
 have h := hl n hn
 rw [Gd9, Ge9 h]
 exact hz _ (List.getElem_mem h)
theorem PQ {x : PN} {B : Nat} (h1 : x.2.length ≤ 4) (h2 : ∀ z ∈ x.2, z.length ≤ 12) : (aP x).length ≤ 61 := by
 unfold aP
 have z := (jN x.1).2.2
 have y := lH [44, 32] x.2 12 h2
 rw [List.length_append, List.length_cons]
 simp only [List.length_cons, List.length_nil] at y
 omega
theorem uS : aN zz = true := by decide +kernel
structure jO (L : List PN) : Prop where
 few : L.length ≤ 3
 each : ∀ x ∈ L, uM x ∧ x.2.length ≤ 4
theorem rO {zs : List Cs} (hz : ∀ z ∈ zs, aN z = true) : aN ((zs ++ [zz]).getD 0 []) = true := by
 cases zs with
 | nil => exact uS
 | cons a r => exact hz a (by simp)
theorem uT {zs : List Cs} (hz : ∀ z ∈ zs, aN z = true) (h : 0 < zs.length) : aN (zs.getD (zs.length - 1) []) = true := by
 rw [Gd9, Ge9 (by omega)]
 exact hz _ (List.getElem_mem _)
theorem jr {zs : List Cs} {i : Nat} {r : RI} (hz : ∀ z ∈ zs, aN z = true) (ok : Ey zs.length r) : jO (aT zs i r) := by
 have one : ∀ (n : Nat) (z : Cs), n = 0 ∨ n = 1 ∨ n = 3 → aN z = true → uM (n, [z]) ∧ ((n, [z]) : PN).2.length ≤ 4 := fun n z h1 h2 => ⟨⟨h1, List.cons_ne_nil _ _, fun x hx => by rw [List.mem_singleton.mp hx]; exact h2⟩, by show 1 ≤ 4; decide⟩
 have many : ∀ (n : Nat) (l : List Nat), n = 0 ∨ n = 1 ∨ n = 3 → l ≠ [] → l.length ≤ 4 → (∀ m ∈ l, m < zs.length) → uM (n, nm zs l) ∧ ((n, nm zs l) : PN).2.length ≤ 4 := fun n l h1 h2 h3 h4 => ⟨⟨h1, fun e => h2 (List.map_eq_nil_iff.mp e), KA hz h4⟩, by show (nm zs l).length ≤ 4; unfold nm; rw [Lm9]; exact h3⟩
 have put3 : ∀ (M : List PN) (x : PN) (c : Prop) [Decidable c], M.length ≤ 2 → (∀ y ∈ M, uM y ∧ y.2.length ≤ 4) → (¬ c → uM x ∧ x.2.length ≤ 4) → jO (M ++ (if c then [] else [x])) := fun M x c _ hM hy hx => by
  by_cases e : c
  ·rw [if_pos e, List.append_nil]
   exact ⟨by omega, hy⟩
  ·rw [if_neg e]
   refine ⟨by rw [List.length_append, List.length_singleton]; omega, fun y h => ?_⟩
   rcases List.mem_append.mp h with h | h
   ·exact hy y h
   ·rw [List.mem_singleton.mp h]
    exact hx e
 unfold aT
 by_cases e1 : r.1 = []
 ·rw [if_pos e1]
  refine put3 _ _ _ (by show 1 ≤ 2; decide) (fun y h => ?_) (fun _ => one 3 zz (by decide) uS)
  rw [List.mem_singleton.mp h]
  exact one 1 _ (by decide) (rO hz)
 ·rw [if_neg e1]
  have h0 : 0 < zs.length := by
   obtain ⟨a, t, e⟩ := List.exists_cons_of_ne_nil e1
   exact Nat.lt_of_le_of_lt (Nat.zero_le _) (ok.m1 a (by rw [e]; simp))
  refine put3 _ _ _ ?_ (fun y h => ?_) (fun e2 => many 3 r.2 (by decide) e2 ok.l2 ok.m2)
  ·by_cases e : i % 2 = 1
   ·rw [if_pos e]; show 2 ≤ 2; decide
   ·rw [if_neg e]; show 1 ≤ 2; decide
  ·rcases List.mem_append.mp h with h | h
   ·rw [List.mem_singleton.mp h]
    exact many 0 r.1 (by decide) e1 ok.l1 ok.m1
   ·by_cases e : i % 2 = 1
    ·rw [if_pos e] at h
     rw [List.mem_singleton.mp h]
     exact one 1 _ (by decide) (uT hz h0)
    ·rw [if_neg e] at h
     cases h
theorem jO.len {L : List PN} (h : jO L) : ∀ x ∈ L.map aP, x.length ≤ 61 := by
 intro x hx
 obtain ⟨y, hy, rfl⟩ := List.mem_map.mp hx
 exact PQ (B := 0) (h.each y hy).2 fun z hz => (cj ((h.each y hy).1.sm z hz)).2
theorem yt {zs : List Cs} {i : Nat} {r : RI} (hz : ∀ z ∈ zs, aN z = true) (ok : Ey zs.length r) : (uP zs i r).length ≤ 250 := by
 have h := jr (i := i) hz ok
 have z := lH [59, 32] ((aT zs i r).map aP) 61 h.len
 have f := h.few
 rw [Lm9] at z
 unfold uP rN
 simp only [List.length_append, List.length_cons, List.length_nil] at z ⊢
 omega
end Bk
namespace Bk
open PySem L2 fZ
theorem KC {zs : List Cs} {u : Str} (e : u = S zz) : rA (zs.map tx ++ [V.str u]) 0 = some (tx ((zs ++ [zz]).getD 0 [])) := by
 cases zs with
 | nil => show some (V.str u) = some (tx zz); rw [e]
 | cons a r => exact bN (xs := (a :: r).map tx ++ [V.str u]) (j := 0) rfl
theorem M8 {l : List Nat} (h : l ≠ []) : (0 : Int) < (((nI l).length : Nat) : Int) := by
 rw [Lm9]
 have : 0 < l.length := List.length_pos_iff.mpr h
 omega
theorem PR {l : List Nat} (h : l = []) : ¬ (0 : Int) < (((nI l).length : Nat) : Int) := by
 rw [Lm9, h]
 decide
theorem yu {l : List Nat} (h : (0 : Int) < (((nI l).length : Nat) : Int)) : l ≠ [] := fun e => PR e h
theorem len0 {l : List Nat} : decide (V.int (((nI l).length : Nat) : Int) = V.int 0) = decide (l = []) := by
 rw [Lm9]
 cases l with
 | nil => rfl
 | cons a r =>
  refine (decide_eq_false fun z => ?_).trans (decide_eq_false (List.cons_ne_nil a r)).symm
  injection z with z
  rw [List.length_cons] at z
  omega
theorem N4 {zs : List Cs} {l : List Nat} (hz : ∀ z ∈ zs, aN z = true) (hl : ∀ n ∈ l, n < zs.length) (h4 : l.length ≤ 4) : (((nm zs l).map S).map (·.length)).sum ≤ 48 ∧ ((nm zs l).map S).length ≤ 4 ∧ (b9 [44, 32] (nm zs l)).length ≤ 56 := by
 have h := fun x hx => (cj (KA hz hl x hx)).2
 have z := sS (as := nm zs l) (B := 12) h
 have y := lH [44, 32] (nm zs l) 12 h
 have e : (nm zs l).length = l.length := by unfold nm; rw [Lm9]
 rw [e] at z y
 simp only [List.length_cons, List.length_nil] at y
 rw [Lm9, e]
 omega
theorem KD {L : List PN} (h : jO L) : (((L.map aP).map S).map (·.length)).sum ≤ 183 ∧ ((L.map aP).map S).length ≤ 3 ∧ (b9 [59, 32] (L.map aP)).length ≤ 189 := by
 have z := sS (as := L.map aP) (B := 61) h.len
 have y := lH [59, 32] (L.map aP) 61 h.len
 have f := h.few
 rw [Lm9] at z y
 simp only [List.length_cons, List.length_nil] at y
 rw [Lm9, Lm9]
 omega
theorem Gq {i : Nat} (hi : i < 8) (L : List PN) {a b d e : Str} (ea : a = S (gw ++ [32, 114])) (eb : b = S [48 + i]) (ed : d = S [58, 32]) (ee : e = S (b9 [59, 32] (L.map aP))) : ((a ++ b) ++ d) ++ e = S (rN (dh i) L) := by
 rw [ea, eb, ed, ee, gx, gx, gx]
 rfl
theorem KG {i : Nat} : decide (V.int ((i : Int) % 2) = V.int 1) = decide (i % 2 = 1) := by
 by_cases h : i % 2 = 1
 ·rw [decide_eq_true h]
  exact decide_eq_true (congrArg V.int (by omega))
 ·rw [decide_eq_false h]
  refine decide_eq_false fun z => h ?_
  injection z with z
  omega
theorem Ez {zs : List Cs} {place : Nat} {rs : List RI} (T : lJ zs place rs) : ∀ k ∈ oI zs place, Pk k := by
 intro k hk
 unfold oI at hk
 rcases List.mem_append.mp hk with hk | hk
 ·rcases List.mem_append.mp hk with hk | hk
  ·obtain ⟨z, hz, rfl⟩ := List.mem_map.mp hk
   exact ⟨T.sm z (List.mem_of_mem_take hz), Nat.zero_le _⟩
  ·rw [List.mem_singleton.mp hk]
   exact ⟨uS, Nat.zero_le _⟩
 ·obtain ⟨z, hz, rfl⟩ := List.mem_map.mp hk
  exact ⟨T.sm z (List.mem_of_mem_drop hz), Nat.zero_le _⟩
theorem CG {zs : List Cs} {place : Nat} {rs : List RI} (T : lJ zs place rs) : ∀ x ∈ cx zs place rs, x.length ≤ 250 := by
 intro x hx
 unfold cx at hx
 rcases List.mem_append.mp hx with hx | hx
 ·obtain ⟨k, hk, rfl⟩ := List.mem_map.mp hx
  have := zb (cj (Ez T k hk).1).2
  omega
 ·unfold di at hx
  obtain ⟨i, hi, rfl⟩ := List.mem_map.mp hx
  have hi := List.mem_range.mp hi
  refine yt T.sm (T.ok _ ?_)
  rw [Gd9, Ge9 hi]
  exact List.getElem_mem hi
theorem KH {zs : List Cs} {l : List Nat} {j : Nat} {y : V} {b : Cs} (hy : (nI l)[j]? = some y) (hb : (nm zs l)[j]? = some b) : ∃ n ∈ l, y = V.int (n : Int) ∧ b = zs.getD n [] := by
 unfold nm at hb
 rw [List.getElem?_map] at hy hb
 cases h : l[j]? with
 | none => rw [h] at hy; cases hy
 | some n =>
  rw [h] at hy hb
  exact ⟨n, List.mem_of_getElem? h, (Option.some.inj hy).symm, (Option.some.inj hb).symm⟩
end Bk
namespace Bk
open PySem L2 fZ
def nv (many : Nat) (r : RI) : List Int := if r.1 = [] then List.replicate many 0 else (List.range many).map fun k => (r.2.count k : Int) - (r.1.count k : Int)
def many (k : Cs) (fs : List Fc) : Nat := (fs.filter fun f => decide (f.k = k)).length
theorem KI (r : Rl) (z : Cs) : Kw r z = (many z r.put : Int) - (many z r.take : Int) := rfl
abbrev rowAt (rs : List (List Nat × List Nat)) (i : Nat) : List Nat × List Nat := rs.getD i ([], [])
abbrev Hw (zs : List Cs) (rs : List (List Nat × List Nat)) (i : Nat) : List Pr := (aT zs i (rowAt rs i)).map jq
def wy (zs : List Cs) (place : Nat) (rs : List (List Nat × List Nat)) : List (Cs × It) := (oI zs place).map (fun k => (bG k, It.kind k)) ++ (List.range rs.length).map fun i => (uP zs i (rowAt rs i), It.rule (dh i) (Hw zs rs i))
def KJ (zs : List Cs) (rs : List (List Nat × List Nat)) : List Rl := (List.range rs.length).map fun i => ic (dh i) (Hw zs rs i)
theorem oa : ∀ ks : List Kd, kX (ks.map It.kind) = ks ∧ kY (ks.map It.kind) = []
 | [] => ⟨rfl, rfl⟩
 | k :: r => by
  have ih := oa r
  exact ⟨by show k :: kX (r.map It.kind) = k :: r; rw [ih.1], ih.2⟩
theorem oe {A : Type} (t : A → Cs) (p : A → List Pr) : ∀ xs : List A, kX (xs.map fun x => It.rule (t x) (p x)) = [] ∧ kY (xs.map fun x => It.rule (t x) (p x)) = xs.map fun x => ic (t x) (p x)
 | [] => ⟨rfl, rfl⟩
 | x :: r => by
  have ih := oe t p r
  exact ⟨ih.1, by show ic (t x) (p x) :: kY (r.map _) = _; rw [ih.2]; rfl⟩
theorem zJ (zs : List Cs) (place : Nat) (rs : List (List Nat × List Nat)) : kX ((wy zs place rs).map (·.2)) = oI zs place ∧ kY ((wy zs place rs).map (·.2)) = KJ zs rs := by
 have e : (wy zs place rs).map (·.2) = (oI zs place).map It.kind ++ (List.range rs.length).map fun i => It.rule (dh i) (Hw zs rs i) := by
  unfold wy
  rw [List.map_append, List.map_map, List.map_map]
  rfl
 rw [e, lC, lD, (oa _).1, (oa _).2, (oe dh (Hw zs rs) _).1, (oe dh (Hw zs rs) _).2, List.append_nil]
 exact ⟨rfl, rfl⟩
theorem Gr (zs : List Cs) (place : Nat) (rs : List (List Nat × List Nat)) : (wy zs place rs).map (·.1) = cx zs place rs := by
 unfold wy cx di
 rw [List.map_append, List.map_map, List.map_map]
 rfl
theorem CH (zs : List Cs) (i : Nat) (r : List Nat × List Nat) : aT zs i r ≠ [] := by
 unfold aT
 split
 ·exact fun h => by cases h
 ·exact fun h => by cases h
theorem Hx (zs : List Cs) (i : Nat) (r : List Nat × List Nat) : MZ 0 (aT zs i r) := by
 unfold aT
 by_cases h1 : r.1 = []
 ·rw [if_pos h1]
  by_cases h2 : r.2 = []
  ·rw [if_pos h2]; exact ⟨Nat.le_of_ble_eq_true rfl, Nat.le_of_ble_eq_true rfl, trivial⟩
  ·rw [if_neg h2]; exact ⟨Nat.le_of_ble_eq_true rfl, Nat.le_of_ble_eq_true rfl, Nat.le_of_ble_eq_true rfl, Nat.le_of_ble_eq_true rfl, trivial⟩
 ·rw [if_neg h1]
  by_cases h2 : r.2 = [] <;> by_cases h3 : i % 2 = 1
  ·rw [if_pos h2, if_pos h3]; exact ⟨Nat.le_of_ble_eq_true rfl, Nat.le_of_ble_eq_true rfl, Nat.le_of_ble_eq_true rfl, Nat.le_of_ble_eq_true rfl, trivial⟩
  ·rw [if_pos h2, if_neg h3]; exact ⟨Nat.le_of_ble_eq_true rfl, Nat.le_of_ble_eq_true rfl, trivial⟩
  ·rw [if_neg h2, if_pos h3]; exact ⟨Nat.le_of_ble_eq_true rfl, Nat.le_of_ble_eq_true rfl, Nat.le_of_ble_eq_true rfl, Nat.le_of_ble_eq_true rfl, Nat.le_of_ble_eq_true rfl, Nat.le_of_ble_eq_true rfl, trivial⟩
  ·rw [if_neg h2, if_neg h3]; exact ⟨Nat.le_of_ble_eq_true rfl, Nat.le_of_ble_eq_true rfl, Nat.le_of_ble_eq_true rfl, Nat.le_of_ble_eq_true rfl, trivial⟩
theorem EA (zs : List Cs) (i : Nat) (r : List Nat × List Nat) : ∃ x ∈ aT zs i r, x.1 = 0 ∨ x.1 = 1 := by
 unfold aT
 by_cases h1 : r.1 = []
 ·rw [if_pos h1]; exact ⟨(1, [(zs ++ [zz]).getD 0 []]), by simp, .inr rfl⟩
 ·rw [if_neg h1]; exact ⟨(0, nm zs r.1), by simp, .inl rfl⟩
theorem rP {i : Nat} (h : i < 8) : aN (dh i) = true := by
 rcases (by omega : i = 0 ∨ i = 1 ∨ i = 2 ∨ i = 3 ∨ i = 4 ∨ i = 5 ∨ i = 6 ∨ i = 7) with e | e | e | e | e | e | e | e <;> subst e <;> decide +kernel
theorem zK (zs : List Cs) (i : Nat) (r : List Nat × List Nat) : eS 0 (aT zs i r) = nm zs r.1 := by
 unfold aT
 by_cases h1 : r.1 = []
 ·rw [if_pos h1, h1]
  by_cases h2 : r.2 = []
  ·rw [if_pos h2]; rfl
  ·rw [if_neg h2]; rfl
 ·rw [if_neg h1]
  rfl
theorem KL (zs : List Cs) (i : Nat) (r : List Nat × List Nat) : eS 3 (aT zs i r) = if r.1 = [] then (if r.2 = [] then [] else [zz]) else nm zs r.2 := by
 unfold aT
 by_cases h1 : r.1 = []
 ·rw [if_pos h1, if_pos h1]
  by_cases h2 : r.2 = []
  ·rw [if_pos h2, if_pos h2]; rfl
  ·rw [if_neg h2, if_neg h2]; rfl
 ·rw [if_neg h1, if_neg h1]
  by_cases h2 : r.2 = [] <;> by_cases h3 : i % 2 = 1
  ·rw [if_pos h2, if_pos h3, h2]; rfl
  ·rw [if_pos h2, if_neg h3, h2]; rfl
  ·rw [if_neg h2, if_pos h3]; rfl
  ·rw [if_neg h2, if_neg h3]; rfl
theorem EB {zs : List Cs} {l : List Nat} (hl : ∀ n ∈ l, n < zs.length) : ∀ x ∈ nm zs l, x ∈ zs := by
 intro x hx
 obtain ⟨n, hn, rfl⟩ := List.mem_map.mp hx
 have h := hl n hn
 rw [Gd9, Ge9 h]
 exact List.getElem_mem h
theorem KN {zs : List Cs} {i : Nat} {r : List Nat × List Nat} (ok : Ey zs.length r) : ∀ x ∈ aT zs i r, ∀ z ∈ x.2, z ∈ zs ∨ z = zz := by
 have first : (zs ++ [zz]).getD 0 [] ∈ zs ∨ (zs ++ [zz]).getD 0 [] = zz := by
  cases zs with
  | nil => exact .inr rfl
  | cons a t => exact .inl List.mem_cons_self
 intro x hx z hz
 unfold aT at hx
 by_cases h1 : r.1 = []
 ·rw [if_pos h1] at hx
  rcases List.mem_append.mp hx with hx | hx
  ·rw [List.mem_singleton.mp hx] at hz
   rw [List.mem_singleton.mp hz]
   exact first
  ·by_cases h2 : r.2 = []
   ·rw [if_pos h2] at hx; cases hx
   ·rw [if_neg h2] at hx
    rw [List.mem_singleton.mp hx] at hz
    exact .inr (List.mem_singleton.mp hz)
 ·rw [if_neg h1] at hx
  have hz0 : 0 < zs.length := by
   obtain ⟨a, t, e⟩ := List.exists_cons_of_ne_nil h1
   exact Nat.lt_of_le_of_lt (Nat.zero_le _) (ok.m1 a (by rw [e]; simp))
  rcases List.mem_append.mp hx with hx | hx
  ·rcases List.mem_append.mp hx with hx | hx
   ·rw [List.mem_singleton.mp hx] at hz
    exact .inl (EB ok.m1 z hz)
   ·by_cases h3 : i % 2 = 1
    ·rw [if_pos h3] at hx
     rw [List.mem_singleton.mp hx] at hz
     rw [List.mem_singleton.mp hz, Gd9, Ge9 (by omega)]
     exact .inl (List.getElem_mem _)
    ·rw [if_neg h3] at hx; cases hx
  ·by_cases h2 : r.2 = []
   ·rw [if_pos h2] at hx; cases hx
   ·rw [if_neg h2] at hx
    rw [List.mem_singleton.mp hx] at hz
    exact .inl (EB ok.m2 z hz)
theorem KO (zs : List Cs) (place : Nat) : (oI zs place).map (·.n) = zs.take place ++ [zz] ++ zs.drop place := by
 unfold oI
 rw [List.map_append, List.map_append, List.map_map, List.map_map]
 rw [show ((fun x : Kd => x.n) ∘ kdOf) = id from rfl, List.map_id, List.map_id]
 rfl
theorem Gs (zs : List Cs) (place : Nat) : ((oI zs place).filter (·.l)).map (·.n) = [zz] := by
 have e : ∀ l : List Cs, (l.map kdOf).filter (·.l) = [] := fun l => by
  rw [List.filter_eq_nil_iff]
  intro k hk
  obtain ⟨z, _, rfl⟩ := List.mem_map.mp hk
  simp
 unfold oI
 rw [List.filter_append, List.filter_append, e, e]
 rfl
theorem Gu (zs : List Cs) (place : Nat) : passing (oI zs place) = zs := by
 have e : ∀ l : List Cs, (l.map kdOf).filter (fun k => !k.l) = l.map kdOf := fun l => by
  rw [List.filter_eq_self]
  intro k hk
  obtain ⟨z, _, rfl⟩ := List.mem_map.mp hk
  rfl
 unfold passing oI
 rw [List.filter_append, List.filter_append, e, e, List.map_append, List.map_append, List.map_map, List.map_map]
 rw [show ((fun x : Kd => x.n) ∘ kdOf) = id from rfl, List.map_id, List.map_id]
 show zs.take place ++ [] ++ zs.drop place = zs
 rw [List.append_nil, List.take_append_drop]
theorem PU {zs : List Cs} {place : Nat} {z : Cs} (h : z ∈ zs ∨ z = zz) : pb (oI zs place) (bare z) := by
 rcases h with h | h
 ·refine ⟨kdOf z, ?_, rfl, rfl⟩
  unfold oI
  rw [← List.take_append_drop place zs, List.mem_append] at h
  rw [List.mem_append, List.mem_append]
  rcases h with h | h
  ·exact .inl (.inl (List.mem_map.mpr ⟨z, h, rfl⟩))
  ·exact .inr (List.mem_map.mpr ⟨z, h, rfl⟩)
 ·subst h
  refine ⟨Sv, ?_, rfl, rfl⟩
  unfold oI
  simp
theorem Hy {n : Nat} {L : List PN} : eS n L = [] ∨ ∃ x ∈ L, eS n L = x.2 := by
 unfold eS
 cases e : L.find? fun x => x.1 == n with
 | none => exact .inl rfl
 | some x => exact .inr ⟨x, List.mem_of_find?_eq_some e, rfl⟩
theorem gC {n : Nat} {L : List PN} (h : jO L) : (eS n L).length ≤ 4 ∧ ∀ z ∈ eS n L, aN z = true := by
 rcases Hy (n := n) (L := L) with e | ⟨x, hx, e⟩
 ·rw [e]; exact ⟨by decide, fun z hz => by cases hz⟩
 ·rw [e]; exact ⟨(h.each x hx).2, (h.each x hx).1.sm⟩
theorem Sw {L : List PN} (t : Cs) (h : jO L) : MM (ic t (L.map jq)) := by
 rw [il]
 have h0 := gC (n := 0) h
 have h1 := gC (n := 1) h
 refine ⟨fun f hf => ?_, ?_, ?_⟩
 ·rcases List.mem_append.mp hf with hf | hf
  ·obtain ⟨z, hz, rfl⟩ := List.mem_map.mp hf
   exact ⟨h0.2 z hz, Nat.zero_le _, fun a ha => by cases ha⟩
  ·obtain ⟨z, hz, rfl⟩ := List.mem_map.mp hf
   exact ⟨h1.2 z hz, Nat.zero_le _, fun a ha => by cases ha⟩
 ·show ((eS 0 L).map bare ++ (eS 1 L).map bare).length ≤ _
  rw [List.length_append, Lm9, Lm9]
  omega
 ·show (((eS 0 L).map bare ++ (eS 1 L).map bare).flatMap (·.as)).length ≤ _
  rw [List.flatMap_append, qw, qw]
  exact Nat.zero_le _
theorem M9 {zs : List Cs} {place i : Nat} {r : List Nat × List Nat} (hz : ∀ z ∈ zs, aN z = true) (QH : ∀ z ∈ zs, z ≠ zz) (ok : Ey zs.length r) : Eb (oI zs place) (ic (dh i) ((aT zs i r).map jq)) := by
 have hP := jr (i := i) hz ok
 have fits : ∀ n, ∀ f ∈ (eS n (aT zs i r)).map bare, pb (oI zs place) f := fun n f hf => by
  obtain ⟨z, F8, rfl⟩ := List.mem_map.mp hf
  obtain ⟨x, hx, hzx⟩ := Kt F8
  exact PU (KN ok x hx z hzx)
 have KP : dD (ic (dh i) ((aT zs i r).map jq)) = [] := by
  rw [il]
  show [] ++ (((eS 3 (aT zs i r)).map bare).flatMap (·.as) ++ []) = []
  rw [qw]
  rfl
 refine ⟨?_, ?_, ?_, ?_, ?_, ?_, ?_⟩
 ·rw [il]
  intro f hf
  rcases List.mem_append.mp hf with hf | hf
  ·rcases List.mem_append.mp hf with hf | hf
   ·exact fits 0 f hf
   ·exact fits 1 f hf
  ·exact fits 3 f hf
 ·rw [il, Gs]
  intro f hf
  have hf : f ∈ (eS 0 (aT zs i r)).map bare := hf
  rw [zK] at hf
  obtain ⟨z, F8, rfl⟩ := List.mem_map.mp hf
  exact fun h => QH z (EB ok.m1 z F8) (List.mem_singleton.mp h)
 ·rw [il, Gs]
  intro ht f hf
  have ht : (eS 0 (aT zs i r)).map bare = [] := ht
  have hf : f ∈ (eS 3 (aT zs i r)).map bare := hf
  rw [zK] at ht
  have h1 : r.1 = [] := List.map_eq_nil_iff.mp (List.map_eq_nil_iff.mp ht)
  rw [KL, if_pos h1] at hf
  obtain ⟨z, F8, rfl⟩ := List.mem_map.mp hf
  by_cases h2 : r.2 = []
  ·rw [if_pos h2] at F8; cases F8
  ·rw [if_neg h2] at F8; exact F8
 ·rw [KP]; exact fun a ha => by cases ha
 ·rw [KP]; exact fun a ha => by cases ha
 ·rw [KP]; exact Nat.zero_le _
 ·rw [il]
  have h0 := gC (n := 0) hP
  have h1 := gC (n := 1) hP
  have h3 := gC (n := 3) hP
  show (((eS 0 (aT zs i r)).map bare ++ (eS 1 (aT zs i r)).map bare) ++ (eS 3 (aT zs i r)).map bare).length ≤ _
  rw [List.length_append, List.length_append, Lm9, Lm9, Lm9]
  omega
theorem uU {zs : List Cs} {place : Nat} {rs : List (List Nat × List Nat)} (T : lJ zs place rs) {i : Nat} (h : i < rs.length) : Ey zs.length (rowAt rs i) := by
 refine T.ok _ ?_
 show rs.getD i ([], []) ∈ rs
 rw [Gd9, Ge9 h]
 exact List.getElem_mem h
theorem Na {zs : List Cs} {place : Nat} {rs : List (List Nat × List Nat)} : ∀ l ∈ cx zs place rs, told l = true := by
 intro l hl
 unfold cx at hl
 rcases List.mem_append.mp hl with hl | hl
 ·obtain ⟨k, _, rfl⟩ := List.mem_map.mp hl
  rw [nY]
  exact Eg
 ·unfold di at hl
  obtain ⟨i, _, rfl⟩ := List.mem_map.mp hl
  exact Ht _ _
theorem KQ {zs : List Cs} {place : Nat} {rs : List (List Nat × List Nat)} (T : lJ zs place rs) {f : Nat → Bool} (ID : ∀ c, bp c = true → f c = true) (Ef : f 32 = true) (PH : f 44 = true) (W8 : f 58 = true) (W9 : f 59 = true) : ∀ l ∈ cx zs place rs, l.all f = true := by
 intro l hl
 have hm := T.many
 unfold cx at hl
 rcases List.mem_append.mp hl with hl | hl
 ·obtain ⟨k, hk, rfl⟩ := List.mem_map.mp hl
  have h := Ez T k hk
  rw [nY]
  exact Hh Ef ID h.1 h.2
 ·unfold di at hl
  obtain ⟨i, hi, rfl⟩ := List.mem_map.mp hl
  have hi := List.mem_range.mp hi
  exact Kr ID Ef PH W8 W9 (rP (by omega)) fun x hx => ((jr T.sm (uU T hi)).each x hx).1
theorem Nb {zs : List Cs} {place : Nat} {rs : List (List Nat × List Nat)} (T : lJ zs place rs) : N0 (cx zs place rs) (wy zs place rs) := by
 have hm := T.many
 have hf := T.few
 have e := zJ zs place rs
 refine ⟨?_, ?_, ?_, ?_, ?_, ?_⟩
 ·rw [Gr]
  exact List.filter_eq_self.mpr Na
 ·intro x hx
  have h1 : x.1 ∈ cx zs place rs := by rw [← Gr]; exact List.mem_map.mpr ⟨x, hx, rfl⟩
  refine ⟨KQ T (fun c h => Pl h) (by decide +kernel) (by decide +kernel) (by decide +kernel) (by decide +kernel) _ h1, ?_⟩
  unfold wy at hx
  rcases List.mem_append.mp hx with hx | hx
  ·obtain ⟨k, hk, rfl⟩ := List.mem_map.mp hx
   have h := Ez T k hk
   refine ⟨?_, h⟩
   show toks (bG k) = x5 k
   rw [nY]
   exact Ee h.1 h.2 (by decide) (by decide)
  ·obtain ⟨i, hi, rfl⟩ := List.mem_map.mp hx
   have hi := List.mem_range.mp hi
   have hP := jr (i := i) T.sm (uU T hi)
   have ht := rP (i := i) (by omega)
   exact ⟨Hs ht (CH _ _ _) fun x hx => (hP.each x hx).1, PJ ht (CH _ _ _) (fun x hx => (hP.each x hx).1) (Hx _ _ _) (EA _ _ _), Sw _ hP⟩
 ·rw [e.1, KO]
  have hn := T.nd
  rw [← List.take_append_drop place zs] at hn
  have QH : zz ∉ zs := fun h => T.nz zz h rfl
  rw [List.nodup_append] at hn
  rw [List.append_assoc, List.nodup_append]
  refine ⟨hn.1, ?_, ?_⟩
  ·show (zz :: zs.drop place).Nodup
   rw [List.nodup_cons]
   exact ⟨fun h => QH (List.mem_of_mem_drop h), hn.2.1⟩
  ·intro a ha b hb
   rcases List.mem_cons.mp hb with hb | hb
   ·rw [hb]
    exact fun h => QH (by rw [← h]; exact List.mem_of_mem_take ha)
   ·exact hn.2.2 a ha b hb
 ·rw [e.2]
  unfold KJ
  rw [List.map_map, show ((fun r : Rl => r.title) ∘ fun i => ic (dh i) (Hw zs rs i)) = dh from rfl]
  refine List.Pairwise.map dh ?_ List.nodup_range
  intro a b h h2
  have : 48 + a = 48 + b := (List.cons.inj (List.cons.inj h2).2).1
  omega
 ·rw [e.1, e.2]
  intro r hr
  unfold KJ at hr
  obtain ⟨i, hi, rfl⟩ := List.mem_map.mp hr
  exact M9 T.sm T.nz (uU T (List.mem_range.mp hi))
 ·unfold wy oI
  rw [List.length_append, Lm9, List.length_append, List.length_append, Lm9, Lm9, Lm9, List.length_range, List.length_take, List.length_drop]
  show _ + 1 + _ + _ < _
  omega
theorem zM {zs : List Cs} (hn : zs.Nodup) {k : Nat} (hk : k < zs.length) : ∀ (l : List Nat), (∀ n ∈ l, n < zs.length) → many zs[k] ((nm zs l).map bare) = l.count k
 | [], _ => rfl
 | n :: l, h => by
  have ih := zM hn hk l fun m hm => h m (List.mem_cons_of_mem _ hm)
  have IJ := h n List.mem_cons_self
  have e : zs.getD n [] = zs[n] := by rw [Gd9, Ge9 IJ]; rfl
  unfold many at ih ⊢
  show ((bare (zs.getD n []) :: (nm zs l).map bare).filter fun f => decide (f.k = zs[k])).length = _
  rw [List.filter_cons, List.count_cons]
  by_cases e2 : n = k
  ·subst e2
   rw [if_pos (by rw [e]; exact decide_eq_true rfl), List.length_cons, ih]
   simp
  ·have ne : ¬ (bare (zs.getD n [])).k = zs[k] := by
    show ¬ zs.getD n [] = zs[k]
    rw [e]
    exact fun h => e2 ((List.getElem?_inj IJ hn).mp (by rw [Ge9 IJ, Ge9 hk, h]))
   rw [if_neg (by rw [decide_eq_false ne]; decide), ih]
   simp [e2]
theorem Nc {zs : List Cs} (hn : zs.Nodup) (QH : ∀ z ∈ zs, z ≠ zz) {i : Nat} {r : List Nat × List Nat} (ok : Ey zs.length r) : nv zs.length r = zs.map (Kw (ic (dh i) ((aT zs i r).map jq))) := by
 have ez : ∀ g : Cs → Int, zs.map g = (List.range zs.length).map fun k => g (zs.getD k []) := fun g => by
  apply List.ext_getElem
  ·simp
  ·intro k h1 h2
   simp at h1 h2
   simp [Gd9, h1]
 have hg : ∀ k, k < zs.length → zs.getD k [] ∈ zs := fun k hk => by
  rw [Gd9, Ge9 hk]
  exact List.getElem_mem hk
 rw [il, ez]
 unfold nv
 simp only [KI]
 rw [zK, KL]
 by_cases h1 : r.1 = []
 ·rw [if_pos h1, if_pos h1, h1]
  have hz : ∀ z ∈ zs, many z ((if r.2 = [] then ([] : List Cs) else [zz]).map bare) = 0 := fun z hz => by
   by_cases h2 : r.2 = []
   ·rw [if_pos h2]; rfl
   ·rw [if_neg h2]
    unfold many
    show ((([bare zz] : List Fc)).filter fun f => decide (f.k = z)).length = 0
    rw [List.filter_cons, if_neg (by rw [decide_eq_false (show ¬ (bare zz).k = z from fun h => QH z hz h.symm)]; decide)]
    rfl
  symm
  rw [List.eq_replicate_iff]
  refine ⟨by simp, fun b hb => ?_⟩
  obtain ⟨k, hk, rfl⟩ := List.mem_map.mp hb
  rw [hz _ (hg k (List.mem_range.mp hk))]
  rfl
 ·rw [if_neg h1, if_neg h1]
  refine List.map_congr_left fun k hk => ?_
  have hk := List.mem_range.mp hk
  have e : zs.getD k [] = zs[k] := by rw [Gd9, Ge9 hk]; rfl
  rw [e, zM hn hk _ ok.m2, zM hn hk _ ok.m1]
theorem Nd {zs : List Cs} {place : Nat} {rs : List (List Nat × List Nat)} (T : lJ zs place rs) : rs.map (nv zs.length) = (KJ zs rs).map fun r => (passing (oI zs place)).map (Kw r) := by
 rw [Gu]
 unfold KJ
 rw [List.map_map]
 apply List.ext_getElem
 ·simp
 ·intro i h1 h2
  simp at h1 h2
  have hr := uU T h1
  rw [List.getElem_map, List.getElem_map, List.getElem_range]
  have e : rs[i] = rowAt rs i := by
   show _ = rs.getD i ([], [])
   rw [Gd9, Ge9 h1]
   rfl
  rw [e]
  exact Nc T.nd T.nz hr
end Bk
namespace Bk
open PySem L2 fZ
def KR (K : PySem.W.Frag) : Sp := fun vs H Q _ => ∃ (ln lr : Addr) (zs : List Cs) (rs : List RI) (us : List V), vs = [.ref ln, .ref lr] ∧ H ln = some (.lst (zs.map tx)) ∧ H lr = some (.lst us) ∧ Paired (uO K H) rs us ∧ zs.length ≤ 5 ∧ rs.length ≤ 8 ∧ (∀ r ∈ rs, r.1.length ≤ 4 ∧ r.2.length ≤ 4) ∧
 ∀ u H', ah H H' → Table H H' u (rs.map (nv zs.length)) → Q u H'
theorem Gv (l : List Nat) : (nI l).all eT = true := by
 rw [List.all_eq_true]
 intro x hx
 obtain ⟨n, _, rfl⟩ := List.mem_map.mp hx
 rfl
theorem CI (n : Nat) : (List.replicate n [V.int 0]).flatten = (List.replicate n (0 : Int)).map V.int := by
 induction n with
 | zero => rfl
 | succ n ih => rw [List.replicate_succ, List.flatten_cons, ih, List.replicate_succ]; rfl
theorem CJ (l : List Nat) (k : Nat) : (nI l).countP (fun z => v9 z (V.int (k : Int))) = l.count k := by
 induction l with
 | nil => rfl
 | cons n l ih =>
  show (V.int (n : Int) :: nI l).countP _ = _
  rw [List.countP_cons, List.count_cons, ih]
  by_cases e : n = k
  ·subst e
   simp [v9]
  ·have z : ¬ ((n : Int) = (k : Int)) := by omega
   simp [v9, e, z]
end Bk
namespace L2
open PySem PySem.Spec PyProof.Rows
section
variable {g : TG} {tt : TT} {te : TE} {aG : List Nat} {σ : St} {H1 : Hp} {Q : VK} {K : PySem.W.Frag}
theorem KS {k : Nat} {a b D : Addr} {xs ys : List V} (n : Nat) (hx : xs.length = n) (hy : ys.length = n) (hn : n < sizeLine) (Pv : Nat → List V → St → Hp → Prop) (h0 : Pv 0 [] (nZ k σ aG) (upd H1 D (.lst [])))
  (hl : ∀ i zs τ H, Pv i zs τ H → ay K H a xs ∧ ay K H b ys) (hD : ∀ i zs τ H, Pv i zs τ H → H D = some (.lst zs) ∧ zs.length ≤ i)
  (hs : ∀ i zs τ H t v u, i < n → Pv i zs τ H → xs[i]? = some v → ys[i]? = some u → H t = none → g (.ref t) τ (upd H t (.tup [v, u])) fun τ2 H2 => tt τ2 H2 fun b H3 =>
   if b = true then te τ2 H3 fun y H4 => H4 D = some (.lst zs) ∧ Pv (i + 1) (zs ++ [y]) τ2 (upd H4 D (.lst (zs ++ [y]))) else Pv (i + 1) zs τ2 H3)
  (hd : ∀ zs τ H, Pv n zs τ H → Q (.ref D) H) : J0 k g tt te aG σ Q (Vj K a b) H1 D := by
 refine ⟨fun i m zs τ H => m = n - i ∧ i ≤ n ∧ Pv i zs τ H, ⟨n, by simp, Nat.zero_le _, h0⟩, ?_⟩
 rintro i m zs τ H ⟨rfl, hi, p⟩
 obtain ⟨iw, Vn⟩ := hD i zs τ H p
 obtain ⟨ha, hb⟩ := hl i zs τ H p
 refine ⟨iw, by omega, ?_⟩
 by_cases eO : i < n
 ·refine .inr ⟨⟨xs, ys, xs[i], ys[i], ha, hb, by simp, by simp⟩, Pv (i + 1), fun zs τ H' q => ⟨n - (i + 1), by omega, rfl, eO, q⟩, fun x H' y => ?_⟩
  obtain ⟨t, v, u, ht, rfl, rfl, h1, h2⟩ := y
  exact hs i zs τ H t v u eO p (h1 xs ha) (h2 ys hb) ht
 ·have e : i = n := by omega
  subst e
  exact .inl ⟨⟨xs, ys, ha, hb, .inl (by omega)⟩, hd zs τ H p⟩
end
end L2
namespace Bk
open PySem L2 fZ
def dot (xs ys : List Int) : Int := ((xs.zip ys).map fun p => p.1 * p.2).sum
abbrev sm (i : Int) : Prop := -(2 ^ 64) < i ∧ i < 2 ^ 64
def EC : Sp := fun vs H Q _ => ∃ (a b : Addr) (xs ys : List Int), vs = [.ref a, .ref b] ∧ H a = some (.lst (xs.map V.int)) ∧ H b = some (.lst (ys.map V.int)) ∧ xs.length = ys.length ∧ xs.length ≤ 1000 ∧ (∀ i ∈ xs, sm i) ∧ ∀ H', ah H H' → Q (.int (dot xs ys)) H'
abbrev PV : Str := Str.ofString "stays"
abbrev PX : Str := Str.ofString "never grows"
abbrev Xb : Str := Str.ofString "never falls"
def brk (s : Str) (c : Int) : Bool := if decide (V.str s = V.str PV) = true then !decide (V.int c = V.int 0) else if decide (V.str s = V.str PX) = true then decide (0 < c) else decide (c < 0)
theorem KU {xs ys : List Int} {i : Nat} (h1 : i < xs.length) (h2 : i < ys.length) : dot (xs.take (i + 1)) (ys.take (i + 1)) = dot (xs.take i) (ys.take i) + xs[i] * ys[i] := by
 unfold dot
 rw [List.take_succ, List.take_succ, Ge9 h1, Ge9 h2, List.zip_append (by rw [List.length_take, List.length_take]; omega)]
 simp
theorem PY {r : Rl} {z : Cs} (h1 : r.put.length ≤ 10000) (h2 : r.take.length ≤ 10000) : sm (Kw r z) := by
 unfold Kw sm
 have a1 := List.length_filter_le (fun f : Fc => decide (f.k = z)) r.put
 have a2 := List.length_filter_le (fun f : Fc => decide (f.k = z)) r.take
 omega
end Bk
namespace L2
open PySem
end L2
namespace Bk
open PySem L2 fZ
def qx (H : Hp) (r : List Int) (v : V) : Prop := ∃ a, v = .ref a ∧ H a = some (.lst (r.map V.int))
theorem qx.same {H H' : Hp} {r : List Int} {v : V} (s : ah H H') (h : qx H r v) : qx H' r v := by
 obtain ⟨a, e, h⟩ := h
 exact ⟨a, e, s _ _ h⟩
theorem lI.row {H0 H : Hp} {r : List Int} {v : V} (h : lI H0 H r v) : qx H r v := by
 obtain ⟨a, e, _, h⟩ := h
 exact ⟨a, e, h⟩
def ED (r : List Int) : V := if La.fp r < r.length then .int (La.fp r : Nat) else .cJ
theorem lg {n B C : Nat} (h : n ≤ 2 ^ B) (hB : B + 1 ≤ C) (hC : 0 < C) : n.log2 < C := by
 by_cases h0 : n = 0
 ·subst h0
  exact hC
 ·rw [Nat.log2_lt h0]
  exact Nat.lt_of_le_of_lt h (Nat.pow_lt_pow_right (by decide) (by omega))
def EF : Sp := fun vs H Q _ => ∃ (a : Addr) (r : List Int), vs = [.ref a] ∧ H a = some (.lst (r.map V.int)) ∧ r.length ≤ 1000 ∧ ∀ H', ah H H' → Q (ED r) H'
def yw : Sp := fun vs H Q _ => ∃ (a : Addr) (r : List Int), vs = [.ref a] ∧ H a = some (.lst (r.map V.int)) ∧ Q (.int (La.eR r : Nat)) H
def KW (H : Hp) (Q : VK) (r : List Int) : Prop := ∀ (p : Addr) (H' : Hp), ah H H' → H p = none → H' p = some (.lst (r.map V.int)) → Q (.ref p) H'
def zN : Sp := fun vs H Q _ => ∃ (a : Addr) (r : List Int) (B : Nat), vs = [.ref a] ∧ H a = some (.lst (r.map V.int)) ∧ La.Bd B r ∧ B ≤ 8000 ∧ r.length ≤ 1000 ∧ KW H Q (La.slim r)
def zO : Sp := fun vs H Q _ => ∃ (a b : Int) (u v : Addr) (x y : List Int) (B : Nat), vs = [.int a, .ref u, .int b, .ref v] ∧ H u = some (.lst (x.map V.int)) ∧ H v = some (.lst (y.map V.int)) ∧ x.length = y.length ∧ x.length ≤ 1000 ∧ a.natAbs ≤ 2 ^ B ∧ b.natAbs ≤ 2 ^ B ∧ La.Bd B x ∧ La.Bd B y ∧ B ≤ 50000 ∧ KW H Q (La.jl a x b y)
def KY : Sp := fun vs H Q _ => ∃ (u v : Addr) (row lead : List Int) (p B : Nat), vs = [.ref u, .ref v, .int (p : Int)] ∧ H u = some (.lst (row.map V.int)) ∧ H v = some (.lst (lead.map V.int)) ∧ row.length = lead.length ∧ p < row.length ∧ row.length ≤ 1000 ∧ La.Bd B row ∧ La.Bd B lead ∧ B ≤ 3000 ∧ KW H Q (La.nq lead p row)
def PZ : Sp := fun vs H Q _ => ∃ (l : Addr) (us : List V) (rows : List (List Int)), vs = [.ref l] ∧ H l = some (.lst us) ∧ Paired (qx H) rows us ∧ rows.length ≤ 1000 ∧ (∀ r ∈ rows, r.length ≤ 1000) ∧ ∀ (p : Addr) (ws : List V) (H' : Hp), ah H H' → H p = none → H' p = some (.lst ws) → (∀ w ∈ ws, w ∈ us) → Paired (qx H') (La.wo rows) ws → Q (.ref p) H'
def zP : Sp := fun vs H Q _ => ∃ (a : Addr) (r : List Int) (B : Nat), vs = [.ref a] ∧ H a = some (.lst (r.map V.int)) ∧ La.Bd B r ∧ B ≤ 8000 ∧ r.length ≤ 1000 ∧ La.fp r < r.length ∧ KW H Q (La.above r)
def KZ : Sp := fun vs H Q _ => ∃ (l : Addr) (us : List V) (rows : List (List Int)) (w B : Nat), vs = [.ref l] ∧ H l = some (.lst us) ∧ Paired (qx H) rows us ∧ rows.length ≤ 500 ∧ w ≤ 1000 ∧ (∀ r ∈ rows, r.length = w) ∧ (∀ r ∈ rows, La.Bd B r) ∧ (B + 1) * 2 ^ rows.length ≤ 3000 ∧ ∀ u H', ah H H' → Table H H' u (La.reduced rows) → Q u H'
def EG : Sp := fun vs H Q _ => ∃ (l : Addr) (us : List V) (R : List (List Int)) (f w B : Nat), vs = [.ref l, .int (f : Int), .int (w : Int)] ∧ H l = some (.lst us) ∧ Paired (qx H) R us ∧ La.uE w R ∧ (∀ r ∈ R, La.Bd B r) ∧ f < w ∧ w ≤ 1000 ∧ R.length * B + B ≤ 4000 ∧ R.length ≤ 500 ∧ KW H Q (La.b7 R f w)
def zQ (K : PySem.W.Frag) (c : Cl) : Sp := fun vs H Q _ => ∃ (v : V) (H0 : Hp) (ks : List Kd) (rs : List Rl), vs = [v] ∧ t7 K c H0 H ks rs v ∧ ks.length ≤ 10000 ∧ rs.length ≤ 8 ∧ (∀ r ∈ rs, r.put.length ≤ 4 ∧ r.take.length ≤ 4) ∧ (passing ks).length ≤ 5 ∧ ∀ u H', ah H H' → Table H H' u (La.cE (uN ks rs) (passing ks).length) → Q u H'
end Bk
namespace Bk
open PySem L2 fZ
theorem zR (xs : List (List Int)) : ∀ (r : List (List Int)) (n bi : Nat) (b0 : List Int), xs.drop n = r → xs[bi]? = some b0 → bi < n → gz (fun i => ((La.fp (xs.getD i []) : Nat) : Int)) n bi →
  ∃ i, xs[i]? = some (r.foldl (fun a b => if La.fp b < La.fp a then b else a) b0) ∧ gz (fun i => ((La.fp (xs.getD i []) : Nat) : Int)) xs.length i
 | [], n, bi, b0, hd, hb, eO, hm => by
  have hn : xs.length ≤ n := List.drop_eq_nil_iff.mp hd
  exact ⟨bi, hb, fun j hj => hm j (by omega)⟩
 | t :: r, n, bi, b0, hd, hb, eO, hm => by
  have Sx : n < xs.length := by
   rcases Nat.lt_or_ge n xs.length with q | q
   ·exact q
   ·rw [List.drop_eq_nil_of_le q] at hd; cases hd
  rw [List.drop_eq_getElem_cons Sx] at hd
  obtain ⟨e1, e2⟩ := List.cons.inj hd
  have hn : xs[n]? = some t := by rw [Ge9 Sx, e1]
  have g1 : xs.getD n [] = t := by rw [Gd9, hn]; rfl
  have g2 : xs.getD bi [] = b0 := by rw [Gd9, hb]; rfl
  rw [List.foldl_cons]
  by_cases h : La.fp t < La.fp b0
  ·rw [if_pos h]
   refine zR xs r (n + 1) n t e2 hn (by omega) fun j hj => ?_
   show ((La.fp (xs.getD n []) : Nat) : Int) ≤ ((La.fp (xs.getD j []) : Nat) : Int) ∧ (j < n → ((La.fp (xs.getD n []) : Nat) : Int) < ((La.fp (xs.getD j []) : Nat) : Int))
   rw [g1]
   rcases Nat.lt_or_ge j n with q | q
   ·have y : ((La.fp (xs.getD bi []) : Nat) : Int) ≤ ((La.fp (xs.getD j []) : Nat) : Int) := (hm j q).1
    rw [g2] at y
    exact ⟨by omega, fun _ => by omega⟩
   ·have e : j = n := by omega
    subst e
    rw [g1]
    exact ⟨Int.le_refl _, fun q => by omega⟩
  ·rw [if_neg h]
   refine zR xs r (n + 1) bi b0 e2 hb (by omega) fun j hj => ?_
   rcases Nat.lt_or_ge j n with q | q
   ·exact hm j q
   ·have e : j = n := by omega
    subst e
    show ((La.fp (xs.getD bi []) : Nat) : Int) ≤ ((La.fp (xs.getD j []) : Nat) : Int) ∧ (j < bi → _)
    rw [g1, g2]
    exact ⟨by omega, fun q => by omega⟩
theorem EH {xs : List (List Int)} (h : xs ≠ []) : ∃ i, xs[i]? = some (La.wx xs) ∧ gz (fun i => ((La.fp (xs.getD i []) : Nat) : Int)) xs.length i := by
 cases xs with
 | nil => exact absurd rfl h
 | cons a r =>
  refine zR (a :: r) r 1 0 a rfl rfl (by omega) fun j hj => ?_
  have e : j = 0 := by omega
  subst e
  exact ⟨Int.le_refl _, fun q => by omega⟩
theorem Nf {n : Nat} {found : List (List Int)} : La.red n found [] = found := by
 cases n with
 | zero => rfl
 | succ n => unfold La.red; rw [if_pos rfl]
theorem P0 {n : Nat} {found left : List (List Int)} (h : left ≠ []) : La.red (n + 1) found left = La.red n (La.dJ found left) (La.jm left) := by
 show (if left = [] then found else La.red n (La.dJ found left) (La.jm left)) = _
 rw [if_neg h]
end Bk
namespace Bk
theorem Gw {r fr : Nat} (h : fr + r ≤ 5) : (r * (3 * 2 ^ r - 1) + (3 * 2 ^ r - 1) + 1) * 2 ^ fr ≤ 1000 ∧ r * (3 * 2 ^ r - 1) + (3 * 2 ^ r - 1) ≤ 1000 := by
 have hr : r ≤ 5 := by omega
 have yx : ∀ k, fr ≤ k → 2 ^ fr ≤ 2 ^ k := fun k hk => Nat.pow_le_pow_right (by decide) hk
 rcases (by omega : r = 0 ∨ r = 1 ∨ r = 2 ∨ r = 3 ∨ r = 4 ∨ r = 5) with e | e | e | e | e | e <;> subst e
 ·exact ⟨Nat.le_trans (Nat.mul_le_mul_left _ (yx 5 (by omega))) (by decide), by decide⟩
 ·exact ⟨Nat.le_trans (Nat.mul_le_mul_left _ (yx 4 (by omega))) (by decide), by decide⟩
 ·exact ⟨Nat.le_trans (Nat.mul_le_mul_left _ (yx 3 (by omega))) (by decide), by decide⟩
 ·exact ⟨Nat.le_trans (Nat.mul_le_mul_left _ (yx 2 (by omega))) (by decide), by decide⟩
 ·exact ⟨Nat.le_trans (Nat.mul_le_mul_left _ (yx 1 (by omega))) (by decide), by decide⟩
 ·exact ⟨Nat.le_trans (Nat.mul_le_mul_left _ (yx 0 (by omega))) (by decide), by decide⟩
theorem CK {E : List (List Int)} {w : Nat} (hw : w ≤ 5) (hl : ∀ e ∈ E, e.length = w) (hb : ∀ e ∈ E, La.Bd 2 e) : (∀ r ∈ La.reduced E, La.Bd (3 * 2 ^ (La.reduced E).length - 1) r) ∧ (La.cM (La.reduced E) w).length + (La.reduced E).length ≤ 5 ∧ ∀ s ∈ La.cE E w, La.Bd 1000 s := by
 obtain ⟨R1, R2, _⟩ := La.jM hl
 have QI := La.Et (w := w) (La.wo E).length 2 [] (La.wo E) (La.jo hl) (Nat.le_refl _) fun r hr => by
  have h2 : r ∈ La.wo E := by simpa using hr
  exact hb r (List.mem_filter.mp h2).1
 have rn := La.CA R1
 refine ⟨QI, by omega, fun s hs => ?_⟩
 have hY : ∀ y ∈ (La.cM (La.reduced E) w).map fun f => La.b7 (La.reduced E) f w, y.length = w := fun y hy => by
  obtain ⟨f, _, rfl⟩ := List.mem_map.mp hy
  exact La.bI
 obtain ⟨h1, h2⟩ := Gw (r := (La.reduced E).length) (fr := (La.cM (La.reduced E) w).length) (by omega)
 have hbY : ∀ y ∈ (La.cM (La.reduced E) w).map fun f => La.b7 (La.reduced E) f w, La.Bd ((La.reduced E).length * (3 * 2 ^ (La.reduced E).length - 1) + (3 * 2 ^ (La.reduced E).length - 1)) y := fun y hy => by
  obtain ⟨f, _, rfl⟩ := List.mem_map.mp hy
  exact La.Gm QI
 have Y3 := La.Et (w := w) _ _ [] _ (La.jo hY) (Nat.le_refl _) (fun r hr => by
  have h2 : r ∈ La.wo ((La.cM (La.reduced E) w).map fun f => La.b7 (La.reduced E) f w) := by simpa using hr
  exact hbY r (List.mem_filter.mp h2).1) s hs
 refine Y3.mono ?_
 obtain ⟨_, _, _, d⟩ := La.zB (w := w) _ [] _ (La.jo hY) (Nat.le_refl _)
 have Qx : (La.wo ((La.cM (La.reduced E) w).map fun f => La.b7 (La.reduced E) f w)).length ≤ (La.cM (La.reduced E) w).length := by
  have := List.length_filter_le (fun r : List Int => decide (La.fp r < r.length)) ((La.cM (La.reduced E) w).map fun f => La.b7 (La.reduced E) f w)
  rw [Lm9] at this
  exact this
 rw [List.length_nil, Nat.zero_add] at d
 have hp : 2 ^ ((La.red (La.wo ((La.cM (La.reduced E) w).map fun f => La.b7 (La.reduced E) f w)).length [] (La.wo ((La.cM (La.reduced E) w).map fun f => La.b7 (La.reduced E) f w))).length - ([] : List (List Int)).length) ≤ 2 ^ (La.cM (La.reduced E) w).length := Nat.pow_le_pow_right (by decide) (by rw [List.length_nil]; omega)
 have := Nat.le_trans (Nat.mul_le_mul_left ((La.reduced E).length * (3 * 2 ^ (La.reduced E).length - 1) + (3 * 2 ^ (La.reduced E).length - 1) + 1) hp) h1
 omega
end Bk
namespace Bk
open PySem L2 fZ
def zS : Sp := fun vs H Q _ => ∃ (a : Addr) (r : List Int), vs = [.ref a] ∧ H a = some (.lst (r.map V.int)) ∧ r.length ≤ 1000 ∧ Q (.int (La.fp r : Nat)) H
end Bk
namespace Bk
open PySem L2 fZ
structure EI (w : Nat) (S : List (List Int)) : Prop where
 wu : La.uE w S
 one : ∀ s ∈ S, La.eR s = 1
 few : S.length ≤ 100
 Y4 : w ≤ 1000
def EJ : Sp := fun vs H Q _ => ∃ (l : Addr) (us : List V) (S : List (List Int)) (i w : Nat), vs = [.ref l, .int (i : Int), .int (w : Int)] ∧ H l = some (.lst us) ∧ Paired (qx H) S us ∧ EI w S ∧ i < S.length ∧ Q (.bl true) H
def uV : Sp := fun vs H Q _ => ∃ (l lt : Addr) (us ws : List V) (S EE : List (List Int)) (w : Nat), vs = [.ref l, .ref lt, .int (w : Int)] ∧ H l = some (.lst us) ∧ Paired (qx H) S us ∧ H lt = some (.lst ws) ∧ Paired (qx H) EE ws ∧ EI w S ∧ (∀ e ∈ EE, e.length = w ∧ ∀ i ∈ e, sm i) ∧ EE.length ≤ 1000 ∧ (∀ s ∈ S, ∀ e ∈ EE, La.dot e s = 0) ∧ ∀ H', ah H H' → Q (.bl true) H'
theorem uE.before {w : Nat} {S : List (List Int)} (E : La.uE w S) {i j : Nat} (hi : i < S.length) (hj : j < S.length) (h : i < j) : La.fp S[i] < La.fp S[j] := (List.pairwise_iff_getElem.mp E.ord i j hi hj h).1
end Bk
namespace gf
open PySem L2 fZ Bk
set_option maxHeartbeats 4000000
def top (i : Nat) : Stmt := PySem.Challenge.pw_poolrules_k35_standing_rows.main.body.getD i (.Pass ⟨0, 0, 0, 0⟩)
abbrev Vp : Stmt := top 0
abbrev zT : Stmt := top 2
abbrev qy : Stmt := top 3
abbrev qz : Stmt := top 4
abbrev qA : Stmt := top 5
abbrev iC : Stmt := top 6
abbrev qB : Stmt := top 8
abbrev fT : Stmt := top 9
abbrev uW : Stmt := top 10
abbrev og : Stmt := top 12
abbrev qC : Stmt := top 13
abbrev dU : Stmt := top 14
abbrev gD : Stmt := top 15
abbrev iD : Stmt := top 16
abbrev fU : Stmt := top 31
abbrev qD : Stmt := top 32
abbrev oh : Stmt := top 33
abbrev gE : Stmt := top 34
abbrev gF : Stmt := top 35
abbrev uX : Stmt := top 36
abbrev oi : Stmt := top 37
abbrev oj : Stmt := top 38
abbrev qE : Stmt := top 39
abbrev gG : Stmt := top 40
abbrev iE : Stmt := top 42
abbrev iF : Stmt := top 43
abbrev lM : Stmt := inClass (top 45) 0
abbrev Ng : Stmt := inClass (top 45) 1
abbrev N5 : Stmt := inClass (top 45) 2
abbrev Nh : Stmt := inClass (top 46) 0
abbrev N6 : Stmt := inClass (top 46) 1
abbrev K0 : Stmt := inClass (top 47) 0
abbrev L0 : Stmt := inClass (top 47) 1
abbrev jP : Stmt := top 54
abbrev qF : Stmt := top 55
abbrev iG : Stmt := top 56
abbrev lN : Stmt := top 57
abbrev lO : Stmt := top 58
abbrev lP : Stmt := top 59
abbrev jQ : Stmt := top 60
abbrev lQ : Stmt := top 61
abbrev jR : Stmt := top 62
abbrev lS : Stmt := top 63
abbrev dW : Stmt := top 64
abbrev uY : Stmt := top 65
abbrev lT : Stmt := inClass (top 67) 0
abbrev jS : Stmt := inClass (top 67) 1
abbrev lU : Stmt := inClass (top 68) 0
abbrev jT : Stmt := top 69
abbrev lV : Stmt := top 70
abbrev lW : Stmt := top 71
abbrev jU : Stmt := top 72
abbrev jV : Stmt := top 73
abbrev iH : Stmt := top 74
abbrev jW : Stmt := top 75
abbrev lX : Stmt := top 77
abbrev iI : Stmt := top 78
abbrev lY : Stmt := top 79
abbrev jX : Stmt := top 80
abbrev jY : Stmt := top 81
abbrev gH : Stmt := top 82
abbrev om : Stmt := top 83
abbrev jZ : Stmt := top 84
abbrev lZ : Stmt := top 85
abbrev j0 : Stmt := top 86
abbrev iJ : Stmt := top 87
abbrev iK : Stmt := top 88
abbrev pJ : Stmt := top 89
section
variable {P : Program} {w : World} {K : PySem.W.Frag} {mg : Str → Option Value} {base : Heap} {f : Addr} {fd : FuncData} {c : Cl}
theorem se : ar ["sign"] ["sign"] (ao gE) := ⟨rfl, rfl, rfl, by decide +kernel, rfl, by decide +kernel, by decide +kernel⟩
theorem sf {u1 u2 u3 : Value} (F : bu K "is_name_sign" "is_name_sign" gE f fd) (zU : mg "SMALL" = some u1) (zV : RelV (.str iz) u1) (zW : mg "GREAT" = some u2) (zX : RelV (.str qi) u2) (Hz : mg "FIGURES" = some u3) (HA : RelV (.str MG) u3) :
  aX P w K mg base cO 1 f fd ["sign"] yW := by
 refine F.ok se (fun vs H Q E h => ?_) (fun cu A outer s H vs Q E hr h => ?_)
 ·obtain ⟨c, rfl, _⟩ := h
  rfl
 obtain ⟨c, rfl, q⟩ := h
 refine ⟨_, (ag (ax (IQ (dN gk (pv 0) (c5 rfl zU zV) (by with_unfolding_all rfl)) (IQ (dN gk (pv 0) (c5 rfl zW zX) (by with_unfolding_all rfl)) (tD (dN gk (pv 0) (c5 rfl Hz HA) (by with_unfolding_all rfl))))))), ?_⟩
 refine ⟨_, rfl, _, _, rfl, rfl, _, rfl, ?_⟩
 rw [StrLaws.found_one]
 refine cK (fun z => ?_) (fun z => ?_)
 ·have e : bp c = true := by unfold bp; rw [z]; rfl
  rw [e] at q
  exact q
 refine ⟨_, rfl, _, _, rfl, rfl, _, rfl, ?_⟩
 rw [StrLaws.found_one]
 have z' : decide (c ∈ iz.cps.toList) = false := by simpa using z
 refine cK (fun y => ?_) (fun y => ?_)
 ·have e : bp c = true := by unfold bp; rw [y]; simp
  rw [e] at q
  exact q
 have y' : decide (c ∈ qi.cps.toList) = false := by simpa using y
 refine ⟨_, rfl, _, _, rfl, rfl, ?_⟩
 rw [StrLaws.found_one]
 have e : bp c = decide (c ∈ MG.cps.toList) := by unfold bp; rw [z', y']; rfl
 rw [e] at q
 exact q
theorem EK : ar ["text"] ["text"] (ao qD) := ⟨rfl, rfl, rfl, by decide +kernel, rfl, by decide +kernel, by decide +kernel⟩
theorem EL {u1 : Value} (F : bu K "is_name" "is_name" qD f fd) (cy : bb P w K mg base "is_name_sign" 1 ["sign"] yW)
  (aW : mg "len" = none) (Sy : mg "all" = none) (HB : mg "LONGEST" = some u1) (HC : RelV (.int 12) u1) : aX P w K mg base cO 2 f fd ["text"] (wq fC) := by
 refine F.ok EK (fun vs H Q E h => ?_) (fun cu A outer s H vs Q E hr h => ?_)
 ·obtain ⟨c, rfl, _⟩ := h
  rfl
 obtain ⟨x, rfl, hx, q⟩ := h
 refine ⟨_, (ag (ax (DE (I0 NK NK ai (aF jC rfl aW PySem.boot_len (aa (pv 0) ae)) (c5 rfl HB HC)) (tD (aF Jo rfl Sy PyProof.Rows.boot_all (aa (bX [] rfl (by kernel_rfl) (O2 (pv 0)) (fun _ _ _ _ _ => bH) (fun _ _ _ _ _ => (ak cy (hr.mono (by decide)) rfl (aa (pv 0) ae)))) ae)))))), ?_⟩
 refine ⟨_, rfl, x, rfl, sz (by omega), _, _, rfl, rfl, _, rfl, ?_⟩
 refine cK (fun c1 => ?_) (fun c1 => ?_)
 ·refine ⟨_, _, rfl, rfl, _, rfl, ?_⟩
  refine cK (fun c2 => ?_) (fun c2 => ?_)
  ·refine ⟨_, rfl, x, rfl, fun D hD => ?_⟩
   refine Jn (x := x) (f9 (show x.cps.size ≤ 100000 by have z : x.cps.size ≤ 20000 := hx; omega)) (fun i ys H' => ah H H' ∧ H' D = some (.lst ys) ∧ ys = ((x.cps.toList.take i).map bp).map V.bl) ⟨aj hD _, af, rfl⟩ (fun i ys H' p => ⟨p.2.1, ?_⟩) (fun i ys H' hi p => ?_) (fun ys H' p => ?_)
   ·rw [p.2.2]
    simp
    omega
   ·refine ⟨_, rfl, _, rfl, p.2.1, ?_⟩
    refine ⟨fun b o e => ?_, af, ?_⟩
    ·rw [aq (aI e hD)]
     exact p.1 b o e
    ·rw [p.2.2]
     have NS : i < x.cps.toList.length := by simpa using hi
     rw [List.take_succ_eq_append_getElem NS]
     simp [Array.getD_eq_getD_getElem?, hi]
   ·refine ⟨D, (x.cps.toList.map bp), rfl, rfl, .inl (.inl ?_), ?_⟩
    ·rw [p.2.1, p.2.2, List.take_of_length_le (by simp)]
    ·have e : fC x = (x.cps.toList.map bp).all id := by
      unfold fC
      rw [c1, c2]
      simp [List.all_map, Function.comp_def]
     have q' := q H' p.1
     rw [e] at q'
     exact q'
  ·have e : fC x = false := by
    unfold fC
    have Sz : decide ((x.length : Int) ≤ 12) = false := by simpa using c2
    rw [Sz]
    simp
   have q' := q H (ah.refl H)
   rw [e] at q'
   exact q'
 ·have e : fC x = false := by
   unfold fC
   have c1' : decide ((1 : Int) ≤ x.length) = false := by simpa using c1
   rw [c1']
   simp
  have q' := q H (ah.refl H)
  rw [e] at q'
  exact ⟨_, rfl, bw q'⟩
theorem qG : ar ["text"] ["text"] (ao fU) := ⟨rfl, rfl, rfl, by decide +kernel, rfl, by decide +kernel, by decide +kernel⟩
theorem qH {u1 : Value} (F : bu K "is_small_word" "is_small_word" fU f fd) (cI : bb P w K mg base "is_name" 2 ["text"] (wq fC))
  (zU : mg "SMALL" = some u1) (zV : RelV (.str iz) u1) : aX P w K mg base cO 3 f fd ["text"] (wq iA) := by
 refine F.ok qG (fun vs H Q E h => ?_) (fun cu A outer s H vs Q E hr h => ?_)
 ·obtain ⟨c, rfl, _⟩ := h
  rfl
 obtain ⟨x, rfl, hx, q⟩ := h
 refine ⟨_, (ag (ax (DE (ak cI (hr.mono (by decide)) rfl (aa (pv 0) ae)) (tD (dN gk (az qc (pv 0) ai (fun _ _ => rfl)) (c5 rfl zU zV) (by with_unfolding_all rfl)))))), ?_⟩
 refine ⟨_, rfl, x, rfl, hx, fun H' sm => ⟨_, rfl, ?_⟩⟩
 have q' := q H' sm
 unfold iA at q'
 refine cK (fun c => ?_) (fun c => ?_)
 ·refine ⟨_, rfl, x, 0, _, rfl, rfl, sz (by omega), FY (Jy c), _, _, rfl, rfl, ?_⟩
  rw [StrLaws.found_one]
  rw [c, Bool.true_and] at q'
  exact q'
 ·have e : fC x = false := by simpa using c
  rw [e, Bool.false_and] at q'
  exact q'
theorem l8 : ar ["text", "start", "end"] ["text", "start"] (ao oi) := ⟨rfl, rfl, rfl, by decide +kernel, rfl, by decide +kernel, by decide +kernel⟩
theorem CL (F : bu K "name_end" "name_end" oi f fd) (cy : bb P w K mg base "is_name_sign" 1 ["sign"] yW) (aW : mg "len" = none) : aX P w K mg base cO 2 f fd ["text", "start"] JA := by
 refine F.ok l8 (fun vs H Q E h => ?_) (fun cu A outer s H vs Q E hr h => ?_)
 ·obtain ⟨x, p, rfl, _⟩ := h
  rfl
 obtain ⟨x, p, rfl, hx, hp, q⟩ := h
 have hl := yU x
 refine ⟨_, (ab (aw (i := 2) l8.nd rfl (Or.inl rfl) (pv 1))
 (ab (gr PassesOwn.never (PW.pt (k4 (au tI (pv 2) (aF jC rfl aW PySem.boot_len (aa (pv 0) ae)) (aH _)) (jB (bT (ak cy (hr.mono (by decide)) rfl (aa (az qc (pv 0) (pv 2) (fun _ _ => rfl)) ae))))))
 (ag (yG (i := 2) l8.nd rfl (Or.inl rfl) ai yH)))
 (ag (ax (pv 2))))), ?_⟩
 refine ⟨_, rfl, fun m σ H' => H' = H ∧ ∃ j : Nat, m = x.length - (p + j) ∧ σ = [some (.str x), some (.int p), some (.int ((p + j : Nat) : Int))] ∧ p + j ≤ x.length ∧ bA (x.cps.toList.drop p) = j + bA (x.cps.toList.drop (p + j)), ⟨_, rfl, 0, rfl, rfl, hp, by simp⟩, ?_⟩
 rintro m σ H' ⟨rfl, j, rfl, rfl, hj, e⟩
 refine ⟨_, rfl, _, rfl, x, rfl, sz (by omega), _, _, rfl, rfl, _, rfl, ?_⟩
 refine cK (fun c => ?_) (fun c => ?_)
 ·have c' : p + j < x.length := by
   have z := of_decide_eq_true c
   omega
  have hd : x.cps.toList.drop (p + j) = x.cps.toList.getD (p + j) 0 :: x.cps.toList.drop (p + j + 1) := B3 (by omega)
  rw [hd, yX] at e
  refine ⟨_, rfl, _, rfl, x, _, _, rfl, rfl, sz (by omega), Jz (by omega) (by omega), _, rfl, _, rfl, ?_⟩
  rw [show ((p + j : Nat) : Int).toNat = p + j by omega]
  refine cK (fun c2 => ?_) (fun c2 => ?_)
  ·rw [if_pos c2] at e
   refine ⟨fun σ' H2 => H2 = H' ∧ σ' = [some (.str x), some (.int p), some (.int ((p + (j + 1) : Nat) : Int))], fun σ' H2 z => ⟨x.length - (p + (j + 1)), by omega, z.1, j + 1, rfl, z.2, by omega, by rw [← Nat.add_assoc]; omega⟩, ?_⟩
   refine ⟨_, rfl, _, _, rfl, rfl, rfl, ?_⟩
   show [some (V.str x), some (V.int p), some (V.int (((p + j : Nat) : Int) + 1))] = _
   rw [show ((p + (j + 1) : Nat) : Int) = ((p + j : Nat) : Int) + 1 by omega]
  ·rw [if_neg c2] at e
   refine ⟨_, rfl, ?_⟩
   rw [e] at q
   exact q
 ·have c' : ¬ (p + j < x.length) := fun z => c (decide_eq_true (by omega))
  have hd : x.cps.toList.drop (p + j) = [] := List.drop_eq_nil_of_le (by omega)
  rw [hd] at e
  refine bw ⟨_, rfl, ?_⟩
  rw [e] at q
  exact q
theorem eY : ar ["text", "marks", "found", "place", "end", "sign"] ["text", "marks"] (ao uX) := ⟨rfl, rfl, rfl, by decide +kernel, rfl, by decide +kernel, by decide +kernel⟩
theorem HD (F : bu K "pieces" "pieces" uX f fd) (oo : bb P w K mg base "name_end" 2 ["text", "start"] JA) (aW : mg "len" = none) : aX P w K mg base cO 3 f fd ["text", "marks"] t8 := by
 refine F.ok eY (fun vs H Q E h => ?_) (fun cu A outer s H vs Q E hr h => ?_)
 ·obtain ⟨x, m, rfl, _⟩ := h
  rfl
 obtain ⟨x, mk, rfl, hx, Xc, bt, q⟩ := h
 have hl := yU x
 refine ⟨_, (ab (aw (i := 2) eY.nd rfl (Or.inl rfl) (bo ae))
 (ab (aw (i := 3) eY.nd rfl (Or.inl rfl) ai)
 (ab (gr PassesOwn.never (au tI (pv 3) (aF jC rfl aW PySem.boot_len (aa (pv 0) ae)) (aH _))
 (ab (aw (i := 4) eY.nd rfl (Or.inl rfl) (ak oo (hr.mono (by decide)) rfl (aa (pv 0) (aa (pv 3) ae))))
 (ab (aV (au ny (pv 4) (pv 3) (aH _))
 (ab (a6 (bY PySem.F.plainAttrs_list PySem.F.slot_list_append PySem.F.type_list_append aZ (pv 2) (aa (fw O3 (pv 0) (e9 (pv 3)) (e9 (pv 4))) ae)))
 (ab (aw (i := 3) eY.nd rfl (Or.inl rfl) (pv 4))
 (ag BO)))
 aA)
 (ab (aw (i := 5) eY.nd rfl (Or.inl rfl) (az qc (pv 0) (pv 3) (fun _ _ => rfl)))
 (ab (aV (au gk (pv 5) (pv 1) (by with_unfolding_all rfl))
 (ag (a6 (bY PySem.F.plainAttrs_list PySem.F.slot_list_append PySem.F.type_list_append aZ (pv 2) (aa (pv 5) ae))))
 (ag (aV (au dH (pv 5) aR (aH _))
 aY
 aA)))
 (ag (yG (i := 3) eY.nd rfl (Or.inl rfl) ai yH)))))))
 (ag (ax (pv 2)))))), ?_⟩
 refine ⟨(by show 0 ≤ sizeLine; decide), fun l HE => ?_⟩
 refine ⟨FZ x mk l H, ⟨_, 0, [], none, none, rfl, rfl, Nat.zero_le _, aj HE _, af, rfl⟩, ?_⟩
 rintro m σ H' ⟨p, done, o3, o4, rfl, rfl, hp, sm, hL, e⟩
 have hlen : done.length ≤ 20000 := by
  have z := congrArg List.length e
  rw [List.length_append] at z
  have z2 := B6 x.cps.toList
  omega
 refine ⟨_, rfl, _, rfl, x, rfl, sz (by omega), _, _, rfl, rfl, _, rfl, ?_⟩
 refine cK (fun c => ?_) (fun c => ?_)
 ·have c' : p < x.length := by
   have z := of_decide_eq_true c
   omega
  refine ⟨fun σ' H2 => ∃ m', m' < x.length - p ∧ FZ x mk l H m' σ' H2, fun σ' H2 z => z, ?_⟩
  refine ⟨_, rfl, _, rfl, x, p, rfl, hx, hp, ?_⟩
  refine ⟨_, rfl, _, rfl, _, _, rfl, rfl, _, rfl, ?_⟩
  have hd := B3 (l := x.cps.toList) (i := p) (by omega)
  have Y5 := DY (x.cps.toList.drop p)
  rw [List.length_drop] at Y5
  refine cK (fun c2 => ?_) (fun c2 => ?_)
  ·have Sz : 0 < bA (x.cps.toList.drop p) := by
    have z := of_decide_eq_true c2
    omega
   refine ⟨_, rfl, .inl ⟨rfl, _, ay.of hL⟩, _, rfl, _, rfl, _, rfl, _, rfl, _, rfl, x, rfl, sz (by omega), ?_⟩
   rw [MK (by omega)]
   refine ⟨l, _, _, rfl, rfl, hL, (by rw [Lm9]; exact f9 (by omega)), ?_⟩
   refine ⟨_, rfl, x.length - (p + bA (x.cps.toList.drop p)), by omega, p + bA (x.cps.toList.drop p), done ++ [(x.cps.toList.drop p).take (bA (x.cps.toList.drop p))], _, _, rfl, rfl, by omega, ah.aS sm HE _, ?_, ?_⟩
   ·rw [af, List.map_append]
    rfl
   ·rw [t5 (by omega), List.drop_drop] at e
    rw [List.append_assoc]
    exact e
  ·have Sz : bA (x.cps.toList.drop p) = 0 := by
    have z : ¬ ((p : Int) < ((p + bA (x.cps.toList.drop p) : Nat) : Int)) := fun z => c2 (decide_eq_true z)
    omega
   have ID : bp (x.cps.toList.getD p 0) = false := by
    rw [hd] at Sz
    exact yT Sz
   have Vq : NW mk (x.cps.toList.getD p 0) = true := by
    rw [List.all_eq_true] at bt
    exact bt _ (List.mem_of_getElem? (getD_get (by omega)))
   refine ⟨_, rfl, _, rfl, x, p, _, rfl, rfl, sz (by omega), Jz (by omega) (by omega), ?_⟩
   rw [show ((p : Nat) : Int).toNat = p by omega]
   refine ⟨_, rfl, _, rfl, _, _, rfl, rfl, _, rfl, ?_⟩
   rw [StrLaws.found_one]
   rw [hd] at e
   refine cK (fun c3 => ?_) (fun c3 => ?_)
   ·have hb : x.cps.toList.getD p 0 ≠ 32 := fun z => Xc (by have := of_decide_eq_true c3; rw [z] at this; exact this)
    rw [nW ID hb] at e
    refine ⟨_, rfl, .inl ⟨rfl, _, ay.of hL⟩, _, rfl, l, _, _, rfl, rfl, hL, (by rw [Lm9]; exact f9 (by omega)), ?_⟩
    refine ⟨_, rfl, _, _, rfl, rfl, x.length - (p + 1), by omega, p + 1, done ++ [[x.cps.toList.getD p 0]], _, _, rfl, rfl, by omega, ah.aS sm HE _, ?_, ?_⟩
    ·rw [af, List.map_append]
     rfl
    ·rw [List.append_assoc]
     exact e
   ·have hb : x.cps.toList.getD p 0 = 32 := by
     unfold NW at Vq
     rw [ID, Bool.false_or] at Vq
     have c3' : decide (x.cps.toList.getD p 0 ∈ mk.cps.toList) = false := by simpa using c3
     rw [c3', Bool.false_or] at Vq
     exact eq_of_beq Vq
    rw [hb] at e ⊢
    rw [dC] at e
    refine ⟨_, rfl, rfl, _, rfl, ?_⟩
    have z : decide (V.str ⟨#[32]⟩ = V.str (Str.ofString " ")) = true := by decide +kernel
    rw [z]
    refine bw ?_
    exact ⟨_, rfl, _, _, rfl, rfl, x.length - (p + 1), by omega, p + 1, done, _, _, rfl, rfl, by omega, sm, hL, e⟩
 ·have c' : p = x.length := by
   have z : ¬ ((p : Int) < (x.length : Int)) := fun z => c (decide_eq_true z)
   omega
  have hd : x.cps.toList.drop p = [] := List.drop_eq_nil_of_le (by omega)
  rw [hd] at e
  have e' : done = toks x.cps.toList := by
   rw [← e]
   show done = done ++ []
   rw [List.append_nil]
  rw [e'] at hL
  exact ⟨_, rfl, q l H' sm HE hL⟩
theorem CM : ar ["found", "place"] ["found", "place"] (ao oj) := ⟨rfl, rfl, rfl, by decide +kernel, rfl, by decide +kernel, by decide +kernel⟩
theorem CN (F : bu K "piece_at" "piece_at" oj f fd) (aW : mg "len" = none) : aX P w K mg base cO 1 f fd ["found", "place"] oX := by
 refine F.ok CM (fun vs H Q E h => ?_) (fun cu A outer s H vs Q E hr h => ?_)
 ·obtain ⟨l, ps, p, rfl, _⟩ := h
  rfl
 obtain ⟨l, ps, p, rfl, hL, hz, q⟩ := h
 refine ⟨_, (ab (aV (au tI (pv 1) (aF av rfl aW PySem.boot_len (aa (pv 0) ae)) (aH _))
 (ag (ax (az aB (pv 0) (pv 1) (fun _ _ => rfl))))
 aA)
 (ag (ax aR))), ?_⟩
 refine ⟨_, rfl, _, rfl, l, _, rfl, .inl (ay.of hL), _, _, rfl, rfl, _, rfl, ?_⟩
 refine cK (fun c => ?_) (fun c => ?_)
 ·have c' : p < ps.length := by
   have z := of_decide_eq_true c
   rw [Lm9] at z
   omega
  refine ⟨_, rfl, _, rfl, l, _, _, tx (ps.getD p []), rfl, rfl, ay.of hL, ?_, q⟩
  refine bN ?_
  rw [List.getElem?_map, Gd9, Ge9 c']
  rfl
 ·have c' : ps.length ≤ p := by
   have z : ¬ ((p : Int) < (((ps.map tx).length : Nat) : Int)) := fun z => c (decide_eq_true z)
   rw [Lm9] at z
   omega
  have e : ps.getD p [] = [] := by
   rw [Gd9, List.getElem?_eq_none c']
   rfl
  rw [e] at q
  exact q
theorem cF : ar ["found", "place", "names", "name", "mark"] ["found", "place"] (ao gG) := ⟨rfl, rfl, rfl, by decide +kernel, rfl, by decide +kernel, by decide +kernel⟩
theorem sg (F : bu K "arguments_at" "arguments_at" gG f fd) (bq : bb P w K mg base "piece_at" 1 ["found", "place"] oX) (cI : bb P w K mg base "is_name" 2 ["text"] (wq fC)) (Ni : mg "tuple" = none) :
  aX P w K mg base cO 3 f fd ["found", "place"] DX := by
 refine F.ok cF (fun vs H Q E h => ?_) (fun cu A outer s H vs Q E hr h => ?_)
 ·obtain ⟨l, ps, p, n, as, rfl, _⟩ := h
  rfl
 obtain ⟨l, ps, p, n, as, rfl, hL, hz, alt, q⟩ := h
 refine ⟨_, (ab (aw (i := 2) cF.nd rfl (Or.inl rfl) (bo ae))
 (ab (aV (au dG (ak bq (hr.mono (by decide)) rfl (aa (pv 0) (aa (pv 1) ae))) aR (aH _))
 (ag (ax (dO (aa (dO ae) (aa (aL fQ (pv 1) ai) ae)))))
 aA)
 (ag (gr PassesOwn.never (bT fY)
 (ab (aw (i := 3) cF.nd rfl (Or.inl rfl) (ak bq (hr.mono (by decide)) rfl (aa (pv 0) (aa (pv 1) ae))))
 (ab (aV (dB (bT (ak cI (hr.mono (by decide)) rfl (aa (pv 3) ae))))
 aY
 aA)
 (ab (a6 (bY PySem.F.plainAttrs_list PySem.F.slot_list_append PySem.F.type_list_append aZ (pv 2) (aa (pv 3) ae)))
 (ab (aw (i := 4) cF.nd rfl (Or.inl rfl) (ak bq (hr.mono (by decide)) rfl (aa (pv 0) (aa (aL fQ (pv 1) ai) ae))))
 (ab (yG (i := 1) cF.nd rfl (Or.inl rfl) ai yH)
 (ab (aV (au dG (pv 4) aR (aH _))
 (ag (ax (dO (aa (gm we rfl Ni PyProof.Rows.Boot.«tuple» (aa (pv 2) ae)) (aa (pv 1) ae)))))
 aA)
 (ag (aV (au dH (pv 4) aR (aH _))
 aY
 aA)))))))))))), ?_⟩
 refine ⟨(by show 0 ≤ sizeLine; decide), fun ln Vr => ?_⟩
 have Y6 : l ≠ ln := fun z => by rw [z, Vr] at hL; cases hL
 have rY : upd H ln (.lst []) l = some (.lst (ps.map tx)) := by rw [aq Y6]; exact hL
 refine ⟨_, rfl, _, rfl, l, ps, p, rfl, rY, hz, rfl, _, rfl, ?_⟩
 rcases alt with ⟨rfl, rfl, e41⟩ | ⟨Xd, ha⟩
 ·rw [e41]
  have z : decide (tx [41] = V.str (Str.ofString ")")) = true := by decide +kernel
  rw [z]
  refine nT ⟨(by show 0 ≤ sizeLine; decide), fun t2 Eh => ?_⟩
  refine ⟨_, rfl, _, _, rfl, rfl, (by show 2 ≤ sizeLine; decide), fun t ht => ?_⟩
  have Xe : t2 ≠ t := fun z => by rw [← z, af] at ht; cases ht
  refine q t t2 _ (ah.trans (aj Vr _) (ah.trans (aj Eh _) (aj ht _))) af ?_
  rw [aq Xe]
  exact af
 ·have z : decide (tx (ps.getD p []) = V.str (Str.ofString ")")) = false := JB (b := [41]) Xd
  rw [z]
  refine bw ?_
  refine ⟨NX l ln ps as (p + n) H, ⟨_, p, n, [], as, none, none, rfl, rfl, aj Vr _, rY, af, ha, rfl, rfl, by rw [List.length_drop]; simp; omega⟩, ?_⟩
  rintro m σ H' ⟨p', n', done, LZ, o3, o4, rfl, rfl, sm, yy, hN', Wv, ed, ep, hdl⟩
  obtain ⟨nm, mk, r, er, Nj, Xf⟩ := Hd Wv
  have g0 : ps.getD p' [] = nm := by
   have z := gp (l := ps) (p := p') (i := 0)
   rw [er] at z
   exact z.symm
  have g1 : ps.getD (p' + 1) [] = mk := by
   have z := gp (l := ps) (p := p') (i := 1)
   rw [er] at z
   exact z.symm
  have P1 : ps.drop (p' + 2) = r := by
   rw [← List.drop_drop, er]
   rfl
  have tX : (ps.drop p').length = r.length + 2 := by rw [er]; rfl
  refine ⟨_, rfl, ?_⟩
  refine nT ⟨fun σ' H2 => ∃ m', m' < (ps.drop p').length ∧ NX l ln ps as (p + n) H m' σ' H2, fun σ' H2 z => z, ?_⟩
  refine ⟨_, rfl, _, rfl, l, ps, p', rfl, yy, hz, ?_⟩
  rw [g0]
  have Y5 : nm.length ≤ 12 := by
   unfold bg at Nj
   simp only [Bool.and_eq_true, decide_eq_true_eq] at Nj
   exact Nj.2.1
  refine ⟨_, rfl, S nm, rfl, by rw [a0]; omega, fun H2 IE => ⟨_, rfl, ?_⟩⟩
  rw [oW, Nj]
  refine bw ?_
  have Y7 := IE _ _ hN'
  have SA := IE _ _ yy
  refine ⟨_, rfl, .inl ⟨rfl, _, ay.of Y7⟩, _, rfl, ln, _, _, rfl, rfl, Y7, (by rw [Lm9]; exact f9 (by omega)), ?_⟩
  have Nk : upd H2 ln (.lst (done.map tx ++ [tx nm])) l = some (.lst (ps.map tx)) := by rw [aq Y6]; exact SA
  refine ⟨_, rfl, _, rfl, _, _, rfl, rfl, l, ps, p' + 1, rfl, Nk, hz, ?_⟩
  rw [g1]
  refine ⟨_, rfl, _, _, rfl, rfl, ?_⟩
  have SD : ah H (upd H2 ln (.lst (done.map tx ++ [tx nm]))) := ah.aS (ah.trans sm IE) Vr _
  refine ⟨_, rfl, rfl, _, rfl, ?_⟩
  rcases Xf with ⟨rfl, rfl, rfl⟩ | ⟨rfl, as2, n2, P2, rfl, rfl⟩
  ·have z : decide (tx [41] = V.str (Str.ofString ")")) = true := by decide +kernel
   rw [z]
   refine nT ⟨_, rfl, ln, _, rfl, .inl ⟨ay.of af, fun t2 Eh => ?_⟩⟩
   refine ⟨_, rfl, (by show 2 ≤ sizeLine; decide), fun t ht => ?_⟩
   have Xe : t2 ≠ t := fun z => by rw [← z, af] at ht; cases ht
   refine q t t2 _ (ah.trans SD (ah.trans (aj Eh _) (aj ht _))) ?_ ?_
   ·rw [af, ← ep]
    rfl
   ·rw [aq Xe, af, ← ed, List.map_append]
    rfl
  ·have z : decide (tx [44] = V.str (Str.ofString ")")) = false := by decide +kernel
   rw [z]
   refine bw ?_
   have z2 : decide (tx [44] = V.str (Str.ofString ",")) = true := by decide +kernel
   refine ⟨_, rfl, rfl, _, rfl, ?_⟩
   rw [z2]
   refine bw ?_
   refine ⟨(ps.drop (p' + 2)).length, by rw [P1, tX]; omega, p' + 2, n2, done ++ [nm], as2, _, _, rfl, rfl, SD, Nk, ?_, by rw [P1]; exact P2, by rw [List.append_assoc]; exact ed, by omega, by rw [P1, List.length_append]; simp only [List.length_cons, List.length_nil]; omega⟩
   rw [af, List.map_append]
   rfl
theorem oq : ar ["found", "place", "kind", "reading"] ["found", "place"] (ao qE) := ⟨rfl, rfl, rfl, by decide +kernel, rfl, by decide +kernel, by decide +kernel⟩
theorem EM (F : bu K "fact_at" "fact_at" qE f fd) (bq : bb P w K mg base "piece_at" 1 ["found", "place"] oX) (bf : bb P w K mg base "is_small_word" 3 ["text"] (wq iA)) (gJ : bb P w K mg base "arguments_at" 3 ["found", "place"] DX) :
  aX P w K mg base cO 4 f fd ["found", "place"] t9 := by
 refine F.ok oq (fun vs H Q E h => ?_) (fun cu A outer s H vs Q E hr h => ?_)
 ·obtain ⟨l, ps, p, n, k, as, rfl, _⟩ := h
  rfl
 obtain ⟨l, ps, p, n, k, as, rfl, hL, hz, hF, q⟩ := h
 refine ⟨_, (ab (aw (i := 2) oq.nd rfl (Or.inl rfl) (ak bq (hr.mono (by decide)) rfl (aa (pv 0) (aa (pv 1) ae))))
 (ab (aV (dB (bT (ak bf (hr.mono (by decide)) rfl (aa (pv 2) ae))))
 aY
 aA)
 (ab (aV (au dH (ak bq (hr.mono (by decide)) rfl (aa (pv 0) (aa (aL fQ (pv 1) ai) ae))) aR (aH _))
 (ag (ax (dO (aa (dO (aa (pv 2) (aa (dO ae) ae))) (aa (aL fQ (pv 1) ai) ae)))))
 aA)
 (ab (aw (i := 3) oq.nd rfl (Or.inl rfl) (ak gJ (hr.mono (by decide)) rfl (aa (pv 0) (aa (aL fQ (pv 1) ai) ae))))
 (ag (ax (dO (aa (dO (aa (pv 2) (aa (az a8 (pv 3) ai (fun _ _ => rfl)) ae))) (aa (az a8 (pv 3) ai (fun _ _ => rfl)) ae))))))))), ?_⟩
 have hd : ∃ r, ps.drop p = k :: r ∧ aN k = true := by
  generalize ps.drop p = l0 at hF
  cases hF with
  | bare hk h => exact ⟨_, rfl, hk⟩
  | empty hk => exact ⟨_, rfl, hk⟩
  | args hk h0 h => exact ⟨_, rfl, hk⟩
 obtain ⟨r0, ed, hk⟩ := hd
 have g0 : ps.getD p [] = k := by
  have z := gp (l := ps) (p := p) (i := 0)
  rw [ed] at z
  exact z.symm
 have Xg : k.length ≤ 12 := by
  unfold aN bg at hk
  simp only [Bool.and_eq_true, decide_eq_true_eq] at hk
  exact hk.1.2.1
 have hkb : iA (S k) = true := by
  unfold iA
  rw [oW, cv]
  exact hk
 refine ⟨_, rfl, _, rfl, l, ps, p, rfl, hL, hz, ?_⟩
 rw [g0]
 refine ⟨_, rfl, S k, rfl, by rw [a0]; omega, fun H1 s1 => ⟨_, rfl, ?_⟩⟩
 rw [hkb]
 refine bw ?_
 have rY := s1 _ _ hL
 refine ⟨_, rfl, _, rfl, _, _, rfl, rfl, l, ps, p + 1, rfl, rY, hz, rfl, _, rfl, ?_⟩
 have g1 : ps.getD (p + 1) [] = r0.getD 0 [] := by
  have z := gp (l := ps) (p := p) (i := 1)
  rw [ed] at z
  exact z.symm
 rw [g1]
 have full : ∀ (LZ : List (List Nat)) (n' : Nat), r0.getD 0 [] = [40] → n = n' + 2 → as = LZ → ((LZ = [] ∧ n' = 1 ∧ ps.getD (p + 2) [] = [41]) ∨ (ps.getD (p + 2) [] ≠ [41] ∧ f6 (ps.drop (p + 2)) = some (LZ, n'))) → True := fun _ _ _ _ _ _ => trivial
 by_cases SE : r0.getD 0 [] = [40]
 ·rw [SE]
  have z : decide (tx [40] = V.str (Str.ofString "(")) = true := by decide +kernel
  rw [z]
  refine bw ?_
  have key : ∃ n', n = n' + 2 ∧ ((as = [] ∧ n' = 1 ∧ ps.getD (p + 2) [] = [41]) ∨ (ps.getD (p + 2) [] ≠ [41] ∧ f6 (ps.drop (p + 2)) = some (as, n'))) := by
   have g2 : ∀ r1, ps.drop p = k :: [40] :: r1 → ps.getD (p + 2) [] = r1.getD 0 [] ∧ ps.drop (p + 2) = r1 := fun r1 e => by
    refine ⟨?_, ?_⟩
    ·have z := gp (l := ps) (p := p) (i := 2)
     rw [e] at z
     exact z.symm
    ·rw [← List.drop_drop, e]
     rfl
   rw [ed] at hF g2
   cases hF with
   | bare Ge h => exact absurd SE h
   | @empty _ r Ge =>
    obtain ⟨a1, a2⟩ := g2 _ rfl
    exact ⟨1, rfl, .inl ⟨rfl, rfl, a1⟩⟩
   | @args _ r _ n' Ge h0 h =>
    obtain ⟨a1, a2⟩ := g2 _ rfl
    exact ⟨n', rfl, .inr ⟨by rw [a1]; exact h0, by rw [a2]; exact h⟩⟩
  obtain ⟨n', en, alt⟩ := key
  refine ⟨_, rfl, _, rfl, _, _, rfl, rfl, l, ps, p + 2, n', as, rfl, rY, hz, alt, fun t t2 H2 s2 ht Eh => ?_⟩
  refine ⟨_, rfl, _, rfl, t, _, 0, .ref t2, rfl, rfl, cP.of ht, rfl, (by show 2 ≤ sizeLine; decide), fun t1 N1 => ?_⟩
  have P4 := aj N1 (.tup [tx k, .ref t2])
  refine ⟨_, rfl, t, _, 1, _, rfl, rfl, cP.of (P4 _ _ ht), rfl, (by show 2 ≤ sizeLine; decide), fun t0 Nl => ?_⟩
  have SF : t1 ≠ t0 := fun z => by rw [← z, af] at Nl; cases Nl
  refine q t0 t1 t2 _ (ah.trans s1 (ah.trans s2 (ah.trans P4 (aj Nl _)))) ?_ ?_ ((aj Nl _) _ _ (P4 _ _ Eh))
  ·rw [af, en, show p + 2 + n' = p + (n' + 2) by omega]
  ·rw [aq SF]
   exact af
 ·have z : decide (tx (r0.getD 0 []) = V.str (Str.ofString "(")) = false := JB (b := [40]) SE
  rw [z]
  have key : as = [] ∧ n = 1 := by
   rw [ed] at hF
   cases hF with
   | bare Ge h => exact ⟨rfl, rfl⟩
   | empty Ge => exact absurd rfl SE
   | args Ge h0 h => exact absurd rfl SE
  obtain ⟨rfl, rfl⟩ := key
  refine nT ⟨_, rfl, (by show 0 ≤ sizeLine; decide), fun t2 Eh => ?_⟩
  refine ⟨(by show 2 ≤ sizeLine; decide), fun t1 N1 => ?_⟩
  refine ⟨_, rfl, _, _, rfl, rfl, (by show 2 ≤ sizeLine; decide), fun t0 Nl => ?_⟩
  have SF : t1 ≠ t0 := fun z => by rw [← z, af] at Nl; cases Nl
  refine q t0 t1 t2 _ (ah.trans s1 (ah.trans (aj Eh _) (ah.trans (aj N1 _) (aj Nl _)))) af ?_ ((aj Nl _) _ _ ((aj N1 _) _ _ af))
  rw [aq SF]
  exact af
theorem b5 : ar ["found", "facts", "place", "reading"] ["found"] (ao gF) := ⟨rfl, rfl, rfl, by decide +kernel, rfl, by decide +kernel, by decide +kernel⟩
theorem sh (F : bu K "row_of_facts" "row_of_facts" gF f fd) (qI : bb P w K mg base "fact_at" 4 ["found", "place"] t9) (aW : mg "len" = none) : aX P w K mg base cO 5 f fd ["found"] (JC K) := by
 refine F.ok b5 (fun vs H Q E h => ?_) (fun cu A outer s H vs Q E hr h => ?_)
 ·obtain ⟨l, ps, fs, rfl, _⟩ := h
  rfl
 obtain ⟨l, ps, fs, rfl, hL, hz, hR, q⟩ := h
 refine ⟨_, (ab (aw (i := 1) b5.nd rfl (Or.inl rfl) (bo ae))
 (ab (aw (i := 2) b5.nd rfl (Or.inl rfl) ai)
 (ag (gr PassesOwn.never (bT fY)
 (ab (aw (i := 3) b5.nd rfl (Or.inl rfl) (ak qI (hr.mono (by decide)) rfl (aa (pv 0) (aa (pv 2) ae))))
 (ab (a6 (bY PySem.F.plainAttrs_list PySem.F.slot_list_append PySem.F.type_list_append aZ (pv 1) (aa (az a8 (pv 3) ai (fun _ _ => rfl)) ae)))
 (ab (aw (i := 2) b5.nd rfl (Or.inl rfl) (az a8 (pv 3) ai (fun _ _ => rfl)))
 (ab (aV (au dG (pv 2) (aF av rfl aW PySem.boot_len (aa (pv 0) ae)) (aH _))
 (ag (ax (pv 1)))
 aA)
 (ab (aV (au dH (az aB (pv 0) (pv 2) (fun _ _ => rfl)) aR (aH _))
 aY
 aA)
 (ag (yG (i := 2) b5.nd rfl (Or.inl rfl) ai yH))))))))))), ?_⟩
 refine ⟨(by show 0 ≤ sizeLine; decide), fun lf N7 => ?_⟩
 have ni : l ≠ lf := aI hL N7
 refine ⟨Sb K l lf ps fs H, ⟨_, 0, [], fs, [], none, rfl, rfl, aj N7 _, by rw [aq ni]; exact hL, af, .nil, by rw [List.drop_zero]; exact hR, rfl, by rw [List.drop_zero]; simpa using hz⟩, ?_⟩
 rintro m σ H' ⟨p, done, rest, us, o3, rfl, rfl, sm, yy, Mr, pr, nu, ed, hdl⟩
 obtain ⟨f1, n, Ow, rfl, hF, alt⟩ := nu.head
 refine ⟨_, rfl, nT ⟨fun σ' H2 => ∃ m', m' < (ps.drop p).length ∧ Sb K l lf ps fs H m' σ' H2, fun σ' H2 z => z, ?_⟩⟩
 refine ⟨_, rfl, _, rfl, l, ps, p, n, f1.k, f1.as, rfl, yy, hz, hF, fun t t1 t2 H2 s2 ht N1 Eh => ?_⟩
 have Nm := s2 _ _ Mr
 have SA := s2 _ _ yy
 have hlen : us.length ≤ 20000 := by
  have z := pr.length
  omega
 refine ⟨_, rfl, .inl ⟨rfl, _, ay.of Nm⟩, _, rfl, t, _, 0, _, rfl, rfl, cP.of ht, rfl, lf, _, _, rfl, rfl, Nm, f9 (by omega), ?_⟩
 have htn : t ≠ lf := BL ht Nm (by intro z; cases z)
 have kp : Kp (upd H lf (.lst [])) H2 (upd H2 lf (.lst (us ++ [V.ref t1]))) := Kp.upd af Nm (by intro xs z; cases z) (by intro o u z; cases z)
 have Y8 : Paired (Fact K (upd H2 lf (.lst (us ++ [V.ref t1])))) (done ++ [f1]) (us ++ [V.ref t1]) := by
  refine (L2.Paired.bQ pr fun a b z => Fact.keep kp (Fact.keep (H0 := H) (Kp.same s2) z)).snoc ?_
  exact Fact.keep kp ⟨t1, t2, rfl, cP.of N1, cP.of Eh⟩
 have Nk : upd H2 lf (.lst (us ++ [V.ref t1])) l = some (.lst (ps.map tx)) := by rw [aq ni]; exact SA
 have SD : ah H (upd H2 lf (.lst (us ++ [V.ref t1]))) := ah.aS (ah.trans sm s2) N7 _
 refine ⟨_, rfl, t, _, 1, _, rfl, rfl, cP.of (by rw [aq htn]; exact ht), rfl, ?_⟩
 refine ⟨_, rfl, _, rfl, l, _, rfl, .inl (ay.of Nk), rfl, _, rfl, ?_⟩
 rw [Lm9]
 have hdr : (ps.drop p).length = ps.length - p := List.length_drop ..
 rcases alt with ⟨en, rfl⟩ | ⟨hn, PH, hR'⟩
 ·have z : decide (V.int ((p + n : Nat) : Int) = V.int (ps.length : Int)) = true := by
   refine decide_eq_true ?_
   have : 1 ≤ (ps.drop p).length := nu.pos
   rw [show p + n = ps.length by omega]
  rw [z]
  refine nT ⟨_, rfl, q _ _ SD ⟨lf, _, rfl, N7, af, ?_⟩⟩
  rw [← ed]
  exact Y8
 ·have z : decide (V.int ((p + n : Nat) : Int) = V.int (ps.length : Int)) = false := by
   refine decide_eq_false fun z => ?_
   have z' : ((p + n : Nat) : Int) = (ps.length : Int) := by injection z
   omega
  rw [z]
  refine bw ?_
  have g : ps.getD (p + n) [] = [44] := by
   have z := gp (l := ps) (p := p) (i := n)
   rw [← z]
   exact PH
  refine ⟨_, rfl, _, rfl, l, _, _, tx [44], rfl, rfl, ay.of Nk, ?_, rfl, _, rfl, ?_⟩
  ·refine bN ?_
   rw [List.getElem?_map, Ge9 (by omega)]
   rw [Gd9, Ge9 (by omega)] at g
   exact congrArg (fun z => some (tx z)) g
  ·have z2 : decide (tx [44] = V.str (Str.ofString ",")) = true := by decide +kernel
   rw [z2]
   refine bw ⟨_, rfl, _, _, rfl, rfl, (ps.drop (p + n + 1)).length, ?_, p + n + 1, done ++ [f1], Ow, _, _, rfl, rfl, SD, Nk, af, Y8, ?_, by rw [List.append_assoc]; exact ed, ?_⟩
   ·rw [List.length_drop, List.length_drop]; omega
   ·rw [show p + n + 1 = p + (n + 1) by omega, ← List.drop_drop]; exact hR'
   ·rw [List.length_append, List.length_drop]; simp only [List.length_cons, List.length_nil]; omega
end
end gf
namespace gf
open PySem L2 fZ Bk
set_option maxHeartbeats 4000000
section
variable {P : Program} {w : World} {K : PySem.W.Frag} {mg : Str → Option Value} {base : Heap} {f : Addr} {fd : FuncData} {c : Cl}
theorem uZ : ar ["line", "bare"] ["line"] (ao qF) := ⟨rfl, rfl, rfl, by decide +kernel, rfl, by decide +kernel, by decide +kernel⟩
theorem EN (F : bu K "is_told" "is_told" qF f fd) : aX P w K mg base cO 1 f fd ["line"] DZ := by
 refine F.ok uZ (fun vs H Q E h => ?_) (fun cu A outer s H vs Q E hr h => ?_)
 ·obtain ⟨p, rfl, _⟩ := h
  rfl
 obtain ⟨p, rfl, hx, q⟩ := h
 refine ⟨_, (ab (aw (i := 1) uZ.nd rfl (Or.inl rfl) (bY PySem.F.plainAttrs_str PySem.F.slot_str_strip PySem.F.type_str_strip Jr (pv 0) (aa aR ae)))
 (ag (ax (DE (dN dH (pv 1) aR (aH _)) (tD (dN dH (az qc (pv 1) ai (fun _ _ => rfl)) aR (aH _))))))), ?_⟩
 obtain ⟨b, eb, hb, eh⟩ := JE p
 refine ⟨_, rfl, rfl, _, _, rfl, rfl, (by rw [a0]; exact sz (by omega)), ?_⟩
 rw [eb]
 unfold told at q
 refine ⟨_, rfl, rfl, _, rfl, ?_⟩
 have e0 : (Str.ofString "") = S [] := by decide +kernel
 rw [e0]
 cases hd : p.dropWhile (· == 32) with
 | nil =>
  rw [hd] at eh q
  have K1 : b = [] := by
   cases b with
   | nil => rfl
   | cons x r => cases eh
  subst K1
  rw [decide_eq_true rfl]
  exact bw q
 | cons x r =>
  rw [hd] at eh q
  obtain ⟨b', rfl⟩ : ∃ b', b = x :: b' := by
   cases b with
   | nil => cases eh
   | cons y r' => exact ⟨r', by rw [Option.some.inj eh]⟩
  have e1 : decide (V.str (S (x :: b')) = V.str (S [])) = false := JB (a := x :: b') (b := []) (by simp)
  rw [e1]
  refine nT ⟨_, rfl, S (x :: b'), 0, x, rfl, rfl, (by rw [a0]; exact sz (by omega)), ?_, rfl, ?_⟩
  ·rw [cv]
   exact bN (j := 0) rfl
  ·have e2 : decide (V.str ⟨#[x]⟩ = V.str (Str.ofString "#")) = (x == 35) := by
    have e3 : (Str.ofString "#") = S [35] := by decide +kernel
    rw [e3]
    have e4 := yV [x] [35]
    show decide (tx [x] = tx [35]) = _
    rw [e4]
    simp [Bool.beq_eq_decide_eq]
   rw [e2]
   exact q
theorem wz : ar ["text"] ["text"] (ao jP) := ⟨rfl, rfl, rfl, by decide +kernel, rfl, by decide +kernel, by decide +kernel⟩
theorem wA (F : bu K "told_lines" "told_lines" jP f fd) (qJ : bb P w K mg base "is_told" 1 ["line"] DZ) : aX P w K mg base cO 2 f fd ["text"] yY := by
 refine F.ok wz (fun vs H Q E h => ?_) (fun cu A outer s H vs Q E hr h => ?_)
 ·obtain ⟨ls, rfl, _⟩ := h
  rfl
 obtain ⟨ls, rfl, h0, hN, hx, q⟩ := h
 refine ⟨_, (ag (ax (bX [] rfl (by kernel_rfl) (aJ (bY PySem.F.plainAttrs_str PySem.F.slot_str_split PySem.F.type_str_split Jq (pv 0) (aa aR ae))) (fun _ _ _ _ _ => (jF (bT (ak qJ (hr.mono (by decide)) rfl (aa (pv 0) ae))))) (fun _ _ _ _ _ => (pv 0))))), ?_⟩
 have MR := x4 ls
 refine ⟨_, rfl, rfl, _, _, rfl, rfl, rfl, (by rw [a0]; exact sz (by omega)), ?_⟩
 rw [Ca h0 hN]
 refine ⟨(by rw [Lm9]; exact sz (by omega)), fun l hl => ⟨l, rfl, ⟨_, ay.of af⟩, fun D hD => ?_⟩⟩
 have hDn : H D = none := (aj hl _).free hD
 refine Mv (K := K) (xs := (ls.map S).map V.str) (by rw [Lm9, Lm9]; exact f9 (by omega)) hD (ay.of af) (fun v => match v with | .str x => told x.cps.toList | _ => false) id (fun x H' R hm sm hR => ?_) (fun x H' R hm hk sm hR => ?_) (fun H' sm hL => ?_)
 ·obtain ⟨z, hz, rfl⟩ := List.mem_map.mp hm
  obtain ⟨y, hy, rfl⟩ := List.mem_map.mp hz
  refine ⟨_, rfl, y, rfl, by have := qm ls y hy; omega, _, rfl, ?_⟩
  have z : R (told (S y).cps.toList) H' := hR H' (ah.refl H')
  rw [cv] at z
  exact z
 ·exact ⟨_, rfl, hR H' (ah.refl H')⟩
 ·refine q _ _ (ah.trans (aj hl _) sm) ⟨D, rfl, hDn, ?_⟩
  rw [hL, List.map_id, List.map_map]
  congr 2
  rw [List.filter_map]
  have e : ((fun v => match v with | V.str x => told x.cps.toList | _ => false) ∘ (V.str ∘ S)) = told := by
   funext y
   show told (S y).cps.toList = told y
   rw [cv]
  rw [e]
  rfl
theorem u4 : ar ["line"] ["line"] (ao iG) := ⟨rfl, rfl, rfl, by decide +kernel, rfl, by decide +kernel, by decide +kernel⟩
theorem u5 {u1 : Value} (F : bu K "line_pieces" "line_pieces" iG f fd) (u6 : bb P w K mg base "pieces" 3 ["text", "marks"] t8) (zY : mg "LINE_MARKS" = some u1) (zZ : RelV (.str Cb) u1) : aX P w K mg base cO 4 f fd ["line"] D0 := by
 refine F.ok u4 (fun vs H Q E h => ?_) (fun cu A outer s H vs Q E hr h => ?_)
 ·obtain ⟨p, rfl, _⟩ := h
  rfl
 obtain ⟨p, rfl, hx, bt, q⟩ := h
 refine ⟨_, (ag (ax (ak u6 (hr.mono (by decide)) rfl (aa (pv 0) (aa (c5 rfl zY zZ) ae))))), ?_⟩
 refine ⟨_, rfl, _, _, rfl, by rw [a0]; exact hx, by decide +kernel, by rw [cv]; exact bt, fun l H' sm hl hL => ?_⟩
 rw [cv] at hL
 exact q _ _ sm ⟨l, rfl, hl, hL⟩
theorem z7 : ar ["found"] ["found"] (ao lN) := ⟨rfl, rfl, rfl, by decide +kernel, rfl, by decide +kernel, by decide +kernel⟩
theorem Aa {SG SH : Addr} (F : bu K "read_kind" "read_kind" lN f fd) (bf : bb P w K mg base "is_small_word" 3 ["text"] (wq iA)) (aW : mg "len" = none) (K2 : mg "int" = none)
  (Ab : mg "KIND_WORDS" = some (.ref SG)) (Ac : ∀ H, cP K H SG [tx bS, tx bZ]) (K3 : mg "COUNTS" = some (.ref SH)) (K4 : ∀ H, cP K H SH [tx [48], tx [49], tx [50], tx [51], tx [52]]) :
  aX P w K mg base cO 4 f fd ["found"] (D1 K) := by
 have Ad : RelV (.ref SG) (.ref SG) := rfl
 have K5 : RelV (.ref SH) (.ref SH) := rfl
 refine F.ok z7 (fun vs H Q E h => ?_) (fun cu A outer s H vs Q E hr h => ?_)
 ·obtain ⟨l, k, rfl, _⟩ := h
  rfl
 obtain ⟨l, ⟨n, c, b⟩, rfl, hL, hn, hc, q⟩ := h
 have hn : aN n = true := hn
 have hc : c ≤ 4 := hc
 have yy : H l = some (.lst [tx (if b = true then bZ else bS), tx n, tx [48 + c]]) := hL
 refine ⟨_, (ab (aV (PW.pt (oJ (au dH (aF av rfl aW PySem.boot_len (aa (pv 0) ae)) ai (aH _)) (p0 (au c7 (az aB (pv 0) ai (fun _ _ => rfl)) (c5 rfl Ab Ad) (by with_unfolding_all rfl)))))
 aY
 aA)
 (ab (aV (dB (bT (ak bf (hr.mono (by decide)) rfl (aa (az aB (pv 0) ai (fun _ _ => rfl)) ae))))
 aY
 aA)
 (ab (aV (au c7 (az aB (pv 0) ai (fun _ _ => rfl)) (c5 rfl K3 K5) (by with_unfolding_all rfl))
 aY
 aA)
 (ag (ax (dO (aa (az aB (pv 0) ai (fun _ _ => rfl)) (aa (gm wj rfl K2 PyProof.Rows.Boot.«int» (aa (az aB (pv 0) ai (fun _ _ => rfl)) ae)) (aa (dN dG (az aB (pv 0) ai (fun _ _ => rfl)) aR (aH _)) ae))))))))), ?_⟩
 refine ⟨_, rfl, l, _, rfl, .inl (ay.of yy), rfl, _, rfl, bw ?_⟩
 refine ⟨_, rfl, l, _, 0, _, rfl, rfl, ay.of yy, rfl, SG, _, rfl, .inr (Ac _), rfl, rfl, _, rfl, ?_⟩
 have e1 : G2 (tx (if b = true then bZ else bS)) [tx bS, tx bZ] = true := by cases b <;> decide +kernel
 rw [e1]
 refine bw ?_
 refine ⟨_, rfl, l, _, 1, _, rfl, rfl, ay.of yy, rfl, S n, rfl, by have := cj hn; rw [a0]; omega, fun H1 s1 => ⟨_, rfl, ?_⟩⟩
 rw [B5, hn]
 refine bw ?_
 have rY := s1 _ _ yy
 refine ⟨_, rfl, l, _, 2, _, rfl, rfl, ay.of rY, rfl, SH, _, rfl, .inr (K4 _), rfl, rfl, _, rfl, ?_⟩
 have e2 : G2 (tx [48 + c]) [tx [48], tx [49], tx [50], tx [51], tx [52]] = true := by
  rcases (by omega : c = 0 ∨ c = 1 ∨ c = 2 ∨ c = 3 ∨ c = 4) with e | e | e | e | e <;> subst e <;> decide +kernel
 rw [e2]
 refine bw ?_
 have e3 : PySem.intText? (S [48 + c]) = some (c : Int) := by
  rcases (by omega : c = 0 ∨ c = 1 ∨ c = 2 ∨ c = 3 ∨ c = 4) with e | e | e | e | e <;> subst e <;> decide +kernel
 refine ⟨_, rfl, l, _, 1, _, rfl, rfl, ay.of rY, rfl, _, rfl, l, _, 2, _, rfl, rfl, ay.of rY, rfl, _, _, rfl, e3, (by rw [a0]; show 1 ≤ 640; decide), ?_⟩
 refine ⟨_, rfl, l, _, 0, _, rfl, rfl, ay.of rY, rfl, rfl, (by show 3 ≤ sizeLine; decide), fun t ht => ?_⟩
 have e4 : decide (tx (if b = true then bZ else bS) = V.str (Str.ofString "lasting")) = b := by cases b <;> decide +kernel
 rw [e4]
 exact q _ _ (ah.trans s1 (aj ht _)) ⟨t, rfl, cP.of af⟩
end
end gf
namespace gf
open PySem L2 fZ Bk
set_option maxHeartbeats 4000000
section
variable {P : Program} {w : World} {K : PySem.W.Frag} {mg : Str → Option Value} {base : Heap} {f : Addr} {fd : FuncData} {c : Cl}
theorem Nn {xs : List V} {v : V} : rA (xs ++ [v]) (-1) = some v := by
 unfold rA
 have e : Jh (xs ++ [v]).length (-1) = some xs.length := by
  unfold Jh
  rw [List.length_append, List.length_singleton, if_neg (by decide)]
  simp
  omega
 rw [e]
 simp
theorem qK : ar ["found", "mark", "rows", "piece"] ["found", "mark"] (ao uY) := ⟨rfl, rfl, rfl, by decide +kernel, rfl, by decide +kernel, by decide +kernel⟩
theorem HF (F : bu K "parted" "parted" uY f fd) : aX P w K mg base cO 1 f fd ["found", "mark"] ly := by
 refine F.ok qK (fun vs H Q E h => ?_) (fun cu A outer s H vs Q E hr h => ?_)
 ·obtain ⟨l, ps, m, rfl, _⟩ := h
  rfl
 obtain ⟨l, ps, m, rfl, hL, hz, q⟩ := h
 refine ⟨_, (ab (aw (i := 2) qK.nd rfl (Or.inl rfl) (bo (aa (bo ae) ae)))
 (ab (bj PassesOwn.never rfl (aJ (pv 0)) (aK (i := 3) qK.nd rfl (Or.inl rfl))
 (ag (aV (au dG (pv 3) (pv 1) (aH _))
 (ag (a6 (bY PySem.F.plainAttrs_list PySem.F.slot_list_append PySem.F.type_list_append aZ (pv 2) (aa (bo ae) ae))))
 (ag (a6 (bY PySem.F.plainAttrs_list PySem.F.slot_list_append PySem.F.type_list_append aZ (az aB (pv 2) (Rf OK ai) (fun _ _ => rfl)) (aa (pv 3) ae)))))))
 (ag (ax (pv 2))))), ?_⟩
 refine ⟨(by show 0 ≤ sizeLine; decide), fun b0 K1 => ⟨(by show 1 ≤ sizeLine; decide), fun lr tX => ?_⟩⟩
 have Y9 : b0 ≠ lr := fun z => by rw [← z, af] at tX; cases tX
 have SI : H lr = none := (aj K1 _).free tX
 have s0 : ah H (upd (upd H b0 (.lst [])) lr (.lst [V.ref b0])) := ah.trans (aj K1 _) (aj tX _)
 refine ⟨_, rfl, l, rfl, ⟨_, ay.of (s0 _ _ hL)⟩, ba (K := K) (a := l) (xs := ps.map tx) (fun i σ H' => ∃ (bs : List Addr) (o : Option V), σ = [some (.ref l), some (tx m), some (.ref lr), o] ∧ ah H H' ∧ H' lr = some (.lst (bs.map V.ref)) ∧
   Paired (fun row b => H b = none ∧ b ≠ lr ∧ H' b = some (.lst (row.map tx))) (bO m (ps.take i) [[]]) bs ∧ bs.Nodup)
  ⟨[b0], none, rfl, s0, af, .cons ⟨K1, Y9, by rw [aq Y9]; exact af⟩ .nil, by simp⟩ (fun i σ H' _ ⟨_, _, _, sm, _⟩ => ay.of (sm _ _ hL)) ?_ ?_⟩
 ·rintro i y σ H' hi ⟨bs, o, rfl, sm, nu, pr, nd⟩
  have sU : i < ps.length := by
   have := (List.getElem?_eq_some_iff.mp hi).1
   simpa using this
  obtain rfl : y = tx ps[i] := by
   rw [List.getElem?_map, Ge9 sU] at hi
   exact (Option.some.inj hi).symm
  have Za : bO m (ps.take (i + 1)) [[]] = jj m ps[i] (bO m (ps.take i) [[]]) := by
   rw [List.take_succ_eq_append_getElem sU, oY]
  have hbl : bs.length ≤ 20002 := by
   have z := Paired.length pr
   have z2 := rE m (ps.take i) [[]]
   rw [List.length_take] at z2
   simp only [List.length_cons, List.length_nil] at z2
   omega
  refine ⟨_, rfl, _, rfl, rfl, _, rfl, ?_⟩
  rw [yV]
  refine cK (fun e => ?_) (fun e => ?_)
  ·have e' : ps[i] = m := of_decide_eq_true e
   refine ⟨_, rfl, .inl ⟨rfl, _, ay.of nu⟩, (by show 0 ≤ sizeLine; decide), fun b hb => ?_⟩
   have Xh : b ≠ lr := fun z => by rw [z, nu] at hb; cases hb
   have Zb : H b = none := sm.free hb
   have P1 : upd H' b (.lst []) lr = some (.lst (bs.map V.ref)) := by rw [aq (Ne.symm Xh)]; exact nu
   refine ⟨lr, _, _, rfl, rfl, P1, (by rw [Lm9]; exact f9 (by omega)), bs ++ [b], _, rfl, ah.aS (ah.aS sm Zb _) SI _, ?_, ?_, ?_⟩
   ·rw [af, List.map_append]
    rfl
   ·rw [Za]
    unfold jj
    rw [if_pos e']
    have p2 : Paired (fun row x => H x = none ∧ x ≠ lr ∧ upd (upd H' b (.lst [])) lr (.lst (bs.map V.ref ++ [V.ref b])) x = some (.lst (row.map tx))) (bO m (ps.take i) [[]]) bs := L2.Paired.bQ pr fun row x z => ⟨z.1, z.2.1, by
     rw [aq z.2.1, aq (aI z.2.2 hb)]
     exact z.2.2⟩
    exact p2.snoc ⟨Zb, Xh, by rw [aq Xh]; exact af⟩
   ·rw [List.nodup_append]
    refine ⟨nd, by simp, ?_⟩
    intro x hx y hy
    rw [List.mem_singleton.mp hy]
    intro z
    subst z
    obtain ⟨row, _, hrw⟩ := eU pr hx
    rw [hrw.2.2] at hb
    cases hb
  ·have e' : ps[i] ≠ m := fun z => by rw [decide_eq_true z] at e; exact e rfl
   obtain ⟨a1, row, b1, b, e1, e2, p1, hb⟩ := rC pr (ub m _ _ (by simp))
   have kZ : row.length ≤ 20000 := by
    have z := uc m (ps.take i) [[]] 0 (by intro r hr; rw [List.mem_singleton.mp hr]; exact Nat.le_refl _) row (by rw [e1]; simp)
    rw [List.length_take] at z
    omega
   have Xi : H' lr = some (.lst (b1.map V.ref ++ [V.ref b])) := by
    rw [nu, e2, List.map_append]
    rfl
   refine ⟨_, rfl, _, rfl, lr, _, _, V.ref b, rfl, rfl, ay.of Xi, Nn, .inl ⟨rfl, _, ay.of hb.2.2⟩, _, rfl, b, _, _, rfl, rfl, hb.2.2, (by rw [Lm9]; exact f9 (by omega)), ?_⟩
   refine ⟨bs, _, rfl, ah.aS sm hb.1 _, by rw [aq (Ne.symm hb.2.1)]; exact nu, ?_, nd⟩
   rw [Za]
   unfold jj
   rw [if_neg e', e1, List.dropLast_concat, show (a1 ++ [row]).getLastD [] = row by simp, e2]
   rw [e2, List.nodup_append] at nd
   refine Paired.snoc ?_ ⟨hb.1, hb.2.1, ?_⟩
   ·refine lu p1 fun r x hx z => ⟨z.1, z.2.1, ?_⟩
    rw [aq (nd.2.2 x hx b (by simp))]
    exact z.2.2
   ·rw [af, List.map_append]
    rfl
 ·rintro σ H' ⟨bs, o, rfl, sm, nu, pr, nd⟩
  rw [Lm9, List.take_length] at pr
  refine ⟨_, rfl, q _ _ sm ⟨lr, _, rfl, SI, nu, ?_⟩⟩
  exact rD (L2.Paired.bQ pr fun row b z => (⟨b, rfl, z.1, z.2.2⟩ : NZ H H' row (V.ref b)))
end
end gf
namespace gf
open PySem L2 fZ Bk
set_option maxHeartbeats 4000000
section
variable {P : Program} {w : World} {K : PySem.W.Frag} {mg : Str → Option Value} {base : Heap} {f : Addr} {fd : FuncData} {c : Cl}
theorem ou : ar ["found"] ["found"] (ao dW) := ⟨rfl, rfl, rfl, by decide +kernel, rfl, by decide +kernel, by decide +kernel⟩
theorem ow (F : bu K "check_two_names" "check_two_names" dW f fd) (cI : bb P w K mg base "is_name" 2 ["text"] (wq fC)) (aW : mg "len" = none) : aX P w K mg base cO 3 f fd ["found"] F2 := by
 refine F.ok ou (fun vs H Q E h => ?_) (fun cu A outer s H vs Q E hr h => ?_)
 ·obtain ⟨l, a, m, b, rfl, _⟩ := h
  rfl
 obtain ⟨l, a, m, b, rfl, hL, ha, hb, q⟩ := h
 refine ⟨_, (ag (aV (PW.pt (oJ (au dH (aF av rfl aW PySem.boot_len (aa (pv 0) ae)) ai (aH _)) (oJ (dB (bT (ak cI (hr.mono (by decide)) rfl (aa (az aB (pv 0) ai (fun _ _ => rfl)) ae)))) (p0 (dB (bT (ak cI (hr.mono (by decide)) rfl (aa (az aB (pv 0) ai (fun _ _ => rfl)) ae))))))))
 aY
 aA)), ?_⟩
 refine ⟨_, rfl, l, _, rfl, .inl (ay.of hL), rfl, _, rfl, bw ?_⟩
 refine ⟨_, rfl, l, _, 0, _, rfl, rfl, ay.of hL, rfl, S a, rfl, by have := ji ha; rw [a0]; omega, fun H1 s1 => ⟨_, rfl, ?_⟩⟩
 rw [oW, ha]
 refine bw ⟨_, rfl, l, _, 2, _, rfl, rfl, ay.of (s1 _ _ hL), rfl, S b, rfl, by have := ji hb; rw [a0]; omega, fun H2 s2 => ⟨_, rfl, ?_⟩⟩
 rw [oW, hb]
 exact bw (q _ (ah.trans s1 s2))
theorem Ae : ar ["self", "left", "right"] ["self", "left", "right"] (ao lM) := ⟨rfl, rfl, rfl, by decide +kernel, rfl, by decide +kernel, by decide +kernel⟩
theorem Af (F : bu K "__init__" "Look.__init__" lM f fd) : aX P w K mg base cO 1 f fd ["self", "left", "right"] (jJ K) := by
 refine F.ok Ae (fun vs H Q E h => ?_) (fun cu A outer s H vs Q E hr h => ?_)
 ·obtain ⟨C, p, dx, l, r, rfl, _⟩ := h
  rfl
 obtain ⟨C, p, dx, l, r, rfl, T, hp, q⟩ := h
 refine ⟨_, (ab (ps_fld (pv 0) (pv 1) rfl)
 (ag (ps_fld (pv 0) (pv 2) rfl))), ?_⟩
 refine ⟨_, rfl, _, rfl, p, C, dx, [], rfl, hp, T.cl, T.nL, (by show 0 < 1000; decide), _, rfl, _, rfl, p, C, dx, _, rfl, af, T.cl, T.nR, (by show 1 < 1000; decide), ?_⟩
 refine q _ _ af ?_ ?_ ?_ ?_ fun b o e hb => ?_
 ·rw [aQ, if_neg (by decide +kernel), aQ, if_pos rfl]
 ·rw [aQ, if_pos rfl]
 ·rw [aQ, if_neg (by decide +kernel), aQ, if_neg (by decide +kernel)]
  rfl
 ·rw [aQ, if_neg (by decide +kernel), aQ, if_neg (by decide +kernel)]
  rfl
 ·rw [aq hb, aq hb]
  exact e
theorem yz {H : Hp} {C : Addr} {a b : V} {Q : VK} (T : Cc K C) (q : ∀ x dx fs H', ah H H' → H x = none → H' x = some (.ins C dx fs) → fs.lookup ("left" : Str) = some a → fs.lookup ("right" : Str) = some b → fs.lookup ("holds" : Str) = none → fs.lookup ("word" : Str) = none → Q (.ref x) H') :
  ∀ x dx, H x = none → H dx = none → dx ≠ x → jJ K (.ref x :: ([a, b] ++ [])) (upd (upd H dx (.own x)) x (.ins C dx [])) (fun v H2 => v = .cJ ∧ Q (.ref x) H2) E0 := fun x dx hx SJ Xj => by
 refine ⟨C, x, dx, a, b, rfl, T, af, fun H' fs h1 h2 h3 h4 h5 kp => ⟨rfl, q x dx fs H' (fun b o e => kp b o ?_ (aI e hx)) hx h1 h2 h3 h4 h5⟩⟩
 rw [aq (aI e hx), aq (aI e SJ)]
 exact e
theorem Ag : ar ["found"] ["found"] (ao lQ) := ⟨rfl, rfl, rfl, by decide +kernel, rfl, by decide +kernel, by decide +kernel⟩
theorem Ah (F : bu K "read_look" "read_look" lQ f fd) (bJ : bb P w K mg base "check_two_names" 3 ["found"] F2) (Ts : Cc K c.same) (Tu : Cc K c.unlike)
  (EO : Mt P w K mg base "Same" c.same 1 ["self", "left", "right"] (jJ K)) (u9 : Mt P w K mg base "Unlike" c.unlike 1 ["self", "left", "right"] (jJ K)) : aX P w K mg base cO 4 f fd ["found"] (D4 c) := by
 refine F.ok Ag (fun vs H Q E h => ?_) (fun cu A outer s H vs Q E hr h => ?_)
 ·obtain ⟨l, k, rfl, _⟩ := h
  rfl
 obtain ⟨l, ⟨sm, a, b⟩, rfl, hL, ha, hb, q⟩ := h
 have yy : H l = some (.lst [tx a, tx (if sm = true then ud else lz), tx b]) := hL
 refine ⟨_, (ab (a6 (ak bJ (hr.mono (by decide)) rfl (aa (pv 0) ae)))
 (ab (aV (au dG (az aB (pv 0) ai (fun _ _ => rfl)) aR (aH _))
 (ag (ax (oQ EO (hr.mono (by decide)) rfl (aa (az aB (pv 0) ai (fun _ _ => rfl)) (aa (az aB (pv 0) ai (fun _ _ => rfl)) ae)))))
 aA)
 (ab (aV (au dG (az aB (pv 0) ai (fun _ _ => rfl)) aR (aH _))
 (ag (ax (oQ u9 (hr.mono (by decide)) rfl (aa (az aB (pv 0) ai (fun _ _ => rfl)) (aa (az aB (pv 0) ai (fun _ _ => rfl)) ae)))))
 aA)
 (ag IT)))), ?_⟩
 refine ⟨_, rfl, l, a, _, b, rfl, yy, ha, hb, fun H1 s1 => ?_⟩
 have rY := s1 _ _ yy
 refine ⟨_, rfl, l, _, 1, _, rfl, rfl, ay.of rY, rfl, rfl, _, rfl, ?_⟩
 cases sm with
 | true =>
  have e : decide (tx (if true = true then ud else lz) = V.str (Str.ofString "same")) = true := by decide +kernel
  rw [e]
  refine nT ⟨_, rfl, l, _, 0, _, rfl, rfl, ay.of rY, rfl, _, rfl, l, _, 2, _, rfl, rfl, ay.of rY, rfl, yz Ts fun x dx fs H' s' hx h1 h2 h3 h4 h5 => ?_⟩
  exact q _ _ (ah.trans s1 s') ⟨x, dx, fs, rfl, s1.free hx, h1, h2, h3, h4, h5⟩
 | false =>
  have e : decide (tx (if false = true then ud else lz) = V.str (Str.ofString "same")) = false := by decide +kernel
  have e2 : decide (tx (if false = true then ud else lz) = V.str (Str.ofString "unlike")) = true := by decide +kernel
  rw [e]
  refine bw ⟨_, rfl, l, _, 1, _, rfl, rfl, ay.of rY, rfl, rfl, _, rfl, ?_⟩
  rw [e2]
  refine nT ⟨_, rfl, l, _, 0, _, rfl, rfl, ay.of rY, rfl, _, rfl, l, _, 2, _, rfl, rfl, ay.of rY, rfl, yz Tu fun x dx fs H' s' hx h1 h2 h3 h4 h5 => ?_⟩
  exact q _ _ (ah.trans s1 s') ⟨x, dx, fs, rfl, s1.free hx, h1, h2, h3, h4, h5⟩
theorem Ai : ar ["found"] ["found"] (ao lS) := ⟨rfl, rfl, rfl, by decide +kernel, rfl, by decide +kernel, by decide +kernel⟩
theorem Aj (F : bu K "read_pair" "read_pair" lS f fd) (bJ : bb P w K mg base "check_two_names" 3 ["found"] F2) : aX P w K mg base cO 4 f fd ["found"] (D5 K) := by
 refine F.ok Ai (fun vs H Q E h => ?_) (fun cu A outer s H vs Q E hr h => ?_)
 ·obtain ⟨l, k, rfl, _⟩ := h
  rfl
 obtain ⟨l, ⟨a, b⟩, rfl, hL, ha, hb, q⟩ := h
 have yy : H l = some (.lst [tx a, tx [61], tx b]) := hL
 refine ⟨_, (ab (a6 (ak bJ (hr.mono (by decide)) rfl (aa (pv 0) ae)))
 (ab (aV (au dH (az aB (pv 0) ai (fun _ _ => rfl)) aR (aH _))
 aY
 aA)
 (ag (ax (dO (aa (az aB (pv 0) ai (fun _ _ => rfl)) (aa (az aB (pv 0) ai (fun _ _ => rfl)) ae))))))), ?_⟩
 refine ⟨_, rfl, l, a, _, b, rfl, yy, ha, hb, fun H1 s1 => ?_⟩
 have rY := s1 _ _ yy
 refine ⟨_, rfl, l, _, 1, _, rfl, rfl, ay.of rY, rfl, rfl, _, rfl, ?_⟩
 have e : decide (tx [61] = V.str (Str.ofString "=")) = true := by decide +kernel
 rw [e]
 refine bw ⟨_, rfl, l, _, 0, _, rfl, rfl, ay.of rY, rfl, _, rfl, l, _, 2, _, rfl, rfl, ay.of rY, rfl, (by show 2 ≤ sizeLine; decide), fun t ht => ?_⟩
 exact q _ _ (ah.trans s1 (aj ht _)) ⟨t, rfl, cP.of af⟩
theorem HG {ks : List Lk} (h : ∀ k ∈ ks, bg k.l = true ∧ bg k.r = true) : ∀ q ∈ ks.map ue, ([44] : Cs) ∉ q := by
 intro q hq hm
 obtain ⟨k, hk, rfl⟩ := List.mem_map.mp hq
 have hn := h k hk
 unfold ue at hm
 rcases List.mem_cons.mp hm with e | hm
 ·exact m5 hn.1 e.symm
 rcases List.mem_cons.mp hm with e | hm
 ·revert e; cases k.same <;> decide
 ·exact m5 hn.2 (List.mem_singleton.mp hm).symm
theorem HH {ks : List (Cs × Cs)} (h : ∀ k ∈ ks, bg k.1 = true ∧ bg k.2 = true) : ∀ q ∈ ks.map uf, ([44] : Cs) ∉ q := by
 intro q hq hm
 obtain ⟨k, hk, rfl⟩ := List.mem_map.mp hq
 have hn := h k hk
 unfold uf at hm
 rcases List.mem_cons.mp hm with e | hm
 ·exact m5 hn.1 e.symm
 rcases List.mem_cons.mp hm with e | hm
 ·revert e; decide
 ·exact m5 hn.2 (List.mem_singleton.mp hm).symm
theorem Gx : (Str.ofString ",") = S [44] := by decide +kernel
theorem P5 : (Str.ofString ";") = S [59] := by decide +kernel
theorem wB : ar ["found"] ["found"] (ao jQ) := ⟨rfl, rfl, rfl, by decide +kernel, rfl, by decide +kernel, by decide +kernel⟩
theorem wC (F : bu K "read_looks" "read_looks" jQ f fd) (dX : bb P w K mg base "parted" 1 ["found", "mark"] ly) (l9 : bb P w K mg base "read_look" 4 ["found"] (D4 c)) : aX P w K mg base cO 5 f fd ["found"] (yZ c) := by
 refine F.ok wB (fun vs H Q E h => ?_) (fun cu A outer s H vs Q E hr h => ?_)
 ·obtain ⟨l, k, rfl, _⟩ := h
  rfl
 obtain ⟨l, ks, rfl, hL, h0, hz, hn, q⟩ := h
 refine ⟨_, (ag (ax (bX [] rfl (by kernel_rfl) (aJ (ak dX (hr.mono (by decide)) rfl (aa (pv 0) (aa aR ae)))) (fun _ _ _ _ _ => bH) (fun _ _ _ _ _ => (ak l9 (hr.mono (by decide)) rfl (aa (pv 0) ae)))))), ?_⟩
 refine ⟨_, rfl, l, _, [44], by rw [Gx]; rfl, hL, ?_, fun v H1 s1 R => ?_⟩
 ·have z := uh (m := [44]) (ks.map ue) 3 (by intro q hq; obtain ⟨k, _, rfl⟩ := List.mem_map.mp hq; exact Nat.le_refl _)
  rw [Lm9] at z
  omega
 have e := f7 (m := [44]) (ks.map ue) [] (by simpa using h0) (HG hn)
 rw [List.nil_append] at e
 rw [e, List.nil_append] at R
 obtain ⟨lr, vs, rfl, tX, hR, pr⟩ := R
 have hlen := Paired.length pr
 rw [Lm9] at hlen
 refine ⟨lr, rfl, ⟨_, ay.of hR⟩, fun D hD => ?_⟩
 refine bM (K := K) (xs := vs) ks (fun H0 H b y => oS c H0 H b y) (fun _ _ _ _ _ k h => h.keep k) (fun _ _ _ _ _ d h => h.bz d) (f9 (by omega)) hD (ay.of hR) hlen (fun i x k H' R hx hk sm hQ => ?_) (fun H' ys sm yy po => ?_)
 ·have hi : i < vs.length := (List.getElem?_eq_some_iff.mp hx).1
  have SK : i < ks.length := (List.getElem?_eq_some_iff.mp hk).1
  have ex : vs[i] = x := (List.getElem?_eq_some_iff.mp hx).2
  have ek : ks[i] = k := (List.getElem?_eq_some_iff.mp hk).2
  obtain ⟨b, eb, hb, kZ⟩ := paired_at pr i (by rw [Lm9]; exact SK) hi
  rw [List.getElem_map, ek] at kZ
  rw [ex] at eb
  subst eb
  have hm := hn k (by rw [← ek]; exact List.getElem_mem SK)
  exact ⟨_, rfl, b, k, rfl, sm _ _ kZ, hm.1, hm.2, fun v nA s2 ho => hQ v nA s2 ho⟩
 ·refine q _ _ (ah.trans s1 sm) ⟨D, ys, rfl, s1.free hD, yy, L2.Paired.bQ po fun b y z => z.bz fun _ h => s1.free h⟩
theorem wD : ar ["found"] ["found"] (ao jR) := ⟨rfl, rfl, rfl, by decide +kernel, rfl, by decide +kernel, by decide +kernel⟩
theorem wF (F : bu K "read_pairs" "read_pairs" jR f fd) (dX : bb P w K mg base "parted" 1 ["found", "mark"] ly) (me : bb P w K mg base "read_pair" 4 ["found"] (D5 K)) : aX P w K mg base cO 5 f fd ["found"] (y0 K) := by
 refine F.ok wD (fun vs H Q E h => ?_) (fun cu A outer s H vs Q E hr h => ?_)
 ·obtain ⟨l, k, rfl, _⟩ := h
  rfl
 obtain ⟨l, ks, rfl, hL, h0, hz, hn, q⟩ := h
 refine ⟨_, (ag (ax (bX [] rfl (by kernel_rfl) (aJ (ak dX (hr.mono (by decide)) rfl (aa (pv 0) (aa aR ae)))) (fun _ _ _ _ _ => bH) (fun _ _ _ _ _ => (ak me (hr.mono (by decide)) rfl (aa (pv 0) ae)))))), ?_⟩
 refine ⟨_, rfl, l, _, [44], by rw [Gx]; rfl, hL, ?_, fun v H1 s1 R => ?_⟩
 ·have z := uh (m := [44]) (ks.map uf) 3 (by intro q hq; obtain ⟨k, _, rfl⟩ := List.mem_map.mp hq; exact Nat.le_refl _)
  rw [Lm9] at z
  omega
 have e := f7 (m := [44]) (ks.map uf) [] (by simpa using h0) (HH hn)
 rw [List.nil_append] at e
 rw [e, List.nil_append] at R
 obtain ⟨lr, vs, rfl, tX, hR, pr⟩ := R
 have hlen := Paired.length pr
 rw [Lm9] at hlen
 refine ⟨lr, rfl, ⟨_, ay.of hR⟩, fun D hD => ?_⟩
 refine bM (K := K) (xs := vs) ks (fun _ H b y => Pair K H b y) (fun _ _ _ _ _ k h => h.keep k) (fun _ _ _ _ _ _ h => h) (f9 (by omega)) hD (ay.of hR) hlen (fun i x k H' R hx hk sm hQ => ?_) (fun H' ys sm yy po => ?_)
 ·have hi : i < vs.length := (List.getElem?_eq_some_iff.mp hx).1
  have SK : i < ks.length := (List.getElem?_eq_some_iff.mp hk).1
  have ex : vs[i] = x := (List.getElem?_eq_some_iff.mp hx).2
  have ek : ks[i] = k := (List.getElem?_eq_some_iff.mp hk).2
  obtain ⟨b, eb, hb, kZ⟩ := paired_at pr i (by rw [Lm9]; exact SK) hi
  rw [List.getElem_map, ek] at kZ
  rw [ex] at eb
  subst eb
  have hm := hn k (by rw [← ek]; exact List.getElem_mem SK)
  exact ⟨_, rfl, b, k, rfl, sm _ _ kZ, hm.1, hm.2, fun v nA s2 ho => hQ v nA s2 ho⟩
 ·exact q _ _ (ah.trans s1 sm) ⟨D, ys, rfl, s1.free hD, yy, po⟩
theorem Ak : ar ["word", "found"] ["word", "found"] (ao lP) := ⟨rfl, rfl, rfl, by decide +kernel, rfl, by decide +kernel, by decide +kernel⟩
theorem Al (F : bu K "read_part" "read_part" lP f fd) (j1 : bb P w K mg base "read_looks" 5 ["found"] (yZ c)) (j3 : bb P w K mg base "read_pairs" 5 ["found"] (y0 K)) (gK : bb P w K mg base "row_of_facts" 5 ["found"] (JC K)) :
  aX P w K mg base cO 6 f fd ["word", "found"] (D6 K c) := by
 refine F.ok Ak (fun vs H Q E h => ?_) (fun cu A outer s H vs Q E hr h => ?_)
 ·obtain ⟨l, n, ps, p, rfl, _⟩ := h
  rfl
 obtain ⟨l, n, ps, p, rfl, hL, hz, hP, q⟩ := h
 refine ⟨_, (ab (aV (au dG (pv 0) aR (aH _))
 (ag (ax (ak j1 (hr.mono (by decide)) rfl (aa (pv 1) ae))))
 aA)
 (ab (aV (au dG (pv 0) aR (aH _))
 (ag (ax (ak j3 (hr.mono (by decide)) rfl (aa (pv 1) ae))))
 aA)
 (ag (ax (ak gK (hr.mono (by decide)) rfl (aa (pv 1) ae)))))), ?_⟩
 refine ⟨_, rfl, rfl, _, rfl, ?_⟩
 cases hP with
 | lk h0 hl h =>
  have e : decide (tx (wordAt 2) = V.str (Str.ofString "look")) = true := by decide +kernel
  rw [e]
  exact nT ⟨_, rfl, l, _, rfl, hL, h0, hl, h, fun v H' s' ho => q v H' s' ho⟩
 | pr h0 hl h =>
  have e : decide (tx (wordAt 4) = V.str (Str.ofString "look")) = false := by decide +kernel
  have e2 : decide (tx (wordAt 4) = V.str (Str.ofString "tell")) = true := by decide +kernel
  rw [e]
  refine bw ⟨_, rfl, rfl, _, rfl, ?_⟩
  rw [e2]
  exact nT ⟨_, rfl, l, _, rfl, hL, h0, hl, h, fun v H' s' ho => q v H' s' ho⟩
 | fs hn h =>
  have e : decide (tx (wordAt n) = V.str (Str.ofString "look")) = false := by rcases hn with e | e | e <;> subst e <;> decide +kernel
  have e2 : decide (tx (wordAt n) = V.str (Str.ofString "tell")) = false := by rcases hn with e | e | e <;> subst e <;> decide +kernel
  rw [e]
  refine bw ⟨_, rfl, rfl, _, rfl, ?_⟩
  rw [e2]
  exact bw ⟨_, rfl, l, _, _, rfl, hL, hz, h, fun v H' s' ho => q v H' s' ho⟩
end
end gf
namespace gf
open PySem L2 fZ Bk
set_option maxHeartbeats 4000000
section
variable {P : Program} {w : World} {K : PySem.W.Frag} {mg : Str → Option Value} {base : Heap} {f : Addr} {fd : FuncData} {c : Cl}
abbrev gM : List V := [tx JF, tx JG, tx JI, tx NY, tx ua]
theorem K6 {n : Nat} (hn : n ≤ 5) : hZ gM (some (n : Int)) none = gM.drop n := by
 rcases (by omega : n = 0 ∨ n = 1 ∨ n = 2 ∨ n = 3 ∨ n = 4 ∨ n = 5) with e | e | e | e | e | e <;> subst e <;> rfl
theorem Np {m n : Nat} (h : m ≤ n) (hn : n < 5) : G2 (tx (wordAt n)) (gM.drop m) = true := by
 rcases (by omega : n = 0 ∨ n = 1 ∨ n = 2 ∨ n = 3 ∨ n = 4) with e | e | e | e | e <;> subst e <;>
 rcases (by omega : m = 0 ∨ m = 1 ∨ m = 2 ∨ m = 3 ∨ m = 4) with e | e | e | e | e <;> subst e <;> first | omega | decide +kernel
theorem va (m : Nat) : (gM.drop m).all eT = true := by
 rw [List.all_eq_true]
 intro x hx
 have hx' := List.mem_of_mem_drop hx
 rcases List.mem_cons.mp hx' with e | hx'
 ·rw [e]; rfl
 rcases List.mem_cons.mp hx' with e | hx'
 ·rw [e]; rfl
 rcases List.mem_cons.mp hx' with e | hx'
 ·rw [e]; rfl
 rcases List.mem_cons.mp hx' with e | hx'
 ·rw [e]; rfl
 ·rw [List.mem_singleton.mp hx']; rfl
theorem ER {n : Nat} (hn : n < 5) : (∃ z, gM[n]? = some z ∧ v9 z (tx (wordAt n)) = true) ∧ ∀ m z, m < n → gM[m]? = some z → v9 z (tx (wordAt n)) = false := by
 rcases (by omega : n = 0 ∨ n = 1 ∨ n = 2 ∨ n = 3 ∨ n = 4) with e | e | e | e | e <;> subst e <;> refine ⟨⟨_, rfl, by decide +kernel⟩, fun m z hm hz => ?_⟩
 ·omega
 all_goals
  rcases (by omega : m = 0 ∨ m = 1 ∨ m = 2 ∨ m = 3) with e | e | e | e <;> subst e <;> first | omega | (cases hz; decide +kernel)
theorem cC : ar ["found", "title", "parts", "earliest", "piece", "word"] ["found"] (ao lO) := ⟨rfl, rfl, rfl, by decide +kernel, rfl, by decide +kernel, by decide +kernel⟩
theorem Am {P6 : Addr} {u1 : Value} (F : bu K "read_rule" "read_rule" lO f fd) (bq : bb P w K mg base "piece_at" 1 ["found", "place"] oX) (bf : bb P w K mg base "is_small_word" 3 ["text"] (wq iA)) (dX : bb P w K mg base "parted" 1 ["found", "mark"] ly)
  (mh : bb P w K mg base "read_part" 6 ["word", "found"] (D6 K c)) (mi : mg "RULE_WORD" = some u1) (mj : RelV (tx gw) u1) (pK : mg "PART_WORDS" = some (.ref P6)) (pL : ∀ H, cP K H P6 gM) (An : ∃ o, K.lookup P6 = some o ∧ o.cls = .type "tuple" ∧ o.dict = none) :
  aX P w K mg base cO 7 f fd ["found"] (D7 K c) := by
 have pM : RelV (.ref P6) (.ref P6) := rfl
 refine F.ok cC (fun vs H Q E h => ?_) (fun cu A outer s H vs Q E hr h => ?_)
 ·obtain ⟨l, title, L, rfl, _⟩ := h
  rfl
 obtain ⟨l, title, L, rfl, hL, hz, R, q⟩ := h
 have hu := FT hr
 refine ⟨_, (ab (aw (i := 1) cC.nd rfl (Or.inl rfl) (ak bq (hr.mono (by decide)) rfl (aa (pv 0) (aa ai ae))))
 (ab (aV (PW.pt (oJ (au dH (ak bq (hr.mono (by decide)) rfl (aa (pv 0) (aa ai ae))) (c5 rfl mi mj) (aH _)) (oJ (dB (bT (ak bf (hr.mono (by decide)) rfl (aa (pv 1) ae)))) (p0 (au dH (ak bq (hr.mono (by decide)) rfl (aa (pv 0) (aa ai ae))) aR (aH _))))))
 aY
 aA)
 (ab (aw (i := 2) cC.nd rfl (Or.inl rfl) B1)
 (ab (aw (i := 3) cC.nd rfl (Or.inl rfl) ai)
 (ab (bj PassesOwn.never rfl (aJ (ak dX (hr.mono (by decide)) rfl (aa (fw m3 (pv 0) (e9 ai) mZ) (aa aR ae)))) (aK (i := 4) cC.nd rfl (Or.inl rfl))
 (ab (aw (i := 5) cC.nd rfl (Or.inl rfl) (ak bq (hr.mono (by decide)) rfl (aa (pv 4) (aa ai ae))))
 (ab (aV (au c7 (pv 5) (fw Mw (c5 rfl pK pM) (e9 (pv 3)) mZ) (by with_unfolding_all rfl))
 aY
 aA)
 (ab (aw (i := 3) cC.nd rfl (Or.inl rfl) (aL fQ (bY PySem.F.plainAttrs_tuple PySem.F.slot_tuple_index PySem.F.type_tuple_index Ju (c5 rfl pK pM) (aa (pv 5) ae)) ai))
 (ag (FW hu (pv 2) (pv 5) (ak mh (hr.mono (by decide)) rfl (aa (pv 5) (aa (fw m3 (pv 4) (e9 ai) mZ) ae))) rfl))))))
 (ab (aV (PW.pt (k4 (DD (qh hu aR (pv 2))) (jB (DD (qh hu aR (pv 2))))))
 aY
 aA)
 (ag (ax (dO (aa (pv 1) (aa (pv 2) ae))))))))))), ?_⟩
 refine ⟨_, rfl, l, _, 1, rfl, hL, hz, ?_⟩
 have Xk := cj R.tt
 refine ⟨_, rfl, l, _, 0, rfl, hL, hz, rfl, _, rfl, ?_⟩
 have e0 : decide (tx ((iB title L).getD 0 []) = tx gw) = true := decide_eq_true rfl
 rw [e0]
 refine bw ⟨_, rfl, S title, rfl, by rw [a0]; omega, fun H1 s1 => ⟨_, rfl, ?_⟩⟩
 rw [B5, R.tt]
 have rY := s1 _ _ hL
 refine bw ⟨_, rfl, l, _, 2, rfl, rY, hz, rfl, _, rfl, ?_⟩
 have e2 : decide (tx ((iB title L).getD 2 []) = V.str (Str.ofString ":")) = true := by
  show decide (tx [58] = V.str (Str.ofString ":")) = true
  decide +kernel
 rw [e2]
 refine bw ?_
 intro d hd
 have Vs : H d = none := s1.free hd
 have s2 : ah H (upd H1 d (.dK [])) := ah.aS s1 Vs _
 refine ⟨_, rfl, _, rfl, l, _, rfl, .inl (.inl (s2 _ _ hL)), fun l2 tN => ?_⟩
 have Xl : hZ ((iB title L).map tx) (some (3 : Int)) none = (glue [59] (L.map fun x => wordAt x.n :: x.ps)).map tx := tS (k := 3) (by rw [Lm9]; show 3 ≤ (glue [59] (L.map fun x => wordAt x.n :: x.ps)).length + 3; omega)
 rw [Xl]
 have hgl : (glue [59] (L.map fun x => wordAt x.n :: x.ps)).length ≤ 20000 := by
  have z : (iB title L).length = (glue [59] (L.map fun x => wordAt x.n :: x.ps)).length + 3 := rfl
  omega
 have P7 : H l2 = none := s2.free tN
 have s3 : ah H (upd (upd H1 d (.dK [])) l2 (.lst ((glue [59] (L.map fun x => wordAt x.n :: x.ps)).map tx))) := ah.aS s2 P7 _
 have nd2 : d ≠ l2 := fun z => by rw [← z, af] at tN; cases tN
 refine ⟨l2, _, [59], by rw [P5]; rfl, af, hgl, fun v H2 s4 RW => ?_⟩
 have Xm : ∀ q ∈ L.map (fun x => wordAt x.n :: x.ps), ([59] : Cs) ∉ q := by
  intro q hq hm
  obtain ⟨x, hx, rfl⟩ := List.mem_map.mp hq
  rcases List.mem_cons.mp hm with e | hm
  ·have Vt := (qo R.inc x hx).2
   revert e
   rcases (by omega : x.n = 0 ∨ x.n = 1 ∨ x.n = 2 ∨ x.n = 3 ∨ x.n = 4) with e | e | e | e | e <;> rw [e] <;> decide
  ·exact R.no x hx hm
 have eP := f7 (m := [59]) (L.map fun x => wordAt x.n :: x.ps) [] (by simpa using R.ne) Xm
 rw [List.nil_append] at eP
 rw [eP, List.nil_append] at RW
 obtain ⟨lr, rows, rfl, tX, hR, pr⟩ := RW
 have HI := Paired.length pr
 rw [Lm9] at HI
 have hd2 : H2 d = some (.dK []) := s4 _ _ (by rw [aq nd2]; exact af)
 have s24 : ah H H2 := ah.trans s3 s4
 have Zc : L.length ≤ 5 := F4 R.inc (by omega)
 refine ⟨lr, rfl, ⟨_, ay.of hR⟩, ba (K := K) (a := lr) (xs := rows) (fun i σ H' => ∃ (kvs : List (Key × V)) (m : Nat) (o4 o5 : Option V), σ = [some (.ref l), some (tx title), some (.ref d), some (.int m), o4, o5] ∧ m ≤ 5 ∧ (∀ x ∈ L.drop i, m ≤ x.n) ∧
   (∀ b o, b ≠ d → H2 b = some o → H' b = some o) ∧ (∀ b, H' b = none → H2 b = none) ∧ H' d = some (.dK kvs) ∧ cB K c (upd H1 d (.dK [])) H' (L.take i) kvs)
  ⟨[], 0, none, none, rfl, by omega, fun _ _ => Nat.zero_le _, fun _ _ _ h => h, fun _ h => h, hd2, .nil⟩ (fun i σ H' _ ⟨_, _, _, _, _, _, _, k1, _⟩ => ay.of (k1 _ _ (BL hR hd2 (by intro z; cases z)) hR)) ?_ ?_⟩
 ·rintro i y σ H' hi ⟨kvs, m, o4, o5, rfl, Zd, Ze, k1, k2, IF, pa⟩
  have SM : i < rows.length := (List.getElem?_eq_some_iff.mp hi).1
  have ES : i < L.length := by omega
  have ey : rows[i] = y := (List.getElem?_eq_some_iff.mp hi).2
  obtain ⟨b, eb, K1, Vu⟩ := paired_at pr i (by rw [Lm9]; exact ES) SM
  rw [List.getElem_map] at Vu
  rw [ey] at eb
  subst eb
  have QJ : L[i] ∈ L := List.getElem_mem ES
  generalize hx : L[i] = x at Vu QJ
  have Vt := (qo R.inc x QJ).2
  have hmn : m ≤ x.n := Ze x (by rw [← hx]; exact List.mem_of_getElem? (by rw [List.getElem?_drop, Nat.add_zero]; exact Ge9 ES))
  have Xn : b ≠ d := BL Vu hd2 (by intro z; cases z)
  have Ck := k1 _ _ Xn Vu
  have Zf : (wordAt x.n :: x.ps).length ≤ 20000 := by
   have z := Cd (m := [59]) (L.map fun x => wordAt x.n :: x.ps) (wordAt x.n :: x.ps) (List.mem_map.mpr ⟨x, QJ, rfl⟩)
   omega
  refine ⟨_, rfl, b, _, 0, rfl, Ck, Zf, ?_⟩
  refine ⟨_, rfl, _, rfl, _, rfl, P6, _, rfl, pL _, fun p H3 QK hp => ?_⟩
  rw [K6 Zd] at hp
  refine ⟨p, _, rfl, .inr hp, rfl, va m, _, rfl, ?_⟩
  have Xo : (if true = true then !G2 (tx ((wordAt x.n :: x.ps).getD 0 [])) (gM.drop m) else G2 (tx ((wordAt x.n :: x.ps).getD 0 [])) (gM.drop m)) = false := by
   rw [if_pos rfl]
   show (!G2 (tx (wordAt x.n)) (gM.drop m)) = false
   rw [Np hmn Vt]
   rfl
  rw [Xo]
  refine bw ?_
  obtain ⟨wp1, wp2⟩ := ER Vt
  refine ⟨.inr (.inl ⟨rfl, An⟩), _, rfl, P6, gM, _, x.n, rfl, rfl, pL _, rfl, va 0, wp1, wp2, _, _, rfl, rfl, ?_⟩
  have WW := QK _ _ Ck
  refine ⟨_, rfl, _, rfl, _, rfl, b, _, rfl, .inl (.inl WW), fun l3 QL => ?_⟩
  have ec : hZ ((wordAt x.n :: x.ps).map tx) (some (1 : Int)) none = x.ps.map tx := tS (k := 1) (by rw [Lm9, List.length_cons]; omega)
  rw [ec]
  have Vv : H3 d = some (.dK kvs) := QK _ _ IF
  have nd3 : d ≠ l3 := aI Vv QL
  refine ⟨l3, x.n, x.ps, x.p, rfl, af, by rw [List.length_cons] at Zf; omega, R.ok x QJ, fun v H5 s5 MO => ?_⟩
  have Gy : ah H3 H5 := ah.trans (aj QL _) s5
  have QM : H5 d = some (.dK kvs) := Gy _ _ Vv
  have Xg : kvs.length ≤ 5 := by
   have z := Paired.length pa
   rw [List.length_take] at z
   omega
  have DT : bF kvs (Sum.inr (S (wordAt x.n)) : Key) = none := x6 fun kv hkv e => by
   obtain ⟨z, hz, Vl⟩ := eU pa hkv
   rw [Vl.1] at e
   have e2 : wordAt z.n = wordAt x.n := x3 (Sum.inr.inj e)
   have ia := JK R.inc i ES
   rw [hx] at ia
   have eO := ia.1 z hz
   have := uj (by omega) Vt e2
   omega
  have kp : Kp (upd H1 d (.dK [])) H5 (upd H5 d (.dK (kvs ++ [(Sum.inr (S (wordAt x.n)), v)]))) := Kp.upd af QM (by intro xs z; cases z) (by intro o u z; cases z)
  have k25 : ∀ b, H5 b = none → H2 b = none := fun b h => k2 b (ah.free (ah.trans QK Gy) h)
  refine ⟨_, rfl, _, rfl, d, _, rfl, G8.k (k := (Sum.inr (S (wordAt x.n)) : Key)) QM (f9 (by omega)), ?_⟩
  rw [BY _ DT]
  refine ⟨kvs ++ [(Sum.inr (S (wordAt x.n)), v)], x.n + 1, _, _, rfl, by omega, fun z hz => ?_, fun b' o hb hH => ?_, fun b' h => k25 b' (kp.t6 b' h), af, ?_⟩
  ·have z2 := x8 R.inc i ES z hz
   rw [hx] at z2
   omega
  ·rw [aq hb]
   exact Gy _ _ (QK _ _ (k1 _ _ hb hH))
  ·rw [List.take_succ_eq_append_getElem ES, hx]
   refine ((cB.keep (Kp.same (ah.trans QK Gy)) pa).keep kp).snoc ⟨rfl, ?_⟩
   refine cA.keep kp (cA.bz (fun b h => ?_) MO)
   have h3 : H3 b = none := (aj QL _).free h
   exact (ah.trans (aj tN _) s4).free (k2 b (QK.free h3))
 ·rintro σ H' ⟨kvs, m, o4, o5, rfl, Zd, Ze, k1, k2, IF, pa⟩
  have Xi : rows.length = L.length := HI.symm
  rw [Xi, List.take_length] at pa
  have sH : ah H H' := fun b o e => k1 b o (aI e Vs) (s24 b o e)
  have fin : ∀ t, H' t = none → Q (.ref t) (upd H' t (.tup [tx title, .ref d])) := fun t ht => by
   have ntd : d ≠ t := aI IF ht
   refine q t d kvs _ (ah.trans sH (aj ht _)) af Vs (by rw [aq ntd]; exact IF) ?_
   exact L2.Paired.bQ pa fun x kv z => ⟨z.1, cA.bz (fun b h => ah.free (ah.aS s1 Vs _) h) (z.2.keep (Kp.same (aj ht _)))⟩
  refine ⟨_, rfl, d, _, rfl, jI.k (k := (Sum.inr (Str.ofString "take") : Key)) IF, _, rfl, ?_⟩
  obtain ⟨x, QJ, Xp⟩ := R.hd
  have HJ := x9 pa QJ
  rcases Xp with e | e
  ·rw [e] at HJ
   have e2 : (S (wordAt 0)) = Str.ofString "take" := by decide +kernel
   rw [e2] at HJ
   rw [HJ]
   exact bw ⟨_, rfl, _, rfl, (by show 2 ≤ sizeLine; decide), fin⟩
  ·rw [e] at HJ
   have e2 : (S (wordAt 1)) = Str.ofString "keep" := by decide +kernel
   rw [e2] at HJ
   have two : ∀ b : Bool, (if b = true then (∃ a o, V.ref d = .ref a ∧ jI H' a (.str (Str.ofString "keep")) o ∧ False) else True) → True := fun _ _ => trivial
   refine cK (fun _ => ⟨_, rfl, d, _, rfl, jI.k (k := (Sum.inr (Str.ofString "keep") : Key)) IF, _, rfl, ?_⟩) (fun _ => bw ⟨_, rfl, _, rfl, (by show 2 ≤ sizeLine; decide), fin⟩)
   rw [HJ]
   exact bw ⟨_, rfl, _, rfl, (by show 2 ≤ sizeLine; decide), fin⟩
end
end gf
namespace gf
open PySem L2 fZ Bk
set_option maxHeartbeats 4000000
section
variable {P : Program} {w : World} {K : PySem.W.Frag} {mg : Str → Option Value} {base : Heap} {f : Addr} {fd : FuncData} {c : Cl}
theorem CO : ar ["name"] ["name"] (ao oh) := ⟨rfl, rfl, rfl, by decide +kernel, rfl, by decide +kernel, by decide +kernel⟩
theorem CP {u1 : Value} (F : bu K "is_great" "is_great" oh f fd) (zW : mg "GREAT" = some u1) (zX : RelV (.str qi) u1) : aX P w K mg base cO 1 f fd ["name"] sP := by
 refine F.ok CO (fun vs H Q E h => ?_) (fun cu A outer s H vs Q E hr h => ?_)
 ·obtain ⟨p, rfl, _⟩ := h
  rfl
 obtain ⟨p, rfl, h1, hx, q⟩ := h
 refine ⟨_, (ag (ax (dN gk (az qc (pv 0) ai (fun _ _ => rfl)) (c5 rfl zW zX) (by with_unfolding_all rfl)))), ?_⟩
 have hl : 1 ≤ (S p).length := by
  rw [a0]
  cases p with
  | nil => exact absurd rfl h1
  | cons a r => simp
 refine ⟨_, rfl, S p, 0, _, rfl, rfl, (by rw [a0]; exact sz (by omega)), FY hl, _, _, rfl, rfl, ?_⟩
 rw [StrLaws.found_one, cv]
 exact q
theorem fg : ar ["facts", "found", "fact", "name"] ["facts"] (ao jT) := ⟨rfl, rfl, rfl, by decide +kernel, rfl, by decide +kernel, by decide +kernel⟩
theorem wG (F : bu K "open_names" "open_names" jT f fd) (eZ : bb P w K mg base "is_great" 1 ["name"] sP) (j4 : mg "list" = none) : aX P w K mg base cO 2 f fd ["facts"] (y4 K) := by
 refine F.ok fg (fun vs H Q E h => ?_) (fun cu A outer s H vs Q E hr h => ?_)
 ·obtain ⟨l, us, fs, rfl, _⟩ := h
  rfl
 obtain ⟨l, us, fs, rfl, hL, hP, hz, bt, hfl, q⟩ := h
 have hu := FT hr
 refine ⟨_, (ab (aw (i := 1) fg.nd rfl (Or.inl rfl) B1)
 (ab (bj PassesOwn.never rfl (aJ (pv 0)) (aK (i := 2) fg.nd rfl (Or.inl rfl))
 (ag (bj PassesOwn.never rfl (OD (az a8 (pv 2) ai (fun _ _ => rfl))) (aK (i := 3) fg.nd rfl (Or.inl rfl))
 (ag (aV (bT (ak eZ (hr.mono (by decide)) rfl (aa (pv 3) ae)))
 (ag (FW hu (pv 1) (pv 3) fY rfl))
 aA)))))
 (ag (ax (gm (tY rfl) rfl j4 PyProof.Rows.Boot.«list» (aa (pv 1) ae)))))), ?_⟩
 intro d hd
 have hPl := Paired.length hP
 refine ⟨_, rfl, l, rfl, ⟨_, ay.of ((aj hd _) _ _ hL)⟩, ba (K := K) (a := l) (xs := us) (fun i σ H' => ∃ o2 o3, σ = [some (.ref l), some (.ref d), o2, o3] ∧ ah H H' ∧ H' d = some (.dK ((dQ ((fs.take i).flatMap (·.as)) []).map wt)) ∧ (dQ ((fs.take i).flatMap (·.as)) []).length ≤ ((fs.take i).flatMap (·.as)).length)
  ⟨none, none, rfl, aj hd _, af, Nat.le_refl _⟩ (fun i σ H' _ ⟨_, _, _, sm, _⟩ => ay.of (sm _ _ hL)) ?_ ?_⟩
 ·rintro i y σ H' hi ⟨o2, o3, rfl, sm, IF, tZ⟩
  have qL : i < us.length := (List.getElem?_eq_some_iff.mp hi).1
  have K7 : i < fs.length := by omega
  have ey : us[i] = y := (List.getElem?_eq_some_iff.mp hi).2
  obtain ⟨t, t2, et, h1, h2⟩ := paired_at hP i K7 qL
  rw [ey] at et
  subst et
  have SN : cP K H' t [tx fs[i].k, .ref t2] := h1.same sm
  have fok := bt fs[i] (List.getElem_mem K7)
  generalize N8 : dQ ((fs.take i).flatMap (·.as)) [] = CQ at IF tZ
  have Zg : ∀ j, dQ (((fs.take i).flatMap (·.as)) ++ (fs[i].as.take j)) [] = dQ (fs[i].as.take j) CQ := fun j => by rw [qp, N8]
  have Zh : ((fs.take i).flatMap (·.as)).length + fs[i].as.length ≤ 20000 := by
   have e : fs.flatMap (·.as) = (fs.take i).flatMap (·.as) ++ (fs[i].as ++ (fs.drop (i + 1)).flatMap (·.as)) := by
    rw [← List.flatMap_cons, ← List.flatMap_append, ← List.drop_eq_getElem_cons K7, List.take_append_drop]
   have z := congrArg List.length e
   rw [List.length_append, List.length_append] at z
   omega
  refine ⟨_, rfl, t, _, 1, _, rfl, rfl, SN, rfl, t2, rfl, ⟨_, h2.same sm⟩, Mb (K := K) (a := t2) (xs := fs[i].as.map tx) (fun j σ H2 => ∃ o3, σ = [some (.ref l), some (.ref d), some (.ref t), o3] ∧ ah H H2 ∧ H2 d = some (.dK ((dQ (fs[i].as.take j) CQ).map wt)) ∧ (dQ (fs[i].as.take j) CQ).length ≤ CQ.length + j)
   ⟨_, rfl, sm, IF, Nat.le_refl _⟩ (fun j σ H2 _ ⟨_, _, IE, _⟩ => h2.same IE) ?_ ?_⟩
  ·rintro j y σ H2 hj ⟨o3', rfl, IE, K8, tN⟩
   have Xq : j < fs[i].as.length := by
    have := (List.getElem?_eq_some_iff.mp hj).1
    simpa using this
   obtain rfl : y = tx fs[i].as[j] := by
    rw [List.getElem?_map, Ge9 Xq] at hj
    exact (Option.some.inj hj).symm
   have Nj := ji (fok.2.2 _ (List.getElem_mem Xq))
   have st : dQ (fs[i].as.take (j + 1)) CQ = nC fs[i].as[j] (dQ (fs[i].as.take j) CQ) := by
    rw [List.take_succ_eq_append_getElem Xq, qp]
    rfl
   have QL := He fs[i].as[j] (dQ (fs[i].as.take j) CQ)
   refine ⟨_, rfl, fs[i].as[j], rfl, (fun z => by rw [z] at Nj; simp at Nj), by omega, _, rfl, ?_⟩
   refine cK (fun g => ?_) (fun g => ?_)
   ·refine ⟨_, rfl, _, rfl, d, _, rfl, G8.k (k := (Sum.inr (S fs[i].as[j]) : Key)) K8 (by rw [Lm9]; exact f9 (by omega)), ?_⟩
    rw [JN]
    refine ⟨_, rfl, ah.aS IE hd _, ?_, ?_⟩
    ·rw [af, st]
     unfold nC
     rw [if_pos g]
    ·rw [st]; omega
   ·refine ⟨_, rfl, IE, ?_, ?_⟩
    ·rw [st]
     unfold nC
     rw [if_neg g]
     exact K8
    ·rw [st]; omega
  ·rintro σ H2 ⟨o3', rfl, IE, K8, tN⟩
   rw [Lm9, List.take_length] at K8 tN
   have e : dQ ((fs.take (i + 1)).flatMap (·.as)) [] = dQ fs[i].as CQ := by
    rw [List.take_succ_eq_append_getElem K7, List.flatMap_append, qp, N8]
    simp
   refine ⟨_, _, rfl, IE, by rw [e]; exact K8, ?_⟩
   rw [e, List.take_succ_eq_append_getElem K7, List.flatMap_append, List.length_append, show ([fs[i]].flatMap (·.as)) = fs[i].as by simp]
   omega
 ·rintro σ H' ⟨o2, o3, rfl, sm, IF, tZ⟩
  rw [← hPl, List.take_length] at IF
  refine ⟨_, rfl, d, _, rfl, IF, fun l2 tN => ?_⟩
  refine q _ _ (ah.trans sm (aj tN _)) ⟨l2, rfl, sm.free tN, ?_⟩
  rw [af, JM, List.map_map]
  rfl
theorem Ao : ar ["self", "title", "parts"] ["self", "title", "parts"] (ao lT) := ⟨rfl, rfl, rfl, by decide +kernel, rfl, by decide +kernel, by decide +kernel⟩
theorem Ap (F : bu K "__init__" "Rule.__init__" lT f fd) (T : y6 K c.rule) (j5 : bb P w K mg base "open_names" 2 ["facts"] (y4 K)) : aX P w K mg base cO 3 f fd ["self", "title", "parts"] (sQ K c) := by
 refine F.ok Ao (fun vs H Q E h => ?_) (fun cu A outer s H vs Q E hr h => ?_)
 ·obtain ⟨H0, p, dx, d, title, L, kvs, u0, rfl, _⟩ := h
  rfl
 obtain ⟨H0, p, dx, d, title, L, kvs, u0, rfl, hp, Xr, t6, hd, pa, h5, bt, SO, q⟩ := h
 have hu := FT hr
 refine ⟨_, (ab (ps_fld (pv 0) (pv 1) rfl)
 (ab (ps_fld (pv 0) (la hu (pv 2) aR (bo ae) ⟨rfl, rfl, rfl, rfl⟩) rfl)
 (ab (ps_fld (pv 0) (la hu (pv 2) aR (bo ae) ⟨rfl, rfl, rfl, rfl⟩) rfl)
 (ab (ps_fld (pv 0) (la hu (pv 2) aR (bo ae) ⟨rfl, rfl, rfl, rfl⟩) rfl)
 (ab (ps_fld (pv 0) (la hu (pv 2) aR (bo ae) ⟨rfl, rfl, rfl, rfl⟩) rfl)
 (ab (ps_fld (pv 0) (la hu (pv 2) aR (bo ae) ⟨rfl, rfl, rfl, rfl⟩) rfl)
 (ag (ps_fld (pv 0) (ak j5 (hr.mono (by decide)) rfl (aa (aL nQ (pe_fld (pv 0) rfl) (pe_fld (pv 0) rfl)) ae)) rfl)))))))), ?_⟩
 have Vw : p ≠ d := BL hp hd (by intro z; cases z)
 have QN : ∀ (o : HO), (∃ fs, o = .ins c.rule dx fs) → (∀ xs, o ≠ .tup xs) ∧ ∀ ob u, o ≠ .tp ob u := fun o ⟨fs, e⟩ => ⟨(by intro xs z; rw [e] at z; cases z), (by intro ob u z; rw [e] at z; cases z)⟩
 refine ⟨_, rfl, _, rfl, p, c.rule, dx, [], rfl, hp, T.cl, T.n1, (by show 0 < 1000; decide), ?_⟩
 have key : ∀ (H1 : Hp) (L1 : List (Str × V)) (n : Str), H1 p = some (.ins c.rule dx L1) → H1 d = some (.dK kvs) → cB K c H0 H1 L kvs → (∀ b, H1 b = none → H0 b = none) → (∀ b o, H b = some o → b ≠ p → H1 b = some o) →
   ∀ l, H1 l = none → ∀ y : V, (upd (upd H1 l (.lst [])) p (.ins c.rule dx (bB n y L1))) p = some (.ins c.rule dx (bB n y L1)) ∧ (upd (upd H1 l (.lst [])) p (.ins c.rule dx (bB n y L1))) d = some (.dK kvs) ∧
    Kp H0 H1 (upd (upd H1 l (.lst [])) p (.ins c.rule dx (bB n y L1))) ∧ H0 l = none ∧ upd H1 l (.lst []) l = some (.lst []) ∧ upd H1 l (.lst []) d = some (.dK kvs) ∧ upd H1 l (.lst []) p = some (.ins c.rule dx L1) ∧ cB K c H0 (upd H1 l (.lst [])) L kvs ∧
    (∀ b o, H b = some o → b ≠ p → (upd (upd H1 l (.lst [])) p (.ins c.rule dx (bB n y L1))) b = some o) ∧ Kp H0 (upd H1 l (.lst [])) (upd (upd H1 l (.lst [])) p (.ins c.rule dx (bB n y L1))) := by
  intro H1 L1 n h1p Zi Xs SQ h1k l hl y
  have s1 := aj hl (.lst [])
  have Zj := s1 _ _ h1p
  have NV : Kp H0 (upd H1 l (.lst [])) (upd (upd H1 l (.lst [])) p (.ins c.rule dx (bB n y L1))) := Kp.upd Xr Zj (QN _ ⟨_, rfl⟩).1 (QN _ ⟨_, rfl⟩).2
  refine ⟨af, by rw [aq (Ne.symm Vw)]; exact s1 _ _ Zi, (Kp.same s1).trans NV, SQ l hl, af, s1 _ _ Zi, Zj, Xs.keep (Kp.same s1), fun b o e hb => ?_, NV⟩
  rw [aq hb]
  exact s1 _ _ (h1k b o e hb)
 have Qz : Kp H0 H (upd H p (.ins c.rule dx (bB "title" (tx title) []))) := Kp.upd Xr hp (QN _ ⟨_, rfl⟩).1 (QN _ ⟨_, rfl⟩).2
 have Zk : (upd H p (.ins c.rule dx (bB "title" (tx title) []))) p = some (.ins c.rule dx (bB "title" (tx title) [])) := af
 have Xt : (upd H p (.ins c.rule dx (bB "title" (tx title) []))) d = some (.dK kvs) := by rw [aq (Ne.symm Vw)]; exact hd
 have Zl : ∀ b o, H b = some o → b ≠ p → (upd H p (.ins c.rule dx (bB "title" (tx title) []))) b = some o := fun b o e hb => by rw [aq hb]; exact e
 have P8 := pa.keep Qz
 have K9 : ∀ b, (upd H p (.ins c.rule dx (bB "title" (tx title) []))) b = none → H0 b = none := fun b h => t6 b (Qz.t6 b h)
 generalize upd H p (.ins c.rule dx (bB "title" (tx title) [])) = H1 at Qz Zk Xt Zl P8 K9 ⊢
 refine ⟨_, rfl, d, rfl, .inl ⟨_, .inl Xt⟩, (by show 0 ≤ sizeLine; decide), fun l1 RY => ?_⟩
 obtain ⟨SR, SS, P9, Xu, Xv, Xw, Xx, Xy, SU, N9⟩ := key H1 _ "taken" Zk Xt P8 K9 Zl l1 RY ((bF kvs (Sum.inr (Str.ofString "take") : Key)).getD (.ref l1))
 refine ⟨_, jI.k (k := (Sum.inr (Str.ofString "take") : Key)) Xw, _, rfl, p, c.rule, dx, _, rfl, Xx, T.cl, T.n2, (by show 1 < 1000; decide), ?_⟩
 have v1 := (D8 Xy h5 bt (n := 0) (by decide) Xu Xv).keep N9
 rw [show S (wordAt 0) = Str.ofString "take" by decide +kernel] at v1
 have Qa := P8.keep P9
 have Lb : ∀ b, _ = none → H0 b = none := fun b h => K9 b (P9.t6 b h)
 generalize hH2 : upd (upd H1 l1 (.lst [])) p (.ins c.rule dx (bB "taken" ((bF kvs (Sum.inr (Str.ofString "take") : Key)).getD (.ref l1)) (bB "title" (tx title) []))) = H2 at SR SS P9 SU N9 Qa Lb v1  ⊢
 have g2p := SR
 have Zm := SS
 have g2k := SU
 refine ⟨_, rfl, d, rfl, .inl ⟨_, .inl Zm⟩, (by show 0 ≤ sizeLine; decide), fun l2 tN => ?_⟩
 obtain ⟨SV, SW, Nq, Xz, XA, XB, XC, XD, SX, Oa⟩ := key H2 _ "kept" g2p Zm Qa Lb g2k l2 tN ((bF kvs (Sum.inr (Str.ofString "keep") : Key)).getD (.ref l2))
 refine ⟨_, jI.k (k := (Sum.inr (Str.ofString "keep") : Key)) XB, _, rfl, p, c.rule, dx, _, rfl, XC, T.cl, T.n3, (by show 2 < 1000; decide), ?_⟩
 have v2 := (D8 XD h5 bt (n := 1) (by decide) Xz XA).keep Oa
 rw [show S (wordAt 1) = Str.ofString "keep" by decide +kernel] at v2
 have Qb := Qa.keep Nq
 have Lc : ∀ b, _ = none → H0 b = none := fun b h => Lb b (Nq.t6 b h)
 have v1 := v1.keep Nq
 generalize Ww : upd (upd H2 l2 (.lst [])) p (.ins c.rule dx (bB "kept" ((bF kvs (Sum.inr (Str.ofString "keep") : Key)).getD (.ref l2)) (bB "taken" ((bF kvs (Sum.inr (Str.ofString "take") : Key)).getD (.ref l1)) (bB "title" (tx title) [])))) = H3 at SV SW Nq SX Oa Qb Lc v2 v1 ⊢
 have g3p := SV
 have Zn := SW
 have g3k := SX
 refine ⟨_, rfl, d, rfl, .inl ⟨_, .inl Zn⟩, (by show 0 ≤ sizeLine; decide), fun l3 QL => ?_⟩
 obtain ⟨SY, S0, Ld, XE, XF, XG, XH, XI, S3, Ob⟩ := key H3 _ "looks" g3p Zn Qb Lc g3k l3 QL ((bF kvs (Sum.inr (Str.ofString "look") : Key)).getD (.ref l3))
 refine ⟨_, jI.k (k := (Sum.inr (Str.ofString "look") : Key)) XG, _, rfl, p, c.rule, dx, _, rfl, XH, T.cl, T.n4, (by show 3 < 1000; decide), ?_⟩
 have v3 := (Pf XI h5 bt XE XF).keep Ob
 rw [show S (wordAt 2) = Str.ofString "look" by decide +kernel] at v3
 have Qc := Qb.keep Ld
 have Le : ∀ b, _ = none → H0 b = none := fun b h => Lc b (Ld.t6 b h)
 have v1 := v1.keep Ld
 have v2 := v2.keep Ld
 generalize hH4 : upd (upd H3 l3 (.lst [])) p (.ins c.rule dx (bB "looks" ((bF kvs (Sum.inr (Str.ofString "look") : Key)).getD (.ref l3)) (bB "kept" ((bF kvs (Sum.inr (Str.ofString "keep") : Key)).getD (.ref l2)) (bB "taken" ((bF kvs (Sum.inr (Str.ofString "take") : Key)).getD (.ref l1)) (bB "title" (tx title) []))))) = H4 at SY S0 Ld S3 Ob Qc Le v3 v1 v2 ⊢
 have g4p := SY
 have Zo := S0
 have g4k := S3
 refine ⟨_, rfl, d, rfl, .inl ⟨_, .inl Zo⟩, (by show 0 ≤ sizeLine; decide), fun l4 XJ => ?_⟩
 obtain ⟨S4, S5, HK, XM, XN, XO, XQ, XR, S6, Oc⟩ := key H4 _ "given" g4p Zo Qc Le g4k l4 XJ ((bF kvs (Sum.inr (Str.ofString "put") : Key)).getD (.ref l4))
 refine ⟨_, jI.k (k := (Sum.inr (Str.ofString "put") : Key)) XO, _, rfl, p, c.rule, dx, _, rfl, XQ, T.cl, T.n5, (by show 4 < 1000; decide), ?_⟩
 have v4 := (D8 XR h5 bt (n := 3) (by decide) XM XN).keep Oc
 rw [show S (wordAt 3) = Str.ofString "put" by decide +kernel] at v4
 have Qd := Qc.keep HK
 have Lf : ∀ b, _ = none → H0 b = none := fun b h => Le b (HK.t6 b h)
 have v1 := v1.keep HK
 have v2 := v2.keep HK
 have v3 := v3.keep HK
 generalize hH5 : upd (upd H4 l4 (.lst [])) p (.ins c.rule dx (bB "given" ((bF kvs (Sum.inr (Str.ofString "put") : Key)).getD (.ref l4)) (bB "looks" ((bF kvs (Sum.inr (Str.ofString "look") : Key)).getD (.ref l3)) (bB "kept" ((bF kvs (Sum.inr (Str.ofString "keep") : Key)).getD (.ref l2)) (bB "taken" ((bF kvs (Sum.inr (Str.ofString "take") : Key)).getD (.ref l1)) (bB "title" (tx title) [])))))) = H5 at S4 S5 HK S6 Oc Qd Lf v4 v1 v2 v3 ⊢
 have g5p := S4
 have Zp := S5
 have g5k := S6
 refine ⟨_, rfl, d, rfl, .inl ⟨_, .inl Zp⟩, (by show 0 ≤ sizeLine; decide), fun l5 hl5 => ?_⟩
 obtain ⟨S7, S8, ET, XS, XT, XU, XW, XX, S9, Od⟩ := key H5 _ "told" g5p Zp Qd Lf g5k l5 hl5 ((bF kvs (Sum.inr (Str.ofString "tell") : Key)).getD (.ref l5))
 refine ⟨_, jI.k (k := (Sum.inr (Str.ofString "tell") : Key)) XU, _, rfl, p, c.rule, dx, _, rfl, XW, T.cl, T.n6, (by show 5 < 1000; decide), ?_⟩
 have v5 := (Pg XX h5 bt XS XT).keep Od
 rw [show S (wordAt 4) = Str.ofString "tell" by decide +kernel] at v5
 have XY := Qd.keep ET
 have Lg : ∀ b, _ = none → H0 b = none := fun b h => Lf b (ET.t6 b h)
 have v1 := v1.keep ET
 have v2 := v2.keep ET
 have v3 := v3.keep ET
 have v4 := v4.keep ET
 generalize hH6 : upd (upd H5 l5 (.lst [])) p (.ins c.rule dx (bB "told" ((bF kvs (Sum.inr (Str.ofString "tell") : Key)).getD (.ref l5)) (bB "given" ((bF kvs (Sum.inr (Str.ofString "put") : Key)).getD (.ref l4)) (bB "looks" ((bF kvs (Sum.inr (Str.ofString "look") : Key)).getD (.ref l3)) (bB "kept" ((bF kvs (Sum.inr (Str.ofString "keep") : Key)).getD (.ref l2)) (bB "taken" ((bF kvs (Sum.inr (Str.ofString "take") : Key)).getD (.ref l1)) (bB "title" (tx title) []))))))) = H6 at S7 S8 ET S9 Od XY Lg v5 v1 v2 v3 v4 ⊢
 have Vx := S7
 have g6d := S8
 have g6k := S9
 generalize Jl : (bB "told" ((bF kvs (Sum.inr (Str.ofString "tell") : Key)).getD (.ref l5)) (bB "given" ((bF kvs (Sum.inr (Str.ofString "put") : Key)).getD (.ref l4)) (bB "looks" ((bF kvs (Sum.inr (Str.ofString "look") : Key)).getD (.ref l3)) (bB "kept" ((bF kvs (Sum.inr (Str.ofString "keep") : Key)).getD (.ref l2)) (bB "taken" ((bF kvs (Sum.inr (Str.ofString "take") : Key)).getD (.ref l1)) (bB "title" (tx title) [])))))) = IG at Vx ⊢
 have lk : ∀ n : Str, IG.lookup n = if n = "told" then some ((bF kvs (Sum.inr (Str.ofString "tell") : Key)).getD (.ref l5)) else if n = "given" then some ((bF kvs (Sum.inr (Str.ofString "put") : Key)).getD (.ref l4)) else if n = "looks" then some ((bF kvs (Sum.inr (Str.ofString "look") : Key)).getD (.ref l3)) else if n = "kept" then some ((bF kvs (Sum.inr (Str.ofString "keep") : Key)).getD (.ref l2)) else if n = "taken" then some ((bF kvs (Sum.inr (Str.ofString "take") : Key)).getD (.ref l1)) else if n = "title" then some (tx title) else none := fun n => by
  rw [← Jl, aQ, aQ, aQ, aQ, aQ, aQ]
  rfl
 obtain ⟨lt, ut, et, nt, ht, pt⟩ := id v1
 obtain ⟨Zq, uk, ek, nk, hk, pk⟩ := id v2
 have Zr : IG.lookup ("taken" : Str) = some (.ref lt) := by
  rw [lk, if_neg (by decide +kernel), if_neg (by decide +kernel), if_neg (by decide +kernel), if_neg (by decide +kernel), if_pos rfl, et]
 have Zs : IG.lookup ("kept" : Str) = some (.ref Zq) := by
  rw [lk, if_neg (by decide +kernel), if_neg (by decide +kernel), if_neg (by decide +kernel), if_pos rfl, ek]
 have XZ : IG.length < 1000 := by
  rw [← Jl]
  show 6 < 1000
  decide
 have zl1 := Paired.length pt
 have zl2 := Paired.length pk
 have hfew := SO.few
 have X0 : (ic title L).take ++ (ic title L).keep = r6 0 L ++ r6 1 L := rfl
 rw [X0, List.length_append] at hfew
 refine ⟨_, rfl, p, c.rule, dx, IG, _, rfl, Vx, T.cl, T.n2, Zr, _, rfl, p, c.rule, dx, IG, _, rfl, Vx, T.cl, T.n3, Zs, lt, Zq, _, _, rfl, rfl, ht, hk, sz (by omega), fun l6 Vy => ?_⟩
 have s6 := aj Vy (.lst (ut ++ uk))
 refine ⟨l6, _, r6 0 L ++ r6 1 L, rfl, af, jK (L2.Paired.bQ pt fun _ _ z => z.keep (H0 := H0) (Kp.same s6)) (L2.Paired.bQ pk fun _ _ z => z.keep (H0 := H0) (Kp.same s6)), by rw [List.length_append]; omega, SO.heads, SO.WJ, fun v7 H7 s7 T7 => ?_⟩
 have X1 := ah.trans s6 s7
 have Zt := X1 _ _ Vx
 refine ⟨_, rfl, p, c.rule, dx, IG, rfl, Zt, T.cl, T.n7, XZ, ?_⟩
 have Zu : Kp H0 H7 (upd H7 p (.ins c.rule dx (bB "names" v7 IG))) := Kp.upd Xr Zt (QN _ ⟨_, rfl⟩).1 (QN _ ⟨_, rfl⟩).2
 have HL : Kp H0 H6 (upd H7 p (.ins c.rule dx (bB "names" v7 IG))) := (Kp.same X1).trans Zu
 have Qe : ∀ n : Str, n ≠ "names" → (bB "names" v7 IG).lookup n = IG.lookup n := fun n hn => by rw [aQ, if_neg hn]
 refine q _ (bB "names" v7 IG) af ⟨?_, ⟨_, ?_, v1.keep HL⟩, ⟨_, ?_, v2.keep HL⟩, ⟨_, ?_, v3.keep HL⟩, ⟨_, ?_, v4.keep HL⟩, ⟨_, ?_, v5.keep HL⟩, ⟨v7, ?_, ?_⟩, ?_⟩ (fun b o e hb => ?_)
 ·rw [Qe _ (by decide +kernel), lk, if_neg (by decide +kernel), if_neg (by decide +kernel), if_neg (by decide +kernel), if_neg (by decide +kernel), if_neg (by decide +kernel), if_pos rfl]
  rfl
 ·rw [Qe _ (by decide +kernel), Zr, et]
 ·rw [Qe _ (by decide +kernel), Zs, ek]
 ·rw [Qe _ (by decide +kernel), lk, if_neg (by decide +kernel), if_neg (by decide +kernel), if_pos rfl]
 ·rw [Qe _ (by decide +kernel), lk, if_neg (by decide +kernel), if_pos rfl]
 ·rw [Qe _ (by decide +kernel), lk, if_pos rfl]
 ·rw [aQ, if_pos rfl]
 ·obtain ⟨ln, en, nn, hn⟩ := T7
  have Zv : H6 ln = none := s6.free nn
  exact ⟨ln, en, Lg ln Zv, Zu.new _ _ (Lg ln Zv) hn⟩
 ·rw [Qe _ (by decide +kernel), lk, if_neg (by decide +kernel), if_neg (by decide +kernel), if_neg (by decide +kernel), if_neg (by decide +kernel), if_neg (by decide +kernel), if_neg (by decide +kernel)]
 ·rw [aq hb]
  exact X1 _ _ (g6k b o e hb)
theorem wH : ar ["self"] ["self"] (ao jS) := ⟨rfl, rfl, rfl, by decide +kernel, rfl, by decide +kernel, by decide +kernel⟩
theorem wI (F : bu K "calls" "Rule.calls" jS f fd) (T : y6 K c.rule) (aW : mg "len" = none) : aX P w K mg base cO 1 f fd ["self"] (y7 K c) := by
 refine F.ok wH (fun vs H Q E h => ?_) (fun cu A outer s H vs Q E hr h => ?_)
 ·obtain ⟨H0, v, r, rfl, _⟩ := h
  rfl
 obtain ⟨H0, v, r, rfl, hR, q⟩ := h
 obtain ⟨a, dx, fs, rfl, n, h1, RF⟩ := hR
 obtain ⟨vt, ev, lt, us, rfl, nt, ht, pt⟩ := RF.taken
 have zl := Paired.length pt
 refine ⟨_, (ag (ax (dN dG (aF av rfl aW PySem.boot_len (aa (pe_fld (pv 0) rfl) ae)) ai (aH _)))), ?_⟩
 refine ⟨_, rfl, a, c.rule, dx, fs, _, rfl, h1, T.cl, T.n2, ev, lt, _, rfl, .inl (ay.of ht), rfl, ?_⟩
 have e : decide (V.int (us.length : Int) = V.int 0) = decide (r.take = []) := by
  rw [decide_eq_decide]
  constructor
  ·intro z
   have z' : (us.length : Int) = 0 := by injection z
   exact List.eq_nil_of_length_eq_zero (by omega)
  ·intro z
   rw [z] at zl
   rw [← zl]
   rfl
 rw [e]
 exact q
theorem Aq : ar ["self", "kinds", "rules"] ["self", "kinds", "rules"] (ao lU) := ⟨rfl, rfl, rfl, by decide +kernel, rfl, by decide +kernel, by decide +kernel⟩
theorem Ar (F : bu K "__init__" "Book.__init__" lU f fd) (T : ML K c.book) : aX P w K mg base cO 1 f fd ["self", "kinds", "rules"] (sR K c) := by
 refine F.ok Aq (fun vs H Q E h => ?_) (fun cu A outer s H vs Q E hr h => ?_)
 ·obtain ⟨p, dx, l, r, rfl, _⟩ := h
  rfl
 obtain ⟨p, dx, l, r, rfl, hp, q⟩ := h
 refine ⟨_, (ab (ps_fld (pv 0) (pv 1) rfl)
 (ag (ps_fld (pv 0) (pv 2) rfl))), ?_⟩
 refine ⟨_, rfl, _, rfl, p, c.book, dx, [], rfl, hp, T.cl, T.n1, (by show 0 < 1000; decide), _, rfl, _, rfl, p, c.book, dx, _, rfl, af, T.cl, T.n2, (by show 1 < 1000; decide), ?_⟩
 refine q _ _ af ?_ ?_ fun b o e hb => ?_
 ·rw [aQ, if_neg (by decide +kernel), aQ, if_pos rfl]
 ·rw [aQ, if_pos rfl]
 ·rw [aq hb, aq hb]
  exact e
end
end gf
namespace gf
open PySem L2 fZ Bk
set_option maxHeartbeats 4000000
section
variable {P : Program} {w : World} {K : PySem.W.Frag} {mg : Str → Option Value} {base : Heap} {f : Addr} {fd : FuncData} {c : Cl}
theorem aE {α : Type} {l : List α} {i : Nat} {x : α} (h : l[i]? = some x) : ∃ hi : i < l.length, l[i] = x := List.getElem?_eq_some_iff.mp h
theorem gg : ar ["kinds", "rules", "line", "found", "reading", "kind"] ["kinds", "rules", "line"] (ao lW) := ⟨rfl, rfl, rfl, by decide +kernel, rfl, by decide +kernel, by decide +kernel⟩
theorem As {u1 : Value} (F : bu K "hear_line" "hear_line" lW f fd) (T : y6 K c.rule) (iL : bb P w K mg base "line_pieces" 4 ["line"] D0) (mm : bb P w K mg base "read_rule" 7 ["found"] (D7 K c)) (mn : bb P w K mg base "read_kind" 4 ["found"] (D1 K))
  (EU : Mt P w K mg base "Rule" c.rule 3 ["self", "title", "parts"] (sQ K c)) (mi : mg "RULE_WORD" = some u1) (mj : RelV (tx gw) u1) : aX P w K mg base cO 8 f fd ["kinds", "rules", "line"] (D9 K c) := by
 refine F.ok gg (fun vs H Q E h => ?_) (fun cu A outer s H vs Q E hr h => ?_)
 ·obtain ⟨H0, lk, lr, ks, rs, kvs, pY, p, rfl, _⟩ := h
  rfl
 obtain ⟨H0, lk, lr, ks, rs, kvs, pY, p, rfl, I, fk1, fr1, hz, bt, alt⟩ := h
 refine ⟨_, (ab (aw (i := 3) gg.nd rfl (Or.inl rfl) (ak iL (hr.mono (by decide)) rfl (aa (pv 2) ae)))
 (ag (aV (au dG (az aB (pv 3) ai (fun _ _ => rfl)) (c5 rfl mi mj) (aH _))
 (ab (aw (i := 4) gg.nd rfl (Or.inl rfl) (ak mm (hr.mono (by decide)) rfl (aa (pv 3) ae)))
 (ab (aV (au qd (az a8 (pv 4) ai (fun _ _ => rfl)) (bX [] rfl (by kernel_rfl) (aJ (pv 1)) (fun _ _ _ _ _ => bH) (fun _ _ _ _ _ => (Mx (K := K) rfl (pv 0) rfl))) (by with_unfolding_all rfl))
 aY
 aA)
 (ag (a6 (bY PySem.F.plainAttrs_list PySem.F.slot_list_append PySem.F.type_list_append aZ (pv 1) (aa (oQ EU (hr.mono (by decide)) rfl (aa (az a8 (pv 4) ai (fun _ _ => rfl)) (aa (az a8 (pv 4) ai (fun _ _ => rfl)) ae))) ae))))))
 (ab (aw (i := 5) gg.nd rfl (Or.inl rfl) (ak mn (hr.mono (by decide)) rfl (aa (pv 3) ae)))
 (ab (aV (au qd (az a8 (pv 5) ai (fun _ _ => rfl)) (bX [] rfl (by kernel_rfl) (aJ (pv 0)) (fun _ _ _ _ _ => bH) (fun _ _ _ _ _ => (az (r := rT K) a8 (pv 0) ai (fun _ _ => rfl)))) (by with_unfolding_all rfl))
 aY
 aA)
 (ag (a6 (bY PySem.F.plainAttrs_list PySem.F.slot_list_append PySem.F.type_list_append aZ (pv 0) (aa (pv 5) ae))))))))), ?_⟩
 refine ⟨_, rfl, p, rfl, hz, bt, fun v H1 s1 T1 => ?_⟩
 obtain ⟨l, rfl, HE, hl⟩ := T1
 have Xk : (toks p).length ≤ 20000 := Nat.le_trans (B6 p) hz
 rcases alt with ⟨k, X2, Zw, X3, q⟩ | ⟨title, L, X2, R, SO, X4, q⟩
 ·rw [X2] at hl
  have hl' : H1 l = some (.lst [tx (if k.l = true then bZ else bS), tx k.n, tx [48 + k.c]]) := hl
  refine ⟨_, rfl, l, _, 0, _, rfl, rfl, ay.of hl', rfl, rfl, _, rfl, ?_⟩
  have e0 : decide (tx (if k.l = true then bZ else bS) = tx gw) = false := by cases k.l <;> decide +kernel
  rw [e0]
  refine bw ⟨_, rfl, l, k, rfl, hl, Zw.1, Zw.2, fun v H2 s2 hK => ?_⟩
  have Nr := ah.trans s1 s2
  obtain ⟨t, rfl, ht⟩ := hK
  refine ⟨_, rfl, t, _, 0, _, rfl, rfl, ht, rfl, _, rfl, lk, rfl, ⟨_, ay.of (Nr _ _ I.hk)⟩, fun D hD => ?_⟩
  have zl := Paired.length I.pk
  refine bM (K := K) (xs := kvs) (ks.map (·.n)) (fun _ _ b y => y = tx b) (fun _ _ _ _ _ _ h => h) (fun _ _ _ _ _ _ h => h) (f9 (by have := I.fk; omega)) hD (ay.of (Nr _ _ I.hk)) (by rw [Lm9]; exact zl) (fun i x b H' R hx hb sm hQ => ?_) (fun H3 ys sm hL po => ?_)
  ·obtain ⟨hi, ex⟩ := aE hx
   obtain ⟨eQ, eb⟩ := aE hb
   rw [Lm9] at eQ
   rw [List.getElem_map] at eb
   obtain ⟨tk, Ta, hk⟩ := paired_at I.pk i eQ hi
   rw [ex] at Ta
   subst Ta
   refine ⟨_, rfl, tk, _, 0, _, rfl, rfl, hk.same (ah.trans Nr sm), rfl, hQ _ _ (ah.refl _) ?_⟩
   rw [eb]
  ·rw [dI po] at hL
   refine ⟨D, _, rfl, .inl (ay.of hL), rfl, lB _, _, rfl, ?_⟩
   rw [o9, decide_eq_false X3]
   refine bw ?_
   have sA := ah.trans Nr sm
   have X5 := sA _ _ I.hk
   refine ⟨_, rfl, .inl ⟨rfl, _, ay.of X5⟩, _, rfl, lk, _, _, rfl, rfl, X5, f9 (by have := I.fk; omega), ?_⟩
   obtain ⟨u0, hu0⟩ := I.ok
   have kp : Kp H0 H3 (upd H3 lk (.lst (kvs ++ [V.ref t]))) := Kp.upd hu0 X5 (by intro xs z; cases z) (by intro o u z; cases z)
   have HL : Kp H0 H (upd H3 lk (.lst (kvs ++ [V.ref t]))) := (Kp.same sA).trans kp
   refine q (.ref t) _ (fun b o hb e => by rw [aq hb]; exact sA _ _ e) ⟨af, ?_, ?_, L2.Paired.bQ I.pr fun _ _ z => z.keep HL, I.ne, I.ok, I.or, fun b h => I.t6 b (HL.t6 b h), ?_, I.fr⟩
   ·exact (L2.Paired.bQ I.pk fun _ _ z => z.keep HL).snoc (Kind.keep kp ⟨t, rfl, ht.same sm⟩)
   ·rw [aq (Ne.symm I.ne)]
    exact sA _ _ I.hr
   ·rw [List.length_append, List.length_singleton]
    omega
 ·rw [X2] at hl Xk
  refine ⟨_, rfl, l, _, 0, tx gw, rfl, rfl, ay.of hl, bN (j := 0) rfl, rfl, _, rfl, ?_⟩
  rw [decide_eq_true rfl]
  refine nT ⟨_, rfl, l, title, L, rfl, hl, Xk, R, fun t d kd H2 s2 ht X6 hd pa => ?_⟩
  have Nr := ah.trans s1 s2
  refine ⟨_, rfl, t, _, 0, _, rfl, rfl, cP.of ht, rfl, _, rfl, lr, rfl, ⟨_, ay.of (Nr _ _ I.hr)⟩, fun D hD => ?_⟩
  have zl := Paired.length I.pr
  refine bM (K := K) (xs := pY) (rs.map (·.title)) (fun _ _ b y => y = tx b) (fun _ _ _ _ _ _ h => h) (fun _ _ _ _ _ _ h => h) (f9 (by have := I.fr; omega)) hD (ay.of (Nr _ _ I.hr)) (by rw [Lm9]; exact zl) (fun i x b H' R hx hb sm hQ => ?_) (fun H3 ys sm hL po => ?_)
  ·obtain ⟨hi, ex⟩ := aE hx
   obtain ⟨eQ, eb⟩ := aE hb
   rw [Lm9] at eQ
   rw [List.getElem_map] at eb
   obtain ⟨a, dx, fs, ea, na, ha, RF⟩ := paired_at I.pr i eQ hi
   rw [ex] at ea
   subst ea
   refine ⟨_, rfl, a, c.rule, dx, fs, _, rfl, (ah.trans Nr sm) _ _ ha, T.cl, T.n1, RF.title, hQ _ _ (ah.refl _) ?_⟩
   rw [eb]
  ·rw [dI po] at hL
   refine ⟨D, _, rfl, .inl (ay.of hL), rfl, lB _, _, rfl, ?_⟩
   rw [o9, decide_eq_false X4]
   refine bw ?_
   have sA := ah.trans Nr sm
   have Zx := sA _ _ I.hr
   have Zy := sm _ _ ht
   have Vv := sm _ _ hd
   refine ⟨_, rfl, .inl ⟨rfl, _, ay.of Zx⟩, _, rfl, t, _, 0, _, rfl, rfl, cP.of Zy, rfl, _, rfl, t, _, 1, _, rfl, rfl, cP.of Zy, rfl, fun x dx hx SJ Xj => ?_⟩
   have Zz : H x = none := sA.free hx
   have X7 : H0 x = none := I.t6 x Zz
   have sM : ah H3 (upd (upd H3 dx (.own x)) x (.ins c.rule dx [])) := ah.trans (aj SJ _) (ah.aS (ah.refl _) (by rw [aq (Ne.symm Xj)]; exact hx) _)
   have pa3 : cB K c (upd H0 x (.own x)) (upd (upd H3 dx (.own x)) x (.ins c.rule dx [])) L kd := by
    refine L2.Paired.bQ pa fun y kv z => ⟨z.1, ?_⟩
    have z1 := cA.bz (H0 := H0) (fun b h => I.t6 b (s1.free h)) z.2
    exact cA.keep (Kp.same sM) (cA.apart hx (cA.keep (Kp.same sm) z1))
   obtain ⟨ur, ZA⟩ := I.or
   have ZC : lr ≠ x := aI Zx hx
   refine ⟨upd H0 x (.own x), x, dx, d, title, L, kd, _, rfl, af, af, fun b h => ?_, sM _ _ Vv, pa3, fun y hy => (qo R.inc y hy).2, R.ok, SO, fun H4 fs h4 RF kp4 => ⟨rfl, ?_⟩⟩
   ·have X8 : b ≠ x := fun z => by rw [z, af] at h; cases h
    rw [aq X8]
    exact I.t6 b (ah.free (ah.trans sA sM) h)
   have s4 : ah H H4 := fun b o e => kp4 b o ((ah.trans sA sM) b o e) (aI e Zz)
   have X9 := s4 _ _ I.hr
   refine ⟨lr, _, _, rfl, rfl, X9, f9 (by have := I.fr; omega), ?_⟩
   have kp : Kp H0 H4 (upd H4 lr (.lst (pY ++ [V.ref x]))) := Kp.upd ZA X9 (by intro xs z; cases z) (by intro o u z; cases z)
   have kpX : Kp (upd H0 x (.own x)) H4 (upd H4 lr (.lst (pY ++ [V.ref x]))) := Kp.upd (by rw [aq ZC]; exact ZA) X9 (by intro xs z; cases z) (by intro o u z; cases z)
   have HL : Kp H0 H (upd H4 lr (.lst (pY ++ [V.ref x]))) := (Kp.same s4).trans kp
   refine q (.ref x) _ (fun b o hb e => by rw [aq hb]; exact s4 _ _ e) ⟨?_, L2.Paired.bQ I.pk fun _ _ z => z.keep HL, af, ?_, I.ne, I.ok, I.or, fun b h => I.t6 b (HL.t6 b h), I.fk, ?_⟩
   ·rw [aq I.ne]
    exact s4 _ _ I.hk
   ·refine (L2.Paired.bQ I.pr fun _ _ z => z.keep HL).snoc ⟨x, dx, fs, rfl, X7, by rw [aq (Ne.symm ZC)]; exact h4, ?_⟩
    refine oU.bz (fun b h => ?_) (RF.keep kpX)
    have X8 : b ≠ x := fun z => by rw [z, af] at h; cases h
    rw [aq X8] at h
    exact h
   ·rw [List.length_append, List.length_singleton]
    omega
end
end gf
namespace gf
open PySem L2 fZ Bk
set_option maxHeartbeats 4000000
section
variable {P : Program} {w : World} {K : PySem.W.Frag} {mg : Str → Option Value} {base : Heap} {f : Addr} {fd : FuncData} {c : Cl}
theorem gN : ar ["kinds", "facts", "counts", "fact"] ["kinds", "facts"] (ao iE) := ⟨rfl, rfl, rfl, by decide +kernel, rfl, by decide +kernel, by decide +kernel⟩
theorem vc (F : bu K "check_facts" "check_facts" iE f fd) (Qf : mg "dict" = none) (aW : mg "len" = none) : aX P w K mg base cO 1 f fd ["kinds", "facts"] (um K) := by
 refine F.ok gN (fun vs H Q E h => ?_) (fun cu A outer s H vs Q E hr h => ?_)
 ·obtain ⟨lk, lf, kvs, JO, ks, fs, rfl, _⟩ := h
  rfl
 obtain ⟨lk, lf, kvs, JO, ks, fs, rfl, hk, pk, nd, fk, hf, pf, OY, q⟩ := h
 have hu := FT hr
 refine ⟨_, (ab (aw (i := 2) gN.nd rfl (Or.inl rfl) (gm (rX rfl) rfl Qf PyProof.Rows.Boot.«dict» (aa (bX [] rfl (by kernel_rfl) (aJ (pv 0)) (fun _ _ _ _ _ => bH) (fun _ _ _ _ _ => (dO (aa (az (r := rT K) a8 (pv 0) ai (fun _ _ => rfl)) (aa (az (r := rT K) a8 (pv 0) ai (fun _ _ => rfl)) ae))))) ae)))
 (ag (bj PassesOwn.never rfl (aJ (pv 1)) (aK (i := 3) gN.nd rfl (Or.inl rfl))
 (ab (aV (DD (qh hu (az a8 (pv 3) ai (fun _ _ => rfl)) (pv 2)))
 aY
 aA)
 (ag (aV (au dH (aF av rfl aW PySem.boot_len (aa (az a8 (pv 3) ai (fun _ _ => rfl)) ae)) (MB hu (pv 2) (az a8 (pv 3) ai (fun _ _ => rfl)) (fun _ _ => rfl)) (aH _))
 aY
 aA)))))), ?_⟩
 have zl := Paired.length pk
 have zf := Paired.length pf
 refine ⟨_, rfl, lk, rfl, ⟨_, ay.of hk⟩, fun D hD => ?_⟩
 refine bM (K := K) (xs := kvs) ks (fun _ H k y => ∃ t, y = .ref t ∧ cP K H t [tx k.n, .int k.c]) (fun _ _ _ _ _ k ⟨t, e, h⟩ => ⟨t, e, cP.keep k h⟩) (fun _ _ _ _ _ _ h => h) (f9 (by omega)) hD (ay.of hk) zl (fun i x b H' R hx hb sm hQ => ?_) (fun H1 ys s1 hL po => ?_)
 ·obtain ⟨hi, ex⟩ := aE hx
  obtain ⟨eQ, eb⟩ := aE hb
  obtain ⟨t, et, ht⟩ := paired_at pk i eQ hi
  rw [ex] at et
  rw [eb] at ht
  subst et
  have ZD := ht.same sm
  exact ⟨_, rfl, t, _, 0, _, rfl, rfl, ZD, rfl, _, rfl, t, _, 1, _, rfl, rfl, ZD, rfl, (by show 2 ≤ sizeLine; decide), fun t2 Eh => hQ _ _ (aj Eh _) ⟨t2, rfl, cP.of af⟩⟩
 refine ⟨D, ys, ks.map rF, rfl, hL, rG po, (by rw [Lm9]; omega), fun d hd => ?_⟩
 rw [ph _ _ (rH nd), List.nil_append]
 have s2 : ah H (upd H1 d (.dK (ks.map rF))) := ah.trans s1 (aj hd _)
 have Ya := af (H := H1) (a := d) (o := .dK (ks.map rF))
 generalize upd H1 d (.dK (ks.map rF)) = H2 at s2 Ya ⊢
 refine ⟨_, rfl, lf, rfl, ⟨_, ay.of (s2 _ _ hf)⟩, ba (K := K) (a := lf) (xs := JO) (fun i σ H' => H' = H2 ∧ ∃ o, σ = [some (.ref lk), some (.ref lf), some (.ref d), o]) ⟨rfl, none, rfl⟩ (fun i σ H' _ ⟨e, _⟩ => by rw [e]; exact ay.of (s2 _ _ hf)) ?_ ?_⟩
 ·rintro i y σ H' hi ⟨rfl, o, rfl⟩
  obtain ⟨K7, ey⟩ := aE hi
  have Oe : i < fs.length := by omega
  obtain ⟨t, t2, et, h1, h2⟩ := paired_at pf i Oe K7
  rw [ey] at et
  subst et
  obtain ⟨k, hkm, ekn, ekc⟩ := OY fs[i] (List.getElem_mem Oe)
  have Tb : bF (ks.map rF) (Sum.inr (S fs[i].k) : Key) = some (.int k.c) := by
   rw [← ekn]
   exact ya (rH nd) (List.mem_map.mpr ⟨k, hkm, rfl⟩)
  have SN := h1.same s2
  have h2' := h2.same s2
  refine ⟨_, rfl, t, _, 0, _, rfl, rfl, SN, rfl, _, rfl, d, _, rfl, jI.k (k := (Sum.inr (S fs[i].k) : Key)) Ya, _, rfl, ?_⟩
  rw [Tb]
  refine bw ?_
  refine ⟨_, rfl, t, _, 1, _, rfl, rfl, SN, rfl, t2, _, rfl, .inr h2', _, rfl, _, rfl, t, _, 0, _, rfl, rfl, SN, rfl, d, _, rfl, (by have z := jI.k (k := (Sum.inr (S fs[i].k) : Key)) Ya; rw [Tb] at z; exact z), rfl, _, rfl, ?_⟩
  rw [Lm9, ekc, decide_eq_true rfl]
  exact bw ⟨rfl, _, rfl⟩
 ·rintro σ H' ⟨rfl, o, rfl⟩
  exact q _ s2
theorem mq : ar ["lasts", "taken", "fact"] ["lasts", "taken"] (ao iF) := ⟨rfl, rfl, rfl, by decide +kernel, rfl, by decide +kernel, by decide +kernel⟩
theorem vd (F : bu K "check_taken" "check_taken" iF f fd) : aX P w K mg base cO 1 f fd ["lasts", "taken"] (uo K) := by
 refine F.ok mq (fun vs H Q E h => ?_) (fun cu A outer s H vs Q E hr h => ?_)
 ·obtain ⟨ll, lf, JO, ls, fs, rfl, _⟩ := h
  rfl
 obtain ⟨ll, lf, JO, ls, fs, rfl, hl, hf, pf, OQ, q⟩ := h
 refine ⟨_, (ag (bj PassesOwn.never rfl (aJ (pv 1)) (aK (i := 2) mq.nd rfl (Or.inl rfl))
 (ag (aV (au qd (az a8 (pv 2) ai (fun _ _ => rfl)) (pv 0) (by with_unfolding_all rfl))
 aY
 aA)))), ?_⟩
 have zf := Paired.length pf
 refine ⟨_, rfl, lf, rfl, ⟨_, ay.of hf⟩, ba (K := K) (a := lf) (xs := JO) (fun i σ H' => H' = H ∧ ∃ o, σ = [some (.ref ll), some (.ref lf), o]) ⟨rfl, none, rfl⟩ (fun i σ H' _ ⟨e, _⟩ => by rw [e]; exact ay.of hf) ?_ ?_⟩
 ·rintro i y σ H' hi ⟨rfl, o, rfl⟩
  obtain ⟨K7, ey⟩ := aE hi
  have Oe : i < fs.length := by omega
  obtain ⟨t, t2, et, h1, h2⟩ := paired_at pf i Oe K7
  rw [ey] at et
  subst et
  refine ⟨_, rfl, t, _, 0, _, rfl, rfl, h1, rfl, _, rfl, ll, _, rfl, .inl (ay.of hl), rfl, lB _, _, rfl, ?_⟩
  rw [o9, decide_eq_false (OQ _ (List.getElem_mem Oe))]
  exact bw ⟨rfl, _, rfl⟩
 ·rintro σ H' ⟨rfl, o, rfl⟩
  exact q
theorem nD : ar ["lasts", "rule", "fact"] ["lasts", "rule"] (ao jV) := ⟨rfl, rfl, rfl, by decide +kernel, rfl, by decide +kernel, by decide +kernel⟩
theorem wJ (F : bu K "check_call" "check_call" jV f fd) (T : y6 K c.rule) (qM : Met P w K mg base c.rule "calls" 1 ["self"] (y7 K c)) : aX P w K mg base cO 2 f fd ["lasts", "rule"] (uq K c) := by
 refine F.ok nD (fun vs H Q E h => ?_) (fun cu A outer s H vs Q E hr h => ?_)
 ·obtain ⟨H0, ll, v, ls, r, rfl, _⟩ := h
  rfl
 obtain ⟨H0, ll, v, ls, r, rfl, hl, hR, QD, q⟩ := h
 refine ⟨_, (ab (aV (dB (bT (G7 (pv 1) qM (hr.mono (by decide)))))
 (ag L9)
 aA)
 (ag (bj PassesOwn.never rfl (aJ (pe_fld (pv 1) rfl)) (aK (i := 2) nD.nd rfl (Or.inl rfl))
 (ag (aV (au c7 (az a8 (pv 2) ai (fun _ _ => rfl)) (pv 0) (by with_unfolding_all rfl))
 aY
 aA))))), ?_⟩
 obtain ⟨a, dx, fs, rfl, na, ha, RF⟩ := id hR
 refine ⟨_, rfl, a, dx, fs, rfl, ha, RF.calls, H0, _, r, rfl, hR, _, rfl, ?_⟩
 by_cases e : r.take = []
 ·rw [decide_eq_true e]
  refine bw ?_
  obtain ⟨vg, ev, lg, us, rfl, ng, hg, pg⟩ := RF.given
  have zg := Paired.length pg
  refine ⟨_, rfl, a, c.rule, dx, fs, _, rfl, ha, T.cl, T.n5, ev, lg, rfl, ⟨_, ay.of hg⟩, ba (K := K) (a := lg) (xs := us) (fun i σ H' => H' = H ∧ ∃ o, σ = [some (.ref ll), some (.ref a), o]) ⟨rfl, none, rfl⟩ (fun i σ H' _ ⟨e, _⟩ => by rw [e]; exact ay.of hg) ?_ ?_⟩
  ·rintro i y σ H' hi ⟨rfl, o, rfl⟩
   obtain ⟨K7, ey⟩ := aE hi
   have Oe : i < r.put.length := by omega
   obtain ⟨t, t2, et, h1, h2⟩ := paired_at pg i Oe K7
   rw [ey] at et
   subst et
   refine ⟨_, rfl, t, _, 0, _, rfl, rfl, h1, rfl, _, rfl, ll, _, rfl, .inl (ay.of hl), rfl, lB _, _, rfl, ?_⟩
   rw [o9, decide_eq_true (QD e _ (List.getElem_mem Oe))]
   exact bw ⟨rfl, _, rfl⟩
  ·rintro σ H' ⟨rfl, o, rfl⟩
   exact q
 ·rw [decide_eq_false e]
  exact nT q
theorem dk : ar ["rule", "said", "look", "fact", "pair"] ["rule"] (ao jW) := ⟨rfl, rfl, rfl, by decide +kernel, rfl, by decide +kernel, by decide +kernel⟩
theorem wK (F : bu K "said_names" "said_names" jW f fd) (T : y6 K c.rule) (Ts : Cc K c.same) (Tu : Cc K c.unlike) : aX P w K mg base cO 1 f fd ["rule"] (Ea K c) := by
 refine F.ok dk (fun vs H Q E h => ?_) (fun cu A outer s H vs Q E hr h => ?_)
 ·obtain ⟨H0, v, r, rfl, _⟩ := h
  rfl
 obtain ⟨H0, v, r, rfl, hR, hz, q⟩ := h
 refine ⟨_, (ab (aw (i := 1) dk.nd rfl (Or.inl rfl) (bo ae))
 (ab (bj PassesOwn.never rfl (aJ (pe_fld (pv 0) rfl)) (aK (i := 2) dk.nd rfl (Or.inl rfl))
 (ag (a6 (bY PySem.F.plainAttrs_list PySem.F.slot_list_extend PySem.F.type_list_extend xR (pv 1) (aa (bo (aa (pe_fld (pv 2) rfl) (aa (pe_fld (pv 2) rfl) ae))) ae)))))
 (ab (bj PassesOwn.never rfl (aJ (pe_fld (pv 0) rfl)) (aK (i := 3) dk.nd rfl (Or.inl rfl))
 (ag (a6 (bY PySem.F.plainAttrs_list PySem.F.slot_list_extend PySem.F.type_list_extend tU (pv 1) (aa (az a8 (pv 3) ai (fun _ _ => rfl)) ae)))))
 (ab (bj PassesOwn.never rfl (aJ (pe_fld (pv 0) rfl)) (aK (i := 4) dk.nd rfl (Or.inl rfl))
 (ag (a6 (bY PySem.F.plainAttrs_list PySem.F.slot_list_extend PySem.F.type_list_extend tU (pv 1) (aa (pv 4) ae)))))
 (ag (ax (pv 1))))))), ?_⟩
 obtain ⟨a, dx, fs, rfl, na, ha, RF⟩ := id hR
 obtain ⟨vl, el, ll, ul, rfl, nl, hl, pl⟩ := RF.dP
 obtain ⟨vg, eg, lg, ug, rfl, ng, hg, pg⟩ := RF.given
 obtain ⟨vt, et, lt, ut, rfl, nt, ht, pt⟩ := RF.told
 have F8 := hz
 unfold dD at F8
 rw [List.length_append, List.length_append] at F8
 refine ⟨(by show 0 ≤ sizeLine; decide), fun ls Tc => ?_⟩
 have s0 := aj Tc (.lst [])
 have zl := Paired.length pl
 have zg := Paired.length pg
 have zt := Paired.length pt
 have Lh : ∀ b, DA K (c.look b) ∧ cz K (c.look b) "left" ∧ cz K (c.look b) "right" := fun b => by
  cases b with
  | true => exact ⟨Ts.cl, Ts.nL, Ts.nR⟩
  | false => exact ⟨Tu.cl, Tu.nL, Tu.nR⟩
 refine ⟨_, rfl, a, c.rule, dx, fs, _, rfl, s0 _ _ ha, T.cl, T.n4, el, ll, rfl, ⟨_, ay.of (s0 _ _ hl)⟩, ba (K := K) (a := ll) (xs := ul) (fun i σ H' => ah H H' ∧ H' ls = some (.lst (((r.dP.take i).flatMap fun k => [k.l, k.r]).map tx)) ∧ ((r.dP.take i).flatMap fun k => [k.l, k.r]).length ≤ (r.dP.flatMap fun k => [k.l, k.r]).length ∧ ∃ o2 o3 o4, σ = [some (.ref a), some (.ref ls), o2, o3, o4])
  ⟨s0, af, Nat.zero_le _, none, none, none, rfl⟩ (fun i σ H' _ ⟨sm, _⟩ => ay.of (sm _ _ hl)) ?_ ?_⟩
 ·rintro i y σ H' hi ⟨sm, hs, hlen, o2, o3, o4, rfl⟩
  obtain ⟨qL, ey⟩ := aE hi
  have ES : i < r.dP.length := by omega
  obtain ⟨b, ZE, fb, eb, nb, hb, f1, f2, f3, f4⟩ := paired_at pl i ES qL
  rw [ey] at eb
  subst eb
  obtain ⟨C1, C2, C3⟩ := Lh r.dP[i].same
  have Ck := sm _ _ hb
  refine ⟨_, rfl, .inl ⟨rfl, _, ay.of hs⟩, _, rfl, b, _, ZE, fb, _, rfl, Ck, C1, C2, f1, _, rfl, b, _, ZE, fb, _, rfl, Ck, C1, C3, f2, (by show 2 ≤ sizeLine; decide), fun l2 tN => ?_⟩
  have n2 : ls ≠ l2 := aI hs tN
  have tJ : upd H' l2 (.lst [tx r.dP[i].l, tx r.dP[i].r]) ls = some (.lst (((r.dP.take i).flatMap fun k => [k.l, k.r]).map tx)) := by rw [aq n2]; exact hs
  have P7 : H l2 = none := sm.free tN
  have e1 : (r.dP.take (i + 1)).flatMap (fun k => [k.l, k.r]) = (r.dP.take i).flatMap (fun k => [k.l, k.r]) ++ [r.dP[i].l, r.dP[i].r] := by
   rw [List.take_succ_eq_append_getElem ES, List.flatMap_append]
   simp
  have e2 := qr (fun k : Lk => [k.l, k.r]) r.dP (i + 1)
  refine ⟨ls, l2, _, _, rfl, rfl, tJ, af, (by rw [Lm9]; exact sz (by simp only [List.length_cons, List.length_nil]; omega)), ah.aS (ah.aS sm P7 _) Tc _, ?_, e2, _, _, _, rfl⟩
  rw [af, e1, List.map_append]
  rfl
 rintro σ H1 ⟨s1, Vm, -, o2, o3, o4, rfl⟩
 have zul : ul.length = r.dP.length := zl.symm
 rw [zul, List.take_length] at Vm
 generalize hA : (r.dP.flatMap fun k => [k.l, k.r]) = LA at Vm F8
 refine ⟨_, rfl, a, c.rule, dx, fs, _, rfl, s1 _ _ ha, T.cl, T.n5, eg, lg, rfl, ⟨_, ay.of (s1 _ _ hg)⟩, ba (K := K) (a := lg) (xs := ug) (fun i σ H' => ah H H' ∧ H' ls = some (.lst ((LA ++ ((r.put.take i).flatMap (·.as))).map tx)) ∧ ∃ o2 o3 o4, σ = [some (.ref a), some (.ref ls), o2, o3, o4])
  ⟨s1, by rw [List.take_zero, List.flatMap_nil, List.append_nil]; exact Vm, _, _, _, rfl⟩ (fun i σ H' _ ⟨sm, _⟩ => ay.of (sm _ _ hg)) ?_ ?_⟩
 ·rintro i y σ H' hi ⟨sm, hs, o2, o3, o4, rfl⟩
  obtain ⟨qL, ey⟩ := aE hi
  have ES : i < r.put.length := by omega
  obtain ⟨t, t2, e3, h1, h2⟩ := paired_at pg i ES qL
  rw [ey] at e3
  subst e3
  have e1 : (r.put.take (i + 1)).flatMap (·.as) = (r.put.take i).flatMap (·.as) ++ r.put[i].as := by
   rw [List.take_succ_eq_append_getElem ES, List.flatMap_append]
   simp
  have e2 := qr (fun f : Fc => f.as) r.put (i + 1)
  rw [e1, List.length_append] at e2
  refine ⟨_, rfl, .inl ⟨rfl, _, ay.of hs⟩, _, rfl, t, _, 1, _, rfl, rfl, h1.same sm, rfl, ls, t2, _, _, rfl, rfl, hs, h2.same sm, (by rw [Lm9, Lm9, List.length_append]; exact sz (by omega)), ah.aS sm Tc _, ?_, _, _, _, rfl⟩
  rw [af, e1, ← List.append_assoc, List.map_append (l₁ := LA ++ _)]
 rintro σ H2 ⟨s2, tJ, o2, o3, o4, rfl⟩
 have zug : ug.length = r.put.length := zg.symm
 rw [zug, List.take_length] at tJ
 generalize hB : r.put.flatMap (·.as) = LB at tJ F8
 refine ⟨_, rfl, a, c.rule, dx, fs, _, rfl, s2 _ _ ha, T.cl, T.n6, et, lt, rfl, ⟨_, ay.of (s2 _ _ ht)⟩, ba (K := K) (a := lt) (xs := ut) (fun i σ H' => ah H H' ∧ H' ls = some (.lst ((LA ++ (LB ++ ((r.tell.take i).flatMap fun p => [p.1, p.2]))).map tx)) ∧ ∃ o2 o3 o4, σ = [some (.ref a), some (.ref ls), o2, o3, o4])
  ⟨s2, by rw [List.take_zero, List.flatMap_nil, List.append_nil]; exact tJ, _, _, _, rfl⟩ (fun i σ H' _ ⟨sm, _⟩ => ay.of (sm _ _ ht)) ?_ ?_⟩
 ·rintro i y σ H' hi ⟨sm, hs, o2, o3, o4, rfl⟩
  obtain ⟨qL, ey⟩ := aE hi
  have ES : i < r.tell.length := by omega
  obtain ⟨t, e3, h1⟩ := paired_at pt i ES qL
  rw [ey] at e3
  subst e3
  have e1 : (r.tell.take (i + 1)).flatMap (fun p => [p.1, p.2]) = (r.tell.take i).flatMap (fun p => [p.1, p.2]) ++ [r.tell[i].1, r.tell[i].2] := by
   rw [List.take_succ_eq_append_getElem ES, List.flatMap_append]
   simp
  have e2 := qr (fun p : Cs × Cs => [p.1, p.2]) r.tell (i + 1)
  rw [e1, List.length_append] at e2
  refine ⟨_, rfl, .inl ⟨rfl, _, ay.of hs⟩, _, rfl, ls, t, _, _, rfl, rfl, hs, h1.same sm, (by rw [Lm9, List.length_append, List.length_append]; exact sz (by simp only [List.length_cons, List.length_nil] at e2 ⊢; omega)), ah.aS sm Tc _, ?_, _, _, _, rfl⟩
  rw [af, e1, ← List.append_assoc, ← List.append_assoc, ← List.append_assoc, List.map_append (l₁ := LA ++ LB ++ _)]
  rfl
 rintro σ H3 ⟨s3, ZF, o2, o3, o4, rfl⟩
 have zut : ut.length = r.tell.length := zt.symm
 rw [zut, List.take_length] at ZF
 refine ⟨_, rfl, q _ _ s3 ⟨ls, rfl, Tc, ?_⟩⟩
 unfold dD
 rw [hA, hB]
 exact ZF
theorem mr : ar ["rule", "name"] ["rule"] (ao iH) := ⟨rfl, rfl, rfl, by decide +kernel, rfl, by decide +kernel, by decide +kernel⟩
theorem ve (F : bu K "check_names" "check_names" iH f fd) (T : y6 K c.rule) (j6 : bb P w K mg base "said_names" 1 ["rule"] (Ea K c)) (eZ : bb P w K mg base "is_great" 1 ["name"] sP) : aX P w K mg base cO 2 f fd ["rule"] (uu K c) := by
 refine F.ok mr (fun vs H Q E h => ?_) (fun cu A outer s H vs Q E hr h => ?_)
 ·obtain ⟨H0, v, r, rfl, _⟩ := h
  rfl
 obtain ⟨H0, v, r, rfl, hR, hz, Nj, hgr, q⟩ := h
 refine ⟨_, (ag (bj PassesOwn.never rfl (aJ (ak j6 (hr.mono (by decide)) rfl (aa (pv 0) ae))) (aK (i := 1) mr.nd rfl (Or.inl rfl))
 (ag (aV (PW.pt (k4 (bT (ak eZ (hr.mono (by decide)) rfl (aa (pv 1) ae))) (jB (au c7 (pv 1) (pe_fld (pv 0) rfl) (by with_unfolding_all rfl)))))
 aY
 aA)))), ?_⟩
 refine ⟨_, rfl, H0, v, r, rfl, hR, hz, fun u H1 s1 T1 => ?_⟩
 obtain ⟨l, rfl, HE, hl⟩ := T1
 obtain ⟨a, dx, fs, rfl, na, ha, RF⟩ := id hR
 obtain ⟨vn, en, ln, rfl, nn, hn⟩ := RF.names
 refine ⟨l, rfl, ⟨_, ay.of hl⟩, ba (K := K) (a := l) (xs := (dD r).map tx) (fun i σ H' => H' = H1 ∧ ∃ o, σ = [some (.ref a), o]) ⟨rfl, none, rfl⟩ (fun i σ H' _ ⟨e, _⟩ => by rw [e]; exact ay.of hl) ?_ ?_⟩
 ·rintro i y σ H' hi ⟨rfl, o, rfl⟩
  obtain ⟨qL, ey⟩ := aE hi
  rw [Lm9] at qL
  rw [List.getElem_map] at ey
  subst ey
  have Td : (dD r)[i] ∈ dD r := List.getElem_mem qL
  have hlen := ji (Nj _ Td)
  refine ⟨_, rfl, (dD r)[i], rfl, (fun z => by rw [z] at hlen; simp at hlen), by omega, _, rfl, ?_⟩
  refine cK (fun g => ?_) (fun g => bw ⟨rfl, _, rfl⟩)
  refine ⟨_, rfl, _, rfl, a, c.rule, dx, fs, _, rfl, s1 _ _ ha, T.cl, T.n7, en, ln, _, rfl, .inl (ay.of (s1 _ _ hn)), rfl, lB _, _, rfl, ?_⟩
  rw [o9, decide_eq_true (hgr _ Td g)]
  exact bw ⟨rfl, _, rfl⟩
 ·rintro σ H' ⟨rfl, o, rfl⟩
  exact q _ s1
end
end gf
namespace gf
open PySem L2 fZ Bk
set_option maxHeartbeats 4000000
section
variable {P : Program} {w : World} {K : PySem.W.Frag} {mg : Str → Option Value} {base : Heap} {f : Addr} {fd : FuncData} {c : Cl}
theorem iM : ar ["kinds", "rules", "lasts", "rule"] ["kinds", "rules"] (ao jU) := ⟨rfl, rfl, rfl, by decide +kernel, rfl, by decide +kernel, by decide +kernel⟩
theorem wL (F : bu K "whole_book" "whole_book" jU f fd) (T : y6 K c.rule) (iN : bb P w K mg base "check_facts" 1 ["kinds", "facts"] (um K)) (iO : bb P w K mg base "check_taken" 1 ["lasts", "taken"] (uo K)) (j7 : bb P w K mg base "check_call" 2 ["lasts", "rule"] (uq K c))
  (iP : bb P w K mg base "check_names" 2 ["rule"] (uu K c)) (EV : Mt P w K mg base "Book" c.book 1 ["self", "kinds", "rules"] (sR K c)) : aX P w K mg base cO 3 f fd ["kinds", "rules"] (y8 K c) := by
 refine F.ok iM (fun vs H Q E h => ?_) (fun cu A outer s H vs Q E hr h => ?_)
 ·obtain ⟨H0, lk, lr, ks, rs, kvs, pY, rfl, _⟩ := h
  rfl
 obtain ⟨H0, lk, lr, ks, rs, kvs, pY, rfl, I, nd, good, q⟩ := h
 refine ⟨_, (ab (ig (i := 2) [] iM.nd rfl (Or.inl rfl) rfl (by kernel_rfl) (aJ (pv 0)) (fun _ _ _ _ _ => (jF (bT (az (r := rT K) a8 (pv 0) ai (fun _ _ => rfl))))) (fun _ _ _ _ _ => (az (r := rT K) a8 (pv 0) ai (fun _ _ => rfl))))
 (ab (bj PassesOwn.never rfl (aJ (pv 1)) (aK (i := 3) iM.nd rfl (Or.inl rfl))
 (ab (a6 (ak iN (hr.mono (by decide)) rfl (aa (pv 0) (aa (aL nQ (aL nQ (pe_fld (pv 3) rfl) (pe_fld (pv 3) rfl)) (pe_fld (pv 3) rfl)) ae))))
 (ab (a6 (ak iO (hr.mono (by decide)) rfl (aa (pv 2) (aa (pe_fld (pv 3) rfl) ae))))
 (ab (a6 (ak j7 (hr.mono (by decide)) rfl (aa (pv 2) (aa (pv 3) ae))))
 (ag (a6 (ak iP (hr.mono (by decide)) rfl (aa (pv 3) ae))))))))
 (ag (ax (oQ EV (hr.mono (by decide)) rfl (aa (pv 0) (aa (pv 1) ae))))))), ?_⟩
 have zk := Paired.length I.pk
 have zr := Paired.length I.pr
 refine ⟨_, rfl, lk, rfl, ⟨_, ay.of I.hk⟩, fun D hD => ?_⟩
 refine jk (K := K) (xs := kvs) ks (·.l) (·.n) (fun _ _ b y => y = tx b) (fun _ _ _ _ _ _ h => h) (fun _ _ _ _ _ _ h => h) (f9 (by have := I.fk; omega)) hD (ay.of I.hk) zk (fun i x b H' R hx hb sm hQ => ?_) (fun i x b H' R hx hb hk sm hQ => ?_) (fun H1 ys s1 hL po => ?_)
 ·obtain ⟨hi, ex⟩ := aE hx
  obtain ⟨eQ, eb⟩ := aE hb
  obtain ⟨t, et, ht⟩ := paired_at I.pk i eQ hi
  rw [ex] at et
  rw [eb] at ht
  subst et
  exact ⟨_, rfl, t, _, 2, _, rfl, rfl, ht.same sm, rfl, _, rfl, hQ _ (ah.refl _)⟩
 ·obtain ⟨hi, ex⟩ := aE hx
  obtain ⟨eQ, eb⟩ := aE hb
  obtain ⟨t, et, ht⟩ := paired_at I.pk i eQ hi
  rw [ex] at et
  rw [eb] at ht
  subst et
  exact ⟨_, rfl, t, _, 0, _, rfl, rfl, ht.same sm, rfl, hQ _ _ (ah.refl _) rfl⟩
 rw [dI po] at hL
 refine ⟨_, rfl, lr, rfl, ⟨_, ay.of (s1 _ _ I.hr)⟩, ba (K := K) (a := lr) (xs := pY) (fun i σ H' => ah H1 H' ∧ ∃ o, σ = [some (.ref lk), some (.ref lr), some (.ref D), o]) ⟨ah.refl _, none, rfl⟩ (fun i σ H' _ ⟨sm, _⟩ => ay.of (sm _ _ (s1 _ _ I.hr))) ?_ ?_⟩
 ·rintro i y σ H' hi ⟨sm, o, rfl⟩
  obtain ⟨qL, ey⟩ := aE hi
  have Gz : i < rs.length := by omega
  have sA := ah.trans s1 sm
  have Yb := paired_at I.pr i Gz qL
  rw [ey] at Yb
  have g := good _ (List.getElem_mem Gz)
  generalize rs[i] = r at Yb g
  have hR := Yb.keep (Kp.same sA)
  obtain ⟨a, dx, fs, rfl, na, ha, RF⟩ := id hR
  obtain ⟨vt, ev, lt, ut, rfl, nt, ht, pt⟩ := RF.taken
  obtain ⟨vk, ek, lp, uk, rfl, nk, hk, pk⟩ := RF.kept
  obtain ⟨vg, eg, lg, ug, rfl, ng, hg, pg⟩ := RF.given
  have zt := Paired.length pt
  have zk2 := Paired.length pk
  have zg := Paired.length pg
  have hfew := g.WL
  rw [List.length_append, List.length_append] at hfew
  refine ⟨_, rfl, _, rfl, a, c.rule, dx, fs, _, rfl, ha, T.cl, T.n2, ev, _, rfl, a, c.rule, dx, fs, _, rfl, ha, T.cl, T.n3, ek, lt, lp, _, _, rfl, rfl, ht, hk, sz (by omega), fun p1 Qg => ?_⟩
  have Nt := aj Qg (.lst (ut ++ uk))
  refine ⟨_, rfl, a, c.rule, dx, fs, _, rfl, Nt _ _ ha, T.cl, T.n5, eg, p1, lg, _, _, rfl, rfl, af, Nt _ _ hg, sz (by rw [List.length_append]; omega), fun p2 IC => ?_⟩
  have Of := ah.trans Nt (aj IC (.lst ((ut ++ uk) ++ ug)))
  have sB := ah.trans sA Of
  refine ⟨lk, p2, kvs, _, ks, r.take ++ r.keep ++ r.put, rfl, sB _ _ I.hk, L2.Paired.bQ I.pk fun _ _ z => z.keep (H0 := H0) (Kp.same sB), nd, I.fk, af, ?_, g.fits, fun H2 s2 => ?_⟩
  ·exact jK (jK (L2.Paired.bQ pt fun _ _ z => z.keep (H0 := H0) (Kp.same Of)) (L2.Paired.bQ pk fun _ _ z => z.keep (H0 := H0) (Kp.same Of))) (L2.Paired.bQ pg fun _ _ z => z.keep (H0 := H0) (Kp.same Of))
  have sC := ah.trans Of s2
  have ZG := hR.keep (Kp.same sC)
  have nV := sC _ _ (sm _ _ hL)
  refine ⟨_, rfl, _, rfl, a, c.rule, dx, fs, _, rfl, sC _ _ ha, T.cl, T.n2, ev, D, lt, _, _, r.take, rfl, nV, sC _ _ ht, L2.Paired.bQ pt fun _ _ z => z.keep (H0 := H0) (Kp.same sC), g.takes, ?_⟩
  refine ⟨_, rfl, _, rfl, H0, D, _, _, r, rfl, nV, ZG, g.calls, ?_⟩
  exact ⟨_, rfl, H0, _, r, rfl, ZG, g.few, g.names, g.WK, fun H3 s3 => ⟨ah.trans sm (ah.trans sC s3), _, rfl⟩⟩
 ·rintro σ H' ⟨sm, o, rfl⟩
  have sA := ah.trans s1 sm
  refine ⟨_, rfl, _, rfl, fun x dx hx SJ Xj => ?_⟩
  refine ⟨x, dx, _, _, rfl, af, fun H2 fs h1 h2 h3 kp => ⟨rfl, q x dx fs H2 (fun b o e => kp b o ?_ (aI (sA _ _ e) hx)) (sA.free hx) h1 h2 h3⟩⟩
  rw [aq (aI (sA _ _ e) hx), aq (aI (sA _ _ e) SJ)]
  exact sA _ _ e
theorem gh : ar ["text", "kinds", "rules", "line"] ["text"] (ao lV) := ⟨rfl, rfl, rfl, by decide +kernel, rfl, by decide +kernel, by decide +kernel⟩
theorem Au (F : bu K "read_book" "read_book" lV f fd) (j8 : bb P w K mg base "told_lines" 2 ["text"] yY) (mv : bb P w K mg base "hear_line" 8 ["kinds", "rules", "line"] (D9 K c)) (j9 : bb P w K mg base "whole_book" 3 ["kinds", "rules"] (y8 K c)) :
  aX P w K mg base cO 9 f fd ["text"] (Ec K c) := by
 refine F.ok gh (fun vs H Q E h => ?_) (fun cu A outer s H vs Q E hr h => ?_)
 ·obtain ⟨ls, its, rfl, _⟩ := h
  rfl
 obtain ⟨ls, its, rfl, h0, hN, hx, B, q⟩ := h
 refine ⟨_, (ab (aw (i := 1) gh.nd rfl (Or.inl rfl) (bo ae))
 (ab (aw (i := 2) gh.nd rfl (Or.inl rfl) (bo ae))
 (ab (bj PassesOwn.never rfl (aJ (ak j8 (hr.mono (by decide)) rfl (aa (pv 0) ae))) (aK (i := 3) gh.nd rfl (Or.inl rfl))
 (ag (a6 (ak mv (hr.mono (by decide)) rfl (aa (pv 1) (aa (pv 2) (aa (pv 3) ae)))))))
 (ag (ax (ak j9 (hr.mono (by decide)) rfl (aa (pv 1) (aa (pv 2) ae)))))))), ?_⟩
 refine ⟨(by show 0 ≤ sizeLine; decide), fun lk Vz => ⟨(by show 0 ≤ sizeLine; decide), fun lr tX => ?_⟩⟩
 have ZH : lk ≠ lr := fun z => by rw [← z, af] at tX; cases tX
 have Te : H lr = none := (aj Vz _).free tX
 have s0 : ah H (upd (upd H lk (.lst [])) lr (.lst [])) := ah.trans (aj Vz _) (aj tX _)
 have QO : upd (upd H lk (.lst [])) lr (.lst []) lk = some (.lst []) := by rw [aq ZH]; exact af
 have Tf : upd (upd H lk (.lst [])) lr (.lst []) lr = some (.lst []) := af
 generalize upd (upd H lk (.lst [])) lr (.lst []) = B0 at s0 QO Tf
 refine ⟨_, rfl, ls, rfl, h0, hN, hx, fun v H1 s1 T1 => ?_⟩
 obtain ⟨l, rfl, HE, hl⟩ := T1
 rw [B.lines] at hl
 have nlk : l ≠ lk := fun z => by rw [z, QO] at HE; cases HE
 have nlr : l ≠ lr := fun z => by rw [z, Tf] at HE; cases HE
 refine ⟨l, rfl, ⟨_, ay.of hl⟩, ba (K := K) (a := l) (xs := (its.map (·.1)).map tx) (fun i σ H' => ∃ (kvs pY : List V) (o : Option V), σ = [some (tx (cq ls)), some (.ref lk), some (.ref lr), o] ∧ (∀ b o, b ≠ lk → b ≠ lr → H1 b = some o → H' b = some o) ∧
   nX K c B0 H' lk lr (kX ((its.take i).map (·.2))) (kY ((its.take i).map (·.2))) kvs pY)
  ⟨[], [], none, rfl, fun _ _ _ _ h => h, ⟨s1 _ _ QO, .nil, s1 _ _ Tf, .nil, ZH, ⟨_, QO⟩, ⟨_, Tf⟩, fun b h => s1.free h, Nat.zero_le _, Nat.zero_le _⟩⟩ (fun i σ H' _ ⟨_, _, _, _, k1, _⟩ => ay.of (k1 _ _ nlk nlr hl)) ?_ ?_⟩
 ·rintro i y σ H' hi ⟨kvs, pY, o, rfl, k1, I⟩
  obtain ⟨qL, ey⟩ := aE hi
  rw [Lm9, Lm9] at qL
  rw [List.getElem_map, List.getElem_map] at ey
  subst ey
  have hm := List.getElem_mem qL
  have ZI := B.ok _ hm
  have Xg := uw ((its.take i).map (·.2))
  have HI := ux ((its.take i).map (·.2))
  rw [Lm9, List.length_take] at Xg HI
  have hfew := B.few
  have N3 : its[i].1.length ≤ 20000 := by
   have z : its[i].1 ∈ ls := by
    have z2 : its[i].1 ∈ ls.filter told := by rw [B.lines]; exact List.mem_map.mpr ⟨_, hm, rfl⟩
    exact (List.mem_filter.mp z2).1
   have := qm ls _ z
   omega
  have Li : (its.take (i + 1)).map (·.2) = (its.take i).map (·.2) ++ [its[i].2] := by
   rw [List.take_succ_eq_append_getElem qL, List.map_append]
   rfl
  have Yc : its.map (·.2) = (its.take i).map (·.2) ++ ([its[i].2] ++ (its.drop (i + 1)).map (·.2)) := by
   rw [List.singleton_append, ← List.map_cons (f := (·.2)) (a := its[i]) (l := its.drop (i + 1)), ← List.map_append, ← List.drop_eq_getElem_cons qL, List.take_append_drop]
  refine ⟨_, rfl, _, rfl, _, rfl, B0, lk, lr, _, _, kvs, pY, its[i].1, rfl, I, by omega, by omega, N3, ZI.1, ?_⟩
  have Tg := B.nk
  have Th := B.nr
  rw [Yc] at Tg Th
  rw [lC, lC] at Tg
  rw [lD, lD] at Th
  rcases ZI with ⟨-, Yd, VA⟩
  generalize its[i].2 = it at Yd VA Li Tg Th
  cases it with
  | kind k =>
   refine .inl ⟨k, Yd, VA, ?_, fun v H2 k2 I2 => ⟨kvs ++ [v], pY, _, rfl, fun b o b1 b2 e => k2 b o b1 (k1 b o b1 b2 e), ?_⟩⟩
   ·intro QD
    rw [List.map_append, List.map_append, List.nodup_append] at Tg
    exact Tg.2.2 k.n QD k.n (List.mem_append_left _ (by simp [kX])) rfl
   ·rw [Li, lC, lD]
    show nX K c B0 H2 lk lr (_ ++ [k]) (_ ++ []) _ _
    rw [List.append_nil]
    exact I2
  | rule t L =>
   refine .inr ⟨t, L, Yd, VA.1, VA.2, ?_, fun v H2 k2 I2 => ⟨kvs, pY ++ [v], _, rfl, fun b o b1 b2 e => k2 b o b2 (k1 b o b1 b2 e), ?_⟩⟩
   ·intro QD
    rw [List.map_append, List.map_append, List.nodup_append] at Th
    exact Th.2.2 t QD t (List.mem_append_left _ (by simp [kY, ic])) rfl
   ·rw [Li, lC, lD]
    show nX K c B0 H2 lk lr (_ ++ []) (_ ++ [ic t L]) _ _
    rw [List.append_nil]
    exact I2
 ·rintro σ H' ⟨kvs, pY, o, rfl, k1, I⟩
  rw [Lm9, Lm9, List.take_length] at I
  refine ⟨_, rfl, _, rfl, B0, lk, lr, _, _, kvs, pY, rfl, I, B.nk, B.good, fun x dx fs H2 s2 hx h1 h2 h3 => ?_⟩
  have sH : ah H H2 := fun b o e => s2 b o (k1 b o (aI e Vz) (aI e Te) (s1 _ _ (s0 _ _ e)))
  have Ti : ∀ b, B0 b = none → H b = none := fun b h => s0.free h
  refine q _ _ sH ⟨x, dx, fs, rfl, Ti x (I.t6 x hx), h1, ⟨_, h2, lk, kvs, rfl, Vz, s2 _ _ I.hk, L2.Paired.bQ I.pk fun _ _ z => z.keep (H0 := H) (Kp.same s2)⟩, ⟨_, h3, lr, pY, rfl, Te, s2 _ _ I.hr, L2.Paired.bQ I.pr fun _ _ z => ik.bz Ti (z.keep (Kp.same s2))⟩⟩
end
end gf
namespace gf
open PySem L2 fZ Bk
set_option maxHeartbeats 4000000
section
variable {P : Program} {w : World} {K : PySem.W.Frag} {mg : Str → Option Value} {base : Heap} {f : Addr} {fd : FuncData} {c : Cl}
theorem qN : ar ["book"] ["book"] (ao fT) := ⟨rfl, rfl, rfl, by decide +kernel, rfl, by decide +kernel, by decide +kernel⟩
theorem qO (F : bu K "passing_kinds" "passing_kinds" fT f fd) (T : ML K c.book) : aX P w K mg base cO 1 f fd ["book"] (zH K c) := by
 refine F.ok qN (fun vs H Q E h => ?_) (fun cu A outer s H vs Q E hr h => ?_)
 ·obtain ⟨v, H0, ks, rs, rfl, _⟩ := h
  rfl
 obtain ⟨v, H0, ks, rs, rfl, ⟨x, dx, fs, rfl, X7, hx, ⟨v1, e1, lk, kvs, rfl, QO, hk, pk⟩, _⟩, hfew, q⟩ := h
 refine ⟨_, (ag (ax (bX [] rfl (by kernel_rfl) (aJ (pe_fld (pv 0) rfl)) (fun _ _ _ _ _ => (jF (dB (bT (az (r := rT K) a8 (pv 0) ai (fun _ _ => rfl)))))) (fun _ _ _ _ _ => (az (r := rT K) a8 (pv 0) ai (fun _ _ => rfl)))))), ?_⟩
 have zk := Paired.length pk
 refine ⟨_, rfl, x, c.book, dx, fs, _, rfl, hx, T.cl, T.n1, e1, lk, rfl, ⟨_, ay.of hk⟩, fun D hD => ?_⟩
 refine jk (K := K) (xs := kvs) ks (fun k => !k.l) (·.n) (fun _ _ b y => y = tx b) (fun _ _ _ _ _ _ h => h) (fun _ _ _ _ _ _ h => h) (f9 (by omega)) hD (ay.of hk) zk (fun i x b H' R hx hb sm hQ => ?_) (fun i x b H' R hx hb hk sm hQ => ?_) (fun H1 ys s1 hL po => ?_)
 ·obtain ⟨hi, ex⟩ := aE hx
  obtain ⟨eQ, eb⟩ := aE hb
  obtain ⟨t, et, ht⟩ := paired_at pk i eQ hi
  rw [ex] at et
  rw [eb] at ht
  subst et
  exact ⟨_, rfl, t, _, 2, _, rfl, rfl, ht.same sm, rfl, _, rfl, hQ _ (ah.refl _)⟩
 ·obtain ⟨hi, ex⟩ := aE hx
  obtain ⟨eQ, eb⟩ := aE hb
  obtain ⟨t, et, ht⟩ := paired_at pk i eQ hi
  rw [ex] at et
  rw [eb] at ht
  subst et
  exact ⟨_, rfl, t, _, 0, _, rfl, rfl, ht.same sm, rfl, hQ _ _ (ah.refl _) rfl⟩
 rw [dI po] at hL
 exact q _ _ s1 ⟨D, rfl, hD, hL⟩
theorem qP : ar ["rule", "kind", "given", "taken"] ["rule", "kind"] (ao uW) := ⟨rfl, rfl, rfl, by decide +kernel, rfl, by decide +kernel, by decide +kernel⟩
theorem HM (F : bu K "effect" "effect" uW f fd) (T : y6 K c.rule) (aW : mg "len" = none) : aX P w K mg base cO 1 f fd ["rule", "kind"] (Kx K c) := by
 refine F.ok qP (fun vs H Q E h => ?_) (fun cu A outer s H vs Q E hr h => ?_)
 ·obtain ⟨v, H0, r, z, rfl, _⟩ := h
  rfl
 obtain ⟨v, H0, r, z, rfl, ⟨a, dx, fs, rfl, na, ha, RF⟩, hf1, Nm, q⟩ := h
 obtain ⟨vt, ev, lt, ut, rfl, nt, ht, pt⟩ := RF.taken
 obtain ⟨vg, eg, lg, ug, rfl, ng, hg, pg⟩ := RF.given
 refine ⟨_, (ab (ig (i := 2) [1] qP.nd rfl (Or.inl rfl) rfl (by kernel_rfl) (aJ (pe_fld (pv 0) rfl)) (fun _ _ _ _ _ => (jF (au dG (az (r := rT K) a8 (pv 0) ai (fun _ _ => rfl)) (pv 1) (aH _)))) (fun _ _ _ _ _ => (pv 0)))
 (ab (ig (i := 3) [1] qP.nd rfl (Or.inl rfl) rfl (by kernel_rfl) (aJ (pe_fld (pv 0) rfl)) (fun _ _ _ _ _ => (jF (au dG (az (r := rT K) a8 (pv 0) ai (fun _ _ => rfl)) (pv 1) (aH _)))) (fun _ _ _ _ _ => (pv 0)))
 (ag (ax (aL ir (aF av rfl aW PySem.boot_len (aa (pv 2) ae)) (aF av rfl aW PySem.boot_len (aa (pv 3) ae))))))), ?_⟩
 have zt := Paired.length pt
 have zg := Paired.length pg
 have one : ∀ (fc : Fc) (u : V) (H1 : Hp), Fact K H1 fc u → ∃ t t2, u = .ref t ∧ cP K H1 t [tx fc.k, .ref t2] := fun fc u H1 ⟨t, t2, e, h1, _⟩ => ⟨t, t2, e, h1⟩
 refine ⟨_, rfl, a, c.rule, dx, fs, _, rfl, ha, T.cl, T.n5, eg, lg, rfl, ⟨_, ay.of hg⟩, fun D hD => ?_⟩
 refine jk (K := K) (xs := ug) r.put (fun f => decide (f.k = z)) id (fun _ _ _ _ => True) (fun _ _ _ _ _ _ h => h) (fun _ _ _ _ _ _ h => h) (f9 (by omega)) hD (ay.of hg) zg (fun i x b H' R hx hb sm hQ => ?_) (fun i x b H' R hx hb hk sm hQ => ?_) (fun H1 ys s1 hL po => ?_)
 ·obtain ⟨hi, ex⟩ := aE hx
  obtain ⟨eQ, eb⟩ := aE hb
  have hF := paired_at pg i eQ hi
  rw [ex, eb] at hF
  obtain ⟨t, t2, et, h1⟩ := one _ _ _ hF
  subst et
  refine ⟨_, rfl, t, _, 0, _, rfl, rfl, h1.same sm, rfl, _, rfl, rfl, _, rfl, ?_⟩
  have z := hQ _ (ah.refl _)
  rw [← yV] at z
  exact z
 ·exact ⟨_, rfl, hQ _ _ (ah.refl _) trivial⟩
 have zy := Paired.length po
 refine ⟨_, rfl, a, c.rule, dx, fs, _, rfl, s1 _ _ ha, T.cl, T.n2, ev, lt, rfl, ⟨_, ay.of (s1 _ _ ht)⟩, fun D2 nV => ?_⟩
 refine jk (K := K) (xs := ut) r.take (fun f => decide (f.k = z)) id (fun _ _ _ _ => True) (fun _ _ _ _ _ _ h => h) (fun _ _ _ _ _ _ h => h) (f9 (by omega)) nV (ay.of (s1 _ _ ht)) zt (fun i x b H' R hx hb sm hQ => ?_) (fun i x b H' R hx hb hk sm hQ => ?_) (fun H2 ys2 s2 SA po2 => ?_)
 ·obtain ⟨hi, ex⟩ := aE hx
  obtain ⟨eQ, eb⟩ := aE hb
  have hF := paired_at pt i eQ hi
  rw [ex, eb] at hF
  obtain ⟨t, t2, et, h1⟩ := one _ _ _ hF
  subst et
  refine ⟨_, rfl, t, _, 0, _, rfl, rfl, h1.same (ah.trans s1 sm), rfl, _, rfl, rfl, _, rfl, ?_⟩
  have z := hQ _ (ah.refl _)
  rw [← yV] at z
  exact z
 ·exact ⟨_, rfl, hQ _ _ (ah.refl _) trivial⟩
 have ZJ := Paired.length po2
 refine ⟨_, rfl, D, _, rfl, .inl (ay.of (s2 _ _ hL)), _, rfl, D2, _, rfl, .inl (ay.of SA), _, _, rfl, rfl, ?_⟩
 have e := q _ (ah.trans s1 s2)
 unfold Kw at e
 rw [Lm9] at zy ZJ
 rw [zy, ZJ] at e
 exact e
theorem vf : ar ["book", "kinds"] ["book"] (ao qB) := ⟨rfl, rfl, rfl, by decide +kernel, rfl, by decide +kernel, by decide +kernel⟩
theorem EW (F : bu K "effects" "effects" qB f fd) (T : ML K c.book) (b6 : bb P w K mg base "passing_kinds" 1 ["book"] (zH K c)) (vh : bb P w K mg base "effect" 1 ["rule", "kind"] (Kx K c)) : aX P w K mg base cO 4 f fd ["book"] (Ex K c) := by
 refine F.ok vf (fun vs H Q E h => ?_) (fun cu A outer s H vs Q E hr h => ?_)
 ·obtain ⟨v, H0, ks, rs, rfl, _⟩ := h
  rfl
 obtain ⟨v, H0, ks, rs, rfl, B, hfew, rW, ZK, q⟩ := h
 refine ⟨_, (ab (aw (i := 1) vf.nd rfl (Or.inr rfl) (ak b6 (hr.mono (by decide)) rfl (aa (pv 0) ae)))
 (ag (ax (JY [1] rfl (by kernel_rfl) (aJ (pe_fld (pv 0) rfl)) (fun _ _ _ _ _ => bH) (fun _ _ _ _ _ => (bX [0] rfl (by kernel_rfl) (JZ (K := K) rfl (pv 1)) (fun _ _ _ _ _ => bH) (fun _ _ _ _ _ => (ak vh (hr.mono (by decide)) rfl (aa (pv 1) (aa (pv 0) ae)))))))))), ?_⟩
 refine ⟨_, rfl, v, H0, ks, rs, rfl, B, hfew, fun u H1 s1 T1 => ?_⟩
 obtain ⟨lp, rfl, ab7, Tj⟩ := T1
 obtain ⟨x, dx, fs, rfl, X7, hx, ⟨v1, e1, lk, kvs, rfl, QO, hk, pk⟩, ⟨v2, e2, lr, pY, rfl, Tf, ZL, pr⟩⟩ := B.keep (Kp.same s1)
 have zr := Paired.length pr
 have zp : (Bk.passing ks).length ≤ 10000 := by
  unfold Bk.passing
  rw [Lm9]
  exact Nat.le_trans (List.length_filter_le _ _) hfew
 refine ⟨_, rfl, x, c.book, dx, fs, _, rfl, hx, T.cl, T.n2, e2, lr, rfl, ⟨_, ay.of ZL⟩, fun D hD => ?_⟩
 refine bM (K := K) (xs := pY) (uN ks rs) (fun H0 H b y => lI H0 H b y) (fun _ _ _ _ _ k h => h.keep k) (fun _ _ _ _ _ d h => h.bz d) (f9 (by omega)) hD (ay.of ZL) (by unfold uN; rw [Lm9]; exact zr) (fun i y b H' R hy hb sm hQ => ?_) (fun H2 ys s2 hL po => ?_)
 ·obtain ⟨hi, ey⟩ := aE hy
  obtain ⟨eQ, eb⟩ := aE hb
  unfold uN at eQ eb
  rw [Lm9] at eQ
  rw [List.getElem_map] at eb
  have hR := (paired_at pr i eQ hi).keep (Kp.same sm)
  rw [ey] at hR
  have Nm := ZK _ (List.getElem_mem eQ)
  generalize rs[i] = r at eb hR Nm
  refine ⟨_, rfl, lp, rfl, ⟨_, ay.of (sm _ _ Tj)⟩, fun D2 nV => ?_⟩
  refine bM (K := K) (xs := (Bk.passing ks).map tx) ((Bk.passing ks).map (Kw r)) (fun _ _ b y => y = V.int b) (fun _ _ _ _ _ _ h => h) (fun _ _ _ _ _ _ h => h) (f9 (by rw [Lm9]; omega)) nV (ay.of (sm _ _ Tj)) (by rw [Lm9, Lm9]) (fun j z b2 H3 R2 hz F7 IE hQ2 => ?_) (fun H3 zs s3 Nk po3 => ?_)
  ·obtain ⟨hj, ez⟩ := aE hz
   obtain ⟨hjb, ZM⟩ := aE F7
   rw [Lm9] at hj
   rw [List.getElem_map] at ez ZM
   subst ez
   exact ⟨_, rfl, _, rfl, y, H0, r, _, rfl, hR.keep (Kp.same IE), Nm.1, Nm.2, fun H4 s4 => hQ2 _ _ s4 (by rw [← ZM])⟩
  ·rw [paired_ints po3] at Nk
   refine hQ _ _ s3 ⟨D2, rfl, nV, ?_⟩
   rw [Nk, ← eb]
 ·exact q _ _ (ah.trans s1 s2) ⟨D, ys, rfl, s1.free hD, hL, L2.Paired.bQ po fun _ _ z => z.bz (fun b h => s1.free h)⟩
end
end gf
namespace gf
open PySem L2 fZ Bk
set_option maxHeartbeats 4000000
section
variable {P : Program} {w : World} {K : PySem.W.Frag} {mg : Str → Option Value} {base : Heap} {f : Addr} {fd : FuncData} {c : Cl}
theorem Av : ar ["_law_script", "_law_k"] ["_law_script", "_law_k"] (ao lX) := ⟨rfl, rfl, rfl, by decide +kernel, rfl, by decide +kernel, by decide +kernel⟩
theorem Aw (F : bu K "_law_cell" "_law_cell" lX f fd) (aW : mg "len" = none) : aX P w K mg base cO 1 f fd ["_law_script", "_law_k"] (Ed K) := by
 refine F.ok Av (fun vs H Q E h => ?_) (fun cu A outer s H vs Q E hr h => ?_)
 ·obtain ⟨a, ns, k, rfl, _⟩ := h
  rfl
 obtain ⟨a, ns, k, rfl, hS, h0, q⟩ := h
 refine ⟨_, (ab (aV (au tI (pv 1) (aF av rfl aW PySem.boot_len (aa (pv 0) ae)) (aH _))
 (ag (ax (az aB (pv 0) (pv 1) (fun _ _ => rfl))))
 aA)
 (ag (ax ai))), ?_⟩
 refine ⟨_, rfl, _, rfl, a, _, rfl, .inl hS, _, _, rfl, rfl, _, rfl, ?_⟩
 refine cK (fun c => ?_) (fun c => ?_)
 ·have c' : k < (((ns.map V.int).length : Nat) : Int) := of_decide_eq_true c
  have hk : k.toNat < ns.length := by rw [Lm9] at c'; omega
  have e : rA (ns.map V.int) k = some (.int ns[k.toNat]) := by
   have z := bN (xs := ns.map V.int) (j := k.toNat) (v := .int ns[k.toNat]) (by simp [hk])
   rw [show ((k.toNat : Nat) : Int) = k by omega] at z
   exact z
  exact ⟨_, rfl, _, rfl, a, _, k, _, rfl, rfl, hS, e, q _⟩
 ·exact q 0
theorem cU : ar ["_law_cell_here", "_law_sizes", "_law_number", "_law_found", "_law_size"] ["_law_cell_here", "_law_sizes"] (ao iI) := ⟨rfl, rfl, rfl, by decide +kernel, rfl, by decide +kernel, by decide +kernel⟩
theorem vj (F : bu K "_law_digits" "_law_digits" iI f fd) : aX P w K mg base cO 1 f fd ["_law_cell_here", "_law_sizes"] (Ku K) := by
 refine F.ok cU (fun vs H Q E h => ?_) (fun cu A outer s H vs Q E hr h => ?_)
 ·obtain ⟨cc, l, ms, rfl, _⟩ := h
  rfl
 obtain ⟨cc, l, ms, rfl, hS, hfew, ZN, q⟩ := h
 refine ⟨_, (ab (aw (i := 2) cU.nd rfl (Or.inl rfl) (aL gu (aL IY (aL gu (pv 0) ai) ai) ai))
 (ab (aw (i := 3) cU.nd rfl (Or.inl rfl) (bo ae))
 (ab (bj PassesOwn.never rfl (aJ (pv 1)) (aK (i := 4) cU.nd rfl (Or.inl rfl))
 (ab (a6 (bY PySem.F.plainAttrs_list PySem.F.slot_list_append PySem.F.type_list_append aZ (pv 3) (aa (aL gu (pv 2) (pv 4)) ae)))
 (ag (aw (i := 2) cU.nd rfl (Or.inl rfl) (aL sL (pv 2) (pv 4))))))
 (ag (ax (pv 3)))))), ?_⟩
 refine ⟨_, rfl, _, _, rfl, rfl, (by show (0 : Int) < 2147483647; decide), _, _, rfl, rfl, .inr ⟨by decide, by decide⟩, _, _, rfl, rfl, (by show (0 : Int) < 2147483647; decide), ?_⟩
 refine ⟨(by show 0 ≤ sizeLine; decide), fun p hp => ?_⟩
 refine ⟨_, rfl, l, rfl, ⟨_, (aj hp _).seq hS⟩, ba (K := K) (a := l) (xs := ms.map V.int) (fun i σ H' => ∃ (n : Int) (o : Option V) (ds : List Int), σ = [some (.int cc), some (.ref l), some (.int n), some (.ref p), o] ∧ ah H H' ∧ H' p = some (.lst (ds.map V.int)) ∧ Paired (fun m d : Int => 0 ≤ d ∧ d < m) (ms.take i) ds)
  ⟨_, none, [], rfl, aj hp _, af, by rw [List.take_zero]; exact .nil⟩ (fun i σ H' _ ⟨_, _, _, _, sm, _⟩ => sm.seq hS) ?_ ?_⟩
 ·rintro i y σ H' hi ⟨n, o, ds, rfl, sm, hd, pr⟩
  rw [List.getElem?_map] at hi
  cases hq : ms[i]? with
  | none => rw [hq] at hi; cases hi
  | some m =>
   rw [hq] at hi
   obtain rfl : V.int m = y := Option.some.inj hi
   obtain ⟨sU, em⟩ := List.getElem?_eq_some_iff.mp hq
   have hm := ZN m (List.mem_of_getElem? hq)
   have zl := Paired.length pr
   rw [List.length_take] at zl
   have md := mid (a := n) (b := m) hm.1
   refine ⟨_, rfl, .inl ⟨rfl, _, ay.of hd⟩, _, rfl, _, rfl, _, _, rfl, rfl, hm.1, p, _, _, rfl, rfl, hd, f9 (by rw [Lm9]; omega), ?_⟩
   refine ⟨_, rfl, _, rfl, _, _, rfl, rfl, ⟨by omega, by omega⟩, ?_⟩
   refine ⟨_, _, ds ++ [n % m], rfl, ah.aS sm hp _, ?_, ?_⟩
   ·rw [af, List.map_append]
    rfl
   ·rw [List.take_succ_eq_append_getElem sU, em]
    exact pr.snoc md
 ·rintro σ H' ⟨n, o, ds, rfl, sm, hd, pr⟩
  rw [Lm9, List.take_length] at pr
  exact ⟨_, rfl, q p ds H' sm hp hd pr⟩
theorem ka : ar ["_law_style", "_law_k", "_law_size", "_law_at"] ["_law_style", "_law_k"] (ao lY) := ⟨rfl, rfl, rfl, by decide +kernel, rfl, by decide +kernel, by decide +kernel⟩
theorem Ax (F : bu K "_law_name" "_law_name" lY f fd) : aX P w K mg base cO 1 f fd ["_law_style", "_law_k"] Eu := by
 refine F.ok ka (fun vs H Q E h => ?_) (fun cu A outer s H vs Q E hr h => ?_)
 ·obtain ⟨st, k, rfl, _⟩ := h
  rfl
 obtain ⟨st, k, rfl, h0, hk, q⟩ := h
 refine ⟨_, (ab (aw (i := 2) ka.nd rfl (Or.inl rfl) (aL fQ ai (aL gu (pv 0) ai)))
 (ab (aw (i := 3) ka.nd rfl (Or.inl rfl) (aL gu (aL sL (pv 0) ai) (pv 2)))
 (ag (ax (aL bU (aL bU (aL F9 aR (pv 3)) (az qc aR (pv 1) (fun _ _ => rfl))) (aL F9 aR (aL ir (aL ir (pv 2) ai) (pv 3)))))))), ?_⟩
 have m1 := mid (a := st) (b := 5) (by decide)
 have m2 := mid (a := st / 5) (b := 1 + st % 5) (by omega)
 refine ⟨_, rfl, _, _, rfl, rfl, (by show (0 : Int) < 5; decide), _, _, rfl, rfl, ?_⟩
 refine ⟨_, rfl, _, _, rfl, rfl, ⟨by decide, by decide⟩, _, rfl, _, _, rfl, rfl, (by show (0 : Int) < 1 + st % 5; omega), ?_⟩
 have em : (Str.ofString "m") = ⟨#[109]⟩ := by decide +kernel
 have e8 : (Str.ofString "abcdefgh") = S cT := by decide +kernel
 rw [em, e8]
 refine ⟨_, rfl, 109, _, rfl, rfl, by omega, by omega, ?_⟩
 have Ye : rA (S cT).cps.toList (k : Int) = some (cT.getD k 0) := by
  rw [cv]
  exact bN (getD_get hk)
 refine ⟨_, rfl, S cT, _, _, rfl, rfl, (by rw [a0]; exact sz (by decide)), Ye, ?_⟩
 have z1 := Int.toNat_of_nonneg m2.1
 have z2 : (st / 5 % (1 + st % 5)).toNat + (1 + st % 5 - 1 - st / 5 % (1 + st % 5)).toNat ≤ 4 := by omega
 have qq := q _ _ rfl rfl z2
 refine ⟨_, _, rfl, rfl, ?_, ?_⟩
 ·rw [a0]
  show _ + 1 ≤ _
  exact sz (by rw [List.length_replicate]; omega)
 refine ⟨_, rfl, _, _, rfl, rfl, _, rfl, _, _, rfl, rfl, 109, _, rfl, rfl, by omega, by omega, ?_⟩
 rw [show (⟨#[cT.getD k 0]⟩ : Str) = S [cT.getD k 0] from rfl, gx]
 refine ⟨_, _, rfl, rfl, ?_, ?_⟩
 ·rw [a0, a0, List.length_append, List.length_replicate, List.length_replicate]
  exact sz (by simp only [List.length_cons, List.length_nil]; omega)
 rw [gx, List.append_assoc]
 exact qq
theorem nE : ar ["_law_row", "_law_many", "_law_number"] ["_law_row", "_law_many"] (ao jZ) := ⟨rfl, rfl, rfl, by decide +kernel, rfl, by decide +kernel, by decide +kernel⟩
theorem wM (F : bu K "_law_whole" "_law_whole" jZ f fd) (kib : PySem.W.kitOne K (.type "int") (.type "bool") = some false) (dY : mg "isinstance" = none) (j4 : mg "list" = none) (K2 : mg "int" = none) (Qh : mg "bool" = none) (aW : mg "len" = none) : aX P w K mg base cO 1 f fd ["_law_row", "_law_many"] (pG K) := by
 refine F.ok nE (fun vs H Q E h => ?_) (fun cu A outer s H vs Q E hr h => ?_)
 ·obtain ⟨a, row, n, rfl, _⟩ := h
  rfl
 obtain ⟨a, row, n, rfl, ha, hn, q⟩ := h
 refine ⟨_, (ab (aV (PW.pt (oJ (dB (bT (aF ij rfl dY PyProof.Rows.boot_isinstance (aa (pv 0) (aa (sG rfl j4 PyProof.Rows.Boot.«list» (v := .ty "list") rfl) ae))))) (p0 (au dH (aF av rfl aW PySem.boot_len (aa (pv 0) ae)) (pv 1) (aH _)))))
 (ag (ax fY))
 aA)
 (ab (bj PassesOwn.never rfl (aJ (pv 0)) (aK (i := 2) nE.nd rfl (Or.inl rfl))
 (ag (aV (PW.pt (oJ (dB (bT (aF ij rfl dY PyProof.Rows.boot_isinstance (aa (pv 2) (aa (sG rfl K2 PyProof.Rows.Boot.«int» (v := .ty "int") rfl) ae))))) (p0 (bT (aF ij rfl dY PyProof.Rows.boot_isinstance (aa (pv 2) (aa (sG rfl Qh PyProof.Rows.boot_bool (v := .ty "bool") rfl) ae)))))))
 (ag (ax fY))
 aA)))
 (ag (ax fY)))), ?_⟩
 refine ⟨_, rfl, _, "list", _, true, rfl, .lst ha, uy, _, rfl, bw ?_⟩
 refine ⟨_, rfl, a, _, rfl, .inl (ay.of ha), _, rfl, rfl, _, rfl, ?_⟩
 have z : (!decide (V.int (((row.map V.int).length : Nat) : Int) = V.int n)) = false := by
  rw [Lm9, hn]
  simp
 rw [z]
 refine bw ⟨_, rfl, a, rfl, ⟨_, ay.of ha⟩, ba (K := K) (a := a) (xs := row.map V.int) (fun i σ H' => H' = H ∧ ∃ o, σ = [some (.ref a), some (.int n), o]) ⟨rfl, none, rfl⟩ (fun i σ H' _ ⟨e, _⟩ => by rw [e]; exact ay.of ha) ?_ ?_⟩
 ·rintro i y σ H' hi ⟨rfl, o, rfl⟩
  rw [List.getElem?_map] at hi
  cases hq : row[i]? with
  | none => rw [hq] at hi; cases hi
  | some m =>
   rw [hq] at hi
   obtain rfl : V.int m = y := Option.some.inj hi
   refine ⟨_, rfl, _, "int", _, true, rfl, .int _, uy, _, rfl, bw ?_⟩
   exact ⟨_, rfl, _, "bool", _, false, rfl, .int _, kib, _, rfl, bw ⟨rfl, _, rfl⟩⟩
 ·rintro σ H' ⟨rfl, o, rfl⟩
  exact q
end
end gf
namespace gf
open PySem L2 fZ Bk
set_option maxHeartbeats 4000000
section
variable {P : Program} {w : World} {K : PySem.W.Frag} {mg : Str → Option Value} {base : Heap} {f : Addr} {fd : FuncData} {c : Cl}
theorem bC : ar ["_law_script", "_law_d", "_law_many", "_law_rules", "_law_at", "_law_cell_here", "_law_side", "_law_row", "_law_names"] ["_law_script"] (ao jX) := ⟨rfl, rfl, rfl, by decide +kernel, rfl, by decide +kernel, by decide +kernel⟩
theorem wN (F : bu K "_law_sheet" "_law_sheet" jX f fd) (mw : bb P w K mg base "_law_cell" 1 ["_law_script", "_law_k"] (Ed K)) (fh : bb P w K mg base "_law_digits" 1 ["_law_cell_here", "_law_sizes"] (Ku K)) (mx : bb P w K mg base "_law_name" 1 ["_law_style", "_law_k"] Eu)
  (cw : mg "range" = none) (aW : mg "len" = none) (j4 : mg "list" = none) (EX : mg "reversed" = none) (fD : mg "enumerate" = none) : aX P w K mg base cO 4 f fd ["_law_script"] (zI K) := by
 refine F.ok bC (fun vs H Q E h => ?_) (fun cu A outer s H vs Q E hr h => ?_)
 ·obtain ⟨a, ns, rfl, _⟩ := h
  rfl
 obtain ⟨s0, ns, rfl, hS, hfew, q⟩ := h
 refine ⟨_, (ab (aw (i := 1) bC.nd rfl (Or.inr rfl) (ak fh (hr.mono (by decide)) rfl (aa (ak mw (hr.mono (by decide)) rfl (aa (pv 0) (aa ai ae))) (aa (bo (aa ai (aa ai (aa ai (aa ai (aa ai ae)))))) ae))))
 (ab (aw (i := 2) bC.nd rfl (Or.inl rfl) (aL sL (aL fQ (az aB (pv 1) ai (fun _ _ => rfl)) ai) ai))
 (ab (ig (i := 3) [] bC.nd rfl (Or.inl rfl) rfl (by kernel_rfl) (c6 rfl cw (aa (aL sL (aL fQ (az aB (pv 1) ai (fun _ _ => rfl)) ai) ai) ae)) (fun _ _ _ _ _ => bH) (fun _ _ _ _ _ => (dO (aa (bo ae) (aa (bo ae) ae)))))
 (ab (bj PassesOwn.never rfl (zi (fw m3 (pv 0) (e9 ai) (e9 ai)) rfl fD PyProof.Rows.boot_enumerate) (tF rfl (cQ (aK (i := 4) bC.nd rfl (Or.inl rfl)) (cQ (aK (i := 5) bC.nd rfl (Or.inl rfl)) oM)))
 (ab (aw (i := 6) bC.nd rfl (Or.inl rfl) (ak fh (hr.mono (by decide)) rfl (aa (pv 5) (aa (bo (aa ai (aa ai (aa ai ae)))) ae))))
 (ag (aV (PW.pt (k4 (au ny (pv 2) ai (aH _)) (k4 (au ny (aF av rfl aW PySem.boot_len (aa (pv 3) ae)) ai (aH _)) (jB (au ny (az aB (pv 6) ai (fun _ _ => rfl)) ai (aH _))))))
 (ab (aw (i := 7) bC.nd rfl (Or.inl rfl) (az a8 (az aB (pv 3) (aL gu (pv 4) (aF av rfl aW PySem.boot_len (aa (pv 3) ae))) (fun _ _ => rfl)) (az aB (pv 6) ai (fun _ _ => rfl)) (fun _ _ => rfl)))
 (ag (a6 (bY PySem.F.plainAttrs_list PySem.F.slot_list_extend PySem.F.type_list_extend xR (pv 7) (aa (fw m3 (bo (aa (aL gu (az aB (pv 6) ai (fun _ _ => rfl)) (pv 2)) ae)) mZ (e9 (aL ir ai (aF av rfl aW PySem.boot_len (aa (pv 7) ae))))) ae)))))
 aA))))
 (ab (ig (i := 8) [1] bC.nd rfl (Or.inl rfl) rfl (by kernel_rfl) (c6 rfl cw (aa (pv 2) ae)) (fun _ _ _ _ _ => bH) (fun _ _ _ _ _ => (ak mx (hr.mono (by decide)) rfl (aa (az (r := Ml K) aB (pv 1) ai (fun _ _ => rfl)) (aa (pv 0) ae)))))
 (ab (aV (au dG (az aB (pv 1) ai (fun _ _ => rfl)) ai (aH _))
 (ag (aw (i := 8) bC.nd rfl (Or.inl rfl) (Ei rfl (pv 8) rfl j4 PyProof.Rows.Boot.«list» rfl EX PyProof.Rows.boot_reversed)))
 aA)
 (ag (ax (dO (aa (pv 8) (aa (aL gu (az aB (pv 1) ai (fun _ _ => rfl)) (aL fQ (pv 2) ai)) (aa (pv 3) ae)))))))))))), ?_⟩
 refine ⟨_, rfl, s0, ns, 0, rfl, hS, by decide, fun v0 => ⟨by show 5 ≤ sizeLine; decide, fun p5 ZO => ⟨v0, p5, [25, 11, 6, 16, 2], rfl, ay.of af, by decide, by decide, fun d ds H1 s1 X6 hd pr => ?_⟩⟩⟩
 have s1 := ah.trans (aj ZO _) s1
 have X6 : H d = none := (aj ZO _).free X6
 obtain ⟨d0, d1, d2, d3, d4, rfl, b0, b1, b2, b3, b4⟩ := M6 pr
 refine ⟨_, rfl, d, _, 1, _, rfl, rfl, ay.of hd, rfl, _, _, rfl, rfl, _, _, rfl, rfl, ⟨by decide, by decide⟩, ?_⟩
 have mM : 0 ≤ (d1 + 1) / 2 ∧ (d1 + 1) / 2 ≤ 5 := by omega
 refine ⟨_, rfl, d, _, 3, _, rfl, rfl, ay.of hd, rfl, _, _, rfl, rfl, _, _, rfl, rfl, ⟨by decide, by decide⟩, (d3 + 1) / 2, rfl, by omega, by omega, fun D hD => ?_⟩
 have mN : ((d3 + 1) / 2).toNat ≤ 8 := by omega
 generalize hN : ((d3 + 1) / 2).toNat = N at mN
 refine jH (lo := 0) (n := N) (f9 (by omega)) (fun i ys H' => ah H1 H' ∧ H' D = some (.lst ys) ∧ ∃ T A R, ys = (List.range i).map (fun k => V.ref (T k)) ∧ Cells H' i T A R ∧ (∀ j u, R j u = []) ∧ ∀ j u, j < i → u < 2 → A j u ≠ D ∧ H1 (A j u) = none)
  ⟨aj hD _, af, fun _ => 0, fun _ _ => 0, fun _ _ => [], rfl, ⟨fun i hi => absurd hi (by omega), fun i u hi => absurd hi (by omega), fun i u j v hi => absurd hi (by omega)⟩, fun _ _ => rfl, fun i u hi => absurd hi (by omega)⟩ (fun i ys H' p => ⟨p.2.1, ?_⟩) (fun i ys H' hi p => ?_) (fun ys H2 p => ?_)
 ·obtain ⟨T, A, R, rfl, _⟩ := p.2.2
  rw [Lm9, List.length_range]
  exact Nat.le_refl _
 ·obtain ⟨sm, iw, T, A, R, rfl, C, hR, ap⟩ := p
  refine ⟨(by show 0 ≤ sizeLine; decide), fun a ha => ⟨(by show 0 ≤ sizeLine; decide), fun b hb => ⟨(by show 2 ≤ sizeLine; decide), fun t ht => ?_⟩⟩⟩
  have sa := aj ha (.lst [])
  have sb := aj hb (.lst [])
  have st := aj ht (.tup [.ref a, .ref b])
  have sab := ah.trans sa sb
  have sA := ah.trans sab st
  have K1 : H' b = none := sa.free hb
  have aD : a ≠ D := fun z => by rw [z, iw] at ha; cases ha
  have bD : b ≠ D := fun z => by rw [z, iw] at K1; cases K1
  have MV : a ≠ b := fun z => by rw [← z, af] at hb; cases hb
  have C2 := C.snoc sA ha K1 MV (st _ _ (sb _ _ af)) (st _ _ af) af
  refine ⟨sA _ _ iw, ah.aS (ah.trans sm sA) hD _, af, _, _, _, Hu.symm, C2.other (sA _ _ iw) (fun j u hj hu => ?_) _, fun j u => ?_, fun j u hj hu => ?_⟩
  ·by_cases e : j = i
   ·simp only [if_pos e]
    by_cases e2 : u = 0
    ·rw [if_pos e2]; exact aD
    ·rw [if_neg e2]; exact bD
   ·simp only [if_neg e]
    exact (ap j u (by omega) hu).1
  ·by_cases e : j = i
   ·simp only [if_pos e]
   ·simp only [if_neg e]
    exact hR j u
  ·by_cases e : j = i
   ·simp only [if_pos e]
    by_cases e2 : u = 0
    ·rw [if_pos e2]; exact ⟨aD, sm.free ha⟩
    ·rw [if_neg e2]; exact ⟨bD, sm.free K1⟩
   ·simp only [if_neg e]
    exact ap j u (by omega) hu
 obtain ⟨sm, iw, T, A, R, rfl, C, hR, ap⟩ := p
 have s2 := ah.trans s1 sm
 refine ⟨_, rfl, _, rfl, _, rfl, s0, _, rfl, s2.seq hS, fun p hp => ?_⟩
 obtain ⟨ms, ems, ZN⟩ := JP ns (some 1) (some 63)
 rw [ems]
 refine ⟨p, rfl, ⟨_, ay.of af⟩, ?_⟩
 have sp := aj hp (.lst (ms.map V.int))
 have apd : ∀ j u, j < N → u < 2 → A j u ≠ d ∧ A j u ≠ D ∧ A j u ≠ p ∧ H (A j u) = none := fun j u hj hu => by
  have z := ap j u hj hu
  refine ⟨fun e => ?_, z.1, fun e => ?_, s1.free z.2⟩
  ·rw [e, hd] at z
   cases z.2
  ·have y := C.lst j u hj hu
   rw [e, hp] at y
   cases y
 refine uz (K := K) (a := p) (xs := ms.map V.int) (fun i σ H' => ∃ o4 o5 o6 o7 R, σ = [some (.ref s0), some (.ref d), some (.int ((d1 + 1) / 2)), some (.ref D), o4, o5, o6, o7, none] ∧ ah H H' ∧ H' d = some (.lst ([d0, d1, d2, d3, d4].map V.int)) ∧ H' D = some (.lst ((List.range N).map fun k => V.ref (T k))) ∧ H' p = some (.lst (ms.map V.int)) ∧
   Cells H' N T A R ∧ ∀ j u, (R j u).length ≤ 4 ∧ ∀ n ∈ R j u, n < ((d1 + 1) / 2).toNat)
  ⟨none, none, none, none, R, rfl, ah.trans s2 sp, sp _ _ (sm _ _ hd), sp _ _ iw, af, C.same sp, fun j u => by rw [hR]; exact ⟨by decide, fun _ z => nomatch z⟩⟩ (fun i σ H' _ ⟨_, _, _, _, _, _, _, _, _, h, _⟩ => ay.of h) ?_ ?_
 ·rintro i y σ H' t hi ⟨o4, o5, o6, o7, R, rfl, sH, hd, iw, QP, C, hR⟩ ht
  rw [List.getElem?_map] at hi
  cases hq : ms[i]? with
  | none => rw [hq] at hi; cases hi
  | some m =>
   rw [hq] at hi
   obtain rfl : V.int m = y := Option.some.inj hi
   have st := aj ht (.tup [.int (i : Int), .int m])
   refine ⟨t, _, rfl, cP.of af, rfl, _, _, rfl, _, _, rfl, rfl, ?_⟩
   refine ⟨_, rfl, by show 3 ≤ sizeLine; decide, fun p3 Nu => ⟨m, p3, [2, 7, 5], rfl, ay.of af, by decide, by decide, fun sd es H3 s3 hs0 Yf pr3 => ?_⟩⟩
   have s3 := ah.trans (ah.trans st (aj Nu _)) s3
   obtain ⟨e0, e1, e2, rfl, c0, c1, c2⟩ := M5 pr3
   have b7 : ∀ (σ' : St), σ' = [some (.ref s0), some (.ref d), some (.int ((d1 + 1) / 2)), some (.ref D), some (.int (i : Int)), some (.int m), some (.ref sd), o7, none] → ∃ o4 o5 o6 o7 R, σ' = [some (.ref s0), some (.ref d), some (.int ((d1 + 1) / 2)), some (.ref D), o4, o5, o6, o7, none] ∧ ah H H3 ∧ H3 d = some (.lst ([d0, d1, d2, d3, d4].map V.int)) ∧ H3 D = some (.lst ((List.range N).map fun k => V.ref (T k))) ∧ H3 p = some (.lst (ms.map V.int)) ∧
    Cells H3 N T A R ∧ ∀ j u, (R j u).length ≤ 4 ∧ ∀ n ∈ R j u, n < ((d1 + 1) / 2).toNat := fun σ' e => ⟨_, _, _, _, R, e, ah.trans sH s3, s3 _ _ hd, s3 _ _ iw, s3 _ _ QP, C.same s3, hR⟩
   refine ⟨_, rfl, _, _, rfl, rfl, _, rfl, cK (fun k1 => ?_) (fun k1 => bw (b7 _ rfl))⟩
   have k1 : (0 : Int) < (d1 + 1) / 2 := of_decide_eq_true k1
   refine ⟨_, rfl, D, _, rfl, .inl (ay.of (s3 _ _ iw)), _, _, rfl, rfl, _, rfl, cK (fun k2 => ?_) (fun k2 => bw (b7 _ rfl))⟩
   have k2 : (0 : Int) < ((((List.range N).map fun k => V.ref (T k)).length : Nat) : Int) := of_decide_eq_true k2
   have eN : ((((List.range N).map fun k => V.ref (T k)).length : Nat) : Int) = (N : Int) := by rw [Lm9, List.length_range]
   refine ⟨_, rfl, sd, _, 1, _, rfl, rfl, ay.of Yf, rfl, _, _, rfl, rfl, _, rfl, cK (fun k3 => ?_) (fun k3 => b7 _ rfl)⟩
   have md := mid (a := (i : Int)) (b := ((((List.range N).map fun k => V.ref (T k)).length : Nat) : Int)) k2
   have md2 := md
   rw [eN] at md2
   have hk : ((i : Int) % (N : Int)).toNat < N := by omega
   have hu : e0.toNat < 2 := by omega
   have ha := Ky (n := N) (T := T) (j := (i : Int) % ((((List.range N).map fun k => V.ref (T k)).length : Nat) : Int)) md.1 (by rw [← eN]; exact md.2)
   have ek : ((i : Int) % ((((List.range N).map fun k => V.ref (T k)).length : Nat) : Int)).toNat = ((i : Int) % (N : Int)).toNat := by rw [eN]
   rw [ek] at ha
   have C3 := C.same s3
   generalize hkk : ((i : Int) % (N : Int)).toNat = k at ha hk
   have al := PL (A := fun u => A k u) (j := e0) rfl rfl c0.1 c0.2
   have kZ := C3.lst k e0.toNat hk hu
   refine ⟨_, rfl, _, rfl, _, rfl, D, _, rfl, .inl (ay.of (s3 _ _ iw)), _, _, rfl, rfl, k2, D, _, _, _, rfl, rfl, ay.of (s3 _ _ iw), ha, _, rfl, sd, _, 0, _, rfl, rfl, ay.of Yf, rfl, T k, _, e0, _, rfl, rfl, cP.of (C3.tup k hk), al, ?_⟩
   refine ⟨_, rfl, .inl ⟨rfl, _, ay.of kZ⟩, _, rfl, sd, _, 2, _, rfl, rfl, ay.of Yf, rfl, _, rfl, _, _, rfl, rfl, k1, by show 1 ≤ sizeLine; decide, fun p4 Tn => ?_⟩
   have s4 := aj Tn (.lst [V.int (e2 % ((d1 + 1) / 2))])
   have XJ := (hR k e0.toNat).1
   have em := mid (a := e2) (b := (d1 + 1) / 2) k1
   refine ⟨_, rfl, A k e0.toNat, _, rfl, .inl (ay.of (s4 _ _ kZ)), _, _, rfl, rfl, _, rfl, p4, _, rfl, ay.of af, fun p6 Yg => ?_⟩
   have eL : (((nI (R k e0.toNat)).length : Nat) : Int) = ((R k e0.toNat).length : Nat) := by rw [Lm9]
   have ec := M7 (v := V.int (e2 % ((d1 + 1) / 2))) (k := 4 - (((nI (R k e0.toNat)).length : Nat) : Int)) (by rw [eL]; omega)
   have O1 : V.int (e2 % ((d1 + 1) / 2)) = V.int (((e2 % ((d1 + 1) / 2)).toNat : Nat) : Int) := congrArg V.int (by omega)
   have en : (if (4 - (((nI (R k e0.toNat)).length : Nat) : Int)) = 0 then [] else [V.int (e2 % ((d1 + 1) / 2))]) = nI (if (R k e0.toNat).length = 4 then [] else [(e2 % ((d1 + 1) / 2)).toNat]) := by
    by_cases z : (R k e0.toNat).length = 4
    ·rw [if_pos z, if_pos (by rw [eL]; omega)]
     rfl
    ·rw [if_neg z, if_neg (by rw [eL]; omega), O1]
     rfl
   rw [en] at ec
   have s5 := aj Yg (.lst (hZ [V.int (e2 % ((d1 + 1) / 2))] none (some (4 - (((nI (R k e0.toNat)).length : Nat) : Int)))))
   have s6 := ah.trans s4 s5
   have s7 := ah.trans s3 s6
   refine ⟨A k e0.toNat, p6, _, _, rfl, rfl, s6 _ _ kZ, af, ?_, ?_⟩
   ·show (nI (R k e0.toNat)).length + (hZ [V.int (e2 % ((d1 + 1) / 2))] none (some (4 - (((nI (R k e0.toNat)).length : Nat) : Int)))).length ≤ _
    have zL : (nI (R k e0.toNat)).length ≤ 4 := by rw [Lm9]; exact XJ
    have z := k6 [V.int (e2 % ((d1 + 1) / 2))] none (some (4 - (((nI (R k e0.toNat)).length : Nat) : Int)))
    rw [List.length_singleton] at z
    exact sz (by omega)
   have C4 := (C.same s7).write hk hu (R k e0.toNat ++ (if (R k e0.toNat).length = 4 then [] else [(e2 % ((d1 + 1) / 2)).toNat]))
   have eW : nI (R k e0.toNat) ++ hZ [V.int (e2 % ((d1 + 1) / 2))] none (some (4 - (((nI (R k e0.toNat)).length : Nat) : Int))) = nI (R k e0.toNat ++ (if (R k e0.toNat).length = 4 then [] else [(e2 % ((d1 + 1) / 2)).toNat])) := by
    rw [ec, ← List.map_append]
   rw [← eW] at C4
   obtain ⟨n1, n2, n3, n4⟩ := apd k e0.toNat hk hu
   refine ⟨_, _, _, _, _, rfl, ah.aS (ah.trans sH s7) n4 _, ?_, ?_, ?_, C4, fun j u => ?_⟩
   ·rw [aq n1.symm]; exact s7 _ _ hd
   ·rw [aq n2.symm]; exact s7 _ _ iw
   ·rw [aq n3.symm]; exact s7 _ _ QP
   ·by_cases e : j = k ∧ u = e0.toNat
    ·simp only [if_pos e]
     refine ⟨?_, fun n hn => ?_⟩
     ·rw [List.length_append]
      by_cases z : (R k e0.toNat).length = 4
      ·rw [if_pos z, z]
       decide
      ·rw [if_neg z, List.length_singleton]
       omega
     ·rcases List.mem_append.mp hn with hn | hn
      ·exact (hR _ _).2 n hn
      ·by_cases z : (R k e0.toNat).length = 4
       ·rw [if_pos z] at hn
        cases hn
       ·rw [if_neg z] at hn
        rw [List.mem_singleton.mp hn]
        omega
    ·simp only [if_neg e]
     exact hR j u
 rintro σ H4 ⟨o4, o5, o6, o7, R, rfl, sH, hd, iw, QP, C, hR⟩
 refine ⟨_, rfl, (d1 + 1) / 2, rfl, by omega, by omega, fun D2 nV => ?_⟩
 have ma := mid (a := d0) (b := 5) (by decide)
 have mb := mid (a := d0 / 5) (b := 1 + d0 % 5) (by omega)
 obtain ⟨na, ena⟩ : ∃ na : Nat, na = (d0 / 5 % (1 + d0 % 5)).toNat := ⟨_, rfl⟩
 obtain ⟨nb, enb⟩ : ∃ nb : Nat, nb = (1 + d0 % 5 - 1 - d0 / 5 % (1 + d0 % 5)).toNat := ⟨_, rfl⟩
 have MV : na + nb ≤ 4 := by omega
 refine jH (lo := 0) (n := ((d1 + 1) / 2).toNat) (f9 (by omega)) (fun i ys H' => ah H4 H' ∧ H' D2 = some (.lst ys) ∧ ys = ((List.range i).map (nameOf na nb)).map tx) ⟨aj nV _, af, rfl⟩ (fun i ys H' p => ⟨p.2.1, ?_⟩) (fun i ys H' hi p => ?_) (fun ys H5 p => ?_)
 ·rw [p.2.2, Lm9, Lm9, List.length_range]
  exact Nat.le_refl _
 ·obtain ⟨Qi, To, rfl⟩ := p
  refine ⟨_, rfl, d, _, 0, _, rfl, rfl, ay.of (Qi _ _ hd), rfl, _, rfl, d0, i, (by show [V.int d0, V.int (0 + (i : Int))] = [V.int d0, V.int (i : Int)]; rw [Int.zero_add]), b0.1, by omega, fun a b ea eb _ => ⟨To, ah.aS Qi nV _, af, ?_⟩⟩
  rw [ea, eb, ← ena, ← enb, List.range_succ, List.map_append, List.map_append]
  rfl
 obtain ⟨Qi, To, rfl⟩ := p
 have s5 := ah.trans sH Qi
 have C5 := C.same Qi
 have fin : ∀ (ln : Addr) (zs : List Cs) (H6 : Hp), ah H5 H6 → H6 ln = some (.lst (zs.map tx)) → zs.length = ((d1 + 1) / 2).toNat → zs.Nodup → (∀ z ∈ zs, aN z = true ∧ z ≠ zz) → ∀ t, H6 t = none → Q (.ref t) (upd H6 t (.tup [.ref ln, .int (d2 % ((d1 + 1) / 2 + 1)), .ref D])) := fun ln zs H6 s6 HN Vn W7 hz t ht => by
  have st := aj ht (.tup [.ref ln, .int (d2 % ((d1 + 1) / 2 + 1)), .ref D])
  have mp := mid (a := d2) (b := (d1 + 1) / 2 + 1) (by omega)
  refine q t ln D zs (d2 % ((d1 + 1) / 2 + 1)).toNat ((List.range N).map fun i => (R i 0, R i 1)) _ _ (ah.trans (ah.trans s5 s6) st) ?_ (st _ _ HN) (st _ _ (s6 _ _ (Qi _ _ iw))) ((C5.same (ah.trans s6 st)).paired) ?_
  ·rw [af, Int.toNat_of_nonneg mp.1]
  ·refine ⟨by omega, by omega, by rw [Lm9, List.length_range]; exact mN, W7, fun z h => (hz z h).1, fun z h => (hz z h).2, fun r hr => ?_⟩
   obtain ⟨i, _, rfl⟩ := List.mem_map.mp hr
   rw [Vn]
   exact ⟨(hR i 0).1, (hR i 1).1, (hR i 0).2, (hR i 1).2⟩
 have zl : ((List.range ((d1 + 1) / 2).toNat).map (nameOf na nb)).length = ((d1 + 1) / 2).toNat := by rw [Lm9, List.length_range]
 have zn : ((List.range ((d1 + 1) / 2).toNat).map (nameOf na nb)).Nodup := r9 fun i j hi hj e => Kv (by omega) (by omega) e
 have zg : ∀ z ∈ ((List.range ((d1 + 1) / 2).toNat).map (nameOf na nb)), aN z = true ∧ z ≠ zz := fun z hz => by
  obtain ⟨k, hk, rfl⟩ := List.mem_map.mp hz
  have hk := List.mem_range.mp hk
  exact ⟨Ew (by omega) MV, M4 (by omega)⟩
 generalize ((List.range ((d1 + 1) / 2).toNat).map (nameOf na nb)) = zs at To zl zn zg
 have QM := Qi _ _ hd
 refine ⟨_, rfl, d, _, 4, _, rfl, rfl, ay.of QM, rfl, rfl, _, rfl, cK (fun k => ?_) (fun k => ?_)⟩
 ·refine ⟨_, rfl, D2, _, rfl, ay.of To, fun p7 hp7 => ?_⟩
  have s7 := aj hp7 (.lst ((zs.map tx).reverse))
  refine ⟨_, rfl, _, rfl, d, _, 2, _, rfl, rfl, ay.of (s7 _ _ QM), rfl, _, rfl, _, _, rfl, rfl, _, _, rfl, rfl, (by show (0 : Int) < (d1 + 1) / 2 + 1; omega), _, rfl, by show 3 ≤ sizeLine; decide, fun t ht => ?_⟩
  exact fin p7 zs.reverse _ s7 (by rw [af, List.map_reverse]) (by rw [List.length_reverse, zl]) (Hv zn) (fun z hz => zg z (List.mem_reverse.mp hz)) t ht
 ·refine ⟨_, rfl, _, rfl, d, _, 2, _, rfl, rfl, ay.of QM, rfl, _, rfl, _, _, rfl, rfl, _, _, rfl, rfl, (by show (0 : Int) < (d1 + 1) / 2 + 1; omega), _, rfl, by show 3 ≤ sizeLine; decide, fun t ht => ?_⟩
  exact fin D2 zs _ (ah.refl _) To zl zn zg t ht
end
end gf
namespace gf
open PySem L2 fZ Bk
set_option maxHeartbeats 4000000
section
variable {P : Program} {w : World} {K : PySem.W.Frag} {mg : Str → Option Value} {base : Heap} {f : Addr} {fd : FuncData} {c : Cl}
theorem ck : ar ["_law_names", "_law_place_here", "_law_rules", "_law_lines_here", "_law_number", "_law_rule", "_law_parts"] ["_law_names", "_law_place_here", "_law_rules"] (ao jY) := ⟨rfl, rfl, rfl, by decide +kernel, rfl, by decide +kernel, by decide +kernel⟩
theorem wO (F : bu K "_law_lines" "_law_lines" jY f fd) (aW : mg "len" = none) (Tp : mg "str" = none) (fD : mg "enumerate" = none) : aX P w K mg base cO 1 f fd ["_law_names", "_law_place_here", "_law_rules"] (uQ K) := by
 refine F.ok ck (fun vs H Q E h => ?_) (fun cu A outer s H vs Q E hr h => ?_)
 ·obtain ⟨ln, lr, zs, place, rs, us, rfl, _⟩ := h
  rfl
 obtain ⟨ln, lr, zs, place, rs, us, rfl, HN, tX, pr, T, q⟩ := h
 refine ⟨_, (ab (ig (i := 3) [] ck.nd rfl (Or.inl rfl) rfl (by kernel_rfl) (aJ (pv 0)) (fun _ _ _ _ _ => bH) (fun _ _ _ _ _ => (aL bU (aL bU aR (pv 0)) aR)))
 (ab (aw (i := 3) ck.nd rfl (Or.inl rfl) (aL nQ (aL nQ (fw m3 (pv 3) mZ (e9 (pv 1))) (bo (aa aR ae))) (fw m3 (pv 3) (e9 (pv 1)) mZ)))
 (ab (bj PassesOwn.never rfl (zi (pv 2) rfl fD PyProof.Rows.boot_enumerate) (tF rfl (cQ (aK (i := 4) ck.nd rfl (Or.inl rfl)) (cQ (aK (i := 5) ck.nd rfl (Or.inl rfl)) oM)))
 (ab (aw (i := 6) ck.nd rfl (Or.inl rfl) (bo (aa (aL bU aR (az aB (aL nQ (pv 0) (bo (aa aR ae))) ai (fun _ _ => rfl))) ae)))
 (ab (aV (au ny (aF av rfl aW PySem.boot_len (aa (az a8 (pv 5) ai (fun _ _ => rfl)) ae)) ai (aH _))
 (ab (aw (i := 6) ck.nd rfl (Or.inl rfl) (bo (aa (aL bU aR (bY PySem.F.plainAttrs_str PySem.F.slot_str_join PySem.F.type_str_join sO aR (aa (bX [0] rfl (by kernel_rfl) (aJ (az a8 (pv 5) ai (fun _ _ => rfl))) (fun _ _ _ _ _ => bH) (fun _ _ _ _ _ => (az (r := Ml K) aB (pv 1) (pv 0) (fun _ _ => rfl)))) ae))) ae)))
 (ag (aV (au dG (aL gu (pv 4) ai) ai (aH _))
 (ag (a6 (bY PySem.F.plainAttrs_list PySem.F.slot_list_append PySem.F.type_list_append aZ (pv 6) (aa (aL bU aR (az aB (pv 0) (aL ir (aF av rfl aW PySem.boot_len (aa (pv 0) ae)) ai) (fun _ _ => rfl))) ae))))
 aA)))
 aA)
 (ab (aV (PW.pt (k4 (au ny (aF av rfl aW PySem.boot_len (aa (az a8 (pv 5) ai (fun _ _ => rfl)) ae)) ai (aH _)) (jB (au ny (aF av rfl aW PySem.boot_len (aa (az a8 (pv 5) ai (fun _ _ => rfl)) ae)) ai (aH _)))))
 (ag (a6 (bY PySem.F.plainAttrs_list PySem.F.slot_list_append PySem.F.type_list_append aZ (pv 6) (aa (aL bU aR (bY PySem.F.plainAttrs_str PySem.F.slot_str_join PySem.F.type_str_join sO aR (aa (bX [0] rfl (by kernel_rfl) (aJ (az a8 (pv 5) ai (fun _ _ => rfl))) (fun _ _ _ _ _ => bH) (fun _ _ _ _ _ => (az (r := Ml K) aB (pv 1) (pv 0) (fun _ _ => rfl)))) ae))) ae))))
 aA)
 (ab (aV (PW.pt (k4 (au dG (aF av rfl aW PySem.boot_len (aa (az a8 (pv 5) ai (fun _ _ => rfl)) ae)) ai (aH _)) (jB (au ny (aF av rfl aW PySem.boot_len (aa (az a8 (pv 5) ai (fun _ _ => rfl)) ae)) ai (aH _)))))
 (ag (a6 (bY PySem.F.plainAttrs_list PySem.F.slot_list_append PySem.F.type_list_append aZ (pv 6) (aa aR ae))))
 aA)
 (ag (a6 (bY PySem.F.plainAttrs_list PySem.F.slot_list_append PySem.F.type_list_append aZ (pv 3) (aa (aL bU (aL bU (aL bU aR (gm yI rfl Tp PyProof.Rows.Boot.«str» (aa (pv 4) ae))) aR) (bY PySem.F.plainAttrs_str PySem.F.slot_str_join PySem.F.type_str_join sO aR (aa (pv 6) ae))) ae)))))))))
 (ag (ax (bY PySem.F.plainAttrs_str PySem.F.slot_str_join PySem.F.type_str_join sO aR (aa (pv 3) ae))))))), ?_⟩
 have ack := T.few
 have ZP := T.pl
 have zr := Paired.length pr
 have z8 := T.many
 have e_p : (Str.ofString "passing ") = S (bS ++ [32]) := by decide +kernel
 have e_0 : (Str.ofString " 0") = S [32, 48] := by decide +kernel
 have e_z : (Str.ofString "lasting zz 0") = S (bG Sv) := by decide +kernel
 have Yh : (Str.ofString "zz") = S zz := by decide +kernel
 have Ay : (Str.ofString "keep ") = S (wordAt 1 ++ [32]) := by decide +kernel
 have Lj : (Str.ofString "take ") = S (wordAt 0 ++ [32]) := by decide +kernel
 have Og : (Str.ofString "put ") = S (wordAt 3 ++ [32]) := by decide +kernel
 have Qj : (Str.ofString "put zz") = S (aP (3, [zz])) := by decide +kernel
 have Nv : (Str.ofString ", ") = S [44, 32] := by decide +kernel
 have Nw : (Str.ofString "; ") = S [59, 32] := by decide +kernel
 have CS : (Str.ofString "rule r") = S (gw ++ [32, 114]) := by decide +kernel
 have HP : (Str.ofString ": ") = S [58, 32] := by decide +kernel
 have Tq : (Str.ofString "\n") = ⟨#[10]⟩ := by decide +kernel
 refine ⟨_, rfl, ln, rfl, ⟨_, ay.of HN⟩, fun D hD => ?_⟩
 refine bM (K := K) (xs := zs.map tx) (zs.map fun z => bG (kdOf z)) (fun _ _ b y => y = tx b) (fun _ _ _ _ _ _ h => h) (fun _ _ _ _ _ _ h => h) (f9 (by rw [Lm9]; omega)) hD (ay.of HN) (by rw [Lm9, Lm9]) (fun i y b H' R hy hb sm hQ => ?_) (fun H1 ys s1 hL po => ?_)
 ·obtain ⟨hi, ey⟩ := aE hy
  obtain ⟨eQ, eb⟩ := aE hb
  rw [Lm9] at hi
  rw [List.getElem_map] at ey eb
  subst ey
  have hl := (cj (T.sm _ (List.getElem_mem hi))).2
  rw [e_p, e_0]
  refine ⟨_, rfl, _, _, rfl, rfl, ?_, _, _, rfl, rfl, ?_, hQ _ _ (ah.refl _) ?_⟩
  ·rw [a0, a0]
   exact sz (by simp only [List.length_append, List.length_cons, List.length_nil]; omega)
  ·rw [gx, a0, a0]
   exact sz (by simp only [List.length_append, List.length_cons, List.length_nil]; omega)
  ·rw [gx, gx, ← eb]
   rfl
 rw [dI po] at hL
 have lK : ((zs.map fun z => bG (kdOf z)).map tx).length = zs.length := by rw [Lm9, Lm9]
 refine ⟨_, rfl, _, rfl, _, rfl, D, _, rfl, ay.of hL, fun p hp => ?_⟩
 rw [Kz (by rw [lK]; exact ZP)]
 rw [e_z]
 refine ⟨by show 1 ≤ sizeLine; decide, fun p2 IC => ?_⟩
 have sA := ah.trans (aj hp (.lst (((zs.map fun z => bG (kdOf z)).map tx).take place))) (aj IC (.lst [V.str (S (bG Sv))]))
 refine ⟨p, p2, _, _, rfl, rfl, aj IC _ _ _ af, af, ?_, fun p3 Nu => ?_⟩
 ·rw [List.length_take, List.length_singleton]
  exact sz (by omega)
 refine ⟨_, rfl, _, rfl, _, rfl, D, _, rfl, ay.of (aj Nu _ _ _ (sA _ _ hL)), fun p4 Tn => ?_⟩
 rw [tS (by rw [lK]; exact ZP)]
 refine ⟨p3, p4, _, _, rfl, rfl, aj Tn _ _ _ af, af, ?_, fun LL Ll => ?_⟩
 ·rw [List.length_append, List.length_take, List.length_singleton, List.length_drop]
  exact sz (by omega)
 have eK : (((zs.map fun z => bG (kdOf z)).map tx).take place ++ [V.str (S (bG Sv))]) ++ ((zs.map fun z => bG (kdOf z)).map tx).drop place = ((oI zs place).map bG).map tx := by
  unfold oI
  simp only [List.map_append, List.map_take, List.map_drop, List.map_map, List.map_cons, List.map_nil, Function.comp_def]
 rw [eK]
 have sB : ah H _ := ah.trans (ah.trans s1 (ah.trans (ah.trans sA (aj Nu _)) (aj Tn _))) (aj Ll (.lst (((oI zs place).map bG).map tx)))
 have Tr := (ah.trans s1 (ah.trans (ah.trans sA (aj Nu _)) (aj Tn _))).free Ll
 have kl : (oI zs place).length ≤ 6 := by
  unfold oI
  simp only [List.length_append, Lm9, List.length_take, List.length_drop, List.length_cons, List.length_nil]
  omega
 refine ⟨_, rfl, lr, rfl, ⟨_, ay.of (sB _ _ tX)⟩, uz (K := K) (a := lr) (xs := us) (fun i σ H' => ∃ o4 o5 o6, σ = [some (.ref ln), some (.int (place : Int)), some (.ref lr), some (.ref LL), o4, o5, o6] ∧ ah H H' ∧ H' LL = some (.lst (((oI zs place).map bG ++ di zs rs i).map tx)))
  ⟨none, none, none, rfl, sB, by rw [af]; unfold di; rw [List.range_zero, List.map_nil, List.append_nil]⟩ (fun i σ H' _ ⟨_, _, _, _, sm, _⟩ => ay.of (sm _ _ tX)) ?_ ?_⟩
 ·rintro i y σ H' t hi ⟨o4, o5, o6, rfl, sH, Ll⟩ ht
  obtain ⟨qL, ey⟩ := aE hi
  have SM : i < rs.length := by omega
  obtain ⟨tt, a, b, ZQ, L3, ha, hb⟩ := paired_at pr i SM qL
  rw [ey] at ZQ
  subst ZQ
  have ok := T.ok _ (List.getElem_mem SM)
  have Yi : rs.getD i ([], []) = rs[i] := by rw [Gd9, Ge9 SM]; rfl
  have Lm : di zs rs (i + 1) = di zs rs i ++ [uP zs i rs[i]] := by
   unfold di
   rw [List.range_succ, List.map_append, ← Yi]
   rfl
  generalize rs[i] = r at L3 ha hb ok Lm
  have st := aj ht (.tup [.int (i : Int), .ref tt])
  have sI := ah.trans sH st
  refine ⟨t, _, rfl, cP.of af, rfl, _, _, rfl, _, _, rfl, rfl, ?_⟩
  have Ye := KC (zs := zs) Yh
  have hX := cj (rO T.sm)
  refine ⟨_, rfl, by show 1 ≤ sizeLine; decide, fun p1 Qg => ⟨ln, p1, _, _, rfl, rfl, aj Qg _ _ _ (sI _ _ HN), af, by rw [Lm9, List.length_singleton]; exact sz (by omega), fun p2 IC => ⟨p2, _, 0, _, rfl, rfl, ay.of af, Ye, _, _, rfl, rfl, ?_, by show 1 ≤ sizeLine; decide, fun pp QP => ?_⟩⟩⟩
  ·rw [Ay, a0, a0]
   exact sz (by simp only [List.length_append, List.length_cons, List.length_nil]; have := (jN 1).2.2; omega)
  have e1 : (Str.ofString "keep " ++ S ((zs ++ [zz]).getD 0 [])) = S (aP (1, [(zs ++ [zz]).getD 0 []])) := m8 (ns := [(zs ++ [zz]).getD 0 []]) Ay
  rw [e1]
  have s3 := ah.trans (aj Qg (.lst [V.str (Str.ofString "zz")])) (ah.trans (aj IC (.lst (zs.map tx ++ [V.str (Str.ofString "zz")]))) (aj QP (.lst [V.str (S (aP (1, [(zs ++ [zz]).getD 0 []])))])))
  have n3 : upd H' t (.tup [.int (i : Int), .ref tt]) pp = none := (ah.trans (aj Qg (.lst [V.str (Str.ofString "zz")])) (aj IC (.lst (zs.map tx ++ [V.str (Str.ofString "zz")])))).free QP
  have h3 : ∀ H3, H3 = upd (upd (upd (upd H' t (.tup [.int (i : Int), .ref tt])) p1 (.lst [V.str (Str.ofString "zz")])) p2 (.lst (zs.map tx ++ [V.str (Str.ofString "zz")]))) pp (.lst [V.str (S (aP (1, [(zs ++ [zz]).getD 0 []])))]) → ah (upd H' t (.tup [.int (i : Int), .ref tt])) H3 ∧ H3 pp = some (.lst (([((1 : Nat), [(zs ++ [zz]).getD 0 []])].map aP).map tx)) := fun H3 e => by
   rw [e]
   exact ⟨s3, af⟩
  generalize hG : upd (upd (upd (upd H' t (.tup [.int (i : Int), .ref tt])) p1 (.lst [V.str (Str.ofString "zz")])) p2 (.lst (zs.map tx ++ [V.str (Str.ofString "zz")]))) pp (.lst [V.str (S (aP (1, [(zs ++ [zz]).getD 0 []])))]) = H3
  obtain ⟨s3, Nu⟩ := h3 H3 hG.symm
  have s4 := ah.trans st s3
  have s5 := ah.trans sH s4
  have Yj : H' pp = none := st.free n3
  have Yk : i < 8 := by omega
  obtain ⟨f1, f2⟩ := Xa Yk
  have hR := yt (i := i) T.sm ok
  have pOk := jr (i := i) T.sm ok
  obtain ⟨g1, g2, g3⟩ := KD pOk
  have lR : (di zs rs i).length = i := by unfold di; rw [Lm9, List.length_range]
  refine ⟨_, rfl, tt, _, 0, _, rfl, rfl, L3.same s5, rfl, a, _, rfl, .inl (ay.of (s5 _ _ ha)), _, _, rfl, rfl, _, rfl, ?_⟩
  by_cases c1 : r.1 = []
  ·refine cK (fun k => absurd (of_decide_eq_true k) (PR c1)) (fun k => ?_)
   refine ⟨_, rfl, tt, _, 0, _, rfl, rfl, L3.same s5, rfl, a, _, rfl, .inl (ay.of (s5 _ _ ha)), _, _, rfl, rfl, _, rfl, cK (fun k => absurd (of_decide_eq_true k) (PR c1)) (fun k => bw ?_)⟩
   refine ⟨_, rfl, tt, _, 0, _, rfl, rfl, L3.same s5, rfl, a, _, rfl, .inl (ay.of (s5 _ _ ha)), rfl, _, rfl, cK (fun k => ?_) (fun k => absurd (len0.trans (decide_eq_true c1)) k)⟩
   refine ⟨_, rfl, tt, _, 1, _, rfl, rfl, L3.same s5, rfl, b, _, rfl, .inl (ay.of (s5 _ _ hb)), _, _, rfl, rfl, _, rfl, br (H0 := H3) (fun H4 => ah H' H4 ∧ H4 pp = some (.lst (((aT zs i r).map aP).map tx))) (fun k next => ?_) (fun k => ?_) (fun H4 hc => ?_)⟩
   ·have k : r.2 ≠ [] := yu (of_decide_eq_true k)
    refine ⟨_, rfl, .inl ⟨rfl, _, ay.of Nu⟩, pp, _, _, rfl, rfl, Nu, f9 (by show 1 ≤ _; decide), next _ ⟨ah.aS s4 Yj _, ?_⟩⟩
    rw [af, Qj]
    unfold aT
    rw [if_pos c1, if_neg k]
    rfl
   ·have k : r.2 = [] := Classical.byContradiction fun z => k (decide_eq_true (M8 z))
    refine ⟨s4, ?_⟩
    unfold aT
    rw [if_pos c1, if_pos k]
    exact Nu
   ·obtain ⟨s6, Yg⟩ := hc
    have Tt : Txt.join (Str.ofString "; ") (((aT zs i r).map aP).map S) = S (b9 [59, 32] ((aT zs i r).map aP)) := by rw [Nw, tj]
    have Yl := Gq Yk (aT zs i r) CS f1 HP Tt
    have hLp : LL ≠ pp := fun e => by rw [← e, Ll] at Yj; cases Yj
    refine ⟨_, rfl, .inl ⟨rfl, _, ay.of (s6 _ _ Ll)⟩, _, rfl, _, rfl, f2, _, _, rfl, rfl, ?_, _, _, rfl, rfl, ?_, rfl, _, rfl, _, pp, ((aT zs i r).map aP).map S, rfl, rfl, .inl (ay.of (by rw [← uR]; exact Yg)), ?_, _, _, rfl, rfl, ?_, LL, _, _, rfl, rfl, s6 _ _ Ll, ?_, ?_⟩
    ·rw [CS, f1, a0, a0]
     exact sz (by simp only [List.length_append, List.length_cons, List.length_nil]; omega)
    ·rw [CS, f1, HP, gx, a0, a0]
     exact sz (by simp only [List.length_append, List.length_cons, List.length_nil]; omega)
    ·rw [Nw, a0]
     simp only [List.length_cons, List.length_nil]
     omega
    ·rw [CS, f1, HP, Tt, gx, gx, a0, a0]
     exact sz (by simp only [List.length_append, List.length_cons, List.length_nil]; omega)
    ·rw [Lm9, List.length_append, Lm9, lR]
     exact f9 (by omega)
    ·refine ⟨_, _, _, rfl, ah.aS (ah.trans sH s6) Tr _, ?_⟩
     rw [af, Yl, Lm, ← List.append_assoc, List.map_append (l₂ := [uP zs i r])]
     rfl
  ·refine cK (fun _ => ?_) (fun k => absurd (decide_eq_true (M8 c1)) k)
   obtain ⟨w1, w2, w3⟩ := N4 T.sm ok.m1 ok.l1
   refine ⟨rfl, _, rfl, tt, _, 0, _, rfl, rfl, L3.same s5, rfl, a, rfl, ⟨_, ay.of (s5 _ _ ha)⟩, fun D2 nV => ?_⟩
   refine bM (K := K) (xs := nI r.1) (nm zs r.1) (fun _ _ b y => y = tx b) (fun _ _ _ _ _ _ h => h) (fun _ _ _ _ _ _ h => h) (f9 (by rw [Lm9]; have := ok.l1; omega)) nV (ay.of (s5 _ _ ha)) (by unfold nm; rw [Lm9, Lm9]) (fun j y b H4 R hy hb sm hQ => ?_) (fun H4 ys s6 Tv Ym => ?_)
   ·obtain ⟨n, hn, rfl, rfl⟩ := KH hy hb
    have eO := ok.m1 n hn
    exact ⟨_, rfl, _, rfl, ln, _, _, _, rfl, rfl, ay.of (sm _ _ (s5 _ _ HN)), y9 (by omega) (by omega), hQ _ _ (ah.refl _) rfl⟩
   rw [dI Ym] at Tv
   have Tt : Txt.join (Str.ofString ", ") ((nm zs r.1).map S) = S (b9 [44, 32] (nm zs r.1)) := by rw [Nv, tj]
   refine ⟨_, D2, (nm zs r.1).map S, rfl, rfl, .inl (ay.of (by rw [← uR]; exact Tv)), ?_, _, _, rfl, rfl, ?_, by show 1 ≤ sizeLine; decide, fun qq ZR => ?_⟩
   ·rw [Nv, a0]
    simp only [List.length_cons, List.length_nil]
    omega
   ·rw [Lj, Tt, a0, a0]
    have := (jN 0).2.2
    exact sz (by simp only [List.length_append, List.length_cons, List.length_nil]; omega)
   have e_t : Str.ofString "take " ++ Txt.join (Str.ofString ", ") ((nm zs r.1).map S) = S (aP (0, nm zs r.1)) := by rw [Tt]; exact m8 Lj
   rw [e_t]
   have ZS : H' qq = none := (ah.trans s4 s6).free ZR
   have s7 := ah.trans (ah.trans s4 s6) (aj ZR (.lst [V.str (S (aP (0, nm zs r.1)))]))
   have h7 : upd H4 qq (.lst [V.str (S (aP (0, nm zs r.1)))]) qq = some (.lst (([((0 : Nat), nm zs r.1)].map aP).map tx)) := af
   generalize upd H4 qq (.lst [V.str (S (aP (0, nm zs r.1)))]) = H7 at s7 h7
   have h0 : 0 < zs.length := by
    obtain ⟨x, t, e⟩ := List.exists_cons_of_ne_nil c1
    exact Nat.lt_of_le_of_lt (Nat.zero_le _) (ok.m1 x (by rw [e]; simp))
   refine ⟨_, rfl, _, _, rfl, rfl, (by show (0 : Int) < 2; decide), rfl, _, rfl, br (H0 := H7) (fun H8 => ah H' H8 ∧ H8 qq = some (.lst (([((0 : Nat), nm zs r.1)] ++ (if i % 2 = 1 then [(1, [zs.getD (zs.length - 1) []])] else [])).map aP |>.map tx))) (fun k next => ?_) (fun k => ?_) (fun H8 hc => ?_)⟩
   ·have k : i % 2 = 1 := of_decide_eq_true (KG.symm.trans k)
    have s8 := ah.trans sH s7
    have hx := cj (uT T.sm h0)
    have P2 : rA (zs.map tx) ((((zs.map tx).length : Nat) : Int) - 1) = some (tx (zs.getD (zs.length - 1) [])) := by
     have z := y9 (zs := zs) (i := (((zs.map tx).length : Nat) : Int) - 1) (by rw [Lm9]; omega) (by rw [Lm9]; omega)
     rw [z, Lm9]
     congr 3
     omega
    refine ⟨_, rfl, .inl ⟨rfl, _, ay.of h7⟩, _, rfl, _, rfl, ln, _, rfl, .inl (ay.of (s8 _ _ HN)), _, _, rfl, rfl, ln, _, _, _, rfl, rfl, ay.of (s8 _ _ HN), P2, _, _, rfl, rfl, ?_, qq, _, _, rfl, rfl, h7, f9 (by show 1 ≤ _; decide), next _ ⟨ah.aS s7 ZS _, ?_⟩⟩
    ·rw [Ay, a0, a0]
     have := (jN 1).2.2
     exact sz (by simp only [List.length_append, List.length_cons, List.length_nil]; omega)
    ·have e_k : Str.ofString "keep " ++ S (zs.getD (zs.length - 1) []) = S (aP (1, [zs.getD (zs.length - 1) []])) := m8 (ns := [zs.getD (zs.length - 1) []]) Ay
     rw [af, if_pos k, e_k]
     rfl
   ·have k : ¬ i % 2 = 1 := fun z => k (KG.trans (decide_eq_true z))
    refine ⟨s7, ?_⟩
    rw [if_neg k, List.append_nil]
    exact h7
   obtain ⟨s8, h8⟩ := hc
   have s9 := ah.trans sH s8
   refine ⟨_, rfl, tt, _, 0, _, rfl, rfl, L3.same s9, rfl, a, _, rfl, .inl (ay.of (s9 _ _ ha)), _, _, rfl, rfl, _, rfl, cK (fun _ => ?_) (fun k => absurd (decide_eq_true (M8 c1)) k)⟩
   refine ⟨_, rfl, tt, _, 1, _, rfl, rfl, L3.same s9, rfl, b, _, rfl, .inl (ay.of (s9 _ _ hb)), _, _, rfl, rfl, _, rfl, br (H0 := H8) (fun H9 => ah H' H9 ∧ H9 qq = some (.lst (((aT zs i r).map aP).map tx))) (fun k next => ?_) (fun k => ?_) (fun H9 hc => ?_)⟩
   ·have k : r.2 ≠ [] := yu (of_decide_eq_true k)
    obtain ⟨y1, y2, y3⟩ := N4 T.sm ok.m2 ok.l2
    refine ⟨_, rfl, .inl ⟨rfl, _, ay.of h8⟩, rfl, _, rfl, tt, _, 1, _, rfl, rfl, L3.same s9, rfl, b, rfl, ⟨_, ay.of (s9 _ _ hb)⟩, fun D3 Qk => ?_⟩
    refine bM (K := K) (xs := nI r.2) (nm zs r.2) (fun _ _ b y => y = tx b) (fun _ _ _ _ _ _ h => h) (fun _ _ _ _ _ _ h => h) (f9 (by rw [Lm9]; have := ok.l2; omega)) Qk (ay.of (s9 _ _ hb)) (by unfold nm; rw [Lm9, Lm9]) (fun j y b H4 R hy hb sm hQ => ?_) (fun H10 ys Ql Tw Yn => ?_)
    ·obtain ⟨n, hn, rfl, rfl⟩ := KH hy hb
     have eO := ok.m2 n hn
     exact ⟨_, rfl, _, rfl, ln, _, _, _, rfl, rfl, ay.of (sm _ _ (s9 _ _ HN)), y9 (by omega) (by omega), hQ _ _ (ah.refl _) rfl⟩
    rw [dI Yn] at Tw
    have Tx : Txt.join (Str.ofString ", ") ((nm zs r.2).map S) = S (b9 [44, 32] (nm zs r.2)) := by rw [Nv, tj]
    refine ⟨_, D3, (nm zs r.2).map S, rfl, rfl, .inl (ay.of (by rw [← uR]; exact Tw)), ?_, _, _, rfl, rfl, ?_, qq, _, _, rfl, rfl, Ql _ _ h8, ?_, next _ ⟨ah.aS (ah.trans s8 Ql) ZS _, ?_⟩⟩
    ·rw [Nv, a0]
     simp only [List.length_cons, List.length_nil]
     omega
    ·rw [Og, Tx, a0, a0]
     have := (jN 3).2.2
     exact sz (by simp only [List.length_append, List.length_cons, List.length_nil]; omega)
    ·by_cases z : i % 2 = 1
     ·rw [if_pos z]; exact f9 (by show 2 ≤ _; decide)
     ·rw [if_neg z]; exact f9 (by show 1 ≤ _; decide)
    ·rw [af, Tx, m8 Og]
     unfold aT
     rw [if_neg c1, if_neg k, List.map_append (l₂ := [(3, nm zs r.2)]), List.map_append (l₂ := [(3, nm zs r.2)].map aP)]
     rfl
   ·have k : r.2 = [] := Classical.byContradiction fun z => k (decide_eq_true (M8 z))
    refine ⟨s8, ?_⟩
    unfold aT
    rw [if_neg c1, if_pos k, List.append_nil]
    exact h8
   obtain ⟨Ql, SF⟩ := hc
   have ZT := ah.trans sH Ql
   refine ⟨_, rfl, tt, _, 0, _, rfl, rfl, L3.same ZT, rfl, a, _, rfl, .inl (ay.of (ZT _ _ ha)), rfl, _, rfl, cK (fun k => absurd (of_decide_eq_true (len0.symm.trans k)) c1) (fun _ => bw ?_)⟩
   have Tz : Txt.join (Str.ofString "; ") (((aT zs i r).map aP).map S) = S (b9 [59, 32] ((aT zs i r).map aP)) := by rw [Nw, tj]
   have Yl := Gq Yk (aT zs i r) CS f1 HP Tz
   refine ⟨_, rfl, .inl ⟨rfl, _, ay.of (Ql _ _ Ll)⟩, _, rfl, _, rfl, f2, _, _, rfl, rfl, ?_, _, _, rfl, rfl, ?_, rfl, _, rfl, _, qq, ((aT zs i r).map aP).map S, rfl, rfl, .inl (ay.of (by rw [← uR]; exact SF)), ?_, _, _, rfl, rfl, ?_, LL, _, _, rfl, rfl, Ql _ _ Ll, ?_, ?_⟩
   ·rw [CS, f1, a0, a0]
    exact sz (by simp only [List.length_append, List.length_cons, List.length_nil]; omega)
   ·rw [CS, f1, HP, gx, a0, a0]
    exact sz (by simp only [List.length_append, List.length_cons, List.length_nil]; omega)
   ·rw [Nw, a0]
    simp only [List.length_cons, List.length_nil]
    omega
   ·rw [CS, f1, HP, Tz, gx, gx, a0, a0]
    exact sz (by simp only [List.length_append, List.length_cons, List.length_nil]; omega)
   ·rw [Lm9, List.length_append, Lm9, lR]
    exact f9 (by omega)
   ·refine ⟨_, _, _, rfl, ah.aS (ah.trans sH Ql) Tr _, ?_⟩
    rw [af, Yl, Lm, ← List.append_assoc, List.map_append (l₂ := [uP zs i r])]
    rfl
 ·rintro σ H' ⟨o4, o5, o6, rfl, sH, Ll⟩
  rw [← zr] at Ll
  have lR : (di zs rs rs.length).length = rs.length := by unfold di; rw [Lm9, List.length_range]
  have hle : ∀ x ∈ cx zs place rs, x.length ≤ 250 := CG T
  have MR : (cx zs place rs).length ≤ 14 := by
   unfold cx
   rw [List.length_append, Lm9, lR]
   omega
  have z := sS (as := cx zs place rs) (B := 250) hle
  refine ⟨rfl, _, rfl, _, LL, (cx zs place rs).map S, rfl, rfl, .inl (ay.of (by rw [← uR]; exact Ll)), ?_, ?_⟩
  ·rw [Tq, Lm9]
   show _ + _ * 1 ≤ _
   omega
  ·rw [Tq, MN, F6]
   exact q _ sH
end
end gf
namespace gf
open PySem L2 fZ Bk
set_option maxHeartbeats 4000000
section
variable {P : Program} {w : World} {K : PySem.W.Frag} {mg : Str → Option Value} {base : Heap} {f : Addr} {fd : FuncData} {c : Cl}
theorem fV : ar ["_law_names", "_law_rules", "_law_table", "_law_rule"] ["_law_names", "_law_rules"] (ao gH) := ⟨rfl, rfl, rfl, by decide +kernel, rfl, by decide +kernel, by decide +kernel⟩
theorem sj (F : bu K "_law_effects" "_law_effects" gH f fd) (aW : mg "len" = none) (cw : mg "range" = none) : aX P w K mg base cO 1 f fd ["_law_names", "_law_rules"] (KR K) := by
 refine F.ok fV (fun vs H Q E h => ?_) (fun cu A outer s H vs Q E hr h => ?_)
 ·obtain ⟨ln, lr, zs, rs, us, rfl, _⟩ := h
  rfl
 obtain ⟨ln, lr, zs, rs, us, rfl, hn, hl, pr, hz, ZU, h4, q⟩ := h
 refine ⟨_, (ab (aw (i := 2) fV.nd rfl (Or.inl rfl) (bo ae))
 (ab (bj PassesOwn.never rfl (aJ (pv 1)) (aK (i := 3) fV.nd rfl (Or.inr rfl))
 (ag (aV (au dG (aF av rfl aW PySem.boot_len (aa (az a8 (pv 3) ai (fun _ _ => rfl)) ae)) ai (aH _))
 (ag (a6 (bY PySem.F.plainAttrs_list PySem.F.slot_list_append PySem.F.type_list_append aZ (pv 2) (aa (aL Ji (bo (aa ai ae)) (aF av rfl aW PySem.boot_len (aa (pv 0) ae))) ae))))
 (ag (a6 (bY PySem.F.plainAttrs_list PySem.F.slot_list_append PySem.F.type_list_append aZ (pv 2) (aa (bX [3] rfl (by kernel_rfl) (c6 rfl cw (aa (aF av rfl aW PySem.boot_len (aa (pv 0) ae)) ae)) (fun _ _ _ _ _ => bH) (fun _ _ _ _ _ => (aL ir (id (α := PE _ _ (Wl K "list" (Ej K) _ _)) (bY PySem.F.plainAttrs_list PySem.F.slot_list_count PySem.F.type_list_count Cm (az (r := rT K) a8 (pv 1) ai (fun _ _ => rfl)) (aa (pv 0) ae))) (id (α := PE _ _ (Wl K "list" (Ej K) _ _)) (bY PySem.F.plainAttrs_list PySem.F.slot_list_count PySem.F.type_list_count Cm (az (r := rT K) a8 (pv 1) ai (fun _ _ => rfl)) (aa (pv 0) ae)))))) ae)))))))
 (ag (ax (pv 2))))), ?_⟩
 refine ⟨(by show 0 ≤ sizeLine; decide), fun D hD => ?_⟩
 have zu := Paired.length pr
 have sD := aj hD (.lst [])
 refine ⟨_, rfl, lr, rfl, ⟨_, ay.of (sD _ _ hl)⟩, ba (K := K) (a := lr) (xs := us) (fun i σ H' => ∃ (o : Option V) (vs : List V), σ = [some (.ref ln), some (.ref lr), some (.ref D), o] ∧ ah H H' ∧ H' D = some (.lst vs) ∧ Paired (lI H H') ((rs.take i).map (nv zs.length)) vs ∧ ∀ v ∈ vs, v ≠ .ref D)
  ⟨none, [], rfl, sD, af, by rw [List.take_zero]; exact .nil, fun _ h => nomatch h⟩ (fun i σ H' _ ⟨_, _, _, sm, _⟩ => ay.of (sm _ _ hl)) ?_ ?_⟩
 ·rintro i y σ H' hi ⟨o, vs, rfl, sm, iw, po, ap⟩
  obtain ⟨qL, ey⟩ := aE hi
  have Gz : i < rs.length := by omega
  have hR := (paired_at pr i Gz qL).same sm
  rw [ey] at hR
  have h4i := h4 _ (List.getElem_mem Gz)
  have ts : rs.take (i + 1) = rs.take i ++ [rs[i]] := by rw [List.take_succ, Ge9 Gz]; rfl
  generalize rs[i] = r at hR h4i ts
  obtain ⟨t, a, b, rfl, ht, ha, hb⟩ := hR
  have zo := Paired.length po
  rw [Lm9, List.length_take] at zo
  have step : ∀ (H2 : Hp) (p : Addr) (o : Option V), ah H' H2 → H' p = none → H2 p = some (.lst ((nv zs.length r).map V.int)) → ∃ (o' : Option V) (Yo : List V), [some (V.ref ln), some (.ref lr), some (.ref D), o] = [some (.ref ln), some (.ref lr), some (.ref D), o'] ∧ ah H (upd H2 D (.lst (vs ++ [.ref p]))) ∧ (upd H2 D (.lst (vs ++ [.ref p]))) D = some (.lst Yo) ∧ Paired (lI H (upd H2 D (.lst (vs ++ [.ref p])))) ((rs.take (i + 1)).map (nv zs.length)) Yo ∧ ∀ v ∈ Yo, v ≠ .ref D := by
   intro H2 p o s2 Yp hp
   have pD : p ≠ D := fun z => by rw [z, iw] at Yp; cases Yp
   refine ⟨o, _, rfl, ah.aS (ah.trans sm s2) hD _, af, ?_, fun v hv => ?_⟩
   ·rw [ts, List.map_append]
    refine Paired.snoc ?_ ⟨p, rfl, sm.free Yp, by rw [aq pD]; exact hp⟩
    refine lu po fun row v hv hI => ?_
    obtain ⟨a1, rfl, n1, h1⟩ := hI
    exact ⟨a1, rfl, n1, by rw [aq fun z => ap _ hv (by rw [z])]; exact s2 _ _ h1⟩
   ·rcases List.mem_append.mp hv with hv | hv
    ·exact ap v hv
    ·rw [List.mem_singleton.mp hv]
     exact fun z => pD (V.ref.inj z)
  refine ⟨_, rfl, t, _, 0, _, rfl, rfl, ht, rfl, a, _, rfl, .inl (ay.of ha), rfl, _, rfl, ?_⟩
  refine cK (fun k => ?_) (fun k => ?_)
  ·have e1 : r.1 = [] := of_decide_eq_true (len0.symm.trans k)
   refine ⟨_, rfl, .inl ⟨rfl, _, ay.of iw⟩, (by show 1 ≤ sizeLine; decide), fun p hp => ?_⟩
   have sp := aj hp (.lst [V.int 0])
   refine ⟨_, rfl, ln, _, rfl, .inl (ay.of (sp _ _ (sm _ _ hn))), p, _, _, rfl, rfl, af, by rw [Lm9]; omega, by rw [Lm9]; omega, ?_, fun p2 IC => ?_⟩
   ·rw [Lm9]
    exact sz (by show 1 * _ ≤ _; omega)
   ·have Of := aj IC (.lst (List.replicate ((((zs.map tx).length : Nat) : Int)).toNat [V.int 0]).flatten)
    refine ⟨D, _, _, rfl, rfl, Of _ _ (sp _ _ iw), f9 (by omega), step _ p2 _ (ah.trans sp Of) (sp.free IC) ?_⟩
    rw [af, CI, Lm9]
    unfold nv
    rw [if_pos e1]
    rfl
  ·have e1 : ¬ r.1 = [] := fun z => k (len0.trans (decide_eq_true z))
   refine ⟨_, rfl, .inl ⟨rfl, _, ay.of iw⟩, _, rfl, ln, _, rfl, .inl (ay.of (sm _ _ hn)), ?_⟩
   refine ⟨_, rfl, by rw [Lm9]; omega, by rw [Lm9]; omega, fun D2 nV => ?_⟩
   have en : ((((zs.map tx).length : Nat) : Int)).toNat = zs.length := by rw [Lm9]; omega
   rw [en]
   refine jH (lo := 0) (n := zs.length) (f9 (by omega)) (fun i ys H2 => ah H' H2 ∧ H2 D2 = some (.lst ys) ∧ ys = ((List.range i).map fun k => (r.2.count k : Int) - (r.1.count k : Int)).map V.int) ⟨aj nV _, af, rfl⟩ (fun i ys H2 p => ⟨p.2.1, by rw [p.2.2]; simp⟩) (fun k ys H2 hk p => ?_) (fun ys H2 p => ?_)
   ·obtain ⟨s2, Qk, rfl⟩ := p
    have e0 : (0 : Int) + (k : Int) = (k : Int) := by omega
    rw [e0]
    refine ⟨_, rfl, t, _, 1, _, rfl, rfl, ht.same s2, rfl, .inl ⟨rfl, _, ay.of (s2 _ _ hb)⟩, _, rfl, b, _, _, rfl, rfl, ay.of (s2 _ _ hb), rfl, Gv _, _, rfl, t, _, 0, _, rfl, rfl, ht.same s2, rfl, .inl ⟨rfl, _, ay.of (s2 _ _ ha)⟩, _, rfl, a, _, _, rfl, rfl, ay.of (s2 _ _ ha), rfl, Gv _, _, _, rfl, rfl, ?_⟩
    rw [CJ, CJ]
    refine ⟨Qk, ah.aS s2 nV _, af, ?_⟩
    rw [List.range_succ, List.map_append, List.map_append]
    rfl
   ·obtain ⟨s2, Qk, rfl⟩ := p
    refine ⟨D, _, _, rfl, rfl, s2 _ _ iw, f9 (by omega), step _ D2 _ s2 nV ?_⟩
    rw [Qk]
    unfold nv
    rw [if_neg e1]
 ·rintro σ H' ⟨o, vs, rfl, sm, iw, po, ap⟩
  rw [← zu, List.take_length] at po
  exact ⟨_, rfl, q _ _ sm ⟨D, vs, rfl, hD, iw, po⟩⟩
end
end gf
namespace gf
open PySem L2 fZ Bk
set_option maxHeartbeats 4000000
section
variable {P : Program} {w : World} {K : PySem.W.Frag} {mg : Str → Option Value} {base : Heap} {f : Addr} {fd : FuncData} {c : Cl}
theorem gO : ar ["row", "place", "number"] ["row"] (ao iC) := ⟨rfl, rfl, rfl, by decide +kernel, rfl, by decide +kernel, by decide +kernel⟩
theorem vm (F : bu K "first_place" "first_place" iC f fd) (fD : mg "enumerate" = none) : aX P w K mg base cO 1 f fd ["row"] EF := by
 refine F.ok gO (fun vs H Q E h => ?_) (fun cu A outer s H vs Q E hr h => ?_)
 ·obtain ⟨a, r, rfl, _⟩ := h
  rfl
 obtain ⟨a, r, rfl, ha, hl, q⟩ := h
 refine ⟨_, (ab (bj PassesOwn.never rfl (zi (pv 0) rfl fD PyProof.Rows.boot_enumerate) (tF rfl (cQ (aK (i := 1) gO.nd rfl (Or.inl rfl)) (cQ (aK (i := 2) gO.nd rfl (Or.inl rfl)) oM)))
 (ag (aV (au dH (pv 2) ai (aH _))
 (ag (ax (pv 1)))
 aA)))
 (ag (ax IM))), ?_⟩
 refine ⟨_, rfl, a, rfl, ⟨_, ay.of ha⟩, uz (K := K) (a := a) (xs := r.map V.int) (fun i σ H' => ∃ o1 o2, σ = [some (.ref a), o1, o2] ∧ ah H H' ∧ ∀ j, j < i → r.getD j 0 = 0)
  ⟨none, none, rfl, ah.refl _, fun j hj => absurd hj (by omega)⟩ (fun i σ H' _ ⟨_, _, _, sm, _⟩ => ay.of (sm _ _ ha)) ?_ ?_⟩
 ·rintro i y σ H' t hi ⟨o1, o2, rfl, sm, hz⟩ ht
  obtain ⟨sU, ey⟩ := aE hi
  rw [Lm9] at sU
  rw [List.getElem_map] at ey
  subst ey
  have st := aj ht (.tup [.int (i : Int), .int r[i]])
  have eg : r.getD i 0 = r[i] := by rw [Gd9, Ge9 sU]; rfl
  refine ⟨t, _, rfl, cP.of af, rfl, _, _, rfl, _, _, rfl, rfl, ?_⟩
  refine ⟨_, rfl, rfl, _, rfl, cK (fun k => ?_) (fun k => ?_)⟩
  ·have ni : r.getD i 0 ≠ 0 := fun z => by
    rw [eg] at z
    rw [z] at k
    cases k
   have e : La.fp r = i := La.Gg hz ni
   refine ⟨_, rfl, ?_⟩
   have y := q _ (ah.trans sm st)
   unfold ED at y
   rw [e, if_pos sU] at y
   exact y
  ·have he : r.getD i 0 = 0 := by
    rw [eg]
    by_cases z : r[i] = 0
    ·exact z
    ·exact absurd (by rw [decide_eq_false fun y => z (V.int.inj y)]; rfl) k
   exact ⟨_, _, rfl, ah.trans sm st, fun j hj => by
    by_cases z : j = i
    ·rw [z]; exact he
    ·exact hz j (by omega)⟩
 ·rintro σ H' ⟨o1, o2, rfl, sm, hz⟩
  rw [Lm9] at hz
  have y := q _ sm
  unfold ED at y
  rw [La.sY fun i => by
   by_cases z : i < r.length
   ·exact hz i z
   ·rw [Gd9, List.getElem?_eq_none (by omega)]; rfl, if_neg (Nat.lt_irrefl _)] at y
  exact y
theorem dE : ar ["row", "found", "number", "rest", "later"] ["row"] (ao qy) := ⟨rfl, rfl, rfl, by decide +kernel, rfl, by decide +kernel, by decide +kernel⟩
theorem EY (F : bu K "divisor" "divisor" qy f fd) (Ln : mg "abs" = none) : aX P w K mg base cO 1 f fd ["row"] yw := by
 refine F.ok dE (fun vs H Q E h => ?_) (fun cu A outer s H vs Q E hr h => ?_)
 ·obtain ⟨a, r, rfl, _⟩ := h
  rfl
 obtain ⟨a, r, rfl, ha, q⟩ := h
 refine ⟨_, (ab (aw (i := 1) dE.nd rfl (Or.inl rfl) ai)
 (ab (bj PassesOwn.never rfl (aJ (pv 0)) (aK (i := 2) dE.nd rfl (Or.inl rfl))
 (ab (aw (i := 3) dE.nd rfl (Or.inl rfl) (aF BP rfl Ln PyProof.Rows.boot_abs (aa (pv 2) ae)))
 (ag (gr PassesOwn.never (au dH (pv 3) ai (aH _))
 (ab (aw (i := 4) dE.nd rfl (Or.inl rfl) (aL gu (pv 1) (pv 3)))
 (ab (aw (i := 1) dE.nd rfl (Or.inl rfl) (pv 3))
 (ag (aw (i := 3) dE.nd rfl (Or.inl rfl) (pv 4)))))))))
 (ag (ax (pv 1))))), ?_⟩
 refine ⟨_, rfl, a, rfl, ⟨_, ay.of ha⟩, ba (K := K) (a := a) (xs := r.map V.int) (fun i σ H' => H' = H ∧ ∃ o2 o3 o4, σ = [some (.ref a), some (.int (((r.take i).foldl (fun f n => Nat.gcd f n.natAbs) 0 : Nat) : Int)), o2, o3, o4])
  ⟨rfl, none, none, none, rfl⟩ (fun i σ H' _ ⟨e, _⟩ => by rw [e]; exact ay.of ha) ?_ ?_⟩
 ·rintro i y σ H' hi ⟨rfl, o2, o3, o4, rfl⟩
  obtain ⟨sU, ey⟩ := aE hi
  rw [Lm9] at sU
  rw [List.getElem_map] at ey
  subst ey
  have ts : (r.take (i + 1)).foldl (fun f n => Nat.gcd f n.natAbs) 0 = Nat.gcd ((r.take i).foldl (fun f n => Nat.gcd f n.natAbs) 0) r[i].natAbs := by
   rw [List.take_succ, Ge9 sU]
   show (r.take i ++ [r[i]]).foldl _ 0 = _
   rw [List.foldl_append]
   rfl
  generalize (r.take i).foldl (fun f n => Nat.gcd f n.natAbs) 0 = g at ts
  have ea : (if r[i] < 0 then -r[i] else r[i]) = ((r[i].natAbs : Nat) : Int) := by split <;> omega
  refine ⟨_, rfl, _, rfl, ?_⟩
  rw [ea]
  refine tH (fun σ H2 => H2 = H' ∧ ∃ (a1 b1 : Nat) (o4 : Option V), σ = [some (.ref a), some (.int (a1 : Int)), some (.int r[i]), some (.int (b1 : Int)), o4] ∧ Nat.gcd a1 b1 = Nat.gcd g r[i].natAbs) (fun (σ : St) _ => match σ[3]? with | some (some (V.int b)) => b.toNat | _ => 0) ⟨rfl, g, r[i].natAbs, o4, rfl, rfl⟩ ?_ ?_
  ·rintro σ H2 ⟨rfl, a1, b1, o4, rfl, eg⟩
   refine ⟨_, rfl, rfl, _, rfl, cK (fun k => ?_) (fun k => ?_)⟩
   ·have hb : b1 ≠ 0 := fun z => by
     rw [z] at k
     cases k
    have hp : (0 : Int) < (b1 : Int) := by omega
    refine ⟨_, rfl, _, rfl, _, _, rfl, rfl, hp, _, rfl, _, rfl, ⟨rfl, b1, a1 % b1, _, rfl, ?_⟩, ?_⟩
    ·rw [← eg, Nat.gcd_comm b1, ← Nat.gcd_rec, Nat.gcd_comm]
    ·show ((a1 : Int) % (b1 : Int)).toNat < (b1 : Int).toNat
     have := Nat.mod_lt a1 (Nat.pos_of_ne_zero hb)
     omega
   ·have hb : b1 = 0 := by
     by_cases z : b1 = 0
     ·exact z
     ·exact absurd (by rw [decide_eq_false fun y => z (by have := V.int.inj y; omega)]; rfl) k
    refine ⟨rfl, some (.int r[i]), some (.int (b1 : Int)), o4, ?_⟩
    rw [ts, ← eg, hb, Nat.gcd_zero_right]
  ·rintro σ H2 Q1 Q2 hm ⟨x, e1, h1, b, e2, h2⟩
   exact ⟨x, e1, h1, b, e2, hm _ _ h2⟩
 ·rintro σ H' ⟨rfl, o2, o3, o4, rfl⟩
  rw [Lm9, List.take_length]
  exact ⟨_, rfl, q⟩
end
end gf
namespace gf
open PySem L2 fZ Bk
set_option maxHeartbeats 4000000
section
variable {P : Program} {w : World} {K : PySem.W.Frag} {mg : Str → Option Value} {base : Heap} {f : Addr} {fd : FuncData} {c : Cl}
theorem vo : ar ["row", "common"] ["row"] (ao qz) := ⟨rfl, rfl, rfl, by decide +kernel, rfl, by decide +kernel, by decide +kernel⟩
theorem EZ (F : bu K "slimmed" "slimmed" qz f fd) (qQ : bb P w K mg base "divisor" 1 ["row"] yw) (j4 : mg "list" = none) : aX P w K mg base cO 2 f fd ["row"] zN := by
 refine F.ok vo (fun vs H Q E h => ?_) (fun cu A outer s H vs Q E hr h => ?_)
 ·obtain ⟨a, r, B, rfl, _⟩ := h
  rfl
 obtain ⟨a, r, B, rfl, ha, hb, hB, hl, q⟩ := h
 refine ⟨_, (ab (aw (i := 1) vo.nd rfl (Or.inr rfl) (ak qQ (hr.mono (by decide)) rfl (aa (pv 0) ae)))
 (ab (aV (au dG (pv 1) ai (aH _))
 (ag (ax (gm yO rfl j4 PyProof.Rows.Boot.«list» (aa (pv 0) ae))))
 aA)
 (ag (ax (bX [1] rfl (by kernel_rfl) (aJ (pv 0)) (fun _ _ _ _ _ => bH) (fun _ _ _ _ _ => (aL Cq (pv 0) (pv 1)))))))), ?_⟩
 refine ⟨_, rfl, a, r, rfl, ha, _, rfl, rfl, _, rfl, cK (fun k => ?_) (fun k => ?_)⟩
 ·have e : La.eR r = 0 := by
   have := V.int.inj (of_decide_eq_true k)
   omega
  refine ⟨_, rfl, a, _, rfl, .inl (ay.of ha), fun l hl => q l _ (aj hl _) hl ?_⟩
  rw [af]
  unfold La.slim
  rw [if_pos e]
 ·have e : ¬ La.eR r = 0 := fun z => k (decide_eq_true (by rw [z]; rfl))
  have hg := La.PD hb
  refine ⟨_, rfl, a, rfl, ⟨_, ay.of ha⟩, fun D hD => ?_⟩
  refine bM (K := K) (xs := r.map V.int) (r.map fun (n : Int) => n / ((La.eR r : Nat) : Int)) (fun _ _ b y => y = V.int b) (fun _ _ _ _ _ _ h => h) (fun _ _ _ _ _ _ h => h) (f9 (by rw [Lm9]; omega)) hD (ay.of ha) (by rw [Lm9, Lm9]) (fun i x b H2 R hx F7 s2 hQ => ?_) (fun H2 zs s2 hL po => ?_)
  ·obtain ⟨hi, ex⟩ := aE hx
   obtain ⟨eQ, eb⟩ := aE F7
   rw [List.getElem_map] at ex eb
   subst ex
   exact ⟨_, rfl, _, rfl, _, _, rfl, rfl, ⟨by omega, .inr (lg hg (by omega) (by decide))⟩, hQ _ _ (ah.refl _) (by rw [← eb])⟩
  ·rw [paired_ints po] at hL
   refine q D _ s2 hD ?_
   unfold La.slim
   rw [hL, if_neg e]
theorem Lo : ar ["times", "row", "other_times", "other"] ["times", "row", "other_times", "other"] (ao zT) := ⟨rfl, rfl, rfl, by decide +kernel, rfl, by decide +kernel, by decide +kernel⟩
theorem Lp (F : bu K "mixed" "mixed" zT f fd) (TB : mg "zip" = none) : aX P w K mg base cO 1 f fd ["times", "row", "other_times", "other"] zO := by
 refine F.ok Lo (fun vs H Q E h => ?_) (fun cu A outer s H vs Q E hr h => ?_)
 ·obtain ⟨a, b, u, v, x, y, B, rfl, _⟩ := h
  rfl
 obtain ⟨a, b, u, v, x, y, B, rfl, hu, hv, hl, hz, ha, hb, bx, byy, hB, q⟩ := h
 refine ⟨_, (ag (ax (Kb ["one", "two"] [0, 2] rfl (by kernel_rfl) (Pq (pv 1) (pv 3) rfl TB PyProof.Rows.boot_zip rfl rfl) (fun _ _ _ _ _ => (id (α := PG _ _ (Q9 K 2 (IU (tE 0) (IU (tE 1) Q8)))) (tF rfl (cQ (aK (i := 0) (by exact (show (["one", "two", "times", "other_times"] : List Str).Nodup by decide +kernel)) rfl (Or.inl rfl)) (cQ (aK (i := 1) (by exact (show (["one", "two", "times", "other_times"] : List Str).Nodup by decide +kernel)) rfl (Or.inl rfl)) oM))))) (fun _ _ _ _ _ => bH) (fun _ _ _ _ _ => (aL fQ (aL sX (pv 2) (pv 0)) (aL sX (pv 3) (pv 1))))))), ?_⟩
 refine ⟨_, rfl, _, rfl, u, v, rfl, rfl, ⟨_, ay.of hu⟩, ⟨_, ay.of hv⟩, fun D hD => ?_⟩
 refine KS (K := K) (xs := x.map V.int) (ys := y.map V.int) x.length (by rw [Lm9]) (by rw [Lm9, hl]) (f9 (by omega)) (fun i zs τ H' => ∃ o0 o1, τ = [o0, o1, some (.int a), some (.int b)] ∧ ah H H' ∧ H' D = some (.lst zs) ∧ zs = (La.jl a (x.take i) b (y.take i)).map V.int)
  ⟨none, none, rfl, aj hD _, af, by rw [List.take_zero]; rfl⟩ (fun i zs τ H' ⟨_, _, _, sm, _⟩ => ⟨ay.of (sm _ _ hu), ay.of (sm _ _ hv)⟩) (fun i zs τ H' ⟨_, _, _, _, h, e⟩ => ⟨h, ?_⟩) (fun i zs τ H' t v1 u1 hi p ZV ZW ht => ?_) (fun zs τ H' p => ?_)
 ·unfold La.jl at e
  rw [e, Lm9, Lm9, List.length_zip, List.length_take]
  omega
 ·obtain ⟨o0, o1, rfl, sm, iw, rfl⟩ := p
  have NR : i < y.length := by omega
  rw [List.getElem?_map, Ge9 hi] at ZV
  rw [List.getElem?_map, Ge9 NR] at ZW
  obtain rfl : V.int x[i] = v1 := Option.some.inj ZV
  obtain rfl : V.int y[i] = u1 := Option.some.inj ZW
  have st := aj ht (.tup [V.int x[i], V.int y[i]])
  refine ⟨t, _, rfl, cP.of af, rfl, _, _, rfl, _, _, rfl, rfl, ?_⟩
  refine ⟨_, rfl, _, rfl, _, _, rfl, rfl, ⟨lg ha (by omega) (by decide), lg (bx _ (List.getElem_mem hi)) (by omega) (by decide)⟩, _, rfl, _, rfl, _, _, rfl, rfl, ⟨lg hb (by omega) (by decide), lg (byy _ (List.getElem_mem NR)) (by omega) (by decide)⟩, _, _, rfl, rfl, st _ _ iw, _, _, rfl, ah.aS (ah.trans sm st) hD _, af, ?_⟩
  unfold La.jl
  rw [List.take_succ, List.take_succ, Ge9 hi, Ge9 NR, List.zip_append (by rw [List.length_take, List.length_take]; omega), List.map_append, List.map_append]
  rfl
 ·obtain ⟨o0, o1, rfl, sm, iw, rfl⟩ := p
  rw [List.take_length, hl, List.take_length] at iw
  exact q D _ sm hD iw
theorem E4 : ar ["row", "other", "place"] ["row", "other", "place"] (ao qA) := ⟨rfl, rfl, rfl, by decide +kernel, rfl, by decide +kernel, by decide +kernel⟩
theorem E5 (F : bu K "cleared" "cleared" qA f fd) (gq : bb P w K mg base "slimmed" 2 ["row"] zN) (Az : bb P w K mg base "mixed" 1 ["times", "row", "other_times", "other"] zO) : aX P w K mg base cO 3 f fd ["row", "other", "place"] KY := by
 refine F.ok E4 (fun vs H Q E h => ?_) (fun cu A outer s H vs Q E hr h => ?_)
 ·obtain ⟨u, v, row, lead, p, B, rfl, _⟩ := h
  rfl
 obtain ⟨u, v, row, lead, p, B, rfl, hu, hv, hl, hp, hz, br, bl, hB, q⟩ := h
 refine ⟨_, (ag (ax (ak gq (hr.mono (by decide)) rfl (aa (ak Az (hr.mono (by decide)) rfl (aa (az aB (pv 1) (pv 2) (fun _ _ => rfl)) (aa (pv 0) (aa (aL ir ai (az aB (pv 0) (pv 2) (fun _ _ => rfl))) (aa (pv 1) ae))))) ae)))), ?_⟩
 have gd : ∀ (r : List Int), p < r.length → rA (r.map V.int) (p : Int) = some (V.int (r.getD p 0)) := fun r h => bN (by rw [List.getElem?_map, Ge9 h, Gd9, Ge9 h]; rfl)
 refine ⟨_, rfl, _, rfl, v, _, _, _, rfl, rfl, ay.of hv, gd lead (by omega), _, rfl, _, rfl, _, rfl, u, _, _, _, rfl, rfl, ay.of hu, gd row hp, _, _, rfl, rfl, _, rfl, _, _, u, v, row, lead, B, rfl, hu, hv, hl, hz, bl.at p, La.uI (br.at p), br, bl, by omega, fun p1 H1 s1 n1 h1 => ?_⟩
 refine ⟨p1, _, 2 * B + 1, rfl, h1, La.Km (bl.at p) (La.uI (br.at p)) br bl, by omega, ?_, fun p2 H2 s2 n2 h2 => q p2 H2 (ah.trans s1 s2) (s1.free n2) h2⟩
 rw [La.a7 rfl hl.symm]
 exact hz
theorem ox : ar ["rows"] ["rows"] (ao dU) := ⟨rfl, rfl, rfl, by decide +kernel, rfl, by decide +kernel, by decide +kernel⟩
theorem oy (F : bu K "without_noughts" "without_noughts" dU f fd) (aO : bb P w K mg base "first_place" 1 ["row"] EF) : aX P w K mg base cO 3 f fd ["rows"] PZ := by
 refine F.ok ox (fun vs H Q E h => ?_) (fun cu A outer s H vs Q E hr h => ?_)
 ·obtain ⟨l, us, rows, rfl, _⟩ := h
  rfl
 obtain ⟨l, us, rows, rfl, hl, pr, hz, P1, q⟩ := h
 refine ⟨_, (ag (ax (bX [] rfl (by kernel_rfl) (aJ (pv 0)) (fun _ _ _ _ _ => (jF (au Mc (ak aO (hr.mono (by decide)) rfl (aa (pv 0) ae)) IM (aH _)))) (fun _ _ _ _ _ => (pv 0))))), ?_⟩
 have zu := Paired.length pr
 refine ⟨_, rfl, l, rfl, ⟨_, ay.of hl⟩, fun D hD => ?_⟩
 refine jk (K := K) (xs := us) rows (fun r => decide (La.fp r < r.length)) (fun r => r) (fun _ _ b y => qx H b y ∧ y ∈ us) (fun _ _ _ _ _ _ h => h) (fun _ _ _ _ _ _ h => h) (f9 (by omega)) hD (ay.of hl) zu (fun i x b H' R hx hb sm hQ => ?_) (fun i x b H' R hx hb hk sm hQ => ?_) (fun H1 ys s1 hL po => ?_)
 ·obtain ⟨hi, ex⟩ := aE hx
  obtain ⟨eQ, eb⟩ := aE hb
  have hR := paired_at pr i eQ hi
  have ZX := P1 _ (List.getElem_mem eQ)
  rw [ex, eb] at hR
  rw [eb] at ZX
  obtain ⟨a, rfl, ha⟩ := hR
  refine ⟨_, rfl, a, b, rfl, sm _ _ ha, ZX, fun H2 s2 => ⟨rfl, _, rfl, ?_⟩⟩
  have z := hQ H2 s2
  have e : (!decide (ED b = V.cJ)) = decide (La.fp b < b.length) := by
   unfold ED
   by_cases h : La.fp b < b.length
   ·rw [if_pos h, decide_eq_true h]; rfl
   ·rw [if_neg h, decide_eq_false h]; rfl
  rw [e]
  exact z
 ·obtain ⟨hi, ex⟩ := aE hx
  obtain ⟨eQ, eb⟩ := aE hb
  have hR := paired_at pr i eQ hi
  rw [ex, eb] at hR
  exact ⟨_, rfl, hQ _ _ (ah.refl _) ⟨hR, List.mem_of_getElem? hx⟩⟩
 ·rw [List.map_id'] at po
  exact q D ys H1 s1 hD hL (fun w hw => by
   obtain ⟨_, _, h⟩ := eU po hw
   exact h.2) (L2.Paired.bQ po fun _ _ h => h.1.same s1)
theorem kU : ar ["row"] ["row"] (ao gD) := ⟨rfl, rfl, rfl, by decide +kernel, rfl, by decide +kernel, by decide +kernel⟩
theorem sk (F : bu K "above_nought" "above_nought" gD f fd) (aO : bb P w K mg base "first_place" 1 ["row"] EF) (gq : bb P w K mg base "slimmed" 2 ["row"] zN) : aX P w K mg base cO 3 f fd ["row"] zP := by
 refine F.ok kU (fun vs H Q E h => ?_) (fun cu A outer s H vs Q E hr h => ?_)
 ·obtain ⟨a, r, B, rfl, _⟩ := h
  rfl
 obtain ⟨a, r, B, rfl, ha, hb, hB, hl, hf, q⟩ := h
 refine ⟨_, (ab (aV (au tI (az aB (pv 0) (ak aO (hr.mono (by decide)) rfl (aa (pv 0) ae)) (fun _ _ => rfl)) ai (aH _))
 (ag (ig (i := 0) [] kU.nd rfl (Or.inl rfl) rfl (by kernel_rfl) (aJ (pv 0)) (fun _ _ _ _ _ => bH) (fun _ _ _ _ _ => (aL ir ai (pv 0)))))
 aA)
 (ag (ax (ak gq (hr.mono (by decide)) rfl (aa (pv 0) ae))))), ?_⟩
 have Qm : ED r = V.int ((La.fp r : Nat) : Int) := by unfold ED; rw [if_pos hf]
 have gd : rA (r.map V.int) ((La.fp r : Nat) : Int) = some (V.int (r.getD (La.fp r) 0)) := bN (by rw [List.getElem?_map, Ge9 hf, Gd9, Ge9 hf]; rfl)
 unfold La.above at q
 refine ⟨_, rfl, _, rfl, a, r, rfl, ha, hl, fun H1 s1 => ?_⟩
 rw [Qm]
 refine ⟨a, _, _, _, rfl, rfl, ay.of (s1 _ _ ha), gd, _, _, rfl, rfl, _, rfl, cK (fun k => ?_) (fun k => ?_)⟩
 ·have k : r.getD (La.fp r) 0 < 0 := of_decide_eq_true k
  rw [if_pos k] at q
  refine ⟨_, rfl, a, rfl, ⟨_, ay.of (s1 _ _ ha)⟩, fun D hD => ?_⟩
  refine bM (K := K) (xs := r.map V.int) (r.map fun n => 0 - n) (fun _ _ b y => y = V.int b) (fun _ _ _ _ _ _ h => h) (fun _ _ _ _ _ _ h => h) (f9 (by rw [Lm9]; omega)) hD (ay.of (s1 _ _ ha)) (by rw [Lm9, Lm9]) (fun i x b H2 R hx F7 s2 hQ => ?_) (fun H2 zs s2 hL po => ?_)
  ·obtain ⟨hi, ex⟩ := aE hx
   obtain ⟨eQ, eb⟩ := aE F7
   rw [List.getElem_map] at ex eb
   subst ex
   exact ⟨_, rfl, _, _, rfl, rfl, hQ _ _ (ah.refl _) (by rw [← eb])⟩
  ·rw [paired_ints po] at hL
   refine ⟨_, rfl, D, _, B, rfl, hL, fun x hx => ?_, hB, by rw [Lm9]; exact hl, fun p H3 s3 n3 h3 => q p H3 (ah.trans s1 (ah.trans s2 s3)) (s1.free (s2.free n3)) h3⟩
   obtain ⟨y, hy, rfl⟩ := List.mem_map.mp hx
   exact La.uI (hb y hy)
 ·have k : ¬ r.getD (La.fp r) 0 < 0 := fun z => k (decide_eq_true z)
  rw [if_neg k] at q
  exact ⟨_, rfl, a, r, B, rfl, s1 _ _ ha, hb, hB, hl, fun p H3 s3 n3 h3 => q p H3 (ah.trans s1 s3) (s1.free n3) h3⟩
end
end gf
namespace gf
open PySem L2 fZ Bk
set_option maxHeartbeats 4000000
section
variable {P : Program} {w : World} {K : PySem.W.Frag} {mg : Str → Option Value} {base : Heap} {f : Addr} {fd : FuncData} {c : Cl}
theorem dF : ar ["rows", "found", "left", "lead", "place"] ["rows"] (ao qC) := ⟨rfl, rfl, rfl, by decide +kernel, rfl, by decide +kernel, by decide +kernel⟩
theorem E6 (F : bu K "reduced" "reduced" qC f fd) (cN : bb P w K mg base "without_noughts" 3 ["rows"] PZ) (gP : bb P w K mg base "above_nought" 3 ["row"] zP) (aO : bb P w K mg base "first_place" 1 ["row"] EF) (m9 : bb P w K mg base "cleared" 3 ["row", "other", "place"] KY) (aW : mg "len" = none) (TC : mg "min" = none) : aX P w K mg base cO 6 f fd ["rows"] KZ := by
 refine F.ok dF (fun vs H Q E h => ?_) (fun cu A outer s H vs Q E hr h => ?_)
 ·obtain ⟨l, us, rows, w0, B, rfl, _⟩ := h
  rfl
 obtain ⟨l, us, rows, w0, B, rfl, hl, pr, acv, hw, hlen, Xn, hB, q⟩ := h
 refine ⟨_, (ab (aw (i := 1) dF.nd rfl (Or.inl rfl) (bo ae))
 (ab (aw (i := 2) dF.nd rfl (Or.inl rfl) (ak cN (hr.mono (by decide)) rfl (aa (pv 0) ae)))
 (ab (gr PassesOwn.never (au ny (aF av rfl aW PySem.boot_len (aa (pv 2) ae)) ai (aH _))
 (ab (aw (i := 3) dF.nd rfl (Or.inr rfl) (ak gP (hr.mono (by decide)) rfl (aa (MS rfl aO (hr.mono (by decide)) rfl TC rfl (pv 2)) ae)))
 (ab (aw (i := 4) dF.nd rfl (Or.inr rfl) (ak aO (hr.mono (by decide)) rfl (aa (pv 3) ae)))
 (ab (aw (i := 1) dF.nd rfl (Or.inl rfl) (aL nQ (bX [3, 4] rfl (by kernel_rfl) (aJ (pv 1)) (fun _ _ _ _ _ => bH) (fun _ _ _ _ _ => (ak m9 (hr.mono (by decide)) rfl (aa (pv 0) (aa (pv 1) (aa (pv 2) ae)))))) (bo (aa (pv 3) ae))))
 (ag (aw (i := 2) dF.nd rfl (Or.inl rfl) (ak cN (hr.mono (by decide)) rfl (aa (bX [3, 4] rfl (by kernel_rfl) (aJ (pv 2)) (fun _ _ _ _ _ => bH) (fun _ _ _ _ _ => (ak m9 (hr.mono (by decide)) rfl (aa (pv 0) (aa (pv 1) (aa (pv 2) ae)))))) ae))))))))
 (ag (ax (pv 1)))))), ?_⟩
 refine ⟨(by show 0 ≤ sizeLine; decide), fun F0 ZY => ?_⟩
 have sF := aj ZY (.lst [])
 refine ⟨_, rfl, l, us, rows, rfl, sF _ _ hl, L2.Paired.bQ pr fun _ _ z => z.same sF, by omega, fun r hr => by rw [hlen r hr]; exact hw, fun ll0 ls0 H2 s2 nl0 HE _ pl0 => ?_⟩
 have Qx : (La.wo rows).length ≤ rows.length := List.length_filter_le _ _
 have hwm : ∀ r ∈ La.wo rows, r ∈ rows := fun r h => (List.mem_filter.mp h).1
 refine tH (fun σ H' => ∃ (lf ll : Addr) (fs ls : List V) (found left : List (List Int)) (B' n : Nat) (o3 o4 : Option V), σ = [some (.ref l), some (.ref lf), some (.ref ll), o3, o4] ∧ ah H H' ∧ H lf = none ∧ H' lf = some (.lst fs) ∧ Paired (lI H H') found fs ∧ H' ll = some (.lst ls) ∧ Paired (qx H') left ls ∧ La.Red w0 found left ∧ (∀ r ∈ found ++ left, La.Bd B' r) ∧
   (B' + 1) * 2 ^ left.length ≤ 3000 ∧ found.length + left.length ≤ 500 ∧ left.length ≤ n ∧ La.red n found left = La.reduced rows)
  (fun (σ : St) (H' : Hp) => match σ[2]? with | some (some (V.ref a)) => (match H' a with | some (HO.lst xs) => xs.length | _ => 0) | _ => 0)
  ⟨F0, ll0, [], ls0, [], La.wo rows, B, (La.wo rows).length, none, none, rfl, ah.trans sF s2, ZY, s2 _ _ af, .nil, HE, pl0, La.jo hlen, fun r h => Xn r (hwm r h), Nat.le_trans (Nat.mul_le_mul_left _ (Nat.pow_le_pow_right (by decide) Qx)) hB, by show 0 + _ ≤ _; omega, Nat.le_refl _, rfl⟩ ?_ ?_
 ·rintro σ H' ⟨lf, ll, fs, ls, found, left, B', n, o3, o4, rfl, sm, nlf, N7, pf, MR, pl, R, hb, ZZ, h5, hn, er⟩
  have zl := Paired.length pl
  have zf := Paired.length pf
  refine ⟨_, rfl, ll, _, rfl, .inl (ay.of MR), _, _, rfl, rfl, _, rfl, cK (fun k => ?_) (fun k => ?_)⟩
  ·have k : (0 : Int) < (ls.length : Int) := of_decide_eq_true k
   have h0 : left ≠ [] := fun z => by rw [z] at zl; simp at zl; omega
   have Tj : 0 < left.length := List.length_pos_iff.mpr h0
   have TF : 1 ≤ 2 ^ left.length := Nat.one_le_two_pow
   have hB1 : B' + 1 ≤ 3000 := Nat.le_trans (Nat.le_mul_of_pos_right _ TF) ZZ
   obtain ⟨l1, l2, l3, l4, l5⟩ := R.lead h0
   obtain ⟨R', eO⟩ := R.step h0
   have Qn := (La.lG h0).1
   obtain ⟨ml, mf⟩ := R.len _ Qn
   have pB : La.Bd B' (La.aU left) := La.Cz (hb _ (List.mem_append_right _ Qn))
   refine ⟨_, rfl, ll, ls, fun i => ((La.fp (left.getD i []) : Nat) : Int), fun H3 => ah H' H3, rfl, ah.refl _, by omega, fun H3 s3 => ay.of (s3 _ _ MR), fun H3 i x s3 hx => ?_, fun H3 i x s3 hx QG => ?_⟩
   ·obtain ⟨hi, ex⟩ := aE hx
    have sU : i < left.length := by omega
    have hR := paired_at pl i sU hi
    rw [ex] at hR
    obtain ⟨a, rfl, ha⟩ := hR
    have hr := R.len _ (List.getElem_mem sU)
    refine ⟨a, left[i], rfl, s3 _ _ ha, by omega, fun H4 s4 => ⟨?_, ah.trans s3 s4⟩⟩
    unfold ED
    rw [if_pos (by omega)]
    show V.int ((La.fp left[i] : Nat) : Int) = V.int ((La.fp (left.getD i []) : Nat) : Int)
    rw [Gd9, Ge9 sU]
    rfl
   ·obtain ⟨i0, Yq, hf0⟩ := EH h0
    obtain ⟨hi, ex⟩ := aE hx
    have sU : i < left.length := by omega
    have ei : i = i0 := Cr sU (List.getElem?_eq_some_iff.mp Yq).1 (by rw [← zl] at QG; exact QG) hf0
    subst ei
    have hR := paired_at pl i sU hi
    rw [ex, (List.getElem?_eq_some_iff.mp Yq).2] at hR
    obtain ⟨a, rfl, ha⟩ := hR
    refine ⟨a, La.wx left, B', rfl, s3 _ _ ha, hb _ (List.mem_append_right _ Qn), by omega, by omega, by omega, fun pd H4 s4 n4 h4 => ?_⟩
    have s34 := ah.trans s3 s4
    refine ⟨_, rfl, pd, _, rfl, h4, Nat.le_trans (Nat.le_of_eq l1) hw, fun H5 s5 => ?_⟩
    have Qm : ED (La.aU left) = V.int ((La.bh left : Nat) : Int) := by unfold ED; rw [if_pos (by rw [l1]; exact l2)]
    rw [Qm]
    have Gy := ah.trans s34 s5
    have Z0 := s5 _ _ h4
    have Vw : H pd = none := sm.free (s3.free n4)
    refine ⟨_, rfl, lf, rfl, ⟨_, ay.of (Gy _ _ N7)⟩, fun D hD => ?_⟩
    refine bM (K := K) (xs := fs) (found.map (La.nq (La.aU left) (La.bh left))) (fun H0 H b y => lI H0 H b y) (fun _ _ _ _ _ k h => h.keep k) (fun _ _ _ _ _ d h => h.bz d) (f9 (by omega)) hD (ay.of (Gy _ _ N7)) (by rw [Lm9]; exact zf) (fun i y b H6 R6 hy Yr s6 hQ => ?_) (fun H6 Oh s6 Ys TH => ?_)
    ·obtain ⟨hi, ey⟩ := aE hy
     obtain ⟨eQ, eb⟩ := aE Yr
     rw [Lm9] at eQ
     rw [List.getElem_map] at eb
     have hI := paired_at pf i eQ hi
     rw [ey] at hI
     obtain ⟨a2, rfl, _, P2⟩ := hI
     have HI := R.wu.len _ (List.getElem_mem eQ)
     have GA := hb _ (List.mem_append_left _ (List.getElem_mem eQ))
     exact ⟨_, rfl, _, rfl, _, rfl, a2, pd, found[i], La.aU left, La.bh left, B', rfl, s6 _ _ (Gy _ _ P2), s6 _ _ Z0, by omega, by omega, by omega, GA, pB, by omega, fun p7 H7 s7 n7 h7 => hQ _ _ s7 ⟨p7, rfl, n7, by rw [← eb]; exact h7⟩⟩
    have Z1 := ah.trans Gy s6
    refine ⟨_, rfl, (by show 1 ≤ sizeLine; decide), fun p1 Qg => ?_⟩
    have Nt := aj Qg (.lst [V.ref pd])
    have z6 := Paired.length TH
    rw [Lm9] at z6
    refine ⟨D, p1, Oh, _, rfl, rfl, Nt _ _ Ys, af, sz (by show _ + 1 ≤ _; omega), fun QR TJ => ?_⟩
    have Yt := aj TJ (.lst (Oh ++ [V.ref pd]))
    have TK := ah.trans Z1 (ah.trans Nt Yt)
    have Qo := Yt _ _ (Nt _ _ (s6 _ _ Z0))
    have Yu : H QR = none := sm.free (Z1.free (Nt.free TJ))
    have Z2 : Paired (lI H (upd (upd H6 p1 (.lst [V.ref pd])) QR (.lst (Oh ++ [V.ref pd])))) (La.dJ found left) (Oh ++ [V.ref pd]) := by
     refine Paired.snoc (L2.Paired.bQ TH fun _ _ z => (z.bz (fun b h => sm.free (Gy.free h))).keep (Kp.same (ah.trans Nt Yt))) ⟨pd, rfl, Vw, Qo⟩
    have TL : (upd (upd H6 p1 (.lst [V.ref pd])) QR (.lst (Oh ++ [V.ref pd]))) QR = some (.lst (Oh ++ [V.ref pd])) := af
    generalize upd (upd H6 p1 (.lst [V.ref pd])) QR (.lst (Oh ++ [V.ref pd])) = H7 at TK Qo Z2 TL
    refine ⟨_, rfl, ll, rfl, ⟨_, ay.of (TK _ _ MR)⟩, fun D2 nV => ?_⟩
    refine bM (K := K) (xs := ls) (left.map (La.nq (La.aU left) (La.bh left))) (fun H0 H b y => lI H0 H b y) (fun _ _ _ _ _ k h => h.keep k) (fun _ _ _ _ _ d h => h.bz d) (f9 (by omega)) nV (ay.of (TK _ _ MR)) (by rw [Lm9]; exact zl) (fun i y b H8 R8 hy hb8 s8 hQ => ?_) (fun H8 ls2 s8 hL8 Z3 => ?_)
    ·obtain ⟨hi, ey⟩ := aE hy
     obtain ⟨eQ, eb⟩ := aE hb8
     rw [Lm9] at eQ
     rw [List.getElem_map] at eb
     have hI := paired_at pl i eQ hi
     rw [ey] at hI
     obtain ⟨a2, rfl, P2⟩ := hI
     have HI := (R.len _ (List.getElem_mem eQ)).1
     have GA := hb _ (List.mem_append_right _ (List.getElem_mem eQ))
     exact ⟨_, rfl, _, rfl, _, rfl, a2, pd, left[i], La.aU left, La.bh left, B', rfl, s8 _ _ (TK _ _ P2), s8 _ _ Qo, HI.trans l1.symm, by rw [HI]; exact l2, by omega, GA, pB, by omega, fun p9 H9 s9 n9 h9 => hQ _ _ s9 ⟨p9, rfl, n9, by rw [← eb]; exact h9⟩⟩
    have z8 := Paired.length Z3
    rw [Lm9] at z8
    refine ⟨D2, ls2, left.map (La.nq (La.aU left) (La.bh left)), rfl, hL8, L2.Paired.bQ Z3 fun _ _ z => z.row, by rw [Lm9]; omega, fun r hr => ?_, fun Z4 Yv H9 s9 n9 h9 _ Z5 => ?_⟩
    ·obtain ⟨x, hx, rfl⟩ := List.mem_map.mp hr
     rw [La.sZ l1 (R.len x hx).1]
     exact hw
    have Yw := ah.trans s8 s9
    have hsF : (La.dJ found left).length = found.length + 1 := by unfold La.dJ; simp
    obtain ⟨n', rfl⟩ : ∃ n', n = n' + 1 := ⟨n - 1, by omega⟩
    rw [P0 h0] at er
    refine ⟨⟨QR, Z4, Oh ++ [V.ref pd], Yv, La.dJ found left, La.jm left, 2 * B' + 1, n', _, _, rfl, ah.trans sm (ah.trans TK Yw), Yu, Yw _ _ TL, L2.Paired.bQ Z2 fun _ _ z => z.keep (Kp.same Yw), h9, Z5, R', La.Gk R h0 hb, ?_, by omega, by omega, er⟩, ?_⟩
    ·have h1 : 2 ^ ((La.jm left).length + 1) ≤ 2 ^ left.length := Nat.pow_le_pow_right (by decide) eO
     rw [show 2 * B' + 1 + 1 = (B' + 1) * 2 by omega, Nat.mul_assoc, ← Nat.pow_succ']
     exact Nat.le_trans (Nat.mul_le_mul_left _ h1) ZZ
    ·have z9 := Paired.length Z5
     show (match H9 Z4 with | some (HO.lst xs) => xs.length | _ => 0) < (match H' ll with | some (HO.lst xs) => xs.length | _ => 0)
     rw [h9, MR]
     show Yv.length < ls.length
     have : Yv.length = (La.jm left).length := z9.symm
     omega
  ·have k : ¬ (0 : Int) < (ls.length : Int) := fun z => k (decide_eq_true z)
   have h0 : left = [] := List.eq_nil_of_length_eq_zero (by omega)
   subst h0
   rw [Nf] at er
   rw [← er] at q
   exact ⟨_, rfl, q _ _ sm ⟨lf, fs, rfl, nlf, N7, pf⟩⟩
 ·rintro σ H2 Q1 Q2 hm ⟨x, e1, a1, ys, e2, h2, i, j, e3, e4, b, e5, h3⟩
  exact ⟨x, e1, a1, ys, e2, h2, i, j, e3, e4, b, e5, hm _ _ h3⟩
end
end gf
namespace gf
open PySem L2 fZ Bk
set_option maxHeartbeats 4000000
section
variable {P : Program} {w : World} {K : PySem.W.Frag} {mg : Str → Option Value} {base : Heap} {f : Addr} {fd : FuncData} {c : Cl}
theorem bW : ar ["rows", "free", "width", "times", "row", "found", "place"] ["rows", "free", "width"] (ao iD) := ⟨rfl, rfl, rfl, by decide +kernel, rfl, by decide +kernel, by decide +kernel⟩
theorem vp (F : bu K "staying_row" "staying_row" iD f fd) (aO : bb P w K mg base "first_place" 1 ["row"] EF) : aX P w K mg base cO 2 f fd ["rows", "free", "width"] EG := by
 refine F.ok bW (fun vs H Q E h => ?_) (fun cu A outer s H vs Q E hr h => ?_)
 ·obtain ⟨l, us, R, fr, w0, B, rfl, _⟩ := h
  rfl
 obtain ⟨l, us, R, fr, w0, B, rfl, hl, pr, E0, hb, hf, hw, hB, hR, q⟩ := h
 refine ⟨_, (ab (aw (i := 3) bW.nd rfl (Or.inl rfl) ai)
 (ab (bj PassesOwn.never rfl (aJ (pv 0)) (aK (i := 4) bW.nd rfl (Or.inl rfl))
 (ag (aw (i := 3) bW.nd rfl (Or.inl rfl) (aL sX (pv 3) (az aB (pv 4) (ak aO (hr.mono (by decide)) rfl (aa (pv 4) ae)) (fun _ _ => rfl))))))
 (ab (aw (i := 5) bW.nd rfl (Or.inl rfl) (aL Ji (bo (aa ai ae)) (pv 2)))
 (ab (DF (pv 3) (IV (pv 5) (pv 1) set_list))
 (ab (bj PassesOwn.never rfl (aJ (pv 0)) (aK (i := 4) bW.nd rfl (Or.inl rfl))
 (ab (aw (i := 6) bW.nd rfl (Or.inl rfl) (ak aO (hr.mono (by decide)) rfl (aa (pv 4) ae)))
 (ag (DF (aL ir ai (aL sX (az aB (pv 4) (pv 1) (fun _ _ => rfl)) (aL Cq (pv 3) (az aB (pv 4) (pv 6) (fun _ _ => rfl))))) (IV (pv 5) (pv 6) set_list)))))
 (ag (ax (pv 5)))))))), ?_⟩
 have zu := Paired.length pr
 have QS : ∀ (r : List Int) (p : Nat), p < r.length → rA (r.map V.int) (p : Int) = some (V.int (r.getD p 0)) := fun r p h => bN (by rw [List.getElem?_map, Ge9 h, Gd9, Ge9 h]; rfl)
 have tb : ∀ i, ((R.take i).foldl (fun t r => t * r.getD (La.fp r) 0) (1 : Int)).natAbs ≤ 2 ^ (R.length * B) := fun i => by
  have := La.uJ (R.take i) 1 0 (fun r h => hb r (List.mem_of_mem_take h)) (by decide)
  rw [Nat.zero_add] at this
  refine Nat.le_trans this (Nat.pow_le_pow_right (by decide) (Nat.mul_le_mul_right _ ?_))
  rw [List.length_take]
  omega
 refine ⟨_, rfl, l, rfl, ⟨_, ay.of hl⟩, ba (K := K) (a := l) (xs := us) (fun i σ H' => ∃ o4, σ = [some (.ref l), some (.int (fr : Int)), some (.int (w0 : Int)), some (.int ((R.take i).foldl (fun t r => t * r.getD (La.fp r) 0) 1)), o4, none, none] ∧ ah H H')
  ⟨none, rfl, ah.refl _⟩ (fun i σ H' _ ⟨_, _, sm⟩ => ay.of (sm _ _ hl)) ?_ ?_⟩
 ·rintro i y σ H' hi ⟨o4, rfl, sm⟩
  obtain ⟨qL, ey⟩ := aE hi
  have Gz : i < R.length := by omega
  have hI := (paired_at pr i Gz qL).same sm
  rw [ey] at hI
  have hm := List.getElem_mem Gz
  have HI := E0.len _ hm
  have TM := E0.pos _ hm
  have GA := hb _ hm
  have ts : (R.take (i + 1)).foldl (fun t r => t * r.getD (La.fp r) 0) (1 : Int) = (R.take i).foldl (fun t r => t * r.getD (La.fp r) 0) 1 * R[i].getD (La.fp R[i]) 0 := by
   rw [List.take_succ, Ge9 Gz]
   show (R.take i ++ [R[i]]).foldl _ _ = _
   rw [List.foldl_append]
   rfl
  have Z6 := tb i
  generalize (R.take i).foldl (fun t r => t * r.getD (La.fp r) 0) (1 : Int) = tm at ts Z6
  generalize R[i] = r at hI HI TM GA ts
  obtain ⟨a, rfl, ha⟩ := hI
  refine ⟨_, rfl, _, rfl, _, rfl, a, r, rfl, ha, by omega, fun H2 s2 => ?_⟩
  have Qm : ED r = V.int ((La.fp r : Nat) : Int) := by unfold ED; rw [if_pos (by omega)]
  rw [Qm]
  refine ⟨a, _, _, _, rfl, rfl, ay.of (s2 _ _ ha), QS r _ (by omega), _, _, rfl, rfl, ⟨lg Z6 (by omega) (by decide), lg (GA.at _) (by omega) (by decide)⟩, some (.ref a), ?_, ah.trans sm s2⟩
  rw [ts]
  rfl
 rintro σ H1 ⟨o4, rfl, s1⟩
 rw [← zu, List.take_length]
 refine ⟨(by show 1 ≤ sizeLine; decide), fun p hp => ?_⟩
 have sp := aj hp (.lst [V.int 0])
 refine ⟨_, rfl, p, _, _, rfl, rfl, af, by omega, by omega, sz (by show 1 * _ ≤ _; omega), fun D hD => ?_⟩
 have sD := aj hD (.lst (List.replicate ((w0 : Int)).toNat [V.int 0]).flatten)
 have xU : H D = none := s1.free (sp.free hD)
 have sB := ah.trans s1 (ah.trans sp sD)
 have iw : (upd (upd H1 p (.lst [V.int 0])) D (.lst (List.replicate ((w0 : Int)).toNat [V.int 0]).flatten)) D = some (.lst ((List.replicate w0 (0 : Int)).map V.int)) := by
  rw [af, CI]
  rfl
 generalize upd (upd H1 p (.lst [V.int 0])) D (.lst (List.replicate ((w0 : Int)).toNat [V.int 0]).flatten) = H2 at sB iw
 have ix : ∀ (ys : List Int) (j : Nat), ys.length = w0 → j < w0 → Jh (ys.map V.int).length (j : Int) = some j := fun ys j h1 h2 => by
  rw [Lm9, h1]
  unfold Jh
  rw [if_pos (by omega), if_pos (by omega), Int.toNat_natCast]
 refine ⟨_, rfl, _, rfl, _, rfl, D, _, _, fr, rfl, rfl, iw, ix _ fr List.length_replicate hf, ?_⟩
 have sC : ah H (upd H2 D (.lst (((List.replicate w0 (0 : Int)).map V.int).set fr (V.int (La.a9 R))))) := ah.aS sB xU _
 refine ⟨_, rfl, l, rfl, ⟨_, ay.of (sC _ _ hl)⟩, ba (K := K) (a := l) (xs := us) (fun i σ H' => ∃ o4 o6, σ = [some (.ref l), some (.int (fr : Int)), some (.int (w0 : Int)), some (.int (La.a9 R)), o4, some (.ref D), o6] ∧ ah H H' ∧ H' D = some (.lst (((R.take i).foldl (fun y r => y.set (La.fp r) (0 - r.getD fr 0 * (La.a9 R / r.getD (La.fp r) 0))) ((List.replicate w0 0).set fr (La.a9 R))).map V.int)) ∧ ((R.take i).foldl (fun y r => y.set (La.fp r) (0 - r.getD fr 0 * (La.a9 R / r.getD (La.fp r) 0))) ((List.replicate w0 0).set fr (La.a9 R))).length = w0)
  ⟨o4, none, rfl, sC, af.trans (congrArg (fun l => some (HO.lst l)) List.map_set.symm), by rw [List.take_zero]; show (((List.replicate w0 (0 : Int)).set fr (La.a9 R))).length = w0; rw [List.length_set, List.length_replicate]⟩ (fun i σ H' _ ⟨_, _, _, sm, _⟩ => ay.of (sm _ _ hl)) ?_ ?_⟩
 ·rintro i y σ H' hi ⟨o4, o6, rfl, sm, TN, VB⟩
  obtain ⟨qL, ey⟩ := aE hi
  have Gz : i < R.length := by omega
  have hI := (paired_at pr i Gz qL).same sm
  rw [ey] at hI
  have hm := List.getElem_mem Gz
  have HI := E0.len _ hm
  have TM := E0.pos _ hm
  have GA := hb _ hm
  have ts : (R.take (i + 1)).foldl (fun y r => y.set (La.fp r) (0 - r.getD fr 0 * (La.a9 R / r.getD (La.fp r) 0))) ((List.replicate w0 0).set fr (La.a9 R)) = ((R.take i).foldl (fun y r => y.set (La.fp r) (0 - r.getD fr 0 * (La.a9 R / r.getD (La.fp r) 0))) ((List.replicate w0 0).set fr (La.a9 R))).set (La.fp R[i]) (0 - R[i].getD fr 0 * (La.a9 R / R[i].getD (La.fp R[i]) 0)) := by
   rw [List.take_succ, Ge9 Gz]
   show (R.take i ++ [R[i]]).foldl _ _ = _
   rw [List.foldl_append]
   rfl
  rw [ts]
  generalize (R.take i).foldl (fun y r => y.set (La.fp r) (0 - r.getD fr 0 * (La.a9 R / r.getD (La.fp r) 0))) ((List.replicate w0 0).set fr (La.a9 R)) = ys at TN VB
  have tbR : (La.a9 R).natAbs ≤ 2 ^ (R.length * B) := by
   have := tb R.length
   rw [List.take_length] at this
   exact this
  generalize R[i] = r at hI HI TM GA
  obtain ⟨a, rfl, ha⟩ := hI
  refine ⟨_, rfl, a, r, rfl, ha, by omega, fun H3 s3 => ?_⟩
  have Qm : ED r = V.int ((La.fp r : Nat) : Int) := by unfold ED; rw [if_pos (by omega)]
  rw [Qm]
  have hq : (La.a9 R / r.getD (La.fp r) 0).natAbs ≤ 2 ^ (R.length * B) := Nat.le_trans (Int.natAbs_ediv_le_natAbs _ _) tbR
  refine ⟨_, rfl, _, rfl, a, _, _, _, rfl, rfl, ay.of (s3 _ _ ha), QS r fr (by omega), _, rfl, _, rfl, _, rfl, a, _, _, _, rfl, rfl, ay.of (s3 _ _ ha), QS r _ (by omega), _, _, rfl, rfl, ⟨TM.2, .inr (lg (GA.at _) (by omega) (by decide))⟩, _, _, rfl, rfl, ⟨lg (GA.at _) (by omega) (by decide), lg hq (by omega) (by decide)⟩, _, _, rfl, rfl, ?_⟩
  refine ⟨_, rfl, _, rfl, D, _, _, La.fp r, rfl, rfl, s3 _ _ TN, ix ys _ VB (by omega), _, _, rfl, ah.aS (ah.trans sm s3) xU _, af.trans (congrArg (fun l => some (HO.lst l)) List.map_set.symm), ?_⟩
  rw [List.length_set]
  exact VB
 ·rintro σ H' ⟨o4, o6, rfl, sm, TN, VB⟩
  rw [← zu, List.take_length] at TN
  exact ⟨_, rfl, q D _ sm xU TN⟩
end
end gf
namespace gf
open PySem L2 fZ Bk
set_option maxHeartbeats 4000000
section
variable {P : Program} {w : World} {K : PySem.W.Frag} {mg : Str → Option Value} {base : Heap} {f : Addr} {fd : FuncData} {c : Cl}
theorem fE : ar ["book", "width", "rows", "firsts", "free"] ["book"] (ao og) := ⟨rfl, rfl, rfl, by decide +kernel, rfl, by decide +kernel, by decide +kernel⟩
theorem CT (F : bu K "standing" "standing" og f fd) (b6 : bb P w K mg base "passing_kinds" 1 ["book"] (zH K c)) (qR : bb P w K mg base "effects" 4 ["book"] (Ex K c)) (nc : bb P w K mg base "reduced" 6 ["rows"] KZ) (aO : bb P w K mg base "first_place" 1 ["row"] EF) (iQ : bb P w K mg base "staying_row" 2 ["rows", "free", "width"] EG) (aW : mg "len" = none) (cw : mg "range" = none) : aX P w K mg base cO 7 f fd ["book"] (zQ K c) := by
 refine F.ok fE (fun vs H Q E h => ?_) (fun cu A outer s H vs Q E hr h => ?_)
 ·obtain ⟨v, H0, ks, rs, rfl, _⟩ := h
  rfl
 obtain ⟨v, H0, ks, rs, rfl, B, hk, ZU, hf, hw, q⟩ := h
 refine ⟨_, (ab (aw (i := 1) fE.nd rfl (Or.inr rfl) (aF av rfl aW PySem.boot_len (aa (ak b6 (hr.mono (by decide)) rfl (aa (pv 0) ae)) ae)))
 (ab (aw (i := 2) fE.nd rfl (Or.inr rfl) (ak nc (hr.mono (by decide)) rfl (aa (ak qR (hr.mono (by decide)) rfl (aa (pv 0) ae)) ae)))
 (ab (aw (i := 3) fE.nd rfl (Or.inr rfl) (bX [] rfl (by kernel_rfl) (aJ (pv 2)) (fun _ _ _ _ _ => bH) (fun _ _ _ _ _ => (ak aO (hr.mono (by decide)) rfl (aa (pv 0) ae)))))
 (ab (ig (i := 4) [3] fE.nd rfl (Or.inl rfl) rfl (by kernel_rfl) (c6 rfl cw (aa (pv 1) ae)) (fun _ _ _ _ _ => (jF (au (r := Wk K true) c7 (pv 0) (pv 1) (by with_unfolding_all rfl)))) (fun _ _ _ _ _ => (pv 0)))
 (ag (ax (ak nc (hr.mono (by decide)) rfl (aa (bX [2, 1] rfl (by kernel_rfl) (aJ (pv 4)) (fun _ _ _ _ _ => bH) (fun _ _ _ _ _ => (ak iQ (hr.mono (by decide)) rfl (aa (pv 1) (aa (pv 0) (aa (pv 2) ae)))))) ae)))))))), ?_⟩
 have TQ : ∀ e ∈ uN ks rs, e.length = (Bk.passing ks).length := fun e he => by
  obtain ⟨r, _, rfl⟩ := List.mem_map.mp he
  rw [Lm9]
 have VC : ∀ e ∈ uN ks rs, La.Bd 2 e := fun e he x hx => by
  obtain ⟨r, hr, rfl⟩ := List.mem_map.mp he
  obtain ⟨z, _, rfl⟩ := List.mem_map.mp hx
  have h := hf r hr
  unfold Kw
  have a1 := List.length_filter_le (fun f : Fc => decide (f.k = z)) r.put
  have a2 := List.length_filter_le (fun f : Fc => decide (f.k = z)) r.take
  omega
 have VD : (uN ks rs).length ≤ 8 := by unfold uN; rw [Lm9]; exact ZU
 refine ⟨_, rfl, v, H0, ks, rs, rfl, B, hk, fun u1 H1 s1 T1 => ?_⟩
 obtain ⟨lp, rfl, nlp, Tj⟩ := T1
 refine ⟨lp, _, rfl, .inl (ay.of Tj), ?_⟩
 rw [Lm9]
 refine ⟨_, rfl, v, H0, ks, rs, rfl, B.keep (Kp.same s1), hk, by omega, fun r hr => ⟨by have := (hf r hr).1; omega, by have := (hf r hr).2; omega⟩, fun u2 H2 s2 T2 => ?_⟩
 obtain ⟨le, es, rfl, nle, hle, pe⟩ := T2
 generalize hE : uN ks rs = EE at TQ VC VD pe q
 generalize hW : (Bk.passing ks).length = w0 at TQ hw q
 have TF : 2 ^ EE.length ≤ 256 := Nat.le_trans (Nat.pow_le_pow_right (by decide) VD) (by decide)
 obtain ⟨R1, _, hRl⟩ := La.jM TQ
 obtain ⟨QI, rW, Y3⟩ := CK hw TQ VC
 obtain ⟨z1, z2⟩ := Gw rW
 refine ⟨le, es, EE, w0, 2, rfl, hle, L2.Paired.bQ pe fun _ _ z => z.row, by omega, by omega, TQ, VC, by omega, fun u3 H3 s3 T3 => ?_⟩
 obtain ⟨lq, qs, rfl, nlq, Yx, pq⟩ := T3
 have zq := Paired.length pq
 unfold La.cE at q
 generalize La.reduced EE = R at R1 hRl QI rW z1 z2 pq zq q
 have ZK : (La.cM R w0).length ≤ 5 := by omega
 refine ⟨_, rfl, lq, rfl, ⟨_, ay.of Yx⟩, fun D hD => ?_⟩
 refine bM (K := K) (xs := qs) (R.map fun r => ((La.fp r : Nat) : Int)) (fun _ _ b y => y = V.int b) (fun _ _ _ _ _ _ h => h) (fun _ _ _ _ _ _ h => h) (f9 (by omega)) hD (ay.of Yx) (by rw [Lm9]; exact zq) (fun i x b H4 R4 hx WX s4 hQ => ?_) (fun H4 zs s4 Tv Ym => ?_)
 ·obtain ⟨hi, ex⟩ := aE hx
  obtain ⟨eQ, eb⟩ := aE WX
  rw [Lm9] at eQ
  rw [List.getElem_map] at eb
  have hI := paired_at pq i eQ hi
  rw [ex] at hI
  obtain ⟨a, rfl, _, ha⟩ := hI
  have hm := List.getElem_mem eQ
  have HI := R1.len _ hm
  have TM := R1.pos _ hm
  refine ⟨_, rfl, a, R[i], rfl, s4 _ _ ha, by omega, fun H5 s5 => hQ _ _ s5 ?_⟩
  unfold ED
  rw [if_pos (by omega), ← eb]
 rw [paired_ints Ym] at Tv
 refine ⟨_, rfl, w0, rfl, by omega, by omega, fun D2 nV => ?_⟩
 refine jH (lo := 0) (n := ((w0 : Int)).toNat) (f9 (by omega)) (fun i ys H' => ah H4 H' ∧ H' D2 = some (.lst ys) ∧ ys = nI ((List.range i).filter fun p => !decide (p ∈ R.map La.fp))) ⟨aj nV _, af, rfl⟩ (fun i ys H' p => ⟨p.2.1, ?_⟩) (fun i ys H' hi p => ?_) (fun ys H5 p => ?_)
 ·rw [p.2.2, Lm9]
  have := List.length_filter_le (fun p => !decide (p ∈ R.map La.fp)) (List.range i)
  rw [List.length_range] at this
  exact this
 ·obtain ⟨s5, iw, rfl⟩ := p
  refine ⟨_, rfl, _, rfl, D, _, rfl, .inl (ay.of (s5 _ _ Tv)), rfl, by simp [eT], _, rfl, ?_⟩
  have Xo : G2 (V.int (0 + (i : Int))) ((R.map fun r => ((La.fp r : Nat) : Int)).map V.int) = decide (i ∈ R.map La.fp) := by
   unfold G2
   rw [List.any_map, List.any_map, Bool.eq_iff_iff, List.any_eq_true, decide_eq_true_eq, List.mem_map]
   constructor
   ·rintro ⟨r, hr, e⟩
    have e : v9 (V.int ((La.fp r : Nat) : Int)) (V.int (0 + (i : Int))) = true := e
    refine ⟨r, hr, ?_⟩
    simp [v9] at e
    omega
   ·rintro ⟨r, hr, rfl⟩
    refine ⟨r, hr, ?_⟩
    show v9 (V.int ((La.fp r : Nat) : Int)) (V.int (0 + ((La.fp r : Nat) : Int))) = true
    simp [v9]
  have er : ∀ l : List Nat, nI (l ++ [i]) = nI l ++ [V.int (0 + (i : Int))] := fun l => by
   show List.map _ _ = _
   rw [List.map_append, Int.zero_add]
   rfl
  show if (!G2 (V.int (0 + (i : Int))) ((R.map fun r => ((La.fp r : Nat) : Int)).map V.int)) = true then _ else _
  rw [Xo, List.range_succ, List.filter_append]
  refine cK (fun k => ?_) (fun k => ?_)
  ·rw [List.filter_cons, if_pos k]
   exact ⟨_, rfl, iw, ah.aS s5 nV _, af, (er _).symm⟩
  ·rw [List.filter_cons, if_neg k, List.filter_nil, List.append_nil]
   exact ⟨s5, iw, rfl⟩
 obtain ⟨s5, iw, rfl⟩ := p
 have ew : ((w0 : Int)).toNat = w0 := by omega
 rw [ew] at iw
 have iw : H5 D2 = some (.lst (nI (La.cM R w0))) := iw
 refine ⟨_, rfl, D2, rfl, ⟨_, ay.of iw⟩, fun D3 Qk => ?_⟩
 have Gy := ah.trans s4 s5
 refine bM (K := K) (xs := nI (La.cM R w0)) ((La.cM R w0).map fun f => La.b7 R f w0) (fun H0 H b y => lI H0 H b y) (fun _ _ _ _ _ k h => h.keep k) (fun _ _ _ _ _ d h => h.bz d) (f9 (by rw [Lm9]; omega)) Qk (ay.of iw) (by rw [Lm9, Lm9]) (fun i x b H6 R6 hx Yr s6 hQ => ?_) (fun H6 zs s6 Ys TH => ?_)
 ·obtain ⟨hi, ex⟩ := aE hx
  obtain ⟨eQ, eb⟩ := aE Yr
  rw [Lm9] at eQ
  rw [List.getElem_map] at eb ex
  subst ex
  have QG := (La.pF.mp (List.getElem_mem eQ)).1
  exact ⟨_, rfl, _, rfl, _, rfl, lq, qs, R, (La.cM R w0)[i], w0, 3 * 2 ^ R.length - 1, rfl, s6 _ _ (Gy _ _ Yx), L2.Paired.bQ pq fun _ _ z => z.row.same (ah.trans Gy s6), R1, QI, QG, by omega, by omega, by omega, fun p7 H7 s7 n7 h7 => hQ _ _ s7 ⟨p7, rfl, n7, by rw [← eb]; exact h7⟩⟩
 have z6 := Paired.length TH
 rw [Lm9] at z6
 refine ⟨D3, zs, _, w0, R.length * (3 * 2 ^ R.length - 1) + (3 * 2 ^ R.length - 1), rfl, Ys, L2.Paired.bQ TH fun _ _ z => z.row, by rw [Lm9]; omega, by omega, fun y hy => ?_, fun y hy => ?_, by rw [Lm9]; omega, fun u7 H7 s7 T7 => ?_⟩
 ·obtain ⟨f, _, rfl⟩ := List.mem_map.mp hy
  exact La.bI
 ·obtain ⟨f, _, rfl⟩ := List.mem_map.mp hy
  exact La.Gm QI
 have sA : ah H H6 := ah.trans s1 (ah.trans s2 (ah.trans s3 (ah.trans Gy s6)))
 obtain ⟨l7, v7, e7, n7, h7, p7⟩ := T7
 exact q _ _ (ah.trans sA s7) ⟨l7, v7, e7, sA.free n7, h7, L2.Paired.bQ p7 fun _ _ z => z.bz (fun b h => sA.free h)⟩
end
end gf
namespace gf
open PySem L2 fZ Bk
set_option maxHeartbeats 4000000
section
variable {P : Program} {w : World} {K : PySem.W.Frag} {mg : Str → Option Value} {base : Heap} {f : Addr} {fd : FuncData} {c : Cl}
theorem nF : ar ["_law_row", "_law_at"] ["_law_row"] (ao j0) := ⟨rfl, rfl, rfl, by decide +kernel, rfl, by decide +kernel, by decide +kernel⟩
theorem wQ (F : bu K "_law_place" "_law_place" j0 f fd) (cw : mg "range" = none) (aW : mg "len" = none) : aX P w K mg base cO 1 f fd ["_law_row"] zS := by
 refine F.ok nF (fun vs H Q E h => ?_) (fun cu A outer s H vs Q E hr h => ?_)
 ·obtain ⟨a, r, rfl, _⟩ := h
  rfl
 obtain ⟨a, r, rfl, ha, hl, q⟩ := h
 refine ⟨_, (ab (bj PassesOwn.never rfl (c6 rfl cw (aa (aF av rfl aW PySem.boot_len (aa (pv 0) ae)) ae)) (aK (i := 1) nF.nd rfl (Or.inl rfl))
 (ag (aV (au dH (az aB (pv 0) (pv 1) (fun _ _ => rfl)) ai (aH _))
 (ag (ax (pv 1)))
 aA)))
 (ag (ax (aF av rfl aW PySem.boot_len (aa (pv 0) ae))))), ?_⟩
 refine ⟨_, rfl, a, _, rfl, .inl (ay.of ha), _, rfl, by rw [Lm9]; omega, by rw [Lm9]; omega, ?_⟩
 have en : ((((r.map V.int).length : Nat) : Int)).toNat = r.length := by rw [Lm9]; omega
 rw [en]
 refine je (lo := 0) (n := r.length) (fun i σ H' => H' = H ∧ (∃ o1, σ = [some (.ref a), o1]) ∧ ∀ j, j < i → r.getD j 0 = 0) ⟨rfl, ⟨none, rfl⟩, fun j hj => absurd hj (by omega)⟩ ?_ ?_
 ·rintro i σ H' hi ⟨rfl, ⟨o1, rfl⟩, hz⟩
  have eg : r.getD i 0 = r[i] := by rw [Gd9, Ge9 hi]; rfl
  have i1 : rA (r.map V.int) (0 + (i : Int)) = some (V.int r[i]) := by rw [Int.zero_add]; exact bN (by rw [List.getElem?_map, Ge9 hi]; rfl)
  refine ⟨_, rfl, _, rfl, a, _, _, _, rfl, rfl, ay.of ha, i1, rfl, _, rfl, cK (fun k => ?_) (fun k => ?_)⟩
  ·have ni : r.getD i 0 ≠ 0 := fun z => by
    rw [eg] at z
    rw [z] at k
    cases k
   have e : La.fp r = i := La.Gg hz ni
   refine ⟨_, rfl, ?_⟩
   rw [e] at q
   rw [Int.zero_add]
   exact q
  ·have he : r.getD i 0 = 0 := by
    rw [eg]
    by_cases z : r[i] = 0
    ·exact z
    ·exact absurd (by rw [decide_eq_false fun y => z (V.int.inj y)]; rfl) k
   exact ⟨rfl, ⟨_, rfl⟩, fun j hj => by
    by_cases z : j = i
    ·rw [z]; exact he
    ·exact hz j (by omega)⟩
 ·rintro σ H' ⟨rfl, ⟨o1, rfl⟩, hz⟩
  rw [La.sY fun i => by
   by_cases z : i < r.length
   ·exact hz i z
   ·rw [Gd9, List.getElem?_eq_none (by omega)]; rfl] at q
  refine ⟨_, rfl, a, _, rfl, .inl (ay.of ha), ?_⟩
  rw [Lm9]
  exact q
end
end gf
namespace gf
open PySem L2 fZ Bk
set_option maxHeartbeats 4000000
section
variable {P : Program} {w : World} {K : PySem.W.Frag} {mg : Str → Option Value} {base : Heap} {f : Addr} {fd : FuncData} {c : Cl}
theorem ip : ar ["_law_row", "_law_numbers", "_law_total", "_law_at"] ["_law_row", "_law_numbers"] (ao om) := ⟨rfl, rfl, rfl, by decide +kernel, rfl, by decide +kernel, by decide +kernel⟩
theorem CU (F : bu K "_law_sum" "_law_sum" om f fd) (cw : mg "range" = none) (aW : mg "len" = none) : aX P w K mg base cO 1 f fd ["_law_row", "_law_numbers"] EC := by
 refine F.ok ip (fun vs H Q E h => ?_) (fun cu A outer s H vs Q E hr h => ?_)
 ·obtain ⟨a, b, xs, ys, rfl, _⟩ := h
  rfl
 obtain ⟨a, b, xs, ys, rfl, ha, hb, hl, hz, hs, q⟩ := h
 refine ⟨_, (ab (aw (i := 2) ip.nd rfl (Or.inl rfl) ai)
 (ab (bj PassesOwn.never rfl (c6 rfl cw (aa (aF av rfl aW PySem.boot_len (aa (pv 0) ae)) ae)) (aK (i := 3) ip.nd rfl (Or.inl rfl))
 (ag (aw (i := 2) ip.nd rfl (Or.inl rfl) (aL fQ (pv 2) (aL IY (az aB (pv 0) (pv 3) (fun _ _ => rfl)) (az aB (pv 1) (pv 3) (fun _ _ => rfl)))))))
 (ag (ax (pv 2))))), ?_⟩
 refine ⟨_, rfl, a, _, rfl, .inl (ay.of ha), _, rfl, by rw [Lm9]; omega, by rw [Lm9]; omega, ?_⟩
 have en : ((((xs.map V.int).length : Nat) : Int)).toNat = xs.length := by rw [Lm9]; omega
 rw [en]
 refine je (lo := 0) (n := xs.length) (fun i σ H' => H' = H ∧ ∃ o3, σ = [some (.ref a), some (.ref b), some (.int (dot (xs.take i) (ys.take i))), o3]) ⟨rfl, none, by rw [List.take_zero]; rfl⟩ ?_ ?_
 ·rintro i σ H' hi ⟨rfl, o3, rfl⟩
  have NR : i < ys.length := by omega
  have i1 : rA (xs.map V.int) (0 + (i : Int)) = some (V.int xs[i]) := by rw [Int.zero_add]; exact bN (by rw [List.getElem?_map, Ge9 hi]; rfl)
  have i2 : rA (ys.map V.int) (0 + (i : Int)) = some (V.int ys[i]) := by rw [Int.zero_add]; exact bN (by rw [List.getElem?_map, Ge9 NR]; rfl)
  refine ⟨_, rfl, _, rfl, _, rfl, a, _, _, _, rfl, rfl, ay.of ha, i1, _, rfl, _, rfl, b, _, _, _, rfl, rfl, ay.of hb, i2, _, _, rfl, rfl, .inl (hs _ (List.getElem_mem hi)), _, _, rfl, rfl, rfl, some (.int (0 + (i : Int))), ?_⟩
  rw [KU hi NR]
  rfl
 ·rintro σ H' ⟨rfl, o3, rfl⟩
  rw [List.take_length, hl, List.take_length]
  exact ⟨_, rfl, q _ (ah.refl _)⟩
end
end gf
namespace gf
open PySem L2 fZ Bk
set_option maxHeartbeats 4000000
section
variable {P : Program} {w : World} {K : PySem.W.Frag} {mg : Str → Option Value} {base : Heap} {f : Addr} {fd : FuncData} {c : Cl}
theorem cD : ar ["_law_row", "_law_found", "_law_number", "_law_rest", "_law_kept"] ["_law_row"] (ao lZ) := ⟨rfl, rfl, rfl, by decide +kernel, rfl, by decide +kernel, by decide +kernel⟩
theorem AA (F : bu K "_law_part" "_law_part" lZ f fd) (Ln : mg "abs" = none) : aX P w K mg base cO 1 f fd ["_law_row"] yw := by
 refine F.ok cD (fun vs H Q E h => ?_) (fun cu A outer s H vs Q E hr h => ?_)
 ·obtain ⟨a, r, rfl, _⟩ := h
  rfl
 obtain ⟨a, r, rfl, ha, q⟩ := h
 refine ⟨_, (ab (aw (i := 1) cD.nd rfl (Or.inl rfl) ai)
 (ab (bj PassesOwn.never rfl (aJ (pv 0)) (aK (i := 2) cD.nd rfl (Or.inl rfl))
 (ab (aw (i := 3) cD.nd rfl (Or.inl rfl) (aF BP rfl Ln PyProof.Rows.boot_abs (aa (pv 2) ae)))
 (ag (gr PassesOwn.never (au ny (pv 3) ai (aH _))
 (ab (aw (i := 4) cD.nd rfl (Or.inl rfl) (aL gu (pv 1) (pv 3)))
 (ab (aw (i := 1) cD.nd rfl (Or.inl rfl) (pv 3))
 (ag (aw (i := 3) cD.nd rfl (Or.inl rfl) (pv 4)))))))))
 (ag (ax (pv 1))))), ?_⟩
 refine ⟨_, rfl, a, rfl, ⟨_, ay.of ha⟩, ba (K := K) (a := a) (xs := r.map V.int) (fun i σ H' => H' = H ∧ ∃ o2 o3 o4, σ = [some (.ref a), some (.int (((r.take i).foldl (fun f n => Nat.gcd f n.natAbs) 0 : Nat) : Int)), o2, o3, o4])
  ⟨rfl, none, none, none, rfl⟩ (fun i σ H' _ ⟨e, _⟩ => by rw [e]; exact ay.of ha) ?_ ?_⟩
 ·rintro i y σ H' hi ⟨rfl, o2, o3, o4, rfl⟩
  obtain ⟨sU, ey⟩ := aE hi
  rw [Lm9] at sU
  rw [List.getElem_map] at ey
  subst ey
  have ts : (r.take (i + 1)).foldl (fun f n => Nat.gcd f n.natAbs) 0 = Nat.gcd ((r.take i).foldl (fun f n => Nat.gcd f n.natAbs) 0) r[i].natAbs := by
   rw [List.take_succ, Ge9 sU]
   show (r.take i ++ [r[i]]).foldl _ 0 = _
   rw [List.foldl_append]
   rfl
  generalize (r.take i).foldl (fun f n => Nat.gcd f n.natAbs) 0 = g at ts
  have ea : (if r[i] < 0 then -r[i] else r[i]) = ((r[i].natAbs : Nat) : Int) := by split <;> omega
  refine ⟨_, rfl, _, rfl, ?_⟩
  rw [ea]
  refine tH (fun σ H2 => H2 = H' ∧ ∃ (a1 b1 : Nat) (o4 : Option V), σ = [some (.ref a), some (.int (a1 : Int)), some (.int r[i]), some (.int (b1 : Int)), o4] ∧ Nat.gcd a1 b1 = Nat.gcd g r[i].natAbs) (fun (σ : St) _ => match σ[3]? with | some (some (V.int b)) => b.toNat | _ => 0) ⟨rfl, g, r[i].natAbs, o4, rfl, rfl⟩ ?_ ?_
  ·rintro σ H2 ⟨rfl, a1, b1, o4, rfl, eg⟩
   refine ⟨_, rfl, _, _, rfl, rfl, _, rfl, cK (fun k => ?_) (fun k => ?_)⟩
   ·have hb : b1 ≠ 0 := fun z => by
     rw [z] at k
     cases k
    have hp : (0 : Int) < (b1 : Int) := by omega
    refine ⟨_, rfl, _, rfl, _, _, rfl, rfl, hp, _, rfl, _, rfl, ⟨rfl, b1, a1 % b1, _, rfl, ?_⟩, ?_⟩
    ·rw [← eg, Nat.gcd_comm b1, ← Nat.gcd_rec, Nat.gcd_comm]
    ·show ((a1 : Int) % (b1 : Int)).toNat < (b1 : Int).toNat
     have := Nat.mod_lt a1 (Nat.pos_of_ne_zero hb)
     omega
   ·have hb : b1 = 0 := by
     by_cases z : b1 = 0
     ·exact z
     ·exact absurd (decide_eq_true (by omega)) k
    refine ⟨rfl, some (.int r[i]), some (.int (b1 : Int)), o4, ?_⟩
    rw [ts, ← eg, hb, Nat.gcd_zero_right]
  ·rintro σ H2 Q1 Q2 hm ⟨x, e1, i2, j2, e2, e3, b, e4, h2⟩
   exact ⟨x, e1, i2, j2, e2, e3, b, e4, hm _ _ h2⟩
 ·rintro σ H' ⟨rfl, o2, o3, o4, rfl⟩
  rw [Lm9, List.take_length]
  exact ⟨_, rfl, q⟩
theorem dZ : ar ["_law_rows", "_law_at", "_law_many", "_law_row", "_law_first", "_law_other"] ["_law_rows", "_law_at", "_law_many"] (ao iJ) := ⟨rfl, rfl, rfl, by decide +kernel, rfl, by decide +kernel, by decide +kernel⟩
theorem vq (F : bu K "_law_formed" "_law_formed" iJ f fd) (da : bb P w K mg base "_law_whole" 1 ["_law_row", "_law_many"] (pG K)) (gi : bb P w K mg base "_law_place" 1 ["_law_row"] zS) (my : bb P w K mg base "_law_part" 1 ["_law_row"] yw) (cw : mg "range" = none) (aW : mg "len" = none) : aX P w K mg base cO 2 f fd ["_law_rows", "_law_at", "_law_many"] EJ := by
 refine F.ok dZ (fun vs H Q E h => ?_) (fun cu A outer s H vs Q E hr h => ?_)
 ·obtain ⟨l, us, S, i, w0, rfl, _⟩ := h
  rfl
 obtain ⟨l, us, S, i, w0, rfl, hl, pr, R, hi, q⟩ := h
 refine ⟨_, (ab (aw (i := 3) dZ.nd rfl (Or.inl rfl) (az aB (pv 0) (pv 1) (fun _ _ => rfl)))
 (ab (aV (dB (bT (ak da (hr.mono (by decide)) rfl (aa (pv 3) (aa (pv 2) ae)))))
 (ag (ax fY))
 aA)
 (ab (aw (i := 4) dZ.nd rfl (Or.inl rfl) (ak gi (hr.mono (by decide)) rfl (aa (pv 3) ae)))
 (ab (aV (PW.pt (oJ (au dG (pv 4) (pv 2) (aH _)) (oJ (au tI (az aB (pv 3) (pv 4) (fun _ _ => rfl)) ai (aH _)) (p0 (au dH (ak my (hr.mono (by decide)) rfl (aa (pv 3) ae)) ai (aH _))))))
 (ag (ax fY))
 aA)
 (ab (bj PassesOwn.never rfl (c6 rfl cw (aa (aF av rfl aW PySem.boot_len (aa (pv 0) ae)) ae)) (aK (i := 5) dZ.nd rfl (Or.inl rfl))
 (ag (aV (PW.pt (k4 (au dH (pv 5) (pv 1) (aH _)) (jB (au dH (az aB (az aB (pv 0) (pv 5) (fun _ _ => rfl)) (pv 4) (fun _ _ => rfl)) ai (aH _)))))
 (ag (ax fY))
 aA)))
 (ag (ax (IQ (dN dG (pv 1) ai (aH _)) (tD (dN tI (ak gi (hr.mono (by decide)) rfl (aa (az aB (pv 0) (aL ir (pv 1) ai) (fun _ _ => rfl)) ae)) (pv 4) (aH _))))))))))), ?_⟩
 have zu := Paired.length pr
 have hw := R.Y4
 have hfw := R.few
 have QS : ∀ (r : List Int) (p : Nat), p < r.length → rA (r.map V.int) (p : Int) = some (V.int (r.getD p 0)) := fun r p h => bN (by rw [List.getElem?_map, Ge9 h, Gd9, Ge9 h]; rfl)
 have row : ∀ j (hj : j < S.length), ∃ a, rA us (j : Int) = some (.ref a) ∧ H a = some (.lst (S[j].map V.int)) := fun j hj => by
  obtain ⟨a, e, ha⟩ := paired_at pr j hj (by omega)
  exact ⟨a, bN (by rw [Ge9 (by omega), e]), ha⟩
 obtain ⟨a, ia, ha⟩ := row i hi
 have hm := List.getElem_mem hi
 have h1 := R.wu.len _ hm
 have h2 := R.wu.pos _ hm
 have h3 := R.one _ hm
 refine ⟨_, rfl, _, rfl, l, _, _, _, rfl, rfl, ay.of hl, ia, ?_⟩
 refine ⟨_, rfl, _, rfl, a, S[i], _, rfl, ha, by rw [h1], _, rfl, bw ?_⟩
 refine ⟨_, rfl, a, S[i], rfl, ha, by omega, ?_⟩
 refine ⟨_, rfl, _, rfl, rfl, _, rfl, ?_⟩
 rw [decide_eq_false (fun z : V.int ((La.fp S[i] : Nat) : Int) = V.int (w0 : Int) => by have := V.int.inj z; omega)]
 refine bw ⟨_, rfl, _, rfl, a, _, _, _, rfl, rfl, ay.of ha, QS S[i] _ (by omega), _, _, rfl, rfl, _, rfl, ?_⟩
 rw [decide_eq_false (show ¬ S[i].getD (La.fp S[i]) 0 < 0 by omega)]
 refine bw ⟨_, rfl, a, S[i], rfl, ha, rfl, _, rfl, ?_⟩
 rw [h3]
 refine bw ⟨_, rfl, l, _, rfl, .inl (ay.of hl), _, rfl, by omega, by omega, ?_⟩
 refine je (lo := 0) (n := ((us.length : Int)).toNat) (fun j σ H' => H' = H ∧ ∃ o5, σ = [some (.ref l), some (.int (i : Int)), some (.int (w0 : Int)), some (.ref a), some (.int ((La.fp S[i] : Nat) : Int)), o5]) ⟨rfl, none, rfl⟩ ?_ ?_
 ·rintro j σ H' hj ⟨rfl, o5, rfl⟩
  have VE : j < S.length := by omega
  obtain ⟨b, ib, hb⟩ := row j VE
  have Vf := List.getElem_mem VE
  have g1 := R.wu.len _ Vf
  refine ⟨_, rfl, _, rfl, rfl, _, rfl, cK (fun k => ?_) (fun k => bw ⟨rfl, _, rfl⟩)⟩
  have ni : j ≠ i := fun z => by
   rw [z, Int.zero_add, decide_eq_true rfl] at k
   cases k
  have hfp : La.fp S[j] ≠ La.fp S[i] := fun z => by
   rcases Nat.lt_trichotomy j i with y | y | y
   ·exact absurd z (Nat.ne_of_lt (uE.before R.wu VE hi y))
   ·exact ni y
   ·exact absurd z.symm (Nat.ne_of_lt (uE.before R.wu hi VE y))
  have hz := R.wu.other Vf hm hfp
  rw [Int.zero_add]
  refine ⟨_, rfl, _, rfl, l, _, _, _, rfl, rfl, ay.of hl, ib, _, rfl, b, _, _, _, rfl, rfl, ay.of hb, QS S[j] _ (by omega), rfl, _, rfl, ?_⟩
  rw [hz]
  exact bw ⟨rfl, _, rfl⟩
 ·rintro σ H' ⟨rfl, o5, rfl⟩
  refine ⟨_, rfl, rfl, _, rfl, cK (fun k => q) (fun k => ?_)⟩
  have Yq : i ≠ 0 := fun z => k (by rw [z]; rfl)
  obtain ⟨b, ib, hb⟩ := row (i - 1) (by omega)
  have e1 : ((i - 1 : Nat) : Int) = (i : Int) - 1 := by omega
  rw [e1] at ib
  have g1 := R.wu.len _ (List.getElem_mem (show i - 1 < S.length by omega))
  refine ⟨_, rfl, _, rfl, _, _, rfl, rfl, l, _, _, _, rfl, rfl, ay.of hl, ib, b, S[i - 1], rfl, hb, by omega, _, rfl, _, _, rfl, rfl, ?_⟩
  have eO := uE.before R.wu (show i - 1 < S.length by omega) hi (by omega)
  show Q (V.bl (decide (((La.fp S[i - 1] : Nat) : Int) < ((La.fp S[i] : Nat) : Int)))) H'
  rw [decide_eq_true (show ((La.fp S[i - 1] : Nat) : Int) < ((La.fp S[i] : Nat) : Int) by omega)]
  exact q
theorem d5 : ar ["_law_found", "_law_table", "_law_many", "_law_row", "_law_effect", "_law_at"] ["_law_found", "_law_table", "_law_many"] (ao iK) := ⟨rfl, rfl, rfl, by decide +kernel, rfl, by decide +kernel, by decide +kernel⟩
theorem vv (F : bu K "_law_stands" "_law_stands" iK f fd) (da : bb P w K mg base "_law_whole" 1 ["_law_row", "_law_many"] (pG K)) (oz : bb P w K mg base "_law_sum" 1 ["_law_row", "_law_numbers"] EC) (iR : bb P w K mg base "_law_formed" 2 ["_law_rows", "_law_at", "_law_many"] EJ) (dY : mg "isinstance" = none) (j4 : mg "list" = none) (cw : mg "range" = none) (aW : mg "len" = none) : aX P w K mg base cO 3 f fd ["_law_found", "_law_table", "_law_many"] uV := by
 refine F.ok d5 (fun vs H Q E h => ?_) (fun cu A outer s H vs Q E hr h => ?_)
 ·obtain ⟨l, lt, us, ws, S, EE, w0, rfl, _⟩ := h
  rfl
 obtain ⟨l, lt, us, ws, S, EE, w0, rfl, hl, pr, eO, pe, R, hE, VD, ho, q⟩ := h
 refine ⟨_, (ab (aV (dB (bT (aF ij rfl dY PyProof.Rows.boot_isinstance (aa (pv 0) (aa (sG rfl j4 PyProof.Rows.Boot.«list» (v := .ty "list") rfl) ae)))))
 (ag (ax fY))
 aA)
 (ab (bj PassesOwn.never rfl (aJ (pv 0)) (aK (i := 3) d5.nd rfl (Or.inl rfl))
 (ab (aV (dB (bT (ak da (hr.mono (by decide)) rfl (aa (pv 3) (aa (pv 2) ae)))))
 (ag (ax fY))
 aA)
 (ag (bj PassesOwn.never rfl (aJ (pv 1)) (aK (i := 4) d5.nd rfl (Or.inl rfl))
 (ag (aV (au dH (ak oz (hr.mono (by decide)) rfl (aa (pv 4) (aa (pv 3) ae))) ai (aH _))
 (ag (ax fY))
 aA))))))
 (ab (bj PassesOwn.never rfl (c6 rfl cw (aa (aF av rfl aW PySem.boot_len (aa (pv 0) ae)) ae)) (aK (i := 5) d5.nd rfl (Or.inl rfl))
 (ag (aV (dB (bT (ak iR (hr.mono (by decide)) rfl (aa (pv 0) (aa (pv 5) (aa (pv 2) ae))))))
 (ag (ax fY))
 aA)))
 (ag (ax fY))))), ?_⟩
 have zu := Paired.length pr
 have zw := Paired.length pe
 have hw := R.Y4
 have hfw := R.few
 refine ⟨_, rfl, _, "list", _, true, rfl, .lst hl, uy, _, rfl, bw ?_⟩
 refine ⟨_, rfl, l, rfl, ⟨_, ay.of hl⟩, ba (K := K) (a := l) (xs := us) (fun i σ H' => ah H H' ∧ ∃ o3 o4, σ = [some (.ref l), some (.ref lt), some (.int (w0 : Int)), o3, o4, none]) ⟨ah.refl _, none, none, rfl⟩ (fun i σ H' _ ⟨sm, _⟩ => ay.of (sm _ _ hl)) ?_ ?_⟩
 ·rintro i y σ H' hi ⟨sm, o3, o4, rfl⟩
  obtain ⟨qL, ey⟩ := aE hi
  have Z7 : i < S.length := by omega
  have hI := (paired_at pr i Z7 qL).same sm
  rw [ey] at hI
  have hm := List.getElem_mem Z7
  have h1 := R.wu.len _ hm
  have h2 := ho _ hm
  generalize S[i] = r at hI h1 h2
  obtain ⟨a, rfl, ha⟩ := hI
  refine ⟨_, rfl, _, rfl, a, r, _, rfl, ha, by rw [h1], _, rfl, bw ?_⟩
  refine ⟨_, rfl, lt, rfl, ⟨_, ay.of (sm _ _ eO)⟩, ba (K := K) (a := lt) (xs := ws) (fun j σ H2 => ah H' H2 ∧ ∃ o4, σ = [some (.ref l), some (.ref lt), some (.int (w0 : Int)), some (.ref a), o4, none]) ⟨ah.refl _, o4, rfl⟩ (fun j σ H2 _ ⟨s2, _⟩ => ay.of (s2 _ _ (sm _ _ eO))) ?_ ?_⟩
  ·rintro j y σ H2 hj ⟨s2, o4, rfl⟩
   obtain ⟨hju, ez⟩ := aE hj
   have Yy : j < EE.length := by omega
   have Yz := (paired_at pe j Yy hju).same (ah.trans sm s2)
   rw [ez] at Yz
   have g := hE _ (List.getElem_mem Yy)
   have h3 := h2 _ (List.getElem_mem Yy)
   generalize EE[j] = e at Yz g h3
   obtain ⟨b, rfl, hb⟩ := Yz
   refine ⟨_, rfl, _, rfl, b, a, e, r, rfl, hb, s2 _ _ ha, by omega, by omega, g.2, fun H3 s3 => ⟨rfl, _, rfl, ?_⟩⟩
   rw [show dot e r = 0 from h3]
   exact bw ⟨ah.trans s2 s3, _, rfl⟩
  ·rintro σ H2 ⟨s2, o4, rfl⟩
   exact ⟨ah.trans sm s2, _, _, rfl⟩
 rintro σ H1 ⟨s1, o3, o4, rfl⟩
 refine ⟨_, rfl, l, _, rfl, .inl (ay.of (s1 _ _ hl)), _, rfl, by omega, by omega, ?_⟩
 refine je (lo := 0) (n := ((us.length : Int)).toNat) (fun j σ H' => H' = H1 ∧ ∃ o5, σ = [some (.ref l), some (.ref lt), some (.int (w0 : Int)), o3, o4, o5]) ⟨rfl, none, rfl⟩ ?_ ?_
 ·rintro j σ H' hj ⟨rfl, o5, rfl⟩
  exact ⟨_, rfl, _, rfl, _, rfl, l, us, S, j, w0, (by rw [Int.zero_add]; rfl), s1 _ _ hl, L2.Paired.bQ pr fun _ _ z => z.same s1, R, by omega, _, rfl, bw ⟨rfl, _, rfl⟩⟩
 ·rintro σ H' ⟨rfl, o5, rfl⟩
  exact q _ s1
end
end gf
namespace gf
open PySem L2 fZ Bk
set_option maxHeartbeats 4000000
section
variable {P : Program} {w : World} {K : PySem.W.Frag} {mg : Str → Option Value} {base : Heap} {f : Addr} {fd : FuncData} {c : Cl}
theorem kb : ar ["_law_script", "_law_names", "_law_place_here", "_law_rules", "_law_book", "_law_table", "_law_turn", "_law_found", "_law_row"] ["_law_script"] (ao pJ) := ⟨rfl, rfl, rfl, by decide +kernel, rfl, by decide +kernel, by decide +kernel⟩
theorem Qp (F : bu K "law" "law" pJ f fd) (kc : bb P w K mg base "_law_sheet" 4 ["_law_script"] (zI K)) (mz : bb P w K mg base "read_book" 9 ["text"] (Ec K c)) (ke : bb P w K mg base "_law_lines" 1 ["_law_names", "_law_place_here", "_law_rules"] (uQ K)) (gQ : bb P w K mg base "_law_effects" 1 ["_law_names", "_law_rules"] (KR K))
  (oA : bb P w K mg base "standing" 7 ["book"] (zQ K c)) (iS : bb P w K mg base "_law_stands" 3 ["_law_found", "_law_table", "_law_many"] uV) (cw : mg "range" = none) (aW : mg "len" = none) : aX P w K mg base cO 10 f fd ["_law_script"] (F5 K) := by
 refine F.ok kb (fun vs H Q E h => ?_) (fun cu A outer s H vs Q E hr h => ?_)
 ·obtain ⟨a, ns, rfl, _⟩ := h
  rfl
 obtain ⟨s0, ns, rfl, hS, U8, q⟩ := h
 refine ⟨_, (ab (DF (ak kc (hr.mono (by decide)) rfl (aa (pv 0) ae)) (tF rfl (cQ (aK (i := 1) kb.nd rfl (Or.inl rfl)) (cQ (aK (i := 2) kb.nd rfl (Or.inl rfl)) (cQ (aK (i := 3) kb.nd rfl (Or.inl rfl)) oM)))))
 (ab (aw (i := 4) kb.nd rfl (Or.inl rfl) (ak mz (hr.mono (by decide)) rfl (aa (ak ke (hr.mono (by decide)) rfl (aa (pv 1) (aa (pv 2) (aa (pv 3) ae)))) ae)))
 (ab (aw (i := 5) kb.nd rfl (Or.inl rfl) (ak gQ (hr.mono (by decide)) rfl (aa (pv 1) (aa (pv 3) ae))))
 (ab (bj PassesOwn.never rfl (c6 rfl cw (aa ai ae)) (aK (i := 6) kb.nd rfl (Or.inl rfl))
 (ab (aw (i := 7) kb.nd rfl (Or.inl rfl) (ak oA (hr.mono (by decide)) rfl (aa (pv 4) ae)))
 (ab (aV (dB (bT (ak iS (hr.mono (by decide)) rfl (aa (pv 7) (aa (pv 5) (aa (aF av rfl aW PySem.boot_len (aa (pv 1) ae)) ae))))))
 (ag (ax fY))
 aA)
 (ab (bj PassesOwn.never rfl (aJ (pv 7)) (aK (i := 8) kb.nd rfl (Or.inl rfl))
 (ag (a6 (bY PySem.F.plainAttrs_list PySem.F.slot_list_append PySem.F.type_list_append aZ (pv 8) (aa (pv 6) ae)))))
 (ag (a6 (bY PySem.F.plainAttrs_list PySem.F.slot_list_append PySem.F.type_list_append aZ (pv 7) (aa (bo (aa ai ae)) ae))))))))
 (ag (ax fY)))))), ?_⟩
 refine ⟨_, rfl, s0, ns, rfl, hS, U8, fun t ln lr zs place rs us H1 s1 ht HN tX pr T => ?_⟩
 refine ⟨t, _, rfl, cP.of ht, rfl, _, _, rfl, _, _, rfl, _, _, rfl, rfl, ?_⟩
 refine ⟨_, rfl, _, rfl, _, rfl, ln, lr, zs, place, rs, us, rfl, HN, tX, pr, T, fun H2 s2 => ?_⟩
 have hfew := T.few
 have TR := T.many
 have lR : (di zs rs rs.length).length = rs.length := by unfold di; rw [Lm9, List.length_range]
 have lK : (oI zs place).length = zs.length + 1 := by
  unfold oI
  rw [List.length_append, List.length_append, Lm9, Lm9, List.length_take, List.length_drop]
  have := T.pl
  show _ + 1 + _ = _
  omega
 have lL : (cx zs place rs).length = zs.length + 1 + rs.length := by unfold cx; rw [List.length_append, Lm9, lK, lR]
 have hJ := Cj (cx zs place rs) 250 (CG T)
 refine ⟨cx zs place rs, wy zs place rs, rfl, fun e => ?_, fun l hl => MX (KQ T MY (by decide) (by decide) (by decide) (by decide) l hl), ?_, Nb T, fun bk H3 s3 B => ?_⟩
 ·rw [e] at lL
  have lL : 0 = zs.length + 1 + rs.length := lL
  omega
 ·rw [lL] at hJ
  have : (zs.length + 1 + rs.length) * (250 + 1) ≤ 14 * 251 := Nat.mul_le_mul (by omega) (by omega)
  omega
 rw [(zJ zs place rs).1, (zJ zs place rs).2] at B
 have VF := ah.trans s2 s3
 refine ⟨_, rfl, _, rfl, ln, lr, zs, rs, us, rfl, VF _ _ HN, VF _ _ tX, L2.Paired.bQ pr fun _ _ z => z.same VF, hfew, TR, fun r hr => ⟨(T.ok r hr).l1, (T.ok r hr).l2⟩, fun du H4 s4 TD => ?_⟩
 obtain ⟨ld, ws, rfl, nld, hld, pd⟩ := TD
 have YA := s4 _ _ (VF _ _ HN)
 have B4 := B.keep (Kp.same s4)
 have zd := Paired.length pd
 rw [Lm9] at zd
 have lRs : (KJ zs rs).length = rs.length := by unfold KJ; rw [Lm9, List.length_range]
 have GA : ∀ r ∈ KJ zs rs, r.put.length ≤ 4 ∧ r.take.length ≤ 4 := fun r hr => by
  unfold KJ at hr
  obtain ⟨i, hi, rfl⟩ := List.mem_map.mp hr
  have hP := jr (i := i) T.sm (uU T (List.mem_range.mp hi))
  show (ic (dh i) ((aT zs i (rowAt rs i)).map jq)).put.length ≤ _ ∧ (ic (dh i) ((aT zs i (rowAt rs i)).map jq)).take.length ≤ _
  rw [il]
  have z3 := (gC (n := 3) hP).1
  have z0 := (gC (n := 0) hP).1
  show ((eS 3 _).map bare).length ≤ _ ∧ ((eS 0 _).map bare).length ≤ _
  rw [Lm9, Lm9]
  exact ⟨by omega, by omega⟩
 have eD : uN (oI zs place) (KJ zs rs) = rs.map (nv zs.length) := (Nd T).symm
 have Qq : ∀ row ∈ rs.map (nv zs.length), row.length = zs.length := fun row kZ => by
  obtain ⟨r, _, rfl⟩ := List.mem_map.mp kZ
  unfold nv
  split <;> simp
 have TU : ∀ row ∈ rs.map (nv zs.length), row.length = zs.length ∧ ∀ i ∈ row, sm i := fun row kZ => ⟨Qq row kZ, fun i hi => by
  rw [← eD] at kZ
  obtain ⟨r, hr, rfl⟩ := List.mem_map.mp kZ
  obtain ⟨z, _, rfl⟩ := List.mem_map.mp hi
  have h := GA r hr
  exact PY (by omega) (by omega)⟩
 have VC : ∀ e ∈ rs.map (nv zs.length), La.Bd 2 e := fun e he x hx => by
  rw [← eD] at he
  obtain ⟨r, hr, rfl⟩ := List.mem_map.mp he
  obtain ⟨z, _, rfl⟩ := List.mem_map.mp hx
  have h := GA r hr
  unfold Kw
  have a1 := List.length_filter_le (fun f : Fc => decide (f.k = z)) r.put
  have a2 := List.length_filter_le (fun f : Fc => decide (f.k = z)) r.take
  omega
 have Z8 : Bk.passing (oI zs place) = zs := Gu zs place
 obtain ⟨E1, E2, E3⟩ := La.rL Qq
 have Eo := La.zF Qq
 have hSl := La.CA E1
 have VD : (rs.map (nv zs.length)).length = rs.length := Lm9 ..
 have RS : EI zs.length (La.cE (rs.map (nv zs.length)) zs.length) := ⟨E1, Eo, by omega, by omega⟩
 refine ⟨2, rfl, by decide, by decide, je (lo := 0) (n := (2 : Int).toNat) (fun i σ H' => ∃ o6 o7 o8, σ = [some (.ref s0), some (.ref ln), some (.int (place : Int)), some (.ref lr), some bk, some (.ref ld), o6, o7, o8] ∧ ah H4 H') ⟨none, none, none, rfl, ah.refl _⟩ ?_ ?_⟩
 ·rintro i σ H' hi ⟨o6, o7, o8, rfl, sm⟩
  refine ⟨_, rfl, bk, H2, oI zs place, KJ zs rs, rfl, B4.keep (Kp.same sm), by omega, by omega, GA, by rw [Z8]; exact hfew, fun u H5 s5 TE => ?_⟩
  obtain ⟨l, vs, rfl, nl, hl, pv⟩ := TE
  rw [eD, Z8] at pv
  have VG := ah.trans sm s5
  have zv := Paired.length pv
  refine ⟨_, rfl, _, rfl, _, rfl, ln, _, rfl, .inl (ay.of (VG _ _ YA)), l, ld, vs, ws, _, _, zs.length, (by rw [Lm9]; rfl), hl, L2.Paired.bQ pv fun _ _ z => z.row, VG _ _ hld, L2.Paired.bQ pd fun _ _ z => z.row.same VG, RS, TU, by omega, E2, fun H6 s6 => ⟨_, rfl, bw ?_⟩⟩
  have s46 := ah.trans VG s6
  have Vy := s6 _ _ hl
  have pv6 := L2.Paired.bQ pv fun _ _ z => z.keep (Kp.same s6)
  have TV : ∀ v ∈ vs, v ≠ .ref l := fun v hv e => by
   obtain ⟨row, _, a, ea, _, ha⟩ := eU pv hv
   rw [e] at ea
   rw [← V.ref.inj ea, hl] at ha
   have ha : vs = row.map V.int := HO.lst.inj (Option.some.inj ha)
   rw [ha] at hv
   obtain ⟨n, _, en⟩ := List.mem_map.mp hv
   rw [e] at en
   cases en
  refine ⟨_, rfl, l, rfl, ⟨_, ay.of Vy⟩, ba (K := K) (a := l) (xs := vs) (fun j σ H' => ∃ o8, σ = [some (.ref s0), some (.ref ln), some (.int (place : Int)), some (.ref lr), some bk, some (.ref ld), some (.int (0 + (i : Int))), some (.ref l), o8] ∧ ah H4 H' ∧ H' l = some (.lst vs) ∧ ∀ v ∈ vs, ∃ a xs, v = .ref a ∧ H4 a = none ∧ H' a = some (.lst xs) ∧ xs.length ≤ 5 + j)
   ⟨o8, rfl, s46, Vy, fun v hv => ?_⟩ (fun j σ H' _ ⟨_, _, _, h, _⟩ => ay.of h) ?_ ?_⟩
  ·obtain ⟨row, kZ, a, ea, na, ha⟩ := eU pv6 hv
   exact ⟨a, _, ea, sm.free na, ha, by rw [Lm9, E1.len _ kZ]; omega⟩
  ·rintro j y σ H7 hj ⟨o8, rfl, s7, VH, YB⟩
   obtain ⟨a, xs, rfl, na, ha, hx⟩ := YB y (List.mem_of_getElem? hj)
   have hy := TV _ (List.mem_of_getElem? hj)
   have Mq := (aE hj).1
   refine ⟨_, rfl, .inl ⟨rfl, _, ay.of ha⟩, _, rfl, a, _, _, rfl, rfl, ha, f9 (by omega), _, rfl, ah.aS s7 na _, ?_, fun v hv => ?_⟩
   ·rw [aq fun z => hy (by rw [z])]
    exact VH
   ·obtain ⟨b, ys, rfl, nb, hb, hy2⟩ := YB v hv
    by_cases e : b = a
    ·subst e
     exact ⟨b, _, rfl, nb, af, by rw [List.length_append]; show _ + 1 ≤ _; omega⟩
    ·exact ⟨b, ys, rfl, nb, by rw [aq e]; exact hb, by omega⟩
  ·rintro σ H7 ⟨o8, rfl, s7, VH, YB⟩
   refine ⟨_, rfl, .inl ⟨rfl, _, ay.of VH⟩, (by show 1 ≤ sizeLine; decide), fun p hp => ?_⟩
   have sp := aj hp (.lst [V.int 3])
   exact ⟨l, _, _, rfl, rfl, sp _ _ VH, f9 (by omega), _, _, _, rfl, ah.aS (ah.trans s7 sp) (sm.free nl) _⟩
 ·rintro σ H' _
  exact q _
end
end gf
namespace gf
open PySem L2 fZ Bk
open PySem.W (nsIn findIn keepIn mg_of isFn mroIn)
set_option maxHeartbeats 4000000
theorem all_mk {l : PySem.W.OpenLaw} {w : World} {K : PySem.W.Frag} {h : Heap} {mg : Str → Option Value} {fa d6 cb cm d7 Z9 f_1 f_2 f_3 f_4 f_5 f_6 f_7 f_8 f_9 TX TY TZ T4 T5 T6 T8 T9 Ua Ub Uc Ud Ue Ug Uh Ui Uj Uk Ul Um Uo Up Uq Ur Us Ut Uu Uv Uw Ux Uy Uz UA UB UC UD UE UG UH UI UJ UK UL UM UN UO Qr fj iT gT iU : Addr} (X : K.In h) (G : h.Ns mainGlobals mg) (hfa : mg "law" = some (.ref fa))
  {vw HQ so E7 Lq E8 vx HR vy HS AB wR CV Lr pN CW CY AD AE CZ C0 E9 AF C6 wU wV AG AH wW AI C7 sq Ls HU C8 wX C9 AJ AK AL vz wY HV HW Nx HX pO vA HY wZ Fb AM Fd Dc w4 w5 w6 w9 vB xa : FuncData} {Qs Lu : Option Addr} {Qt : Array (Option Value)} {Qu Lv Lw Lx Fe Ly : Value}
  {AO AQ yA yB pP mB : Tok}
  {kg kh vC : Addr}
  {vD vE vF vG vH vI vJ Ff Fg Fh Fi Fj : Tok}
  {nG nH yC : Nat}
  {xb xc HZ : Array (Option Value)}
  (AR : nsIn K mainGlobals "Same" = some (some (.ref d6)))
  (qS : nsIn K mainGlobals "Unlike" = some (some (.ref cb)))
  (AS : nsIn K mainGlobals "Rule" = some (some (.ref cm)))
  (AU : nsIn K mainGlobals "Book" = some (some (.ref d7)))
  (gU : nsIn K mainGlobals "is_name_sign" = some (some (.ref Z9)))
  (qT : nsIn K mainGlobals "is_name" = some (some (.ref f_1)))
  (fW : nsIn K mainGlobals "is_small_word" = some (some (.ref f_2)))
  (oB : nsIn K mainGlobals "name_end" = some (some (.ref f_3)))
  (vK : nsIn K mainGlobals "pieces" = some (some (.ref f_4)))
  (oC : nsIn K mainGlobals "piece_at" = some (some (.ref f_5)))
  (gW : nsIn K mainGlobals "arguments_at" = some (some (.ref f_6)))
  (qU : nsIn K mainGlobals "fact_at" = some (some (.ref f_7)))
  (gX : nsIn K mainGlobals "row_of_facts" = some (some (.ref f_8)))
  (qV : nsIn K mainGlobals "is_told" = some (some (.ref f_9)))
  (ki : nsIn K mainGlobals "told_lines" = some (some (.ref TX)))
  (iV : nsIn K mainGlobals "line_pieces" = some (some (.ref TY)))
  (mC : nsIn K mainGlobals "read_kind" = some (some (.ref TZ)))
  (vL : nsIn K mainGlobals "parted" = some (some (.ref T4)))
  (d8 : nsIn K mainGlobals "check_two_names" = some (some (.ref T5)))
  (mD : nsIn K mainGlobals "read_look" = some (some (.ref T6)))
  (mE : nsIn K mainGlobals "read_pair" = some (some (.ref T8)))
  (kj : nsIn K mainGlobals "read_looks" = some (some (.ref T9)))
  (km : nsIn K mainGlobals "read_pairs" = some (some (.ref Ua)))
  (mF : nsIn K mainGlobals "read_part" = some (some (.ref Ub)))
  (mG : nsIn K mainGlobals "read_rule" = some (some (.ref Uc)))
  (oE : nsIn K mainGlobals "is_great" = some (some (.ref Ud)))
  (kn : nsIn K mainGlobals "open_names" = some (some (.ref Ue)))
  (mH : nsIn K mainGlobals "hear_line" = some (some (.ref Ug)))
  (iW : nsIn K mainGlobals "check_facts" = some (some (.ref Uh)))
  (iX : nsIn K mainGlobals "check_taken" = some (some (.ref Ui)))
  (ko : nsIn K mainGlobals "check_call" = some (some (.ref Uj)))
  (kq : nsIn K mainGlobals "said_names" = some (some (.ref Uk)))
  (iY : nsIn K mainGlobals "check_names" = some (some (.ref Ul)))
  (kr : nsIn K mainGlobals "whole_book" = some (some (.ref Um)))
  (mI : nsIn K mainGlobals "read_book" = some (some (.ref Uo)))
  (fX : nsIn K mainGlobals "passing_kinds" = some (some (.ref Up)))
  (vM : nsIn K mainGlobals "effect" = some (some (.ref Uq)))
  (qW : nsIn K mainGlobals "effects" = some (some (.ref Ur)))
  (mJ : nsIn K mainGlobals "_law_cell" = some (some (.ref Us)))
  (iZ : nsIn K mainGlobals "_law_digits" = some (some (.ref Ut)))
  (mK : nsIn K mainGlobals "_law_name" = some (some (.ref Uu)))
  (ku : nsIn K mainGlobals "_law_whole" = some (some (.ref Uv)))
  (kx : nsIn K mainGlobals "_law_sheet" = some (some (.ref Uw)))
  (ky : nsIn K mainGlobals "_law_lines" = some (some (.ref Ux)))
  (gY : nsIn K mainGlobals "_law_effects" = some (some (.ref Uy)))
  (i6 : nsIn K mainGlobals "first_place" = some (some (.ref Uz)))
  (qX : nsIn K mainGlobals "divisor" = some (some (.ref UA)))
  (qY : nsIn K mainGlobals "slimmed" = some (some (.ref UB)))
  (AV : nsIn K mainGlobals "mixed" = some (some (.ref UC)))
  (qZ : nsIn K mainGlobals "cleared" = some (some (.ref UD)))
  (d9 : nsIn K mainGlobals "without_noughts" = some (some (.ref UE)))
  (gZ : nsIn K mainGlobals "above_nought" = some (some (.ref UG)))
  (q0 : nsIn K mainGlobals "reduced" = some (some (.ref UH)))
  (i7 : nsIn K mainGlobals "staying_row" = some (some (.ref UI)))
  (oF : nsIn K mainGlobals "standing" = some (some (.ref UJ)))
  (kz : nsIn K mainGlobals "_law_place" = some (some (.ref UK)))
  (oG : nsIn K mainGlobals "_law_sum" = some (some (.ref UL)))
  (mO : nsIn K mainGlobals "_law_part" = some (some (.ref UM)))
  (i8 : nsIn K mainGlobals "_law_formed" = some (some (.ref UN)))
  (i9 : nsIn K mainGlobals "_law_stands" = some (some (.ref UO)))
  (GB : nsIn K mainGlobals "law" = some (some (.ref Qr)))
  (kA : findIn K (.ref d6) "__init__" = some (some (.ref fj)))
  (g4 : findIn K (.ref cb) "__init__" = some (some (.ref fj)))
  (kB : findIn K (.ref cm) "__init__" = some (some (.ref iT)))
  (ja : findIn K (.ref cm) "calls" = some (some (.ref gT)))
  (kC : findIn K (.ref d7) "__init__" = some (some (.ref iU)))
  (fm : isFn K (.ref fj) = true)
  (jb : isFn K (.ref iT) = true)
  (g5 : isFn K (.ref gT) = true)
  (jc : isFn K (.ref iU) = true)
  (cV : bu K "is_name_sign" "is_name_sign" gE Z9 vw)
  (js : bu K "is_name" "is_name" qD f_1 HQ)
  (cG : bu K "is_small_word" "is_small_word" fU f_2 so)
  (g6 : bu K "name_end" "name_end" oi f_3 E7)
  (mP : bu K "pieces" "pieces" uX f_4 Lq)
  (g7 : bu K "piece_at" "piece_at" oj f_5 E8)
  (cW : bu K "arguments_at" "arguments_at" gG f_6 vx)
  (jt : bu K "fact_at" "fact_at" qE f_7 HR)
  (cX : bu K "row_of_facts" "row_of_facts" gF f_8 vy)
  (ju : bu K "is_told" "is_told" qF f_9 HS)
  (ef : bu K "told_lines" "told_lines" jP TX AB)
  (dm : bu K "line_pieces" "line_pieces" iG TY wR)
  (fF : bu K "read_kind" "read_kind" lN TZ CV)
  (mQ : bu K "parted" "parted" uY T4 Lr)
  (cf : bu K "check_two_names" "check_two_names" dW T5 pN)
  (fG : bu K "read_look" "read_look" lQ T6 CW)
  (fH : bu K "read_pair" "read_pair" lS T8 CY)
  (ej : bu K "read_looks" "read_looks" jQ T9 AD)
  (eo : bu K "read_pairs" "read_pairs" jR Ua AE)
  (fJ : bu K "read_part" "read_part" lP Ub CZ)
  (fK : bu K "read_rule" "read_rule" lO Uc C0)
  (g8 : bu K "is_great" "is_great" oh Ud E9)
  (eB : bu K "open_names" "open_names" jT Ue AF)
  (fL : bu K "hear_line" "hear_line" lW Ug C6)
  (dn : bu K "check_facts" "check_facts" iE Uh wU)
  (dq : bu K "check_taken" "check_taken" iF Ui wV)
  (eC : bu K "check_call" "check_call" jV Uj AG)
  (eE : bu K "said_names" "said_names" jW Uk AH)
  (dt : bu K "check_names" "check_names" iH Ul wW)
  (eF : bu K "whole_book" "whole_book" jU Um AI)
  (fM : bu K "read_book" "read_book" lV Uo C7)
  (cH : bu K "passing_kinds" "passing_kinds" fT Up sq)
  (mS : bu K "effect" "effect" uW Uq Ls)
  (jv : bu K "effects" "effects" qB Ur HU)
  (fN : bu K "_law_cell" "_law_cell" lX Us C8)
  (dv : bu K "_law_digits" "_law_digits" iI Ut wX)
  (fO : bu K "_law_name" "_law_name" lY Uu C9)
  (eG : bu K "_law_whole" "_law_whole" jZ Uv AJ)
  (eI : bu K "_law_sheet" "_law_sheet" jX Uw AK)
  (eJ : bu K "_law_lines" "_law_lines" jY Ux AL)
  (cY : bu K "_law_effects" "_law_effects" gH Uy vz)
  (dw : bu K "first_place" "first_place" iC Uz wY)
  (jw : bu K "divisor" "divisor" qy UA HV)
  (jx : bu K "slimmed" "slimmed" qz UB HW)
  (pQ : bu K "mixed" "mixed" zT UC Nx)
  (jy : bu K "cleared" "cleared" qA UD HX)
  (cg : bu K "without_noughts" "without_noughts" dU UE pO)
  (cZ : bu K "above_nought" "above_nought" gD UG vA)
  (jz : bu K "reduced" "reduced" qC UH HY)
  (dy : bu K "staying_row" "staying_row" iD UI wZ)
  (g9 : bu K "standing" "standing" og UJ Fb)
  (eM : bu K "_law_place" "_law_place" j0 UK AM)
  (hU : bu K "_law_sum" "_law_sum" om UL Fd)
  (fP : bu K "_law_part" "_law_part" lZ UM Dc)
  (dz : bu K "_law_formed" "_law_formed" iJ UN w4)
  (dA : bu K "_law_stands" "_law_stands" iK UO w5)
  (Lz : K.lookup Qr = some ⟨Qu, Qs, .func (PySem.W.fnOf "law" "law" (m4 pJ) (jD pJ) (ao pJ) .none Lv Lw Lx Lu Fe Ly), Qt⟩)
  (LC : PySem.W.codeIn K Fe "law" = true)
  (LD : keepIn K (.ref Qr) = true)
  (fo : bu K "__init__" "Look.__init__" lM fj w6)
  (fq : bu K "__init__" "Rule.__init__" lT iT w9)
  (c4 : bu K "calls" "Rule.calls" jS gT vB)
  (ft : bu K "__init__" "Book.__init__" lU iU xa)
  (AW : PySem.W.plainGet K d6 Str.empty = true)
  (AX : PySem.W.hasDictIn K d6 = true)
  (AY : PySem.W.plainOver K d6 = true)
  (AZ : findIn K (.ref d6) "__setattr__" = some (some (.builtin "object.__setattr__")))
  (A0 : PySem.W.makesIn K d6 = true)
  (A1 : keepIn K (.ref d6) = true)
  (mT : findIn K (.ref d6) "left" = some none)
  (kD : findIn K (.ref d6) "right" = some none)
  (GC : findIn K (.ref d6) "__class__" = some (some (.builtin "object.__class__")))
  (GD : mroIn K d6 (.type "object") = some true)
  (q5 : PySem.W.plainGet K cb Str.empty = true)
  (ra : PySem.W.hasDictIn K cb = true)
  (rb : PySem.W.plainOver K cb = true)
  (rf : findIn K (.ref cb) "__setattr__" = some (some (.builtin "object.__setattr__")))
  (rg : PySem.W.makesIn K cb = true)
  (rh : keepIn K (.ref cb) = true)
  (jd : findIn K (.ref cb) "left" = some none)
  (hV : findIn K (.ref cb) "right" = some none)
  (yD : findIn K (.ref cb) "__class__" = some (some (.builtin "object.__class__")))
  (yE : mroIn K cb (.type "object") = some true)
  (A2 : PySem.W.plainGet K cm Str.empty = true)
  (A3 : PySem.W.hasDictIn K cm = true)
  (A4 : PySem.W.plainOver K cm = true)
  (A5 : findIn K (.ref cm) "__setattr__" = some (some (.builtin "object.__setattr__")))
  (A6 : PySem.W.makesIn K cm = true)
  (A7 : keepIn K (.ref cm) = true)
  (kE : findIn K (.ref cm) "title" = some none)
  (kF : findIn K (.ref cm) "taken" = some none)
  (mU : findIn K (.ref cm) "kept" = some none)
  (kG : findIn K (.ref cm) "looks" = some none)
  (kH : findIn K (.ref cm) "given" = some none)
  (mV : findIn K (.ref cm) "told" = some none)
  (kI : findIn K (.ref cm) "names" = some none)
  (GF : findIn K (.ref cm) "__class__" = some (some (.builtin "object.__class__")))
  (GG : mroIn K cm (.type "object") = some true)
  (A8 : PySem.W.plainGet K d7 Str.empty = true)
  (A9 : PySem.W.hasDictIn K d7 = true)
  (Ba : PySem.W.plainOver K d7 = true)
  (Bb : findIn K (.ref d7) "__setattr__" = some (some (.builtin "object.__setattr__")))
  (Bc : PySem.W.makesIn K d7 = true)
  (Be : keepIn K (.ref d7) = true)
  (kJ : findIn K (.ref d7) "kinds" = some none)
  (kK : findIn K (.ref d7) "rules" = some none)
  (GH : findIn K (.ref d7) "__class__" = some (some (.builtin "object.__class__")))
  (GI : mroIn K d7 (.type "object") = some true)
  (hn : PySem.W.specialIn K (.builtin "object.__class__") "__get__" = some (some (.builtin "getset_descriptor.__get__")))
  (Rm : PySem.W.takesIn K (.builtin "object.__class__") = some true)
  (Bf : nsIn K mainGlobals "GREAT" = some (some (.str qi AO)))
  (Bg : nsIn K mainGlobals "SMALL" = some (some (.str iz AQ)))
  (rj : nsIn K mainGlobals "FIGURES" = some (some (.str MG yA)))
  (rl : nsIn K mainGlobals "LONGEST" = some (some (.int 12 yB)))
  (kL : nsIn K mainGlobals "LINE_MARKS" = some (some (.str Cb pP)))
  (mW : nsIn K mainGlobals "RULE_WORD" = some (some (.str (S gw) mB)))
  (LF : nsIn K mainGlobals "abs" = some none)
  (LG : nsIn K mainGlobals "all" = some none)
  (Fl : nsIn K mainGlobals "bool" = some none)
  (Fm : nsIn K mainGlobals "dict" = some none)
  (mX : nsIn K mainGlobals "enumerate" = some none)
  (LH : nsIn K mainGlobals "int" = some none)
  (kM : nsIn K mainGlobals "isinstance" = some none)
  (LI : nsIn K mainGlobals "len" = some none)
  (Fn : nsIn K mainGlobals "list" = some none)
  (LJ : nsIn K mainGlobals "min" = some none)
  (Bh : nsIn K mainGlobals "range" = some none)
  (oH : nsIn K mainGlobals "reversed" = some none)
  (LK : nsIn K mainGlobals "str" = some none)
  (Bi : nsIn K mainGlobals "tuple" = some none)
  (LM : nsIn K mainGlobals "zip" = some none)
  (kN : PySem.W.nsIn K mainGlobals "KIND_WORDS" = some (some (.ref kg)))
  (kO : K.lookup kg = some ⟨.type "tuple", none, .seq #[Value.str "passing" vD, Value.str "lasting" vE] nG, xb⟩)
  (kP : PySem.W.nsIn K mainGlobals "PART_WORDS" = some (some (.ref kh)))
  (gj : K.lookup kh = some ⟨.type "tuple", none, .seq #[Value.str "take" vF, Value.str "keep" vG, Value.str "look" vH, Value.str "put" vI, Value.str "tell" vJ] nH, xc⟩)
  (vN : PySem.W.nsIn K mainGlobals "COUNTS" = some (some (.ref vC)))
  (vO : K.lookup vC = some ⟨.type "tuple", none, .seq #[Value.str "0" Ff, Value.str "1" Fg, Value.str "2" Fh, Value.str "3" Fi, Value.str "4" Fj] yC, HZ⟩)
  : ∃ fd : FuncData, (∀ (s : Shared) (v : Value), BindsTo s fd ⟨[v], []⟩ [("_law_script", v)]) ∧ ∀ base : Heap, K.In base → base.Ns mainGlobals mg → aX l.prog w K mg base cO 10 fa fd ["_law_script"] (F5 K) := by
 have e := hfa.symm.trans (mg_of X G GB)
 cases e
 have vP := cV.binds (ps := ["sign"]) fun _ _ _ _ _ _ us hl => match us, hl with | [_], _ => rfl
 have vQ := mg_of X G gU
 have Ia := js.binds (ps := ["text"]) fun _ _ _ _ _ _ us hl => match us, hl with | [_], _ => rfl
 have Ib := mg_of X G qT
 have sr := cG.binds (ps := ["text"]) fun _ _ _ _ _ _ us hl => match us, hl with | [_], _ => rfl
 have su := mg_of X G fW
 have Fp := g6.binds (ps := ["text", "start"]) fun _ _ _ _ _ _ us hl => match us, hl with | [_, _], _ => rfl
 have Fq := mg_of X G oB
 have LN := mP.binds (ps := ["text", "marks"]) fun _ _ _ _ _ _ us hl => match us, hl with | [_, _], _ => rfl
 have LO := mg_of X G vK
 have Fs := g7.binds (ps := ["found", "place"]) fun _ _ _ _ _ _ us hl => match us, hl with | [_, _], _ => rfl
 have Ft := mg_of X G oC
 have vR := cW.binds (ps := ["found", "place"]) fun _ _ _ _ _ _ us hl => match us, hl with | [_, _], _ => rfl
 have vS := mg_of X G gW
 have Ic := jt.binds (ps := ["found", "place"]) fun _ _ _ _ _ _ us hl => match us, hl with | [_, _], _ => rfl
 have Ie := mg_of X G qU
 have vT := cX.binds (ps := ["found"]) fun _ _ _ _ _ _ us hl => match us, hl with | [_], _ => rfl
 have vU := mg_of X G gX
 have Ig := ju.binds (ps := ["line"]) fun _ _ _ _ _ _ us hl => match us, hl with | [_], _ => rfl
 have Ih := mg_of X G qV
 have Bj := ef.binds (ps := ["text"]) fun _ _ _ _ _ _ us hl => match us, hl with | [_], _ => rfl
 have Bl := mg_of X G ki
 have xf := dm.binds (ps := ["line"]) fun _ _ _ _ _ _ us hl => match us, hl with | [_], _ => rfl
 have xg := mg_of X G iV
 have Dd := fF.binds (ps := ["found"]) fun _ _ _ _ _ _ us hl => match us, hl with | [_], _ => rfl
 have De := mg_of X G mC
 have LP := mQ.binds (ps := ["found", "mark"]) fun _ _ _ _ _ _ us hl => match us, hl with | [_, _], _ => rfl
 have LQ := mg_of X G vL
 have pR := cf.binds (ps := ["found"]) fun _ _ _ _ _ _ us hl => match us, hl with | [_], _ => rfl
 have pT := mg_of X G d8
 have Df := fG.binds (ps := ["found"]) fun _ _ _ _ _ _ us hl => match us, hl with | [_], _ => rfl
 have Dg := mg_of X G mD
 have Dh := fH.binds (ps := ["found"]) fun _ _ _ _ _ _ us hl => match us, hl with | [_], _ => rfl
 have Di := mg_of X G mE
 have Bm := ej.binds (ps := ["found"]) fun _ _ _ _ _ _ us hl => match us, hl with | [_], _ => rfl
 have Bn := mg_of X G kj
 have Bo := eo.binds (ps := ["found"]) fun _ _ _ _ _ _ us hl => match us, hl with | [_], _ => rfl
 have Bp := mg_of X G km
 have Dj := fJ.binds (ps := ["word", "found"]) fun _ _ _ _ _ _ us hl => match us, hl with | [_, _], _ => rfl
 have Dk := mg_of X G mF
 have Dl := fK.binds (ps := ["found"]) fun _ _ _ _ _ _ us hl => match us, hl with | [_], _ => rfl
 have Dm := mg_of X G mG
 have Fu := g8.binds (ps := ["name"]) fun _ _ _ _ _ _ us hl => match us, hl with | [_], _ => rfl
 have Fv := mg_of X G oE
 have Bq := eB.binds (ps := ["facts"]) fun _ _ _ _ _ _ us hl => match us, hl with | [_], _ => rfl
 have Br := mg_of X G kn
 have Dn := fL.binds (ps := ["kinds", "rules", "line"]) fun _ _ _ _ _ _ us hl => match us, hl with | [_, _, _], _ => rfl
 have Dp := mg_of X G mH
 have xh := dn.binds (ps := ["kinds", "facts"]) fun _ _ _ _ _ _ us hl => match us, hl with | [_, _], _ => rfl
 have xi := mg_of X G iW
 have xj := dq.binds (ps := ["lasts", "taken"]) fun _ _ _ _ _ _ us hl => match us, hl with | [_, _], _ => rfl
 have xk := mg_of X G iX
 have Bs := eC.binds (ps := ["lasts", "rule"]) fun _ _ _ _ _ _ us hl => match us, hl with | [_, _], _ => rfl
 have Bt := mg_of X G ko
 have Bu := eE.binds (ps := ["rule"]) fun _ _ _ _ _ _ us hl => match us, hl with | [_], _ => rfl
 have Bv := mg_of X G kq
 have xl := dt.binds (ps := ["rule"]) fun _ _ _ _ _ _ us hl => match us, hl with | [_], _ => rfl
 have xm := mg_of X G iY
 have Bw := eF.binds (ps := ["kinds", "rules"]) fun _ _ _ _ _ _ us hl => match us, hl with | [_, _], _ => rfl
 have Bx := mg_of X G kr
 have Dq := fM.binds (ps := ["text"]) fun _ _ _ _ _ _ us hl => match us, hl with | [_], _ => rfl
 have Dr := mg_of X G mI
 have sv := cH.binds (ps := ["book"]) fun _ _ _ _ _ _ us hl => match us, hl with | [_], _ => rfl
 have sx := mg_of X G fX
 have LR := mS.binds (ps := ["rule", "kind"]) fun _ _ _ _ _ _ us hl => match us, hl with | [_, _], _ => rfl
 have LS := mg_of X G vM
 have Ii := jv.binds (ps := ["book"]) fun _ _ _ _ _ _ us hl => match us, hl with | [_], _ => rfl
 have Ij := mg_of X G qW
 have Ds := fN.binds (ps := ["_law_script", "_law_k"]) fun _ _ _ _ _ _ us hl => match us, hl with | [_, _], _ => rfl
 have Du := mg_of X G mJ
 have xo := dv.binds (ps := ["_law_cell_here", "_law_sizes"]) fun _ _ _ _ _ _ us hl => match us, hl with | [_, _], _ => rfl
 have xq := mg_of X G iZ
 have Dv := fO.binds (ps := ["_law_style", "_law_k"]) fun _ _ _ _ _ _ us hl => match us, hl with | [_, _], _ => rfl
 have Dw := mg_of X G mK
 have By := eG.binds (ps := ["_law_row", "_law_many"]) fun _ _ _ _ _ _ us hl => match us, hl with | [_, _], _ => rfl
 have Bz := mg_of X G ku
 have BA := eI.binds (ps := ["_law_script"]) fun _ _ _ _ _ _ us hl => match us, hl with | [_], _ => rfl
 have BB := mg_of X G kx
 have BC := eJ.binds (ps := ["_law_names", "_law_place_here", "_law_rules"]) fun _ _ _ _ _ _ us hl => match us, hl with | [_, _, _], _ => rfl
 have BD := mg_of X G ky
 have vV := cY.binds (ps := ["_law_names", "_law_rules"]) fun _ _ _ _ _ _ us hl => match us, hl with | [_, _], _ => rfl
 have vW := mg_of X G gY
 have xr := dw.binds (ps := ["row"]) fun _ _ _ _ _ _ us hl => match us, hl with | [_], _ => rfl
 have xt := mg_of X G i6
 have Ik := jw.binds (ps := ["row"]) fun _ _ _ _ _ _ us hl => match us, hl with | [_], _ => rfl
 have Il := mg_of X G qX
 have Im := jx.binds (ps := ["row"]) fun _ _ _ _ _ _ us hl => match us, hl with | [_], _ => rfl
 have Io := mg_of X G qY
 have Ny := pQ.binds (ps := ["times", "row", "other_times", "other"]) fun _ _ _ _ _ _ us hl => match us, hl with | [_, _, _, _], _ => rfl
 have Nz := mg_of X G AV
 have Ip := jy.binds (ps := ["row", "other", "place"]) fun _ _ _ _ _ _ us hl => match us, hl with | [_, _, _], _ => rfl
 have Iq := mg_of X G qZ
 have pU := cg.binds (ps := ["rows"]) fun _ _ _ _ _ _ us hl => match us, hl with | [_], _ => rfl
 have pV := mg_of X G d9
 have vX := cZ.binds (ps := ["row"]) fun _ _ _ _ _ _ us hl => match us, hl with | [_], _ => rfl
 have vY := mg_of X G gZ
 have Ir := jz.binds (ps := ["rows"]) fun _ _ _ _ _ _ us hl => match us, hl with | [_], _ => rfl
 have Iu := mg_of X G q0
 have xu := dy.binds (ps := ["rows", "free", "width"]) fun _ _ _ _ _ _ us hl => match us, hl with | [_, _, _], _ => rfl
 have xw := mg_of X G i7
 have Fw := g9.binds (ps := ["book"]) fun _ _ _ _ _ _ us hl => match us, hl with | [_], _ => rfl
 have Fx := mg_of X G oF
 have BE := eM.binds (ps := ["_law_row"]) fun _ _ _ _ _ _ us hl => match us, hl with | [_], _ => rfl
 have BF := mg_of X G kz
 have Fy := hU.binds (ps := ["_law_row", "_law_numbers"]) fun _ _ _ _ _ _ us hl => match us, hl with | [_, _], _ => rfl
 have Fz := mg_of X G oG
 have Dx := fP.binds (ps := ["_law_row"]) fun _ _ _ _ _ _ us hl => match us, hl with | [_], _ => rfl
 have Dy := mg_of X G mO
 have xx := dz.binds (ps := ["_law_rows", "_law_at", "_law_many"]) fun _ _ _ _ _ _ us hl => match us, hl with | [_, _, _], _ => rfl
 have xy := mg_of X G i8
 have xA := dA.binds (ps := ["_law_found", "_law_table", "_law_many"]) fun _ _ _ _ _ _ us hl => match us, hl with | [_, _, _], _ => rfl
 have xB := mg_of X G i9
 have UP := aC (st := pJ) Lz LC LD
 have aaj := mg_of X G GB
 have nJ := fo.binds (ps := ["self", "left", "right"]) fun _ _ _ _ _ _ us hl => match us, hl with | [_, _, _], _ => rfl
 have xC := fq.binds (ps := ["self", "title", "parts"]) fun _ _ _ _ _ _ us hl => match us, hl with | [_, _, _], _ => rfl
 have vZ := c4.binds (ps := ["self"]) fun _ _ _ _ _ _ us hl => match us, hl with | [_], _ => rfl
 have xD := ft.binds (ps := ["self", "kinds", "rules"]) fun _ _ _ _ _ _ us hl => match us, hl with | [_, _, _], _ => rfl
 have NA := mg_of X G AR
 have Iv := mg_of X G qS
 have NB := mg_of X G AS
 have NC := mg_of X G AU
 have Oi := PySem.W.mg_none_of X G LF
 have UQ := PySem.W.mg_none_of X G LG
 have Qv := PySem.W.mg_none_of X G Fl
 have Qw := PySem.W.mg_none_of X G Fm
 have mY := PySem.W.mg_none_of X G mX
 have Oj := PySem.W.mg_none_of X G LH
 have pW := PySem.W.mg_none_of X G kM
 have dc := PySem.W.mg_none_of X G LI
 have v8 := PySem.W.mg_none_of X G Fn
 have UR := PySem.W.mg_none_of X G LJ
 have iq := PySem.W.mg_none_of X G Bh
 have FA := PySem.W.mg_none_of X G oH
 have US := PySem.W.mg_none_of X G LK
 have ND := PySem.W.mg_none_of X G Bi
 have UT := PySem.W.mg_none_of X G LM
 have GJ := mg_of X G Bf
 have GK := mg_of X G Bg
 have Iw := mg_of X G rj
 have Iy := mg_of X G rl
 have BG := mg_of X G kL
 have rQ := mg_of X G mW
 refine ⟨PySem.W.fnOf "law" "law" (m4 pJ) (jD pJ) (ao pJ) .none Lv Lw Lx Lu Fe Ly, fun s v => .of_eq rfl, fun base _ _ => ?_⟩
 let cc : Cl := ⟨d6, cb, cm, d7⟩
 have LU : Cc K cc.same := ⟨⟨AW, AX, AY, AZ⟩, mT, kD⟩
 have Dz : Cc K cc.unlike := ⟨⟨q5, ra, rb, rf⟩, jd, hV⟩
 have kQ : y6 K cc.rule := ⟨⟨A2, A3, A4, A5⟩, kE, kF, mU, kG, kH, mV, kI⟩
 have FC : ML K cc.book := ⟨⟨A8, A9, Ba, Bb⟩, kJ, kK⟩
 have BH := PySem.W.mg_of X G kN
 have xE : ∀ H : Hp, cP K H kg [tx [112, 97, 115, 115, 105, 110, 103], tx [108, 97, 115, 116, 105, 110, 103]] := fun H => .inr ⟨_, _, nG, kO, rfl, rfl, (by show 2 ≤ sizeLine; decide), .cons (fR (by decide +kernel)) (.cons (fR (by decide +kernel)) (.nil))⟩
 have BI := PySem.W.mg_of X G kP
 have xF : ∀ H : Hp, cP K H kh [tx [116, 97, 107, 101], tx [107, 101, 101, 112], tx [108, 111, 111, 107], tx [112, 117, 116], tx [116, 101, 108, 108]] := fun H => .inr ⟨_, _, nH, gj, rfl, rfl, (by show 5 ≤ sizeLine; decide), .cons (fR (by decide +kernel)) (.cons (fR (by decide +kernel)) (.cons (fR (by decide +kernel)) (.cons (fR (by decide +kernel)) (.cons (fR (by decide +kernel)) (.nil)))))⟩
 have LV := PySem.W.mg_of X G vN
 have Iz : ∀ H : Hp, cP K H vC [tx [48], tx [49], tx [50], tx [51], tx [52]] := fun H => .inr ⟨_, _, yC, vO, rfl, rfl, (by show 5 ≤ sizeLine; decide), .cons (fR (by decide +kernel)) (.cons (fR (by decide +kernel)) (.cons (fR (by decide +kernel)) (.cons (fR (by decide +kernel)) (.cons (fR (by decide +kernel)) (.nil)))))⟩
 have cy : bb l.prog w K mg base "is_name_sign" 1 ["sign"] yW := ⟨_, _, sf cV GK ⟨AQ, rfl⟩ GJ ⟨AO, rfl⟩ Iw ⟨yA, rfl⟩, vP, cV.2, vQ⟩
 have cI : bb l.prog w K mg base "is_name" 2 ["text"] (wq fC) := ⟨_, _, EL js cy dc UQ Iy ⟨yB, rfl⟩, Ia, js.2, Ib⟩
 have bf : bb l.prog w K mg base "is_small_word" 3 ["text"] (wq iA) := ⟨_, _, qH cG cI GK ⟨AQ, rfl⟩, sr, cG.2, su⟩
 have oo : bb l.prog w K mg base "name_end" 2 ["text", "start"] JA := ⟨_, _, CL g6 cy dc, Fp, g6.2, Fq⟩
 have u6 : bb l.prog w K mg base "pieces" 3 ["text", "marks"] t8 := ⟨_, _, HD mP oo dc, LN, mP.2, LO⟩
 have bq : bb l.prog w K mg base "piece_at" 1 ["found", "place"] oX := ⟨_, _, CN g7 dc, Fs, g7.2, Ft⟩
 have gJ : bb l.prog w K mg base "arguments_at" 3 ["found", "place"] DX := ⟨_, _, sg cW bq cI ND, vR, cW.2, vS⟩
 have qI : bb l.prog w K mg base "fact_at" 4 ["found", "place"] t9 := ⟨_, _, EM jt bq bf gJ, Ic, jt.2, Ie⟩
 have gK : bb l.prog w K mg base "row_of_facts" 5 ["found"] (JC K) := ⟨_, _, sh cX qI dc, vT, cX.2, vU⟩
 have qJ : bb l.prog w K mg base "is_told" 1 ["line"] DZ := ⟨_, _, EN ju, Ig, ju.2, Ih⟩
 have j8 : bb l.prog w K mg base "told_lines" 2 ["text"] yY := ⟨_, _, wA ef qJ, Bj, ef.2, Bl⟩
 have iL : bb l.prog w K mg base "line_pieces" 4 ["line"] D0 := ⟨_, _, u5 dm u6 BG ⟨pP, rfl⟩, xf, dm.2, xg⟩
 have mn : bb l.prog w K mg base "read_kind" 4 ["found"] (D1 K) := ⟨_, _, Aa fF bf dc Oj BH xE LV Iz, Dd, fF.2, De⟩
 have dX : bb l.prog w K mg base "parted" 1 ["found", "mark"] ly := ⟨_, _, HF mQ, LP, mQ.2, LQ⟩
 have bJ : bb l.prog w K mg base "check_two_names" 3 ["found"] F2 := ⟨_, _, ow cf cI dc, pR, cf.2, pT⟩
 have nK : aX l.prog w K mg base cO 1 _ _ ["self", "left", "right"] (jJ K) := Af fo
 have EO : Mt l.prog w K mg base "Same" d6 1 ["self", "left", "right"] (jJ K) := ⟨_, _, ⟨A0, kA, fm, A1⟩, nK, nJ, NA⟩
 have u9 : Mt l.prog w K mg base "Unlike" cb 1 ["self", "left", "right"] (jJ K) := ⟨_, _, ⟨rg, g4, fm, rh⟩, nK, nJ, Iv⟩
 have l9 : bb l.prog w K mg base "read_look" 4 ["found"] (D4 cc) := ⟨_, _, Ah (c := cc) fG bJ LU Dz EO u9, Df, fG.2, Dg⟩
 have me : bb l.prog w K mg base "read_pair" 4 ["found"] (D5 K) := ⟨_, _, Aj fH bJ, Dh, fH.2, Di⟩
 have j1 : bb l.prog w K mg base "read_looks" 5 ["found"] (yZ cc) := ⟨_, _, wC (c := cc) ej dX l9, Bm, ej.2, Bn⟩
 have j3 : bb l.prog w K mg base "read_pairs" 5 ["found"] (y0 K) := ⟨_, _, wF eo dX me, Bo, eo.2, Bp⟩
 have mh : bb l.prog w K mg base "read_part" 6 ["word", "found"] (D6 K cc) := ⟨_, _, Al (c := cc) fJ j1 j3 gK, Dj, fJ.2, Dk⟩
 have mm : bb l.prog w K mg base "read_rule" 7 ["found"] (D7 K cc) := ⟨_, _, Am (c := cc) fK bq bf dX mh rQ ⟨mB, rfl⟩ BI xF ⟨_, gj, rfl, rfl⟩, Dl, fK.2, Dm⟩
 have eZ : bb l.prog w K mg base "is_great" 1 ["name"] sP := ⟨_, _, CP g8 GJ ⟨AO, rfl⟩, Fu, g8.2, Fv⟩
 have j5 : bb l.prog w K mg base "open_names" 2 ["facts"] (y4 K) := ⟨_, _, wG eB eZ v8, Bq, eB.2, Br⟩
 have xG : aX l.prog w K mg base cO 3 _ _ ["self", "title", "parts"] (sQ K cc) := Ap (c := cc) fq kQ j5
 have EU : Mt l.prog w K mg base "Rule" cm 3 ["self", "title", "parts"] (sQ K cc) := ⟨_, _, ⟨A6, kB, jb, A7⟩, xG, xC, NB⟩
 have qM : Met l.prog w K mg base cm "calls" 1 ["self"] (y7 K cc) := ⟨_, _, kQ.cl, ⟨ja, g5, c4.2⟩, wI (c := cc) c4 kQ dc, vZ⟩
 have xH : aX l.prog w K mg base cO 1 _ _ ["self", "kinds", "rules"] (sR K cc) := Ar (c := cc) ft FC
 have EV : Mt l.prog w K mg base "Book" d7 1 ["self", "kinds", "rules"] (sR K cc) := ⟨_, _, ⟨Bc, kC, jc, Be⟩, xH, xD, NC⟩
 have mv : bb l.prog w K mg base "hear_line" 8 ["kinds", "rules", "line"] (D9 K cc) := ⟨_, _, As (c := cc) fL kQ iL mm mn EU rQ ⟨mB, rfl⟩, Dn, fL.2, Dp⟩
 have iN : bb l.prog w K mg base "check_facts" 1 ["kinds", "facts"] (um K) := ⟨_, _, vc dn Qw dc, xh, dn.2, xi⟩
 have iO : bb l.prog w K mg base "check_taken" 1 ["lasts", "taken"] (uo K) := ⟨_, _, vd dq, xj, dq.2, xk⟩
 have j7 : bb l.prog w K mg base "check_call" 2 ["lasts", "rule"] (uq K cc) := ⟨_, _, wJ (c := cc) eC kQ qM, Bs, eC.2, Bt⟩
 have j6 : bb l.prog w K mg base "said_names" 1 ["rule"] (Ea K cc) := ⟨_, _, wK (c := cc) eE kQ LU Dz, Bu, eE.2, Bv⟩
 have iP : bb l.prog w K mg base "check_names" 2 ["rule"] (uu K cc) := ⟨_, _, ve (c := cc) dt kQ j6 eZ, xl, dt.2, xm⟩
 have j9 : bb l.prog w K mg base "whole_book" 3 ["kinds", "rules"] (y8 K cc) := ⟨_, _, wL (c := cc) eF kQ iN iO j7 iP EV, Bw, eF.2, Bx⟩
 have mz : bb l.prog w K mg base "read_book" 9 ["text"] (Ec K cc) := ⟨_, _, Au (c := cc) fM j8 mv j9, Dq, fM.2, Dr⟩
 have b6 : bb l.prog w K mg base "passing_kinds" 1 ["book"] (zH K cc) := ⟨_, _, qO (c := cc) cH FC, sv, cH.2, sx⟩
 have vh : bb l.prog w K mg base "effect" 1 ["rule", "kind"] (Kx K cc) := ⟨_, _, HM (c := cc) mS kQ dc, LR, mS.2, LS⟩
 have qR : bb l.prog w K mg base "effects" 4 ["book"] (Ex K cc) := ⟨_, _, EW (c := cc) jv FC b6 vh, Ii, jv.2, Ij⟩
 have mw : bb l.prog w K mg base "_law_cell" 1 ["_law_script", "_law_k"] (Ed K) := ⟨_, _, Aw fN dc, Ds, fN.2, Du⟩
 have fh : bb l.prog w K mg base "_law_digits" 1 ["_law_cell_here", "_law_sizes"] (Ku K) := ⟨_, _, vj dv, xo, dv.2, xq⟩
 have mx : bb l.prog w K mg base "_law_name" 1 ["_law_style", "_law_k"] Eu := ⟨_, _, Ax fO, Dv, fO.2, Dw⟩
 have da : bb l.prog w K mg base "_law_whole" 1 ["_law_row", "_law_many"] (pG K) := ⟨_, _, wM eG zc pW v8 Oj Qv dc, By, eG.2, Bz⟩
 have kc : bb l.prog w K mg base "_law_sheet" 4 ["_law_script"] (zI K) := ⟨_, _, wN eI mw fh mx iq dc v8 FA mY, BA, eI.2, BB⟩
 have ke : bb l.prog w K mg base "_law_lines" 1 ["_law_names", "_law_place_here", "_law_rules"] (uQ K) := ⟨_, _, wO eJ dc US mY, BC, eJ.2, BD⟩
 have gQ : bb l.prog w K mg base "_law_effects" 1 ["_law_names", "_law_rules"] (KR K) := ⟨_, _, sj cY dc iq, vV, cY.2, vW⟩
 have aO : bb l.prog w K mg base "first_place" 1 ["row"] EF := ⟨_, _, vm dw mY, xr, dw.2, xt⟩
 have qQ : bb l.prog w K mg base "divisor" 1 ["row"] yw := ⟨_, _, EY jw Oi, Ik, jw.2, Il⟩
 have gq : bb l.prog w K mg base "slimmed" 2 ["row"] zN := ⟨_, _, EZ jx qQ v8, Im, jx.2, Io⟩
 have Az : bb l.prog w K mg base "mixed" 1 ["times", "row", "other_times", "other"] zO := ⟨_, _, Lp pQ UT, Ny, pQ.2, Nz⟩
 have m9 : bb l.prog w K mg base "cleared" 3 ["row", "other", "place"] KY := ⟨_, _, E5 jy gq Az, Ip, jy.2, Iq⟩
 have cN : bb l.prog w K mg base "without_noughts" 3 ["rows"] PZ := ⟨_, _, oy cg aO, pU, cg.2, pV⟩
 have gP : bb l.prog w K mg base "above_nought" 3 ["row"] zP := ⟨_, _, sk cZ aO gq, vX, cZ.2, vY⟩
 have nc : bb l.prog w K mg base "reduced" 6 ["rows"] KZ := ⟨_, _, E6 jz cN gP aO m9 dc UR, Ir, jz.2, Iu⟩
 have iQ : bb l.prog w K mg base "staying_row" 2 ["rows", "free", "width"] EG := ⟨_, _, vp dy aO, xu, dy.2, xw⟩
 have oA : bb l.prog w K mg base "standing" 7 ["book"] (zQ K cc) := ⟨_, _, CT (c := cc) g9 b6 qR nc aO iQ dc iq, Fw, g9.2, Fx⟩
 have gi : bb l.prog w K mg base "_law_place" 1 ["_law_row"] zS := ⟨_, _, wQ eM iq dc, BE, eM.2, BF⟩
 have oz : bb l.prog w K mg base "_law_sum" 1 ["_law_row", "_law_numbers"] EC := ⟨_, _, CU hU iq dc, Fy, hU.2, Fz⟩
 have my : bb l.prog w K mg base "_law_part" 1 ["_law_row"] yw := ⟨_, _, AA fP Oi, Dx, fP.2, Dy⟩
 have iR : bb l.prog w K mg base "_law_formed" 2 ["_law_rows", "_law_at", "_law_many"] EJ := ⟨_, _, vq dz da gi my iq dc, xx, dz.2, xy⟩
 have iS : bb l.prog w K mg base "_law_stands" 3 ["_law_found", "_law_table", "_law_many"] uV := ⟨_, _, vv dA da oz iR pW v8 iq dc, xA, dA.2, xB⟩
 exact Qp (c := cc) UP kc mz ke gQ oA iS iq dc
theorem walk {l : PySem.W.OpenLaw} {q : Program} {loose : List Str} {XP : (Str → Option Value) → Heap → Prop} {YP : World → Heap → Prop} {d : DefRec} {K : Params → PySem.W.Frag} (hn : l.most = some 63) (RA : d.params.defaults = [])
  (hY : ∀ (w : World) (h : Heap), YP w h → (K w.params).In h)
  (F : ∀ (w : World) (mg : Str → Option Value) (fa : Addr) (h : Heap), (K w.params).In h → h.Ns mainGlobals mg → mg d.name = some (.ref fa) →
   ∃ fd : FuncData, (∀ (s : Shared) (u : Value), BindsTo s fd ⟨[u], []⟩ [("_law_script", u)]) ∧ ∀ base : Heap, (K w.params).In base → base.Ns mainGlobals mg → aX l.prog w (K w.params) mg base cO 10 fa fd ["_law_script"] (F5 (K w.params))) :
  PySem.W.WalkO q loose XP YP l.row.toRowW d [] (fun f vs => PySem.call f vs) :=
 L2.Mp (n := 63) (k := 10) (x := "_law_script") (CX := fun _ => cO) (sp := fun w => F5 (K w.params)) hn (by decide) RA ⟨rfl, by decide, by decide⟩ hY F (fun _ _ a ns hl _ hS => ⟨a, ns, rfl, hS, hl, fun _ => rfl⟩) fun _ _ _ _ _ z => z
end gf
open PySem PySem.W PyProof.Rows
def PySem.W.Fast.tw522545345692790200 : Nat := 0
def PySem.W.Fast.tw9495710570824881531 : Nat := 0
def PySem.W.Fast.tw256917117078977144 : Nat := 0
def PySem.W.Fast.tw12443809296773427607 : Nat := 0
def PySem.W.Fast.tw2174122565011481808 : Nat := 0
def PySem.W.Fast.tw11568330181659681566 : Nat := 0
def PySem.W.Fast.tw2300098304907547477 : Nat := 0
def PySem.W.Fast.tw13945428195290529741 : Nat := 0
def PySem.W.Fast.tw3697299583189514103 : Nat := 0
def PySem.W.Fast.tw12402044362113139962 : Nat := 0
def PySem.W.Fast.tw10371718853962710243 : Nat := 0
def PySem.W.Fast.tw12871514531511726552 : Nat := 0
def PySem.W.Fast.tw3827142234121205618 : Nat := 0
def PySem.W.Fast.tw14580339911839855458 : Nat := 0
def PySem.W.Fast.tw512568045465617944 : Nat := 0
def PySem.W.Fast.tw13357580081348050772 : Nat := 0
def PySem.W.Fast.tw3887391327243200135 : Nat := 0
def PySem.W.Fast.tw4840218068176838932 : Nat := 0
def PySem.W.Fast.tw1397792608292259056 : Nat := 0
def PySem.W.Fast.tw6094629903278198661 : Nat := 0
def PySem.W.Fast.tw7299129878879430445 : Nat := 0
def PySem.W.Fast.tw13977073041963344745 : Nat := 0
def PySem.W.Fast.tw4359792885591872544 : Nat := 0
def PySem.W.Fast.tw779301063677800302 : Nat := 0
def PySem.W.Fast.tw12551080327187817369 : Nat := 0
def PySem.W.Fast.tw14726000619422870176 : Nat := 0
def PySem.W.Fast.tw18188957849666079913 : Nat := 0
def PySem.W.Fast.tw9898130594267126762 : Nat := 0
def PySem.W.Fast.tw12898317133004600741 : Nat := 0
def PySem.W.Fast.tw4817798065006176969 : Nat := 0
def PySem.W.Fast.tw11259519549837698635 : Nat := 0
def PySem.W.Fast.tw1516047178620082396 : Nat := 0
def PySem.W.Fast.tw6131276493366432966 : Nat := 0
def PySem.W.Fast.tw314527906372441673 : Nat := 0
def PySem.W.Fast.tw12976627730324370164 : Nat := 0
def PySem.W.Fast.tw6345438392605418636 : Nat := 0
def PySem.W.Fast.tw14941895378858847802 : Nat := 0
def PySem.W.Fast.tw10790263227117865317 : Nat := 0
def PySem.W.Fast.tw17760143386920707287 : Nat := 0
def PySem.W.Fast.tw18376971601229157321 : Nat := 0
def PySem.W.Fast.tw17864911107982766335 : Nat := 0
def PySem.W.Fast.tw17856362393544070758 : Nat := 0
set_option maxRecDepth 100000 in
set_option maxHeartbeats 0 in
theorem PySem.Challenge.cw_poolrules_k35_standing_rows_holds : PySem.Challenge.rw_poolrules_k35_standing_rows.Holds := by
 w_on; o_law; k_head; (case hw => w_witness2)
 k_fill
 refine gf.walk (l := PySem.Challenge.rw_poolrules_k35_standing_rows) rfl rfl (fun w h Y => PySem.W.kIn_of Y) ?F
 case F =>
  intro w mg fa h KX G RB
  refine' gf.all_mk KX G RB ?AR ?qS ?AS ?AU ?gU ?qT ?fW ?oB ?vK ?oC ?gW ?qU ?gX ?qV ?ki ?iV ?mC ?vL ?d8 ?mD ?mE ?kj ?km ?mF ?mG ?oE ?kn ?mH ?iW ?iX ?ko ?kq ?iY ?kr ?mI ?fX ?vM ?qW ?mJ ?iZ ?mK ?ku ?kx ?ky ?gY ?i6 ?qX ?qY ?AV ?qZ ?d9 ?gZ ?q0 ?i7 ?oF ?kz ?oG ?mO ?i8 ?i9 ?GB ?kA ?g4 ?kB ?ja ?kC ?fm ?jb ?g5 ?jc ?cV ?js ?cG ?g6 ?mP ?g7 ?cW ?jt ?cX ?ju ?ef ?dm ?fF ?mQ ?cf ?fG ?fH ?ej ?eo ?fJ ?fK ?g8 ?eB ?fL ?dn ?dq ?eC ?eE ?dt ?eF ?fM ?cH ?mS ?jv ?fN ?dv ?fO ?eG ?eI ?eJ ?cY ?dw ?jw ?jx ?pQ ?jy ?cg ?cZ ?jz ?dy ?g9 ?eM ?hU ?fP ?dz ?dA ?Lz ?LC ?LD ?fo ?fq ?c4 ?ft ?AW ?AX ?AY ?AZ ?A0 ?A1 ?mT ?kD ?GC ?GD ?q5 ?ra ?rb ?rf ?rg ?rh ?jd ?hV ?yD ?yE ?A2 ?A3 ?A4 ?A5 ?A6 ?A7 ?kE ?kF ?mU ?kG ?kH ?mV ?kI ?GF ?GG ?A8 ?A9 ?Ba ?Bb ?Bc ?Be ?kJ ?kK ?GH ?GI ?hn ?Rm ?Bf ?Bg ?rj ?rl ?kL ?mW ?LF ?LG ?Fl ?Fm ?mX ?LH ?kM ?LI ?Fn ?LJ ?Bh ?oH ?LK ?Bi ?LM ?kN ?kO ?kP ?gj ?vN ?vO
  (case AR => k_is)
  (case qS => k_is)
  (case AS => k_is)
  (case AU => k_is)
  (case gU => k_is)
  (case qT => k_is)
  (case fW => k_is)
  (case oB => k_is)
  (case vK => k_is)
  (case oC => k_is)
  (case gW => k_is)
  (case qU => k_is)
  (case gX => k_is)
  (case qV => k_is)
  (case ki => k_is)
  (case iV => k_is)
  (case mC => k_is)
  (case vL => k_is)
  (case d8 => k_is)
  (case mD => k_is)
  (case mE => k_is)
  (case kj => k_is)
  (case km => k_is)
  (case mF => k_is)
  (case mG => k_is)
  (case oE => k_is)
  (case kn => k_is)
  (case mH => k_is)
  (case iW => k_is)
  (case iX => k_is)
  (case ko => k_is)
  (case kq => k_is)
  (case iY => k_is)
  (case kr => k_is)
  (case mI => k_is)
  (case fX => k_is)
  (case vM => k_is)
  (case qW => k_is)
  (case mJ => k_is)
  (case iZ => k_is)
  (case mK => k_is)
  (case ku => k_is)
  (case kx => k_is)
  (case ky => k_is)
  (case gY => k_is)
  (case i6 => k_is)
  (case qX => k_is)
  (case qY => k_is)
  (case AV => k_is)
  (case qZ => k_is)
  (case d9 => k_is)
  (case gZ => k_is)
  (case q0 => k_is)
  (case i7 => k_is)
  (case oF => k_is)
  (case kz => k_is)
  (case oG => k_is)
  (case mO => k_is)
  (case i8 => k_is)
  (case i9 => k_is)
  (case GB => k_is)
  (case kA => k_is)
  (case g4 => k_is)
  (case kB => k_is)
  (case ja => k_is)
  (case kC => k_is)
  (case fm => k_is)
  (case jb => k_is)
  (case g5 => k_is)
  (case jc => k_is)
  (case cV => exact L2.aC (by k_is) (by k_is) (by k_is))
  (case js => exact L2.aC (by k_is) (by k_is) (by k_is))
  (case cG => exact L2.aC (by k_is) (by k_is) (by k_is))
  (case g6 => exact L2.aC (by k_is) (by k_is) (by k_is))
  (case mP => exact L2.aC (by k_is) (by k_is) (by k_is))
  (case g7 => exact L2.aC (by k_is) (by k_is) (by k_is))
  (case cW => exact L2.aC (by k_is) (by k_is) (by k_is))
  (case jt => exact L2.aC (by k_is) (by k_is) (by k_is))
  (case cX => exact L2.aC (by k_is) (by k_is) (by k_is))
  (case ju => exact L2.aC (by k_is) (by k_is) (by k_is))
  (case ef => exact L2.aC (by k_is) (by k_is) (by k_is))
  (case dm => exact L2.aC (by k_is) (by k_is) (by k_is))
  (case fF => exact L2.aC (by k_is) (by k_is) (by k_is))
  (case mQ => exact L2.aC (by k_is) (by k_is) (by k_is))
  (case cf => exact L2.aC (by k_is) (by k_is) (by k_is))
  (case fG => exact L2.aC (by k_is) (by k_is) (by k_is))
  (case fH => exact L2.aC (by k_is) (by k_is) (by k_is))
  (case ej => exact L2.aC (by k_is) (by k_is) (by k_is))
  (case eo => exact L2.aC (by k_is) (by k_is) (by k_is))
  (case fJ => exact L2.aC (by k_is) (by k_is) (by k_is))
  (case fK => exact L2.aC (by k_is) (by k_is) (by k_is))
  (case g8 => exact L2.aC (by k_is) (by k_is) (by k_is))
  (case eB => exact L2.aC (by k_is) (by k_is) (by k_is))
  (case fL => exact L2.aC (by k_is) (by k_is) (by k_is))
  (case dn => exact L2.aC (by k_is) (by k_is) (by k_is))
  (case dq => exact L2.aC (by k_is) (by k_is) (by k_is))
  (case eC => exact L2.aC (by k_is) (by k_is) (by k_is))
  (case eE => exact L2.aC (by k_is) (by k_is) (by k_is))
  (case dt => exact L2.aC (by k_is) (by k_is) (by k_is))
  (case eF => exact L2.aC (by k_is) (by k_is) (by k_is))
  (case fM => exact L2.aC (by k_is) (by k_is) (by k_is))
  (case cH => exact L2.aC (by k_is) (by k_is) (by k_is))
  (case mS => exact L2.aC (by k_is) (by k_is) (by k_is))
  (case jv => exact L2.aC (by k_is) (by k_is) (by k_is))
  (case fN => exact L2.aC (by k_is) (by k_is) (by k_is))
  (case dv => exact L2.aC (by k_is) (by k_is) (by k_is))
  (case fO => exact L2.aC (by k_is) (by k_is) (by k_is))
  (case eG => exact L2.aC (by k_is) (by k_is) (by k_is))
  (case eI => exact L2.aC (by k_is) (by k_is) (by k_is))
  (case eJ => exact L2.aC (by k_is) (by k_is) (by k_is))
  (case cY => exact L2.aC (by k_is) (by k_is) (by k_is))
  (case dw => exact L2.aC (by k_is) (by k_is) (by k_is))
  (case jw => exact L2.aC (by k_is) (by k_is) (by k_is))
  (case jx => exact L2.aC (by k_is) (by k_is) (by k_is))
  (case pQ => exact L2.aC (by k_is) (by k_is) (by k_is))
  (case jy => exact L2.aC (by k_is) (by k_is) (by k_is))
  (case cg => exact L2.aC (by k_is) (by k_is) (by k_is))
  (case cZ => exact L2.aC (by k_is) (by k_is) (by k_is))
  (case jz => exact L2.aC (by k_is) (by k_is) (by k_is))
  (case dy => exact L2.aC (by k_is) (by k_is) (by k_is))
  (case g9 => exact L2.aC (by k_is) (by k_is) (by k_is))
  (case eM => exact L2.aC (by k_is) (by k_is) (by k_is))
  (case hU => exact L2.aC (by k_is) (by k_is) (by k_is))
  (case fP => exact L2.aC (by k_is) (by k_is) (by k_is))
  (case dz => exact L2.aC (by k_is) (by k_is) (by k_is))
  (case dA => exact L2.aC (by k_is) (by k_is) (by k_is))
  (case Lz => k_is)
  (case LC => k_is)
  (case LD => k_is)
  (case fo => exact L2.aC (by k_is) (by k_is) (by k_is))
  (case fq => exact L2.aC (by k_is) (by k_is) (by k_is))
  (case c4 => exact L2.aC (by k_is) (by k_is) (by k_is))
  (case ft => exact L2.aC (by k_is) (by k_is) (by k_is))
  (case AW => k_is)
  (case AX => k_is)
  (case AY => k_is)
  (case AZ => k_is)
  (case A0 => k_is)
  (case A1 => k_is)
  (case mT => k_is)
  (case kD => k_is)
  (case GC => k_is)
  (case GD => k_is)
  (case q5 => k_is)
  (case ra => k_is)
  (case rb => k_is)
  (case rf => k_is)
  (case rg => k_is)
  (case rh => k_is)
  (case jd => k_is)
  (case hV => k_is)
  (case yD => k_is)
  (case yE => k_is)
  (case A2 => k_is)
  (case A3 => k_is)
  (case A4 => k_is)
  (case A5 => k_is)
  (case A6 => k_is)
  (case A7 => k_is)
  (case kE => k_is)
  (case kF => k_is)
  (case mU => k_is)
  (case kG => k_is)
  (case kH => k_is)
  (case mV => k_is)
  (case kI => k_is)
  (case GF => k_is)
  (case GG => k_is)
  (case A8 => k_is)
  (case A9 => k_is)
  (case Ba => k_is)
  (case Bb => k_is)
  (case Bc => k_is)
  (case Be => k_is)
  (case kJ => k_is)
  (case kK => k_is)
  (case GH => k_is)
  (case GI => k_is)
  (case hn => k_is)
  (case Rm => k_is)
  (case Bf => k_is)
  (case Bg => k_is)
  (case rj => k_is)
  (case rl => k_is)
  (case kL => k_is)
  (case mW => k_is)
  (case LF => k_is)
  (case LG => k_is)
  (case Fl => k_is)
  (case Fm => k_is)
  (case mX => k_is)
  (case LH => k_is)
  (case kM => k_is)
  (case LI => k_is)
  (case Fn => k_is)
  (case LJ => k_is)
  (case Bh => k_is)
  (case oH => k_is)
  (case LK => k_is)
  (case Bi => k_is)
  (case LM => k_is)
  (case kN => k_is)
  (case kO => k_is)
  (case kP => k_is)
  (case gj => k_is)
  (case vN => k_is)
  (case vO => k_is)
