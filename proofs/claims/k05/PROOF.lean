import PyProof.Rows.All
import Wide.All
import OpenK.AllK
import Wide.FinOn
import Lean
import PyProof.EqAt
import PyProof.EqKinds
import PyProof.TupleCall
import KE.KIntText
import KE.KDictList
import KE.KDictOf
import PyProof.AttrMissHeap
import PyProof.DictUpdate
import PyProof.ToksMono
import PyProof.NeKinds
import PyProof.EnumFor
import PyProof.EnumStmt
import PyProof.EnumMake
import KE.KRevIter
import PyProof.StrOps2
import PyProof.ZipIter
import PyProof.SumWalkG
import KE.KMinKey
import KE.KTryMore
import KE.KSortAsk
import KE.KSortTup
import KE.KDictLaws
import KE.KItemsList
import KE.RegKTryMore
import KE.KIsNot
import PyProof.WalkInts
import PyProof.SeqI3
import PySem.Challenge.RW_poolrules_k05_facts_taken_and_put
set_option Elab.async false
set_option linter.all false
set_option maxRecDepth 100000
theorem Lm9 {α : Type _} {β : Type _} {as : List α} (f : α → β) : (as.map f).length = as.length := List.length_map f
theorem Ge9 {α : Type _} {l : List α} {i : Nat} (h : i < l.length) : l[i]? = some l[i] := List.getElem?_eq_getElem h
theorem Gd9 {α : Type _} {l : List α} {i : Nat} {a : α} : l.getD i a = (l[i]?).getD a := List.getD_eq_getElem?_getD
namespace L2
open PySem PySem.Spec PyProof.Rows
abbrev Key := Sum Int Str
def sM : Key → Value → Bool
 | .inl k, v => Value.isInt k v
 | .inr x, v => Value.isStrOf x v
def Qh (w : World) : Key → Int
 | .inl k => hashInt k
 | .inr x => hashStr w x
theorem bD : ∀ {k : Key} {v : Value}, sM k v = true → (∃ i t, k = Sum.inl i ∧ v = Value.int i t) ∨ (∃ x t, k = Sum.inr x ∧ v = Value.str x t)
 | .inl i, v, h => by
  obtain ⟨t, e⟩ := Value.isInt_shape (k := i) (v := v) h
  exact .inl ⟨i, t, rfl, e⟩
 | .inr x, v, h => by
  obtain ⟨t, e⟩ := Value.isStrOf_shape (x := x) (v := v) h
  exact .inr ⟨x, t, rfl, e⟩
theorem A3 (i : Int) (t : Tok) : sM (.inl i) (.int i t) = true := by simp [sM, Value.isInt]
theorem A4 (x : Str) (t : Tok) : sM (.inr x) (.str x t) = true := by simp [sM, Value.isStrOf]
theorem Hx (a b : Int) : decide ((Sum.inl a : Key) = Sum.inl b) = (a == b) := by
 by_cases e : a = b
 ·subst e; simp
 ·have h : ¬ (Sum.inl a : Key) = Sum.inl b := fun q => e (Sum.inl.inj q)
  rw [decide_eq_false h]
  exact (beq_eq_false_iff_ne.mpr e).symm
theorem Hy (a b : Str) : decide ((Sum.inr a : Key) = Sum.inr b) = decide (a = b) := by
 by_cases e : a = b
 ·subst e; simp
 ·have h : ¬ (Sum.inr a : Key) = Sum.inr b := fun q => e (Sum.inr.inj q)
  rw [decide_eq_false h, decide_eq_false e]
theorem Hz (a : Int) (b : Str) : decide ((Sum.inl a : Key) = Sum.inr b) = false := decide_eq_false (fun q => nomatch q)
theorem HA (a : Str) (b : Int) : decide ((Sum.inr a : Key) = Sum.inl b) = false := decide_eq_false (fun q => nomatch q)
def aG (prog : Program) (w : World) : PySem.KeyKind prog w Key where
 is := sM
 hash := Qh w
 inj := fun v a b ha hb => by
  rcases bD ha with ⟨i, t, rfl, rfl⟩ | ⟨x, t, rfl, rfl⟩
  ·rcases bD hb with ⟨j, u, rfl, e⟩ | ⟨y, u, rfl, e⟩
   ·injection e with e1 _; rw [e1]
   ·exact nomatch e
  ·rcases bD hb with ⟨j, u, rfl, e⟩ | ⟨y, u, rfl, e⟩
   ·exact nomatch e
   ·injection e with e1 _; rw [e1]
 byValue := fun k v h => by
  rcases bD h with ⟨i, t, rfl, rfl⟩ | ⟨x, t, rfl, rfl⟩ <;> rfl
 pyHash := fun hv h => by
  rcases bD hv with ⟨i, t, rfl, rfl⟩ | ⟨x, t, rfl, rfl⟩
  ·exact wpAny_pyHash_int h
  ·exact wpAny_pyHash_str h
 eqBool := fun hu hv h => by
  rcases bD hu with ⟨i, t, rfl, rfl⟩ | ⟨x, t, rfl, rfl⟩
  ·rcases bD hv with ⟨j, u, rfl, rfl⟩ | ⟨y, u, rfl, rfl⟩
   ·rw [Hx] at h; exact wpAny_eqBool_int h
   ·rw [Hz] at h; exact SeqAt.EqAt.int_str i t y u _ _ _ _ h
  ·rcases bD hv with ⟨j, u, rfl, rfl⟩ | ⟨y, u, rfl, rfl⟩
   ·rw [HA] at h; exact SeqAt.EqAt.str_int x t j u _ _ _ _ h
   ·rw [Hy] at h; exact wpAny_eqBool_str h
 «strs» := fun k x t v h => by
  rcases bD h with ⟨i, u, rfl, e⟩ | ⟨y, u, rfl, e⟩
  ·exact nomatch e
  ·injection e with e1 _
   subst e1
   cases v <;> rfl
theorem wu (prog : Program) (w : World) (i : Int) (t : Tok) : (aG prog w).is (.inl i) (.int i t) = true := A3 i t
theorem wx (prog : Program) (w : World) (x : Str) (t : Tok) : (aG prog w).is (.inr x) (.str x t) = true := A4 x t
end L2
namespace L2
open PySem PySem.Spec PyProof.Rows
inductive V where
 | bz | bl (b : Bool) | int (i : Int) | str (x : Str) | Cg (b : Array UInt8) | KQ (b : UInt64) | ref (a : Addr) | ty (n : String)
 deriving DecidableEq
def RelV : V → Value → Prop
 | .bz, u => u = Value.none
 | .bl b, u => u = Value.bool b
 | .int i, u => ∃ t, u = Value.int i t
 | .str x, u => ∃ t, u = Value.str x t
 | .Cg b, u => ∃ t, u = Value.bytes b t
 | .KQ b, u => ∃ t, u = Value.float b t
 | .ref a, u => u = Value.ref a
 | .ty n, u => u = Value.type n
abbrev Vals : List V → List Value → Prop := Paired RelV
theorem Vals.length {xs : List V} {us : List Value} (r : Vals xs us) : xs.length = us.length := Paired.length r
theorem Vals.get : ∀ {xs : List V} {us : List Value} {i : Nat} {x : V}, Vals xs us → xs[i]? = some x → ∃ u, us[i]? = some u ∧ RelV x u
 | _, _, _, _, .nil, e => by simp at e
 | _, _, 0, _, .cons r _, e => by simp at e; subst e; exact ⟨_, rfl, r⟩
 | _, _, i + 1, x, .cons _ t, e => by
  obtain ⟨u, h1, h2⟩ := Vals.get (i := i) (x := x) t (by simpa using e)
  exact ⟨u, by simpa using h1, h2⟩
theorem Vals.set {x : V} {u : Value} (r : RelV x u) : ∀ {xs : List V} {us : List Value} (i : Nat), Vals xs us → Vals (xs.set i x) (us.set i u)
 | _, _, _, .nil => .nil
 | _, _, 0, .cons _ t => .cons r t
 | _, _, i + 1, .cons q t => .cons q (Vals.set r i t)
theorem Vals.append : ∀ {xs ys : List V} {us ws : List Value}, Vals xs us → Vals ys ws → Vals (xs ++ ys) (us ++ ws)
 | _, _, _, _, .nil, s => s
 | _, _, _, _, .cons r t, s => .cons r (Vals.append t s)
theorem Vals.take : ∀ {xs : List V} {us : List Value} (n : Nat), Vals xs us → Vals (xs.take n) (us.take n)
 | _, _, 0, _ => .nil
 | _, _, _ + 1, .nil => .nil
 | _, _, n + 1, .cons r t => .cons r (Vals.take n t)
theorem Vals.drop : ∀ {xs : List V} {us : List Value} (n : Nat), Vals xs us → Vals (xs.drop n) (us.drop n)
 | _, _, 0, r => r
 | _, _, _ + 1, .nil => .nil
 | _, _, n + 1, .cons _ t => Vals.drop n t
theorem Vals.none_of : ∀ {xs : List V} {us : List Value} {i : Nat}, Vals xs us → xs[i]? = none → us[i]? = none := fun {xs us i} r e => by
 have h1 := r.length
 have h2 : xs.length ≤ i := List.getElem?_eq_none_iff.mp e
 exact List.getElem?_eq_none_iff.mpr (by omega)
def jj : Option V → Option Value → Prop
 | some v, some u => RelV v u
 | none, none => True
 | _, _ => False
def KV {κ : Type} : List (κ × V) → List (κ × Value) → Prop := Paired fun (p : κ × V) (q : κ × Value) => p.1 = q.1 ∧ RelV p.2 q.2
def kV : Key → V
 | .inl i => .int i
 | .inr x => .str x
inductive HO where
 | lst (xs : List V)
 | tup (xs : List V)
 | dK (kvs : List (Key × V)) | dT (kvs : List (List Key × V))
 | set (S : Int → Bool) (n : Nat)
 | ins (C dx : Addr) (fs : List (Str × V))
 | own (x : Addr)
 | xd (fs : List (Str × V))
 | met (f x : Addr)
 | Pa (lo hi : Int)
 | ku (o : Obj) (u : HO)
 | Ew (ps : Array Value)
 | ext (φ : Heap → Prop)
abbrev Hp := Addr → Option HO
def upd (H : Hp) (a : Addr) (o : HO) : Hp := fun b => if b = a then some o else H b
theorem ae {H : Hp} {a : Addr} {o : HO} : upd H a o a = some o := by unfold upd; rw [if_pos rfl]
theorem az {H : Hp} {a b : Addr} {o : HO} (h : b ≠ a) : upd H a o b = H b := by unfold upd; rw [if_neg h]
theorem z7 {H : Hp} {a : Addr} {o u : HO} : upd (upd H a o) a u = upd H a u := by
 funext b; unfold upd; split <;> rfl
theorem aY {H : Hp} {a b : Addr} {o : HO} (h : H a = some o) (h' : H b = none) : a ≠ b := by
 intro e; subst e; rw [h] at h'; cases h'
section
variable (P : Program) (w : World)
def bg (H : Hp) (h : Heap) (a : Addr) : HO → Prop
 | .lst xs => xs.length ≤ sizeLine ∧ ∃ (its : List Value) (n : Nat), Vals xs its ∧ h.get? a = some { cls := .type "list", data := .seq its.toArray n }
 | .tup xs => xs.length ≤ sizeLine ∧ ∃ its : List Value, Vals xs its ∧ IsTup h a its.toArray
 | .dK kvs => kvs.length ≤ sizeLine ∧ (a == sysModules) = false ∧ ∃ vs, KV kvs vs ∧ h.DictOf (aG P w) a vs
 | .dT kvs => kvs.length ≤ sizeLine ∧ (a == sysModules) = false ∧ ∃ xs : List (List Key × Addr × Value),
   Paired (fun (p : List Key × V) (q : List Key × Addr × Value) => p.1 = q.1 ∧ H q.2.1 = some (.tup (p.1.map kV)) ∧ RelV p.2 q.2.2) kvs xs ∧
   ∃ o es ep, h.get? a = some o ∧ o.ExactDict ∧ o.data = .dict es ep ∧ es.toList = xs.map (entryOfKey (tupleKind (aG P w))) ∧ (xs.map (·.1)).Nodup
 | .set S n => h.SetOf (intKind P w) a S n
 | .ins C dx fs => H dx = some (.own a) ∧ fs.length ≤ 1000 ∧ dx ≠ a ∧ h.get? a = some (PySem.W.instObj C dx) ∧
   ∃ mA, h.Ns1 dx mA ∧ (∀ f, jj (fs.lookup f) (mA f)) ∧ PySem.Within mA (fs.map (·.1))
 | .own _ => ∃ o, h.get? a = some o
 | .xd fs => ∃ mA, h.Ns1 a mA ∧ ∀ f, jj (fs.lookup f) (mA f)
 | .Pa lo hi => ∃ t u v, h.get? a = some { cls := .type "range", data := .fields #[.int lo t, .int hi u, .int 1 v] }
 | .ku o u => h.get? a = some o ∧ bg H h a u
 | .Ew ps => h.get? a = some { cls := .none, data := .fields ps }
 | .met f x => h.get? a = some (PySem.W.methodObj (.ref f) (.ref x))
 | .ext φ => φ h ∧ (∃ o, h.get? a = some o) ∧ ∀ h1 h2 : Heap, φ h1 → (∀ o, h1.get? a = some o → h2.get? a = some o) → φ h2
def jh (H : Hp) (h : Heap) : Prop := ∀ a o, H a = some o → bg P w H h a o
end
section
variable {P : Program} {w : World} {H H' : Hp} {h h' : Heap} {a : Addr} {o : HO}
theorem bg.lt (x : bg P w H h a o) : a < h.objs.size := by
 cases o with
 | lst xs => obtain ⟨_, _, _, _, e⟩ := x; exact Heap.lt_size e
 | tup xs => obtain ⟨_, _, _, p⟩ := x; exact p.lt
 | dK kvs => obtain ⟨_, _, _, _, o, _, _, e, _⟩ := x; exact Heap.lt_size e
 | dT kvs => obtain ⟨_, _, _, _, o, _, _, e, _⟩ := x; exact Heap.lt_size e
 | set S n => obtain ⟨o, _, _, _, e, _⟩ := x; exact Heap.lt_size e
 | ins C dx fs => obtain ⟨_, _, _, e, _⟩ := x; exact Heap.lt_size e
 | own y => obtain ⟨_, e⟩ := x; exact Heap.lt_size e
 | xd fs => obtain ⟨_, ⟨_, _, _, e, _⟩, _⟩ := x; exact Heap.lt_size e
 | Pa lo hi => obtain ⟨_, _, _, e⟩ := x; exact Heap.lt_size e
 | ku ob u => obtain ⟨e, _⟩ := x; exact Heap.lt_size e
 | Ew ps => exact Heap.lt_size (show h.get? a = some _ from x)
 | met f y => exact Heap.lt_size (show h.get? a = some _ from x)
 | ext φ => obtain ⟨_, ⟨_, e⟩, _⟩ := x; exact Heap.lt_size e
theorem Paired.rF {α β : Type} {F G : α → β → Prop} : ∀ {l₁ : List α} {l₂ : List β}, Paired F l₁ l₂ → (∀ a b, F a b → G a b) → Paired G l₁ l₂
 | _, _, .nil, _ => .nil
 | _, _, .cons r t, f => .cons (f _ _ r) (Paired.rF t f)
theorem bg.wy (x : bg P w H h a o) (k : ∀ b u, (b = a ∨ H b = some (.own a)) → h.get? b = some u → h'.get? b = some u)
  (ho : ∀ b, H b = some (.own a) → H' b = some (.own a)) (ht : ∀ b xs, H b = some (.tup xs) → H' b = some (.tup xs)) : bg P w H' h' a o := by
 induction o with
 | lst xs => obtain ⟨z, its, n, r, e⟩ := x; exact ⟨z, its, n, r, k _ _ (.inl rfl) e⟩
 | tup xs => obtain ⟨z, its, r, ob, e, c⟩ := x; exact ⟨z, its, r, ob, k _ _ (.inl rfl) e, c⟩
 | dK kvs => obtain ⟨z, y, vs, r, ob, es, ep, e, c⟩ := x; exact ⟨z, y, vs, r, ob, es, ep, k _ _ (.inl rfl) e, c⟩
 | dT kvs =>
  obtain ⟨z, y, xs, r, ob, es, ep, e, c⟩ := x
  exact ⟨z, y, xs, Paired.rF r fun p q z => ⟨z.1, ht _ _ z.2.1, z.2.2⟩, ob, es, ep, k _ _ (.inl rfl) e, c⟩
 | set S n => obtain ⟨ob, es, ep, t, e, c⟩ := x; exact ⟨ob, es, ep, t, k _ _ (.inl rfl) e, c⟩
 | ins C dx fs =>
  obtain ⟨d, z, ne, e, mA, ⟨od, es, ep, e2, c⟩, r⟩ := x
  exact ⟨ho _ d, z, ne, k _ _ (.inl rfl) e, mA, ⟨od, es, ep, k _ _ (.inr d) e2, c⟩, r⟩
 | own y => obtain ⟨ob, e⟩ := x; exact ⟨ob, k _ _ (.inl rfl) e⟩
 | xd fs => obtain ⟨mA, ⟨od, es, ep, e, c⟩, r⟩ := x; exact ⟨mA, ⟨od, es, ep, k _ _ (.inl rfl) e, c⟩, r⟩
 | Pa lo hi => obtain ⟨t, u, v, e⟩ := x; exact ⟨t, u, v, k _ _ (.inl rfl) e⟩
 | ku ob u ih => obtain ⟨e, q⟩ := x; exact ⟨k _ _ (.inl rfl) e, ih q⟩
 | Ew ps =>
  have e : h.get? a = some { cls := .none, data := .fields ps } := x
  show h'.get? a = some { cls := .none, data := .fields ps }
  exact k a _ (.inl rfl) e
 | met f y =>
  have e : h.get? a = some (PySem.W.methodObj (.ref f) (.ref y)) := x
  show h'.get? a = some (PySem.W.methodObj (.ref f) (.ref y))
  exact k a _ (.inl rfl) e
 | ext φ => obtain ⟨p, ⟨o, e⟩, st⟩ := x; exact ⟨st _ _ p fun o q => k _ _ (.inl rfl) q, ⟨o, k _ _ (.inl rfl) e⟩, st⟩
theorem jh.lt (x : jh P w H h) (e : H a = some o) : a < h.objs.size := (x a o e).lt
theorem jh.fresh (x : jh P w H h) (e : h.objs.size ≤ a) : H a = none := by
 cases q : H a with
 | none => rfl
 | some u => exact absurd (Nat.lt_of_lt_of_le (x.lt q) e) (Nat.lt_irrefl _)
theorem jh.kept (x : jh P w H h) (k : ∀ b u, h.get? b = some u → h'.get? b = some u) : jh P w H h' := fun a o e =>
 (x a o e).wy (fun b u _ q => k b u q) (fun _ q => q) fun _ _ q => q
theorem jh.laid (x : jh P w H h) (k : ∀ b u, h.get? b = some u → h'.get? b = some u) (hp : h.objs.size ≤ a) (new : bg P w (upd H a o) h' a o) : jh P w (upd H a o) h' := fun b u e => by
 have hn := x.fresh hp
 by_cases hb : b = a
 ·subst hb; rw [ae] at e; cases e; exact new
 ·rw [az hb] at e
  exact (x b u e).wy (fun c v _ q => k c v q) (fun c q => by rw [az (aY q hn)]; exact q) fun c xs q => by rw [az (aY q hn)]; exact q
end
def Rd (H : Hp) (a : Addr) (u : HO) : Prop := H a = some u ∨ ∃ o, H a = some (.ku o u)
theorem Rd.ok {P : Program} {w : World} {H : Hp} {h : Heap} {a : Addr} {u : HO} (r : Rd H a u) (x : jh P w H h) : bg P w H h a u := by
 rcases r with r | ⟨o, r⟩
 ·exact x a u r
 ·obtain ⟨_, q⟩ := x a _ r
  exact q
def Lw : Option HO → Prop
 | some (.lst _) => True
 | some (.dK _) => True
 | some (.dT _) => True
 | some (.set _ _) => True
 | some (.ins _ _ _) => True
 | some (.ext _) => True
 | _ => False
section
variable {P : Program} {w : World} {H : Hp} {h h' : Heap} {x e : Addr} {o' : HO}
theorem jh.write (ok : jh P w H h) (mu : Lw (H x)) (he : e = x ∨ H e = some (.own x)) (k : ∀ b u, b ≠ e → h.get? b = some u → h'.get? b = some u) (KR : ∃ u, h'.get? e = some u)
  (new : bg P w (upd H x o') h' x o') : jh P w (upd H x o') h' := fun b u q => by
 have Lx : ∀ c y, H c = some (.own y) → c ≠ x := fun c y r z => by subst z; rw [r] at mu; exact mu
 have Qi : ∀ c xs, H c = some (.tup xs) → c ≠ x := fun c xs r z => by subst z; rw [r] at mu; exact mu
 by_cases hb : b = x
 ·subst hb; rw [ae] at q; cases q; exact new
 ·rw [az hb] at q
  by_cases HB : b = e
  ·have q' : H b = some (.own x) := by
    rcases he with z | z
    ·exact absurd (HB.trans z) hb
    ·rw [HB]; exact z
   rw [q] at q'; cases q'
   obtain ⟨v, hv⟩ := KR
   exact ⟨v, by rw [HB]; exact hv⟩
  ·refine (ok b u q).wy (fun c v hc r => k c v ?_ r) (fun c r => by rw [az (Lx c b r)]; exact r) fun c xs r => by rw [az (Qi c xs r)]; exact r
   rcases hc with rfl | hc
   ·exact HB
   ·rintro rfl
    rcases he with z | z
    ·exact Lx c b hc z
    ·rw [hc] at z; cases z; exact hb rfl
end
structure Un (fs ex : List Addr) (H H' : Hp) (h h' : Heap) : Prop where
 keep : ∀ b o, h.get? b = some o → H b = none → b ∉ fs → b ∉ ex → h'.get? b = some o
 slot : ∀ b o, h.get? b = some o → H b = none → b ∈ fs → b ∉ ex → ∃ sl, h'.get? b = some { o with slots := sl }
 free : ∀ b o, h.get? b = some o → H b = none → b ∉ ex → H' b = none
 there : ∀ b o, h.get? b = some o → b ∉ ex → ∃ o', h'.get? b = some o'
 jd : ∀ b xs, H b = some (.tup xs) → H' b = some (.tup xs)
 gM : ∀ b o u, H b = some (.ku o u) → H' b = some (.ku o u)
 je : ∀ b ps, H b = some (.Ew ps) → ∃ more, H' b = some (.Ew (ps ++ more))
section
variable {fs fs' ex Y0 : List Addr} {H H1 H2 : Hp} {h h1 h2 h' : Heap} {a x e : Addr} {o : HO}
theorem Un.any (u : Un fs ex H H1 h h1) {b : Addr} {ob : Obj} (q : h.get? b = some ob) (n : H b = none) (hx : b ∉ ex) : ∃ sl, h1.get? b = some { ob with slots := sl } := by
 by_cases hb : b ∈ fs
 ·exact u.slot b ob q n hb hx
 ·exact ⟨ob.slots, u.keep b ob q n hb hx⟩
theorem Un.trans (a : Un fs ex H H1 h h1) (b : Un fs ex H1 H2 h1 h2) : Un fs ex H H2 h h2 where
 keep := fun c ob q n hc hx => b.keep c ob (a.keep c ob q n hc hx) (a.free c ob q n hx) hc hx
 slot := fun c ob q n hc hx => by
  obtain ⟨sl, e1⟩ := a.slot c ob q n hc hx
  obtain ⟨sl', e2⟩ := b.slot c _ e1 (a.free c ob q n hx) hc hx
  exact ⟨sl', e2⟩
 free := fun c ob q n hx => by
  obtain ⟨o', e1⟩ := a.there c ob q hx
  exact b.free c o' e1 (a.free c ob q n hx) hx
 there := fun c ob q hx => by
  obtain ⟨o', e1⟩ := a.there c ob q hx
  exact b.there c o' e1 hx
 jd := fun c xs q => b.jd c xs (a.jd c xs q)
 gM := fun c ob xs q => b.gM c ob xs (a.gM c ob xs q)
 je := fun c ps q => by
  obtain ⟨m1, e1⟩ := a.je c ps q
  obtain ⟨m2, e2⟩ := b.je c _ e1
  exact ⟨m1 ++ m2, by rw [e2, Array.append_assoc]⟩
theorem Un.kept (k : ∀ b u, h.get? b = some u → h'.get? b = some u) : Un fs ex H H h h' :=
 ⟨fun b ob q _ _ _ => k b ob q, fun b ob q _ _ _ => ⟨ob.slots, k b ob q⟩, fun _ _ _ n _ => n, fun b ob q _ => ⟨ob, k b ob q⟩, fun _ _ q => q, fun _ _ _ q => q, fun _ ps q => ⟨#[], by rw [q]; simp⟩⟩
theorem Un.refl : Un fs ex H H h h := Un.kept fun _ _ q => q
theorem Un.laid (k : ∀ b u, h.get? b = some u → h'.get? b = some u) (hp : h.objs.size ≤ a) (hn : H a = none) : Un fs ex H (upd H a o) h h' where
 keep := fun b u q _ _ _ => k b u q
 slot := fun b u q _ _ _ => ⟨u.slots, k b u q⟩
 free := fun b u q n _ => by rw [az (Nat.ne_of_lt (Nat.lt_of_lt_of_le (Heap.lt_size q) hp))]; exact n
 there := fun b u q _ => ⟨u, k b u q⟩
 jd := fun b xs q => by rw [az (aY q hn)]; exact q
 gM := fun b u xs q => by rw [az (aY q hn)]; exact q
 je := fun b ps q => ⟨#[], by rw [az (aY q hn), q]; simp⟩
theorem Un.write (mu : Lw (H x)) (he : e = x ∨ H e = some (.own x)) (k : ∀ b u, b ≠ e → h.get? b = some u → h'.get? b = some u) (KR : ∃ u, h'.get? e = some u) : Un fs ex H (upd H x o) h h' := by
 have hx : ∀ b, H b = none → b ≠ x := fun b n z => by subst z; rw [n] at mu; exact mu
 have hb : ∀ b, H b = none → b ≠ e := fun b n z => by
  subst z
  rcases he with r | r
  ·exact hx b n r
  ·rw [n] at r; cases r
 have hm : ∀ b u, H b = some u → ¬ Lw (some u) → b ≠ x := fun b u q nm z => by subst z; rw [q] at mu; exact nm mu
 refine ⟨fun b u q n _ _ => k b u (hb b n) q, fun b u q n _ _ => ⟨u.slots, k b u (hb b n) q⟩, fun b u q n _ => by rw [az (hx b n)]; exact n, fun b u q _ => ?_,
  fun b xs q => by rw [az (hm b _ q fun z => z)]; exact q, fun b u xs q => by rw [az (hm b _ q fun z => z)]; exact q, fun b ps q => ⟨#[], by rw [az (hm b _ q fun z => z), q]; simp⟩⟩
 by_cases HB : b = e
 ·subst HB; exact KR
 ·exact ⟨u, k b u HB q⟩
end
def Pb (h : Heap) (H : Hp) : List Addr := (List.range h.objs.size).filter fun a => (H a).isSome
def ui (h : Heap) (H : Hp) : Heap := PySem.W.hideAll h (Pb h H)
theorem A5 (h : Heap) (H : Hp) : (ui h H).objs.size = h.objs.size := PySem.W.hideAll_size _ _
theorem Ci {h : Heap} {H : Hp} {b : Addr} {o : Obj} (e : h.get? b = some o) (n : H b = none) : (ui h H).get? b = some o :=
 PySem.W.hideAll_get _ e fun hm => by
  have q : (H b).isSome = true := (List.mem_filter.mp hm).2
  rw [n] at q; simp at q
theorem EG {h : Heap} {H : Hp} {b : Addr} {o : Obj} (e : (ui h H).get? b = some o) : h.get? b = some o ∧ H b = none := by
 have e' : h.get? b = some o := PySem.W.of_hideAll (Pb h H) e
 refine ⟨e', ?_⟩
 cases q : H b with
 | none => rfl
 | some x =>
  have hm : b ∈ Pb h H := List.mem_filter.mpr ⟨List.mem_range.mpr (Heap.lt_size e'), by simp [q]⟩
  have z : (ui h H).get? b = none := PySem.W.hideAll_none (Pb h H) hm
  rw [z] at e; cases e
def EH (g h : Heap) (L : Addr) : List (Addr × Obj) := (List.range h.objs.size).filterMap fun a => if a = L ∨ (g.get? a).isSome = true then none else (h.get? a).map fun o => (a, o)
def rest (g h : Heap) (L d : Addr) : List (Addr × Obj) := (EH g h L).filter fun p => decide (p.1 ≠ d)
end L2
namespace L2
open PySem PySem.Spec PyProof.Rows
structure Mod (K : PySem.W.Frag) (mg : Str → Option Value) (base : Heap) : Prop where
 Ly : K.In base
 glob : base.Ns mainGlobals mg
 blt : ∃ mb, base.Ns builtinsNs mb ∧ ∀ x : Str, x ≠ "__name__" → mb x = bootBuiltins x
 nolimit : base.NoLimit
structure Cx where
 prog : Program
 w : World
 K : PySem.W.Frag
 mg : Str → Option Value
 base : Heap
 A : Around
 N : List Str
 s₀ : Shared
 H₀ : Hp
 env : Env
 outer : List Env
 stack : List Env
 ex : List Addr
 fn : Str → Bool
 calm : Bool
 pn : List (Addr × Obj)
 xe : Value → Shared → Prop
def eY (l : List Env) : List Addr := l.filterMap (·.frame)
abbrev Cx.fs (X : Cx) : List Addr := eY X.outer
def Qj (sc : Scope) (x : Str) : Prop := sc.names.lookup x = some .local ∨ sc.names.lookup x = some .cell ∨ sc.names.lookup x = some .free
def Loc (sc : Scope) (x : Str) : Prop := sc.names.lookup x = some .local ∨ sc.names.lookup x = some .cell
def Look (env : Env) (h : Heap) (m : Str → Option Value) (x : Str) (u : Value) : Prop :=
 (env.kindOf x = some .local ∧ m x = some u) ∨ ((env.kindOf x = some .cell ∨ env.kindOf x = some .free) ∧ ∃ c, env.cells.lookup x = some c ∧ h.IsCell c (some u))
structure Cx.Ok (X : Cx) : Prop where
 mod : Mod X.K X.mg X.base
 kind : X.env.scope.kind = .function
 glob : X.env.globals = mainGlobals
 blt : X.env.builtins = builtinsNs
 above : X.s₀.heap.objs.size ≤ X.env.locals
 inj : ∀ x y c, X.env.cells.lookup x = some c → X.env.cells.lookup y = some c → x = y
 has : ∀ x, (X.env.kindOf x = some .cell ∨ X.env.kindOf x = some .free) → ∃ c, X.env.cells.lookup x = some c
 HC : ∀ x c, X.fn x = true → X.env.cells.lookup x = some c → X.s₀.heap.objs.size ≤ c
 hd : X.calm = true → X.A.handled = none
 frames : X.A.frames = some X.stack
 KS : X.stack = X.outer ∨ (X.stack = X.env :: X.outer ∧ X.env.frame = some X.env.locals)
 Qk : ∀ b ∈ X.ex, b ≠ X.env.locals ∧ ∀ x c, X.env.cells.lookup x = some c → c ≠ b
 bs : ∀ b o, X.base.get? b = some o → X.s₀.heap.get? b = some o ∧ X.H₀ b = none
 EI : X.base.objs.size ≤ X.s₀.heap.objs.size
 A6 : ∀ b o, X.base.get? b = some o → b ∉ X.ex
 Cj : ∀ b ∈ X.ex, b ∉ X.fs
 nA : X.s₀.heap.FunFrames X.base X.outer
 HD : ∀ b ∈ X.fs, X.H₀ b = none
structure Inv (X : Cx) (pins : List (Addr × Obj)) (σ : List (Option V)) (H : Hp) (s : Shared) : Prop where
 ok : X.Ok
 os : s.os = X.s₀.os
 bare : AllBare s.gens
 base : Un X.fs X.ex X.H₀ H X.s₀.heap s.heap
 loc : ∃ m, s.heap.Ns X.env.locals m ∧ ∀ (i : Nat) (x : Str) (v : V), X.N[i]? = some x → σ[i]? = some (some v) → Qj X.env.scope x → ∃ u, RelV v u ∧ Look X.env s.heap m x u
 cell : ∀ x c, X.env.cells.lookup x = some c → ∃ v, s.heap.IsCell c v
 free : H X.env.locals = none
 eQ : ∀ x c, X.env.cells.lookup x = some c → H c = none
 pin : ∀ p ∈ X.pn ++ pins, s.heap.get? p.1 = some p.2 ∧ H p.1 = none ∧ p.1 ≠ X.env.locals ∧ p.1 ∉ X.fs ∧ ∀ v, p.2.data ≠ .cell v
 hok : jh X.prog X.w H s.heap
 len : σ.length = X.N.length
section
variable {X : Cx} {pins : List (Addr × Obj)} {σ : List (Option V)} {H H' : Hp} {s : Shared} {h' : Heap}
theorem Cx.Ok.Ql (ok : X.Ok) {b : Addr} {o : Obj} (e : X.base.get? b = some o) : b ∉ X.fs := fun hb => by
 have := (ok.nA.mem hb).1
 rw [e] at this; cases this
theorem Inv.bs (I : Inv X pins σ H s) : ∀ b o, X.base.get? b = some o → s.heap.get? b = some o ∧ H b = none := fun b o e =>
 ⟨I.base.keep b o (I.ok.bs b o e).1 (I.ok.bs b o e).2 (I.ok.Ql e) (I.ok.A6 b o e), I.base.free b o (I.ok.bs b o e).1 (I.ok.bs b o e).2 (I.ok.A6 b o e)⟩
theorem Inv.bk (I : Inv X pins σ H s) : ∀ b o, X.base.get? b = some o → s.heap.get? b = some o := fun b o e => (I.bs b o e).1
theorem Inv.mod (I : Inv X pins σ H s) : Mod X.K X.mg X.base := I.ok.mod
theorem Inv.pM (I : Inv X pins σ H s) : X.K.In s.heap := I.ok.mod.Ly.keeps I.bk
theorem Inv.nolimit (I : Inv X pins σ H s) : s.heap.NoLimit := I.ok.mod.nolimit.keeps I.bk
theorem Inv.lt (I : Inv X pins σ H s) : X.env.locals < s.heap.objs.size := let ⟨_, hn, _⟩ := I.loc; hn.lt
theorem Inv.sz (I : Inv X pins σ H s) : X.s₀.heap.objs.size ≤ s.heap.objs.size := Nat.le_trans I.ok.above (Nat.le_of_lt I.lt)
theorem Inv.Qm (I : Inv X pins σ H s) {a : Addr} (h : s.heap.objs.size ≤ a) : a ∉ X.fs := fun hb => by
 obtain ⟨_, o, ho, _⟩ := I.ok.nA.mem hb
 exact absurd (Nat.lt_of_lt_of_le (Heap.lt_size ho) (Nat.le_trans I.sz h)) (Nat.lt_irrefl _)
theorem Inv.A7 (I : Inv X pins σ H s) : ∀ x c, X.env.cells.lookup x = some c → c ≠ X.env.locals := fun x c e z => by
 obtain ⟨v, o, ho, hd⟩ := I.cell x c e
 obtain ⟨m, ⟨o', es, ep, ho', hd', _⟩, _⟩ := I.loc
 rw [z, ho'] at ho; cases ho; rw [hd'] at hd; cases hd
theorem Inv.nA (I : Inv X pins σ H s) : s.heap.FunFrames X.base X.outer := by
 have all : ∀ (l : List Env), (∀ b ∈ eY l, b ∈ X.fs) → X.s₀.heap.FunFrames X.base l → s.heap.FunFrames X.base l := by
  intro l
  induction l with
  | nil => intro _ _; trivial
  | cons env r ih =>
   intro hs hl
   obtain ⟨hk, ⟨L, o, hf, hn, ho, hd⟩, hr⟩ := hl
   have hL : L ∈ X.fs := hs L (by unfold eY; rw [List.filterMap_cons, hf]; exact List.mem_cons_self)
   obtain ⟨sl, e⟩ := I.base.slot L o ho (I.ok.HD L hL) hL fun z => I.ok.Cj L z hL
   exact ⟨hk, ⟨L, _, hf, hn, e, hd⟩, ih (fun b hb => hs b (by unfold eY; rw [List.filterMap_cons, hf]; exact List.mem_cons_of_mem _ hb)) hr⟩
 exact all X.outer (fun _ hb => hb) I.ok.nA
theorem Inv.stack (I : Inv X pins σ H s) : s.heap.FunFrames X.base X.stack := by
 rcases I.ok.KS with e | ⟨e, hf⟩
 ·rw [e]; exact I.nA
 ·rw [e]
  obtain ⟨m, hn, _⟩ := I.loc
  refine .cons (by rw [I.ok.kind]; decide) hf hn ?_ I.nA
  exact Heap.get?_none_of_le (Nat.le_trans I.ok.EI I.ok.above)
theorem Inv.uj (I : Inv X pins σ H s) : ∀ b ∈ eY X.stack, b ∈ X.env.locals :: X.fs := fun b hb => by
 rcases I.ok.KS with e | ⟨e, hf⟩
 ·rw [e] at hb; exact List.mem_cons_of_mem _ hb
 ·rw [e] at hb
  unfold eY at hb
  rw [List.filterMap_cons, hf] at hb
  exact hb
theorem Inv.um (I : Inv X pins σ H s) : ∀ b ∈ eY X.stack, H b = none := fun b hb => by
 rcases List.mem_cons.mp (I.uj b hb) with e | hb
 ·rw [e]; exact I.free
 ·obtain ⟨_, o, ho, _⟩ := I.ok.nA.mem hb
  exact I.base.free b o ho (I.ok.HD b hb) fun z => I.ok.Cj b z hb
theorem Inv.step {g' : Array GenState} {t' : Nat} {d' : Drawn} {ch : List Addr} (I : Inv X pins σ H s)
  (Ex : ∀ b ∈ ch, (b ∈ X.ex ∨ X.s₀.heap.objs.size ≤ b) ∧ b ≠ X.env.locals ∧ (∀ x c, X.env.cells.lookup x = some c → c ≠ b) ∧ ∀ p ∈ X.pn ++ pins, p.1 ≠ b)
  (keep : ∀ b o, b ≠ X.env.locals → b ∉ X.fs → b ∉ ch → s.heap.get? b = some o → H b = none → h'.get? b = some o)
  (slot : ∀ b o, b ≠ X.env.locals → b ∈ X.fs → b ∉ ch → s.heap.get? b = some o → H b = none → ∃ sl, h'.get? b = some { o with slots := sl }) (free : ∀ b o, b ∉ ch → s.heap.get? b = some o → H b = none → H' b = none)
  (there : ∀ b o, b ∉ ch → s.heap.get? b = some o → ∃ o', h'.get? b = some o')
  (jd : ∀ b xs, H b = some (.tup xs) → H' b = some (.tup xs)) (gM : ∀ b o u, H b = some (.ku o u) → H' b = some (.ku o u)) (je : ∀ b ps, H b = some (.Ew ps) → ∃ more, H' b = some (.Ew (ps ++ more)))
  (ns : ∀ m, s.heap.Ns X.env.locals m → h'.Ns X.env.locals m) (hok : jh X.prog X.w H' h') (hg : AllBare g') :
  Inv X pins σ H' { s with heap := h', gens := g', drawn := d', toks := t' } := by
 have Lz : ∀ b o, X.s₀.heap.get? b = some o → b ≠ X.env.locals := fun b o e => Nat.ne_of_lt (Nat.lt_of_lt_of_le (Heap.lt_size e) I.ok.above)
 have Pc : ∀ b o, X.s₀.heap.get? b = some o → b ∉ X.ex → b ∉ ch := fun b o e hx hb => by
  rcases (Ex b hb).1 with z | z
  ·exact hx z
  ·exact absurd (Nat.lt_of_lt_of_le (Heap.lt_size e) z) (Nat.lt_irrefl _)
 have cellK : ∀ x c, X.env.cells.lookup x = some c → ∀ v, s.heap.IsCell c v → h'.IsCell c v := fun x c e v ⟨o, ho, hd⟩ => by
  have LA : c ∉ ch := fun z => (Ex c z).2.2.1 x c e rfl
  by_cases hc : c ∈ X.fs
  ·obtain ⟨sl, q⟩ := slot c o (I.A7 x c e) hc LA ho (I.eQ x c e)
   exact ⟨_, q, hd⟩
  ·exact ⟨o, keep c o (I.A7 x c e) hc LA ho (I.eQ x c e), hd⟩
 refine ⟨I.ok, I.os, hg, ⟨fun b o e n hb hx => ?_, fun b o e n hb hx => ?_, fun b o e n hx => ?_, fun b o e hx => ?_, fun b xs e => jd b xs (I.base.jd b xs e), fun b o xs e => gM b o xs (I.base.gM b o xs e), fun b ps e => ?_⟩, ?_, fun x c e => ?_, ?_, fun x c e => ?_, fun p hp => ?_, hok, I.len⟩
 ·exact keep b o (Lz b o e) hb (Pc b o e hx) (I.base.keep b o e n hb hx) (I.base.free b o e n hx)
 ·obtain ⟨sl, e1⟩ := I.base.slot b o e n hb hx
  obtain ⟨sl', e2⟩ := slot b _ (Lz b o e) hb (Pc b o e hx) e1 (I.base.free b o e n hx)
  exact ⟨sl', e2⟩
 ·obtain ⟨o', e1⟩ := I.base.there b o e hx
  exact free b o' (Pc b o e hx) e1 (I.base.free b o e n hx)
 ·obtain ⟨o', e1⟩ := I.base.there b o e hx
  exact there b o' (Pc b o e hx) e1
 ·obtain ⟨m1, e1⟩ := I.base.je b ps e
  obtain ⟨m2, e2⟩ := je b _ e1
  exact ⟨m1 ++ m2, by rw [e2, Array.append_assoc]⟩
 ·obtain ⟨m, hn, hl⟩ := I.loc
  refine ⟨m, ns m hn, fun i x v e1 e2 e3 => ?_⟩
  obtain ⟨u, r, l⟩ := hl i x v e1 e2 e3
  refine ⟨u, r, ?_⟩
  rcases l with l | ⟨k, c, e, z⟩
  ·exact .inl l
  ·exact .inr ⟨k, c, e, cellK x c e _ z⟩
 ·obtain ⟨v, z⟩ := I.cell x c e
  exact ⟨v, cellK x c e v z⟩
 ·obtain ⟨m, ⟨o, _, _, ho, _⟩, _⟩ := I.loc
  exact free _ o (fun z => (Ex _ z).2.1 rfl) ho I.free
 ·obtain ⟨v, o, ho, hd⟩ := I.cell x c e
  exact free c o (fun z => (Ex c z).2.2.1 x c e rfl) ho (I.eQ x c e)
 ·obtain ⟨e, n, ne, nf, d⟩ := I.pin p hp
  have LA : p.1 ∉ ch := fun z => (Ex p.1 z).2.2.2 p hp rfl
  exact ⟨keep p.1 p.2 ne nf LA e n, free p.1 p.2 LA e n, ne, nf, d⟩
theorem Inv.un {t' : Nat} (I : Inv X pins σ H s) (u : Un X.fs [] H H' s.heap h') (hok : jh X.prog X.w H' h') : Inv X pins σ H' { s with heap := h', toks := t' } := by
 obtain ⟨m, ⟨o, es, ep, ho, r⟩, _⟩ := id I.loc
 obtain ⟨sl, hL⟩ := u.any ho I.free (by simp)
 exact I.step (g' := s.gens) (d' := s.drawn) (ch := []) (fun _ z => nomatch z) (fun b o _ hb _ e n => u.keep b o e n hb (by simp)) (fun b o _ hb _ e n => u.slot b o e n hb (by simp)) (fun b o _ e n => u.free b o e n (by simp)) (fun b o _ e => u.there b o e (by simp)) u.jd u.gM u.je (fun m' hm => by
  obtain ⟨o', mh, Qn, ho', r'⟩ := hm
  rw [ho] at ho'; cases ho'
  exact ⟨_, mh, Qn, hL, r'⟩) hok I.bare
theorem Inv.call {g' : Array GenState} {t' : Nat} {d' : Drawn} {ch : List Addr} (I : Inv X pins σ H s) (u : Un (eY X.stack) ch H H' s.heap h') (hok : jh X.prog X.w H' h') (hg : AllBare g')
  (Ex : ∀ b ∈ ch, (b ∈ X.ex ∨ X.s₀.heap.objs.size ≤ b) ∧ b ≠ X.env.locals ∧ (∀ x c, X.env.cells.lookup x = some c → c ≠ b) ∧ ∀ p ∈ X.pn ++ pins, p.1 ≠ b) :
  Inv X pins σ H' { s with heap := h', gens := g', drawn := d', toks := t' } := by
 obtain ⟨m, ⟨o, es, ep, ho, r⟩, _⟩ := id I.loc
 obtain ⟨sl, hL⟩ := u.any ho I.free fun z => (Ex _ z).2.1 rfl
 exact I.step (ch := ch) Ex (fun b o hL hb hc e n => u.keep b o e n (fun z => (List.mem_cons.mp (I.uj b z)).elim hL hb) hc) (fun b o _ _ hc e n => u.any e n hc) (fun b o hc e n => u.free b o e n hc) (fun b o hc e => u.there b o e hc) u.jd u.gM u.je (fun m' hm => by
  obtain ⟨o', mh, Qn, ho', r'⟩ := hm
  rw [ho] at ho'; cases ho'
  exact ⟨_, mh, Qn, hL, r'⟩) hok hg
theorem Inv.turned {t' : Nat} {it : Addr} (I : Inv X pins σ H s) (k : ∀ b o, b ≠ it → s.heap.get? b = some o → h'.get? b = some o) (hn : H it = none) (hL : it ≠ X.env.locals)
  (h1 : it ∈ X.ex ∨ X.s₀.heap.objs.size ≤ it) (h2 : ∀ x c, X.env.cells.lookup x = some c → c ≠ it) (h3 : ∀ p ∈ X.pn ++ pins, p.1 ≠ it) : Inv X pins σ H { s with heap := h', toks := t' } := by
 have Ub : ∀ b u, H b = some u → b ≠ it := fun b u e z => by rw [z, hn] at e; cases e
 refine I.step (g' := s.gens) (d' := s.drawn) (ch := [it]) (fun b hb => ?_) (fun b o _ _ hc e _ => k b o (fun z => hc (by simp [z])) e) (fun b o _ _ hc e _ => ⟨o.slots, k b o (fun z => hc (by simp [z])) e⟩) (fun _ _ _ _ n => n)
  (fun b o hc e => ⟨o, k b o (fun z => hc (by simp [z])) e⟩) (fun _ _ e => e) (fun _ _ _ e => e) (fun b ps e => ⟨#[], by rw [e]; simp⟩) (fun m hm => ?_) (fun b u e => ?_) I.bare
 ·have e : b = it := by simpa using hb
  subst e
  exact ⟨h1, hL, h2, h3⟩
 ·obtain ⟨o, es, ep, ho, r⟩ := hm
  exact ⟨o, es, ep, k _ o (Ne.symm hL) ho, r⟩
 ·refine (I.hok b u e).wy (fun c v hc q => k c v ?_ q) (fun _ q => q) fun _ _ q => q
  rcases hc with z | z
  ·rw [z]; exact Ub b u e
  ·exact Ub c _ z
theorem Inv.tok (I : Inv X pins σ H s) (t : Nat) : Inv X pins σ H { s with toks := t } := I.un (h' := s.heap) (t' := t) Un.refl I.hok
theorem Inv.kept {t' : Nat} (I : Inv X pins σ H s) (k : ∀ b u, s.heap.get? b = some u → h'.get? b = some u) : Inv X pins σ H { s with heap := h', toks := t' } := I.un (Un.kept k) (I.hok.kept k)
theorem Inv.laid {a : Addr} {o : HO} {t' : Nat} (I : Inv X pins σ H s) (k : ∀ b u, s.heap.get? b = some u → h'.get? b = some u) (hp : s.heap.objs.size ≤ a) (new : bg X.prog X.w (upd H a o) h' a o) :
  Inv X pins σ (upd H a o) { s with heap := h', toks := t' } := I.un (Un.laid k hp (I.hok.fresh hp)) (I.hok.laid k hp new)
theorem Inv.write {x e : Addr} {o : HO} {t' : Nat} (I : Inv X pins σ H s) (mu : Lw (H x)) (he : e = x ∨ H e = some (.own x)) (k : ∀ b u, b ≠ e → s.heap.get? b = some u → h'.get? b = some u) (KR : ∃ u, h'.get? e = some u)
  (new : bg X.prog X.w (upd H x o) h' x o) : Inv X pins σ (upd H x o) { s with heap := h', toks := t' } := I.un (Un.write mu he k KR) (I.hok.write mu he k KR new)
theorem Inv.z8 {ff : List (Addr × Obj)} (I : Inv X pins σ H s) (h : ∀ p ∈ ff, s.heap.get? p.1 = some p.2 ∧ H p.1 = none ∧ p.1 ≠ X.env.locals ∧ p.1 ∉ X.fs ∧ ∀ v, p.2.data ≠ .cell v) : Inv X ff σ H s :=
 ⟨I.ok, I.os, I.bare, I.base, I.loc, I.cell, I.free, I.eQ, fun p hp => (List.mem_append.mp hp).elim (fun z => I.pin p (List.mem_append_left _ z)) (h p), I.hok, I.len⟩
theorem pN {N : List Str} (hN : N.Nodup) {i j : Nat} {x : Str} (a : N[i]? = some x) (b : N[j]? = some x) : i = j := by
 obtain ⟨h1, e1⟩ := List.getElem?_eq_some_iff.mp a
 obtain ⟨h2, e2⟩ := List.getElem?_eq_some_iff.mp b
 exact (List.getElem_inj hN).mp (e1.trans e2.symm)
theorem sN {M : Model} {A : Around} {E : Value → Shared → Prop} {i : Nat} {x : Str} {v : V} {u : Value} {Q : Unit → Shared → Prop} (I : Inv X pins σ H s) (hN : X.N.Nodup) (hi : X.N[i]? = some x) (hx : Loc X.env.scope x) (r : RelV v u)
  (h : ∀ s', Inv X pins (σ.set i (some v)) H s' → (∃ a, Heap.SameBut a s.heap s'.heap ∧ (a = X.env.locals ∨ X.env.cells.lookup x = some a)) → Q () s') (hf : X.fn x = true ∨ X.env.scope.names.lookup x = some .local := by first | exact .inl rfl | exact .inr rfl | assumption) : wpAny M A (storeName X.env x u) Q E s := by
 obtain ⟨m, hn, hl⟩ := id I.loc
 have Qo : (X.env.scope.kind == .class || (X.env.scope.kind == .module && X.env.locals != X.env.globals)) = false := by rw [I.ok.kind]; rfl
 have Pe : i < σ.length := by rw [I.len]; exact (List.getElem?_eq_some_iff.mp hi).1
 have A7 := I.A7
 have tracked : ∀ {a : Addr} {h' : Heap}, (∃ o, s.heap.get? a = some o ∧ H a = none) → Heap.SameBut a s.heap h' → jh X.prog X.w H h' := fun {a h'} ha hs b ob e => by
  obtain ⟨_, _, hfree⟩ := ha
  refine (I.hok b ob e).wy (fun c w' hc q => (hs.2 c ?_).trans q) (fun _ q => q) fun _ _ q => q
  rintro rfl
  rcases hc with rfl | hc
  ·rw [hfree] at e; cases e
  ·rw [hfree] at hc; cases hc
 rcases hx with hk | hk
 ·refine wpAny_storeName_local hk hn (fun h' hn' hs => ?_) Qo
  obtain ⟨oL, _, _, Pf, _⟩ := id hn
  refine h _ ⟨I.ok, I.os, I.bare, ⟨fun b o e n hb hx => ?_, fun b o e n hb hx => ?_, I.base.free, fun b o e hx => ?_, I.base.jd, I.base.gM, I.base.je⟩, ⟨_, hn', fun j y v' e1 e2 e3 => ?_⟩, fun y c e => ?_, I.free, I.eQ, fun p hp => ?_, tracked ⟨oL, Pf, I.free⟩ hs, by simpa using I.len⟩ ⟨_, hs, .inl rfl⟩
  ·exact (hs.2 b (Nat.ne_of_lt (Nat.lt_of_lt_of_le (Heap.lt_size e) I.ok.above))).trans (I.base.keep b o e n hb hx)
  ·obtain ⟨sl, e1⟩ := I.base.slot b o e n hb hx
   exact ⟨sl, (hs.2 b (Nat.ne_of_lt (Nat.lt_of_lt_of_le (Heap.lt_size e) I.ok.above))).trans e1⟩
  ·obtain ⟨o', e1⟩ := I.base.there b o e hx
   exact ⟨o', (hs.2 b (Nat.ne_of_lt (Nat.lt_of_lt_of_le (Heap.lt_size e) I.ok.above))).trans e1⟩
  ·by_cases hj : j = i
   ·subst hj
    rw [hi] at e1; cases e1
    rw [List.getElem?_set_self Pe] at e2
    cases e2
    exact ⟨u, r, .inl ⟨hk, by simp⟩⟩
   ·rw [List.getElem?_set_ne (Ne.symm hj)] at e2
    obtain ⟨u', r', q⟩ := hl j y v' e1 e2 e3
    refine ⟨u', r', ?_⟩
    rcases q with ⟨k, e⟩ | ⟨k, c, e, z⟩
    ·refine .inl ⟨k, ?_⟩
     have : y ≠ x := fun e => hj (pN hN e1 (e ▸ hi))
     simp [this, e]
    ·exact .inr ⟨k, c, e, z.sameBut hs (A7 y c e)⟩
  ·obtain ⟨w', z⟩ := I.cell y c e
   exact ⟨w', z.sameBut hs (A7 y c e)⟩
  ·obtain ⟨e, n, ne, nf, d⟩ := I.pin p hp
   exact ⟨(hs.2 p.1 ne).trans e, n, ne, nf, d⟩
 ·have EJ : X.fn x = true := by
   rcases hf with z | z
   ·exact z
   ·rw [z] at hk; cases hk
  obtain ⟨c, hc⟩ := I.ok.has x (.inl hk)
  obtain ⟨w', z⟩ := I.cell x c hc
  refine wpAny_storeName_cell I.ok.kind hk hc z (fun h' hc' hs => ?_)
  obtain ⟨oc, Uc, Qp⟩ := id z
  refine h { s with heap := h' } ⟨I.ok, I.os, I.bare, ⟨fun b o e n hb hx => ?_, fun b o e n hb hx => ?_, I.base.free, fun b o e hx => ?_, I.base.jd, I.base.gM, I.base.je⟩, ⟨m, hn.sameBut hs (Ne.symm (A7 x c hc)), fun j y v' e1 e2 e3 => ?_⟩, fun y c' e => ?_, I.free, I.eQ, fun p hp => ?_, tracked ⟨oc, Uc, I.eQ x c hc⟩ hs, by simpa using I.len⟩ ⟨c, hs, .inr hc⟩
  ·exact (hs.2 b (Nat.ne_of_lt (Nat.lt_of_lt_of_le (Heap.lt_size e) (I.ok.HC x c EJ hc)))).trans (I.base.keep b o e n hb hx)
  ·obtain ⟨sl, e1⟩ := I.base.slot b o e n hb hx
   exact ⟨sl, (hs.2 b (Nat.ne_of_lt (Nat.lt_of_lt_of_le (Heap.lt_size e) (I.ok.HC x c EJ hc)))).trans e1⟩
  ·obtain ⟨o', e1⟩ := I.base.there b o e hx
   exact ⟨o', (hs.2 b (Nat.ne_of_lt (Nat.lt_of_lt_of_le (Heap.lt_size e) (I.ok.HC x c EJ hc)))).trans e1⟩
  ·by_cases hj : j = i
   ·subst hj
    rw [hi] at e1; cases e1
    rw [List.getElem?_set_self Pe] at e2
    cases e2
    exact ⟨u, r, .inr ⟨.inl hk, c, hc, hc'⟩⟩
   ·rw [List.getElem?_set_ne (Ne.symm hj)] at e2
    obtain ⟨u', r', q⟩ := hl j y v' e1 e2 e3
    refine ⟨u', r', ?_⟩
    rcases q with q | ⟨k, c', e, z'⟩
    ·exact .inl q
    ·refine .inr ⟨k, c', e, z'.sameBut hs ?_⟩
     rintro rfl
     exact hj (pN hN e1 (I.ok.inj _ _ _ e hc ▸ hi))
  ·by_cases Ud : c' = c
   ·subst Ud; exact ⟨_, hc'⟩
   ·obtain ⟨w2, z2⟩ := I.cell y c' e
    exact ⟨w2, z2.sameBut hs Ud⟩
  ·obtain ⟨e, n, ne, nf, d⟩ := I.pin p hp
   refine ⟨(hs.2 p.1 ?_).trans e, n, ne, nf, d⟩
   intro q
   rw [q, Uc] at e
   have q' : oc = p.2 := Option.some.inj e
   exact d w' (by rw [← q']; exact Qp)
theorem mi {M : Model} {A : Around} {E : Value → Shared → Prop} {i : Nat} {x : Str} {v : V} {u : Value} {Q : Unit → Shared → Prop} (I : Inv X pins σ H s) (hN : X.N.Nodup) (hi : X.N[i]? = some x) (hx : Loc X.env.scope x) (r : RelV v u)
  (h : ∀ s', Inv X pins (σ.set i (some v)) H s' → Q () s') (hf : X.fn x = true ∨ X.env.scope.names.lookup x = some .local := by first | exact .inl rfl | exact .inr rfl | assumption) : wpAny M A (storeName X.env x u) Q E s :=
 sN I hN hi hx r (fun s' I' _ => h s' I') hf
theorem Inv.LB {s' : Shared} {ch : List Addr} (I : Inv X pins σ H s) (ho : s'.os = s.os) (u : Un (eY X.stack) ch H H' s.heap s'.heap) (hok : jh X.prog X.w H' s'.heap) (hg : AllBare s'.gens)
  (Ex : ∀ b ∈ ch, (b ∈ X.ex ∨ X.s₀.heap.objs.size ≤ b) ∧ b ≠ X.env.locals ∧ (∀ x c, X.env.cells.lookup x = some c → c ≠ b) ∧ ∀ p ∈ X.pn ++ pins, p.1 ≠ b) : Inv X pins σ H' s' := by
 obtain ⟨h', g', d', t', o'⟩ := s'
 have e : o' = s.os := ho
 subst e
 exact I.call (g' := g') (t' := t') (d' := d') u hok hg Ex
end
abbrev XK := Value → Option Addr → Hp → Prop
abbrev St := List (Option V)
abbrev VK := V → Hp → Prop
abbrev TE := St → Hp → VK → Prop
abbrev TT := St → Hp → (Bool → Hp → Prop) → Prop
abbrev TA := St → Hp → (List V → Hp → Prop) → Prop
structure Ends where
 nx : St → Hp → Prop
 rt : VK
 bk : St → Hp → Prop := fun _ _ => False
 ct : St → Hp → Prop := fun _ _ => False
abbrev TS := Ends → St → Hp → Prop
def EP (X : Cx) (pins : List (Addr × Obj)) (σ : St) (Q : VK) (u : Value) (s' : Shared) : Prop := ∃ v H', Inv X pins σ H' s' ∧ RelV v u ∧ Q v H'
def TP (X : Cx) (pins : List (Addr × Obj)) (σ : St) (Q : Bool → Hp → Prop) (b : Bool) (s' : Shared) : Prop := ∃ H', Inv X pins σ H' s' ∧ Q b H'
def AP (X : Cx) (pins : List (Addr × Obj)) (σ : St) (Q : List V → Hp → Prop) (us : List Value) (s' : Shared) : Prop := ∃ vs H', Inv X pins σ H' s' ∧ Vals vs us ∧ Q vs H'
def SP (X : Cx) (pins : List (Addr × Obj)) (D : Ends) (f : Flow) (s' : Shared) : Prop :=
 match f with
 | .next => ∃ σ' H', Inv X pins σ' H' s' ∧ D.nx σ' H'
 | .brk => ∃ σ' H', Inv X pins σ' H' s' ∧ D.bk σ' H'
 | .cont => ∃ σ' H', Inv X pins σ' H' s' ∧ D.ct σ' H'
 | .ret u => ∃ v σ' H', Inv X pins σ' H' s' ∧ RelV v u ∧ D.rt v H'
def PE (X : Cx) (e : Expr) (t : TE) : Prop :=
 ∀ (pins : List (Addr × Obj)) (s : Shared) (σ : St) (H : Hp) (Q : VK), Inv X pins σ H s → t σ H Q → wpAny (model X.prog X.w) X.A (eval e X.env) (EP X pins σ Q) X.xe s
def PT (X : Cx) (e : Expr) (t : TT) : Prop :=
 ∀ (pins : List (Addr × Obj)) (s : Shared) (σ : St) (H : Hp) (Q : Bool → Hp → Prop), Inv X pins σ H s → t σ H Q → wpAny (model X.prog X.w) X.A (isTrue e X.env (eval e X.env)) (TP X pins σ Q) X.xe s
def PW (X : Cx) (e : Expr) (t : TT) : Prop :=
 ∀ (whole : Sem Value) (pins : List (Addr × Obj)) (s : Shared) (σ : St) (H : Hp) (Q : Bool → Hp → Prop), Inv X pins σ H s → t σ H Q → wpAny (model X.prog X.w) X.A (isTrue e X.env whole) (TP X pins σ Q) X.xe s
theorem PW.pt {X : Cx} {e : Expr} {t : TT} (h : PW X e t) : PT X e t := h _
def PA (X : Cx) (es : List Expr) (t : TA) : Prop :=
 ∀ (pos : Pos) (pins : List (Addr × Obj)) (s : Shared) (σ : St) (H : Hp) (Q : List V → Hp → Prop), Inv X pins σ H s → t σ H Q → wpAny (model X.prog X.w) X.A (spliced (backTo pos (starEach es X.env))) (AP X pins σ Q) X.xe s
def PS (X : Cx) (st : Stmt) (t : TS) : Prop :=
 ∀ (pins : List (Addr × Obj)) (s : Shared) (σ : St) (H : Hp) (D : Ends), Inv X pins σ H s → t D σ H → wpAny (model X.prog X.w) X.A (exec st X.env) (SP X pins D) X.xe s
def xT (X : Cx) (st : List Stmt) (t : TS) : Prop :=
 ∀ (pins : List (Addr × Obj)) (s : Shared) (σ : St) (H : Hp) (D : Ends), Inv X pins σ H s → t D σ H → wpAny (model X.prog X.w) X.A (execs st X.env) (SP X pins D) X.xe s
theorem bQ {α : Type} {t : Sem α} {Q Q' : α → Shared → Prop} {M : Model} {A : Around} {E : Value → Shared → Prop} {s : Shared} (h : wpAny M A t Q E s) (hQ : ∀ a s, Q a s → Q' a s) : wpAny M A t Q' E s := wpAny_mono h hQ fun _ _ x => x
end L2
namespace L2
open PySem PySem.Spec PyProof.Rows
section
variable {X : Cx}
theorem bin {a b : Expr} {ta tb : TE} (ha : PE X a ta) (hb : PE X b tb) {pins : List (Addr × Obj)} {s : Shared} {σ : St} {H : Hp} {R : V → V → Hp → Prop} (I : Inv X pins σ H s) (h : ta σ H fun x H1 => tb σ H1 fun y H2 => R x y H2)
  {α : Type} {Q : α → Shared → Prop} {f : Value → Value → Sem α}
  (hf : ∀ v u s2 x y H2, Inv X pins σ H2 s2 → RelV x v → RelV y u → R x y H2 → wpAny (model X.prog X.w) X.A (f v u) Q X.xe s2) :
  wpAny (model X.prog X.w) X.A (eval a X.env) (fun v s₁ => wpAny (model X.prog X.w) X.A (eval b X.env) (fun u s₂ => wpAny (model X.prog X.w) X.A (f v u) Q X.xe s₂) X.xe s₁) X.xe s := by
 refine bQ (ha pins s σ H _ I h) fun v s1 ⟨x, H1, I1, r1, q1⟩ => ?_
 refine bQ (hb pins s1 σ H1 _ I1 q1) fun u s2 ⟨y, H2, I2, r2, q2⟩ => ?_
 exact hf v u s2 x y H2 I2 r1 r2 q2
def LC (i : Nat) : TE := fun σ H Q => ∃ v, σ[i]? = some (some v) ∧ Q v H
def tC (v : V) : TE := fun _ H Q => Q v H
theorem HE {i : Nat} {x : Str} {pos : Pos} (hN : X.N[i]? = some x) (hv : Qj X.env.scope x) (hd : (x == ("__debug__" : Str)) = false := by decide) (hcd : (x == ("__classdict__" : Str)) = false := by decide) : PE X (.Name x pos) (LC i) := by
 intro pins s σ H Q I h
 obtain ⟨v, e, h⟩ := h
 obtain ⟨m, hn, hl⟩ := I.loc
 obtain ⟨u, r, l⟩ := hl i x v hN e hv
 have fin : EP X pins σ Q u s := ⟨v, H, I, r, h⟩
 rcases l with ⟨hk, hm⟩ | ⟨hk, c, hc, hcell⟩
 ·exact wpAny_Name (wpAny_loadName_local I.ok.kind hk hn hm fin) hd
 ·rcases hk with hk | hk
  ·exact wpAny_Name (wpAny_loadName_cell I.ok.kind hk hc hcell fin) hd
  ·exact wpAny_Name (wpAny_loadName_free I.ok.kind hk hc hcell fin hcd) hd
theorem ah {i j pos} : PE X (.Constant (.int i) j pos) (tC (.int i)) := fun _ _ _ H _ I h => wpAny_Constant_int ⟨.int i, H, I.tok _, ⟨_, rfl⟩, h⟩
theorem bA {b j pos} : PE X (.Constant (.bool b) j pos) (tC (.bl b)) := fun _ _ _ H _ I h => Constant_bool ⟨.bl b, H, I, rfl, h⟩
theorem HF {j pos} : PE X (.Constant .none j pos) (tC .bz) := fun _ _ _ H _ I h => Constant_none ⟨.bz, H, I, rfl, h⟩
theorem pO {x j pos} : PE X (.Constant (.str x) j pos) (tC (.str x)) := fun _ _ _ H _ I h => Calls.Constant_str ⟨.str x, H, I.tok _, ⟨_, rfl⟩, h⟩
def Gl (X : Cx) (x : Str) : Prop := X.env.kindOf x = some .globalImplicit
theorem mj {E : Value → Shared → Prop} {pins : List (Addr × Obj)} {s : Shared} {σ : St} {H : Hp} {x : Str} {u : Value} {pos : Pos} {Q : Value → Shared → Prop} (I : Inv X pins σ H s) (hg : Gl X x) (hm : X.mg x = some u) (h : Q u s)
  (hd : (x == ("__debug__" : Str)) = false := by decide) : wpAny (model X.prog X.w) X.A (eval (.Name x pos) X.env) Q E s :=
 Calls.Name_function_global I.ok.kind hg (Calls.loadGlobal_global (by rw [I.ok.glob]; exact I.mod.glob.keeps I.bk) hm h) hd
theorem uo {E : Value → Shared → Prop} {pins : List (Addr × Obj)} {s : Shared} {σ : St} {H : Hp} {x : Str} {u : Value} {pos : Pos} {Q : Value → Shared → Prop} (I : Inv X pins σ H s) (hg : Gl X x) (hm : X.mg x = none) (hv : bootBuiltins x = some u) (h : Q u s)
  (hn : x ≠ "__name__" := by decide) (hd : (x == ("__debug__" : Str)) = false := by decide) : wpAny (model X.prog X.w) X.A (eval (.Name x pos) X.env) Q E s := by
 obtain ⟨mb, h1, h2⟩ := I.mod.blt
 exact Calls.Name_function_global I.ok.kind hg (Calls.loadGlobal_builtin (by rw [I.ok.glob]; exact I.mod.glob.keeps I.bk) hm (by rw [I.ok.blt]; exact h1.keeps I.bk) ((h2 x hn).trans hv) h) hd
theorem gO {x : Str} {v : V} {u : Value} {pos : Pos} (hg : Gl X x) (hm : X.mg x = some u) (r : RelV v u) (hd : (x == ("__debug__" : Str)) = false := by decide) : PE X (.Name x pos) (tC v) :=
 fun _ _ _ H _ I h => mj I hg hm ⟨v, H, I, r, h⟩ hd
theorem uq {x : Str} {v : V} {u : Value} {pos : Pos} (hg : Gl X x) (hm : X.mg x = none) (hv : bootBuiltins x = some u) (r : RelV v u) (hn : x ≠ "__name__" := by decide) (hd : (x == ("__debug__" : Str)) = false := by decide) : PE X (.Name x pos) (tC v) :=
 fun _ _ _ H _ I h => uo I hg hm hv ⟨v, H, I, r, h⟩ hn hd
def V4 (ta tb : TE) (k : Int → Int → Hp → Prop) : St → Hp → Prop := fun σ H => ta σ H fun x H1 => tb σ H1 fun y H2 => ∃ i j, x = .int i ∧ y = .int j ∧ k i j H2
variable {a b : Expr} {ta tb : TE} {pos : Pos}
def PC (X : Cx) (op : CmpOp) (a b : Expr) (t : TE) : Prop :=
 ∀ (pins : List (Addr × Obj)) (s : Shared) (σ : St) (H : Hp) (Q : VK), Inv X pins σ H s → t σ H Q →
  wpAny (model X.prog X.w) X.A (eval a X.env) (fun v s₁ => wpAny (model X.prog X.w) X.A (eval b X.env) (fun u s₂ => wpAny (model X.prog X.w) X.A (compareOp op v u) (EP X pins σ Q) X.xe s₂) X.xe s₁) X.xe s
theorem Ck (b : Expr) {op : CmpOp} (h : op ≠ .In) (h2 : op ≠ .NotIn) : behindInMarks op b = false := by
 have e1 : (op == CmpOp.In) = false := by cases op <;> first | rfl | exact absurd rfl h
 have e2 : (op == CmpOp.NotIn) = false := by cases op <;> first | rfl | exact absurd rfl h2
 cases b <;> simp [behindInMarks, e1, e2]
def A8 (p : Int → Int → Bool) (ta tb : TE) : TE := fun σ H Q => V4 ta tb (fun i j H2 => Q (.bl (p i j)) H2) σ H
abbrev Y1 : TE → TE → TE := A8 fun i j => decide (i < j)
abbrev Y2 : TE → TE → TE := A8 fun i j => decide (i ≤ j)
abbrev Y3 : TE → TE → TE := A8 fun i j => decide (j < i)
abbrev Y4 : TE → TE → TE := A8 fun i j => decide (j ≤ i)
abbrev V5 : TE → TE → TE := A8 fun i j => decide (i = j)
abbrev V6 : TE → TE → TE := A8 fun i j => !decide (i = j)
def tB (t : TE) : TT := fun σ H Q => t σ H fun x H1 => ∃ c, x = .bl c ∧ Q c H1
theorem HG {op : CmpOp} {t : TE} (h : PC X op a b t) (h1 : behindInMarks op b = false := by first | exact Ck _ (by decide) (by decide) | rfl) : PT X (.Compare a [op] [b] pos) (tB t) := by
 intro pins s σ H Q I hw
 refine wpAny_isTrue_Compare1 (bQ (h pins s σ H _ I hw) fun v s1 h1 => bQ h1 fun u s2 h2 => bQ h2 fun c s3 ⟨x, H1, I1, r1, q1⟩ => ?_) h1
 obtain ⟨d, rfl, q⟩ := q1
 cases r1
 exact wpAny_truthy_bool ⟨H1, I1, q⟩
theorem eG {e : Expr} {t : TE} (h : PE X e t) (he : ∀ whole, isTrue e X.env whole = (do let v ← whole; standAt e.pos; holding [v] (truthy v)) := by intro _; rfl) : PT X e (tB t) := by
 intro pins s σ H Q I hw
 refine isTrue_plain (bQ (h pins s σ H _ I hw) fun v s1 ⟨x, H1, I1, r1, q1⟩ => ?_) (he _)
 obtain ⟨d, rfl, q⟩ := q1
 cases r1
 exact wpAny_truthy_bool ⟨H1, I1, q⟩
variable {tA Pg : TT} {rest : List Expr}
def Qq (t u : TT) : TT := fun σ H Q => t σ H fun c H1 => if c = true then u σ H1 Q else Q false H1
def V7 (t u : TT) : TT := fun σ H Q => t σ H fun c H1 => if c = true then Q true H1 else u σ H1 Q
def Qr (t : TT) : TT := fun σ H Q => t σ H fun c H1 => Q (!c) H1
theorem ml (ha : PT X a tA) : PW X (.BoolOp .And [a] pos) tA := by
 intro wh pins s σ H Q I h
 refine isTrue_and (bQ (ha pins s σ H Q I h) fun c s1 e => ?_)
 cases c with
 | true => exact isTrue_and_nil e
 | false => exact e
theorem Cm (ha : PT X a tA) : PW X (.BoolOp .Or [a] pos) tA := by
 intro wh pins s σ H Q I h
 refine isTrue_or (bQ (ha pins s σ H Q I h) fun c s1 e => ?_)
 cases c with
 | false => exact isTrue_or_nil e
 | true => exact e
theorem pP (ha : PT X a tA) (hb : PW X (.BoolOp .And (b :: rest) pos) Pg) : PW X (.BoolOp .And (a :: b :: rest) pos) (Qq tA Pg) := by
 intro wh pins s σ H Q I h
 refine isTrue_and (bQ (ha pins s σ H _ I h) fun c s1 ⟨H1, I1, q1⟩ => ?_)
 cases c with
 | true => exact hb wh pins s1 σ H1 Q I1 q1
 | false => exact ⟨H1, I1, q1⟩
theorem Cn (ha : PT X a tA) (hb : PW X (.BoolOp .Or (b :: rest) pos) Pg) : PW X (.BoolOp .Or (a :: b :: rest) pos) (V7 tA Pg) := by
 intro wh pins s σ H Q I h
 refine isTrue_or (bQ (ha pins s σ H _ I h) fun c s1 ⟨H1, I1, q1⟩ => ?_)
 cases c with
 | true => exact ⟨H1, I1, q1⟩
 | false => exact hb wh pins s1 σ H1 Q I1 q1
theorem pQ (ha : PT X a tA) : PT X (.UnaryOp .Not a pos) (Qr tA) := by
 intro pins s σ H Q I h
 exact isTrue_not (ha pins s σ H (fun c H1 => Q (!c) H1) I h)
end
end L2
namespace L2
open PySem PySem.Spec PyProof.Rows
def aD (K : PySem.W.Frag) (H : Hp) (a : Addr) (xs : List V) : Prop :=
 Rd H a (.lst xs) ∨
  ∃ (o : Obj) (its : Array Value) (n : Nat), K.lookup a = some o ∧ o.cls = .type "list" ∧ o.dict = none ∧ o.data = .seq its n ∧ its.size ≤ sizeLine ∧ Vals xs its.toList
def aO (K : PySem.W.Frag) (H : Hp) (a : Addr) (xs : List V) : Prop :=
 Rd H a (.tup xs) ∨
  ∃ (o : Obj) (its : Array Value) (n : Nat), K.lookup a = some o ∧ o.cls = .type "tuple" ∧ o.data = .seq its n ∧ its.size ≤ sizeLine ∧ Vals xs its.toList
def Qs : Value → Option V
 | .none => some .bz
 | .bool b => some (.bl b)
 | .int i _ => some (.int i)
 | .str x _ => some (.str x)
 | .bytes b _ => some (.Cg b)
 | .float b _ => some (.KQ b)
 | .ref a => some (.ref a)
 | .type n => some (.ty n)
 | _ => none
theorem RelV.abs {x : V} {u : Value} (r : RelV x u) : Qs u = some x := by
 cases x with
 | bz => cases r; rfl
 | bl _ => cases r; rfl
 | int _ => obtain ⟨t, rfl⟩ := r; rfl
 | str _ => obtain ⟨t, rfl⟩ := r; rfl
 | Cg _ => obtain ⟨t, rfl⟩ := r; rfl
 | KQ _ => obtain ⟨t, rfl⟩ := r; rfl
 | ref _ => cases r; rfl
 | ty _ => cases r; rfl
theorem RelV.inj {x y : V} {u : Value} (r : RelV x u) (q : RelV y u) : x = y := Option.some.inj (r.abs.symm.trans q.abs)
theorem Vals.inj : ∀ {xs ys : List V} {us : List Value}, Vals xs us → Vals ys us → xs = ys
 | _, _, _, .nil, .nil => rfl
 | _, _, _, .cons r t, .cons r' t' => by rw [r.inj r', Vals.inj t t']
section
variable {X : Cx} {pins : List (Addr × Obj)} {σ : St} {H : Hp} {s : Shared} {a : Addr} {xs ys : List V}
theorem aD.of {K : PySem.W.Frag} (h : H a = some (.lst xs)) : aD K H a xs := .inl (.inl h)
theorem aO.of {K : PySem.W.Frag} (h : H a = some (.tup xs)) : aO K H a xs := .inl (.inl h)
theorem Inv.list (I : Inv X pins σ H s) (h : aD X.K H a xs) : ∃ its : List Value, Vals xs its ∧ PlainL s.heap a its.toArray ∧ xs.length ≤ sizeLine := by
 rcases h with h | ⟨o, its, n, hk, hc, hd, hs, hz, r⟩
 ·obtain ⟨z, its, n, r, e⟩ := h.ok I.hok
  exact ⟨its, r, ⟨_, n, e, rfl, rfl, rfl⟩, z⟩
 ·refine ⟨its.toList, r, ⟨o, n, I.pM a o hk, hc, hd, by simpa using hs⟩, ?_⟩
  have e := r.length
  simp only [Array.length_toList] at e
  omega
theorem Inv.tuple (I : Inv X pins σ H s) (h : aO X.K H a xs) : ∃ its : List Value, Vals xs its ∧ IsTup s.heap a its.toArray ∧ xs.length ≤ sizeLine := by
 rcases h with h | ⟨o, its, n, hk, hc, hs, hz, r⟩
 ·obtain ⟨z, its, r, p⟩ := h.ok I.hok
  exact ⟨its, r, p, z⟩
 ·refine ⟨its.toList, r, ⟨o, I.pM a o hk, hc, n, by simpa using hs⟩, ?_⟩
  have e := r.length
  simp only [Array.length_toList] at e
  omega
theorem Inv.Co (I : Inv X pins σ H s) (h : aD X.K H a xs) (h' : aD X.K H a ys) : xs = ys := by
 obtain ⟨its, r, ⟨o, n, e, _, _, d⟩, _⟩ := I.list h
 obtain ⟨its', r', ⟨o', n', e', _, _, d'⟩, _⟩ := I.list h'
 rw [e] at e'; cases e'
 rw [d] at d'
 injection d' with d1 _
 have : its = its' := by simpa using congrArg Array.toList d1
 subst this
 exact r.inj r'
theorem Inv.nB (I : Inv X pins σ H s) (h : aO X.K H a xs) (h' : aO X.K H a ys) : xs = ys := by
 obtain ⟨its, r, ⟨o, e, _, n, d⟩, _⟩ := I.tuple h
 obtain ⟨its', r', ⟨o', e', _, n', d'⟩, _⟩ := I.tuple h'
 rw [e] at e'; cases e'
 rw [d] at d'
 injection d' with d1 _
 have : its = its' := by simpa using congrArg Array.toList d1
 subst this
 exact r.inj r'
end
abbrev Cx.rG (X : Cx) (E : Value → Shared → Prop) : Cx := { X with xe := E }
abbrev Cx.Ph (X : Cx) : Cx := X.rG fun _ _ => False
theorem Cx.Ok.rG {X : Cx} (ok : X.Ok) (E : Value → Shared → Prop) : (X.rG E).Ok :=
 ⟨ok.mod, ok.kind, ok.glob, ok.blt, ok.above, ok.inj, ok.has, ok.HC, ok.hd, ok.frames, ok.KS, ok.Qk, ok.bs, ok.EI, ok.A6, ok.Cj, ok.nA, ok.HD⟩
theorem Cx.Ok.jk {X : Cx} {E : Value → Shared → Prop} (ok : (X.rG E).Ok) : X.Ok :=
 ⟨ok.mod, ok.kind, ok.glob, ok.blt, ok.above, ok.inj, ok.has, ok.HC, ok.hd, ok.frames, ok.KS, ok.Qk, ok.bs, ok.EI, ok.A6, ok.Cj, ok.nA, ok.HD⟩
section
variable {X : Cx} {pins : List (Addr × Obj)} {σ : St} {H : Hp} {s : Shared} {E : Value → Shared → Prop}
theorem Inv.rG (I : Inv X pins σ H s) (E : Value → Shared → Prop) : Inv (X.rG E) pins σ H s := ⟨I.ok.rG E, I.os, I.bare, I.base, I.loc, I.cell, I.free, I.eQ, I.pin, I.hok, I.len⟩
theorem Inv.jk (I : Inv (X.rG E) pins σ H s) : Inv X pins σ H s := ⟨I.ok.jk, I.os, I.bare, I.base, I.loc, I.cell, I.free, I.eQ, I.pin, I.hok, I.len⟩
theorem SP.jk {D : Ends} {f : Flow} {s' : Shared} (h : SP (X.rG E) pins D f s') : SP X pins D f s' := by
 cases f with
 | next => obtain ⟨σ', H', I, q⟩ := h; exact ⟨σ', H', I.jk, q⟩
 | brk => obtain ⟨σ', H', I, q⟩ := h; exact ⟨σ', H', I.jk, q⟩
 | cont => obtain ⟨σ', H', I, q⟩ := h; exact ⟨σ', H', I.jk, q⟩
 | ret u => obtain ⟨v, σ', H', I, r, q⟩ := h; exact ⟨v, σ', H', I.jk, r, q⟩
theorem xT.Ph {st : List Stmt} {t : TS} (h : xT X.Ph st t) : xT X st t := fun pins s σ H D I hw =>
 wpAny_mono (h pins s σ H D (I.rG _) hw) (fun _ _ q => q.jk) fun _ _ z => False.elim z
end
section
variable {X : Cx} {st : Stmt} {rest : List Stmt} {t u : TS} {e : Expr} {te : TE} {pos : Pos}
def LD : TS := fun D σ H => D.nx σ H
def LF (t u : TS) : TS := fun D σ H => t { D with nx := u D } σ H
theorem aI : xT X [] LD := fun _ _ σ H _ I h => wpAny_execs_nil ⟨σ, H, I, h⟩
theorem aj (h1 : PS X st t) (h2 : xT X rest u) : xT X (st :: rest) (LF t u) := by
 intro pins s σ H D I h
 refine wpAny_execs_cons (bQ (h1 pins s σ H { D with nx := u D } I h) fun f s1 q => ?_)
 cases f with
 | next =>
  obtain ⟨σ', H', I', q⟩ := q
  exact h2 pins s1 σ' H' D I' q
 | ret v => exact q
 | brk => exact q
 | cont => exact q
theorem ao (h1 : PS X st t) : xT X [st] t := by
 intro pins s σ H D I h
 refine wpAny_execs_cons (bQ (h1 pins s σ H D I h) fun f s1 q => ?_)
 cases f with
 | next => exact wpAny_execs_nil q
 | ret v => exact q
 | brk => exact q
 | cont => exact q
theorem Inv.quiet {pins : List (Addr × Obj)} {σ : St} {H : Hp} {s : Shared} (I : Inv X pins σ H s) : interactive X.env = false := by simp [interactive, I.ok.kind]
def LG (te : TE) : TS := fun D σ H => te σ H fun _ H1 => D.nx σ H1
theorem cv (he : PE X e te) (hs : swapsWith e none pos.line X.env = pure false := by rfl) : PS X (.Expr e pos) (LG te) := by
 intro pins s σ H D I h
 exact wpAny_Expr_any (bQ (he pins s σ H _ I h) fun v s1 ⟨x, H1, I1, r1, q1⟩ => ⟨σ, H1, I1, q1⟩) I.quiet hs
def Qt (te : TE) : TS := fun D σ H => te σ H D.rt
theorem aB (he : PE X e te) : PS X (.Return (some e) pos) (Qt te) := by
 intro pins s σ H D I h
 exact wpAny_Return_some (bQ (he pins s σ H _ I h) fun v s1 ⟨x, H1, I1, r1, q1⟩ => ⟨x, σ, H1, I1, r1, q1⟩)
def Qu (c : TT) (t u : TS) : TS := fun D σ H => c σ H fun b H1 => if b = true then t D σ H1 else u D σ H1
theorem bq {c : Expr} {a b : List Stmt} {tc : TT} (hc : PT X c tc) (ha : xT X a t) (hb : xT X b u) : PS X (.If c a b pos) (Qu tc t u) := by
 intro pins s σ H D I h
 refine wpAny_If (bQ (hc pins s σ H _ I h) fun d s1 ⟨H1, I1, q1⟩ => ?_)
 cases d with
 | true => exact ha pins s1 σ H1 D I1 q1
 | false => exact hb pins s1 σ H1 D I1 q1
def HH : TS := fun _ _ _ => False
theorem j9 {V8 : List Stmt} : xT X V8 HH := fun _ _ _ _ _ _ h => h.elim
end
abbrev TG := V → St → Hp → (St → Hp → Prop) → Prop
abbrev Y5 := List V → St → Hp → (St → Hp → Prop) → Prop
def PG (X : Cx) (target : Expr) (t : TG) : Prop :=
 ∀ (pins : List (Addr × Obj)) (s : Shared) (σ : St) (H : Hp) (v : V) (u : Value) (Q : St → Hp → Prop), Inv X pins σ H s → RelV v u → t v σ H Q →
  wpAny (model X.prog X.w) X.A (assign target X.env u) (fun _ s' => ∃ σ' H', Inv X pins σ' H' s' ∧ Q σ' H') X.xe s
abbrev HI := V → V → V → Hp → (Hp → Prop) → Prop
def LH (X : Cx) (t : HI) : Prop :=
 ∀ (pins : List (Addr × Obj)) (s : Shared) (σ : St) (H : Hp) (o i v : V) (ov iv u : Value) (Q : Hp → Prop), Inv X pins σ H s → RelV o ov → RelV i iv → RelV v u → t o i v H Q →
  wpAny (model X.prog X.w) X.A (setItem ov iv u) (fun _ s' => ∃ H', Inv X pins σ H' s' ∧ Q H') X.xe s
abbrev Y6 := V → V → Hp → VK → Prop
section
variable {X : Cx} {pos : Pos}
def sO (i : Nat) : TG := fun v σ H Q => Q (σ.set i (some v)) H
theorem bf {i : Nat} {x : Str} (hN : X.N.Nodup) (hi : X.N[i]? = some x) (hx : Loc X.env.scope x) (hf : X.fn x = true ∨ X.env.scope.names.lookup x = some .local := by first | exact .inl rfl | exact .inr rfl | assumption) : PG X (.Name x pos) (sO i) := by
 intro pins s σ H v u Q I r h
 exact wpAny_assign_Name (mi I hN hi hx r (fun s' I' => ⟨_, H, I', h⟩) hf)
def Qv (to ti : TE) (t : HI) : TG := fun v σ H Q => to σ H fun o H1 => ti σ H1 fun i H2 => t o i v H2 fun H3 => Q σ H3
theorem HJ {o i : Expr} {to ti : TE} {t : HI} (ho : PE X o to) (hi : PE X i ti) (hs : LH X t)
  (ha : ∀ v, assign (.Subscript o i pos) X.env v = (do
   let ov ← holding [v] (eval o X.env)
   let iv ← holding [v, ov] (eval i X.env)
   standAt pos
   holding [v, ov, iv] (setItem ov iv v)
   release [v, ov, iv] []) := by intro _; rfl) : PG X (.Subscript o i pos) (Qv to ti t) := by
 intro pins s σ H v u Q I r h
 rw [ha]
 refine wpAny_bind (wpAny_holding (bQ (ho pins s σ H _ I h) fun ov s1 ⟨x, H1, I1, r1, q1⟩ => ?_))
 refine wpAny_bind (wpAny_holding (bQ (hi pins s1 σ H1 _ I1 q1) fun iv s2 ⟨y, H2, I2, r2, q2⟩ => ?_))
 refine wpAny_bind (wpAny_standAt (wpAny_bind (wpAny_holding (bQ (hs pins s2 σ H2 x y v ov iv u _ I2 r1 r2 r q2) fun _ s3 ⟨H3, I3, q3⟩ => ?_))))
 exact wpAny_release ⟨σ, H3, I3, q3⟩
def HK (te : TE) (g : TG) : TS := fun D σ H => te σ H fun x H1 => g x σ H1 D.nx
theorem HL {tg e : Expr} {te : TE} {g : TG} (he : PE X e te) (hg : PG X tg g) (hs : swapsWithSole [tg] e pos.line X.env = pure false := by rfl) (hw : swappedStores [tg] e X.env = pure none := by rfl)
  (h1 : (assignEach [tg] X.env).map (·.2) = [assign tg X.env] := by rfl) : PS X (.Assign [tg] e pos) (HK te g) := by
 intro pins s σ H D I h
 refine wpAny_Assign_stores (bQ (he pins s σ H _ I h) fun v s1 ⟨x, H1, I1, r1, q1⟩ => ?_) hs hw
 rw [h1]
 exact bQ (hg pins s1 σ H1 x v _ I1 r1 q1) fun _ s2 q => q
theorem ar {i : Nat} {x : Str} {e : Expr} {te : TE} {pos' : Pos} (hN : X.N.Nodup) (hi : X.N[i]? = some x) (hx : Loc X.env.scope x) (he : PE X e te) (hs : swapsWith e (some (.Name x pos')) pos.line X.env = pure false := by rfl) (hf : X.fn x = true ∨ X.env.scope.names.lookup x = some .local := by first | exact .inl rfl | exact .inr rfl | assumption) :
  PS X (.Assign [.Name x pos'] e pos) (HK te (sO i)) := by
 intro pins s σ H D I h
 refine wpAny_Assign_Name (bQ (he pins s σ H _ I h) fun v s1 ⟨y, H1, I1, r1, q1⟩ => ?_) hs
 exact mi I1 hN hi hx r1 (fun s2 I2 => ⟨_, H1, I2, q1⟩) hf
end
section
variable {X : Cx} {pos : Pos}
end
structure It where
 go : Nat → Hp → Prop
 HM : Nat → Hp → V → Hp → Prop
 stop : Nat → Hp → Prop
def rH (X : Cx) (pins : List (Addr × Obj)) (H : Hp) (b : Addr) : Prop :=
 H b = none ∧ b ≠ X.env.locals ∧ b ∉ X.fs ∧ (b ∈ X.ex ∨ X.s₀.heap.objs.size ≤ b) ∧ (∀ x c, X.env.cells.lookup x = some c → c ≠ b) ∧ ∀ p ∈ X.pn ++ pins, p.1 ≠ b
theorem Inv.EK {X : Cx} {pins : List (Addr × Obj)} {σ : St} {H H' : Hp} {s : Shared} {b : Addr} (I : Inv X pins σ H s) (hb : s.heap.objs.size ≤ b) (hn : H' b = none) : rH X pins H' b := by
 refine ⟨hn, Nat.ne_of_gt (Nat.lt_of_lt_of_le I.lt hb), I.Qm hb, .inr (Nat.le_trans I.sz hb), fun x c e z => ?_, fun p hp z => ?_⟩
 ·obtain ⟨v, q⟩ := I.cell x c e
  exact absurd (Nat.lt_of_lt_of_le q.lt (by rw [z]; exact hb)) (Nat.lt_irrefl _)
 ·exact absurd (Nat.lt_of_lt_of_le (Heap.lt_size (I.pin p hp).1) (by rw [z]; exact hb)) (Nat.lt_irrefl _)
structure Turn (P : Program) (w : World) (K : PySem.W.Frag) (tg : Expr) (J : It) (fp : List Addr) (it : Addr) (tn : Nat → Heap → Prop) : Prop where
 mem : it ∈ fp
 obj : ∀ i h, tn i h → ∀ b ∈ fp, ∃ o, h.get? b = some o ∧ ∀ v, o.data ≠ .cell v
 keep : ∀ i h h', tn i h → (∀ b ∈ fp, ∀ o, h.get? b = some o → h'.get? b = some o) → tn i h'
 item : ∀ (X : Cx), X.prog = P → X.w = w → X.K = K → X.calm = true → ∀ (i : Nat) (pins : List (Addr × Obj)) (s : Shared) (σ : St) (H : Hp) (E : Value → Shared → Prop), Inv X pins σ H s → (∀ b ∈ fp, rH X pins H b) → tn i s.heap → J.go i H →
  wpAny (model P w) X.A (pyNext (.ref it)) (fun r s1 => ∃ u, r = some u ∧
   wpAny (model P w) X.A (letOwnedTupleGo tg (.ref it) u) (fun _ s2 => ∃ x H', Inv X pins σ H' s2 ∧ RelV x u ∧ J.HM i H x H' ∧ tn (i + 1) s2.heap ∧ ∀ b ∈ fp, H' b = none) E s1) E s
 done : ∀ (X : Cx), X.prog = P → X.w = w → X.K = K → X.calm = true → ∀ (i : Nat) (pins : List (Addr × Obj)) (s : Shared) (σ : St) (H : Hp) (E : Value → Shared → Prop), Inv X pins σ H s → (∀ b ∈ fp, rH X pins H b) → tn i s.heap → J.stop i H →
  wpAny (model P w) X.A (pyNext (.ref it)) (fun r s1 => r = none ∧ Inv X pins σ H s1) E s
 self : ∀ (A : Around) (i : Nat) (s : Shared) (Q : Value → Shared → Prop) (E : Value → Shared → Prop), tn i s.heap → Q (.ref it) s → wpAny (model P w) A (pyIter (.ref it)) Q E s
abbrev TI := St → Hp → (It → Hp → Prop) → Prop
def Ue (X : Cx) (pins : List (Addr × Obj)) (σ : St) (tg : Expr) (R : It → Hp → Prop) (Qw : Value) (s2 : Shared) : Prop :=
 ∃ (it : Addr) (fp : List Addr) (tn : Nat → Heap → Prop) (J : It) (H' : Hp), Qw = .ref it ∧ Inv X pins σ H' s2 ∧ Turn X.prog X.w X.K tg J fp it tn ∧ tn 0 s2.heap ∧ (∀ b ∈ fp, rH X pins H' b) ∧ R J H'
def PI (X : Cx) (tg iter : Expr) (wi : TI) : Prop :=
 ∀ (pins : List (Addr × Obj)) (s : Shared) (σ : St) (H : Hp) (R : It → Hp → Prop), Inv X pins σ H s → wi σ H R →
  wpAny (model X.prog X.w) X.A (eval iter X.env) (fun v s1 => wpAny (model X.prog X.w) X.A (pyIter v) (Ue X pins σ tg R) X.xe s1) X.xe s
theorem Cp {M : Model} {A : Around} {E : Value → Shared → Prop} {s : Shared} {tg : Expr} {it : Addr} {u : Value} {o : Obj} {n : String} {vs : Array Value} {Q : Unit → Shared → Prop} (ho : s.heap.get? it = some o) (hc : o.cls = .type n) (hd : o.data = .fields vs)
    (hn : ["enumerate", "zip", "dict_itemiterator", "dict_reverseitemiterator", "odict_iterator", "itertools.zip_longest", "itertools.pairwise"].contains n = false) (hQ : Q () s) : wpAny M A (letOwnedTupleGo tg (.ref it) u) Q E s := by
  unfold letOwnedTupleGo
  cases tg <;> first
    | exact wpAny_pure hQ
    | (cases u <;> first
        | exact wpAny_pure hQ
        | (refine wpAny_bind (wpAny_load ho ?_)
           rw [hc, hd]
           show wpAny M A (if (["enumerate", "zip", "dict_itemiterator", "dict_reverseitemiterator", "odict_iterator", "itertools.zip_longest", "itertools.pairwise"].contains n && vs[0]? == some (rawInt _)) = true then _ else _) Q E s
           rw [if_neg (by intro h; rw [hn, Bool.false_and] at h; cases h)]
           exact wpAny_pure hQ))
def EL (K : PySem.W.Frag) (a : Addr) : It :=
 ⟨fun i H => ∃ xs x, aD K H a xs ∧ xs[i]? = some x, fun i H x H' => H' = H ∧ ∀ xs, aD K H a xs → xs[i]? = some x, fun i H => ∃ xs, aD K H a xs ∧ xs.length ≤ i⟩
def HN (K : PySem.W.Frag) (a : Addr) : It :=
 ⟨fun i H => ∃ xs x, aO K H a xs ∧ xs[i]? = some x, fun i H x H' => H' = H ∧ ∀ xs, aO K H a xs → xs[i]? = some x, fun i H => ∃ xs, aO K H a xs ∧ xs.length ≤ i⟩
def GH (lo : Int) (n : Nat) : It := ⟨fun i _ => i < n, fun i H x H' => H' = H ∧ x = .int (lo + i), fun i _ => n ≤ i⟩
theorem A9 {P : Program} {w : World} {K : PySem.W.Frag} {tg : Expr} (a it : Addr) : Turn P w K tg (EL K a) [it] it (fun i h => h.IsListIter it a i) where
 mem := by simp
 obj := fun i h st b hb => by
  have e : b = it := by simpa using hb
  subst e
  obtain ⟨o, e, c, d⟩ := st
  exact ⟨o, e, fun v z => by rw [d] at z; cases z⟩
 keep := fun i h h' st k => st.at fun o e => k it (by simp) o e
 item := by
  intro X hP hw hK hc i pins s σ H E I hf st hg
  subst hP hw hK
  obtain ⟨xs, x, hq, hx⟩ := hg
  obtain ⟨its, rv, p, hz⟩ := I.list hq
  obtain ⟨u, hu, ru⟩ := rv.get hx
  obtain ⟨f0, f1, f2, f3, f4, f5⟩ := hf it (by simp)
  refine wpAny_pyNext_list_item st p.isList (x := u) (by simpa using hu) fun h' xU sb => ?_
  have I1 : Inv X pins σ H { s with heap := h' } := I.turned (t' := s.toks) (fun b o hb e => (sb.2 b hb).trans e) f0 f1 f3 f4 f5
  obtain ⟨o, e, c, d⟩ := id xU
  exact ⟨u, rfl, Cp (s := { s with heap := h' }) e c d (by decide) ⟨x, H, I1, ru, ⟨rfl, fun ys hy => by rw [I.Co hy hq]; exact hx⟩, xU, fun b hb => (hf b hb).1⟩⟩
 done := by
  intro X hP hw hK hc i pins s σ H E I hf st hg
  subst hP hw hK
  obtain ⟨xs, hq, hx⟩ := hg
  obtain ⟨its, rv, p, hz⟩ := I.list hq
  obtain ⟨f0, f1, f2, f3, f4, f5⟩ := hf it (by simp)
  have hl := rv.length
  exact wpAny_pyNext_list_end (I.ok.hd hc) st p.isList (by simp; omega) fun h' eb => ⟨rfl, I.turned (t' := s.toks) (fun b o hb e => eb b o hb e) f0 f1 f3 f4 f5⟩
 self := fun _ _ _ _ _ st h => wpAny_pyIter_listiter st h
theorem yi {P : Program} {w : World} {K : PySem.W.Frag} {tg : Expr} (a it : Addr) : Turn P w K tg (HN K a) [it] it (fun i h => h.IsTupleIter it a i) where
 mem := by simp
 obj := fun i h st b hb => by
  have e : b = it := by simpa using hb
  subst e
  obtain ⟨o, e, c, d⟩ := st
  exact ⟨o, e, fun v z => by rw [d] at z; cases z⟩
 keep := fun i h h' st k => st.at fun o e => k it (by simp) o e
 item := by
  intro X hP hw hK hc i pins s σ H E I hf st hg
  subst hP hw hK
  obtain ⟨xs, x, hq, hx⟩ := hg
  obtain ⟨its, rv, p, hz⟩ := I.tuple hq
  obtain ⟨u, hu, ru⟩ := rv.get hx
  obtain ⟨f0, f1, f2, f3, f4, f5⟩ := hf it (by simp)
  refine wpAny_pyNext_tuple_item st (show s.heap.IsTuple a its.toArray from p) (x := u) (by simpa using hu) fun h' xU sb => ?_
  have I1 : Inv X pins σ H { s with heap := h' } := I.turned (t' := s.toks) (fun b o hb e => (sb.2 b hb).trans e) f0 f1 f3 f4 f5
  obtain ⟨o, e, c, d⟩ := id xU
  exact ⟨u, rfl, Cp (s := { s with heap := h' }) e c d (by decide) ⟨x, H, I1, ru, ⟨rfl, fun ys hy => by rw [I.nB hy hq]; exact hx⟩, xU, fun b hb => (hf b hb).1⟩⟩
 done := by
  intro X hP hw hK hc i pins s σ H E I hf st hg
  subst hP hw hK
  obtain ⟨xs, hq, hx⟩ := hg
  obtain ⟨its, rv, p, hz⟩ := I.tuple hq
  obtain ⟨f0, f1, f2, f3, f4, f5⟩ := hf it (by simp)
  have hl := rv.length
  exact wpAny_pyNext_tuple_end (I.ok.hd hc) st (show s.heap.IsTuple a its.toArray from p) (by simp; omega) fun h' eb => ⟨rfl, I.turned (t' := s.toks) (fun b o hb e => eb b o hb e) f0 f1 f3 f4 f5⟩
 self := fun _ _ _ _ _ st h => wpAny_pyIter_tupleiter st h
theorem yj {P : Program} {w : World} {K : PySem.W.Frag} {tg : Expr} (it : Addr) (lo : Int) (n : Nat) : Turn P w K tg (GH lo n) [it] it (fun i h => IsRangeIter h it (lo + (i : Nat) * 1) ((n : Int) - (i : Nat)) 1) where
 mem := by simp
 obj := fun i h st b hb => by
  have e : b = it := by simpa using hb
  subst e
  exact ⟨_, st, fun v z => by
   have z' : Data.fields _ = Data.cell v := z
   cases z'⟩
 keep := fun i h h' st k => k it (by simp) _ st
 item := by
  intro X hP hw hK hc i pins s σ H E I hf st hg
  subst hP hw hK
  obtain ⟨f0, f1, f2, f3, f4, f5⟩ := hf it (by simp)
  have W := Walks.range (prog := X.prog) (w := X.w) (I.ok.hd hc) it lo 1 n
  refine W.item i s _ _ hg st fun v h' tk hv xU kk => ?_
  obtain ⟨t, rfl⟩ := hv
  have I1 : Inv X pins σ H { s with heap := h', toks := tk } := I.turned (fun b o hb e => kk b o (by simpa using hb) e) f0 f1 f3 f4 f5
  refine ⟨_, rfl, Cp (s := { s with heap := h', toks := tk }) (n := "range_iterator") xU rfl rfl (by decide) ⟨.int (lo + i), H, I1, ⟨t, ?_⟩, ⟨rfl, rfl⟩, xU, fun b hb => (hf b hb).1⟩⟩
  rw [Int.mul_one]
 done := by
  intro X hP hw hK hc i pins s σ H E I hf st hg
  subst hP hw hK
  obtain ⟨f0, f1, f2, f3, f4, f5⟩ := hf it (by simp)
  exact wpAny_pyNext_range_end (I.ok.hd hc) st (by have : n ≤ i := hg; omega) fun h' eb => ⟨rfl, I.turned (t' := s.toks) (fun b o hb e => eb b o hb e) f0 f1 f3 f4 f5⟩
 self := fun _ _ _ _ _ st h => wpAny_pyIter_rangeiter st h
end L2
namespace L2
open PySem PySem.Spec PyProof.Rows
section
variable {X : Cx} {tg : Expr}
def LJ (K : PySem.W.Frag) (tl : TE) : TI := fun σ H R => tl σ H fun x H1 => ∃ a, x = .ref a ∧ (∃ xs, aD K H1 a xs) ∧ R (EL K a) H1
def Qx (K : PySem.W.Frag) (tl : TE) : TI := fun σ H R => tl σ H fun x H1 => ∃ a, x = .ref a ∧ (∃ xs, aO K H1 a xs) ∧ R (HN K a) H1
theorem aM {l : Expr} {tl : TE} (hl : PE X l tl) : PI X tg l (LJ X.K tl) := by
 intro pins s σ H R I h
 refine bQ (hl pins s σ H _ I h) fun v s1 ⟨x, H1, I1, r1, q1⟩ => ?_
 obtain ⟨a, e, ⟨xs, hq⟩, q⟩ := q1
 subst e
 cases r1
 obtain ⟨its, rv, p, hz⟩ := I1.list hq
 refine wpAny_pyIter_list p.isList ?_
 refine ⟨s1.heap.objs.size, [s1.heap.objs.size], _, _, H1, rfl, I1.kept (t' := s1.toks) fun b o e => Heap.get?_push_of_some _ e, A9 a _, ⟨_, Heap.get?_push_size _ rfl, rfl, rfl⟩, fun b hb => ?_, q⟩
 have e : b = s1.heap.objs.size := by simpa using hb
 subst e
 exact I1.EK (Nat.le_refl _) (I1.hok.fresh (Nat.le_refl _))
theorem pR {l : Expr} {tl : TE} (hl : PE X l tl) : PI X tg l (Qx X.K tl) := by
 intro pins s σ H R I h
 refine bQ (hl pins s σ H _ I h) fun v s1 ⟨x, H1, I1, r1, q1⟩ => ?_
 obtain ⟨a, e, ⟨xs, hq⟩, q⟩ := q1
 subst e
 cases r1
 obtain ⟨its, rv, p, hz⟩ := I1.tuple hq
 refine wpAny_pyIter_tuple (show s1.heap.IsTuple a its.toArray from p) ?_
 refine ⟨s1.heap.objs.size, [s1.heap.objs.size], _, _, H1, rfl, I1.kept (t' := s1.toks) fun b o e => Heap.get?_push_of_some _ e, yi a _, ⟨_, Heap.get?_push_size _ rfl, rfl, rfl⟩, fun b hb => ?_, q⟩
 have e : b = s1.heap.objs.size := by simpa using hb
 subst e
 exact I1.EK (Nat.le_refl _) (I1.hok.fresh (Nat.le_refl _))
theorem Cq {pins : List (Addr × Obj)} {σ : St} {H : Hp} {s : Shared} {R : It → Hp → Prop} {E : Value → Shared → Prop} {lo hi : Int} {t u v : Tok} {tk : Nat} (I : Inv X pins σ H s) (h1 : -(2 ^ 62) ≤ lo) (h2 : lo < 2 ^ 62) (h3 : -(2 ^ 62) ≤ hi) (h4 : hi < 2 ^ 62)
  (q : R (GH lo (hi - lo).toNat) H) : wpAny (model X.prog X.w) X.A (pyIter (.ref s.heap.objs.size)) (Ue X pins σ tg R) E { s with heap := s.heap.push { cls := .type "range", data := .fields #[.int lo t, .int hi u, .int 1 v] }, toks := tk } := by
 refine wpAny_pyIter_range (IsRange.new ..) (small_one h1 h2 h3 h4) ?_
 have I1 : Inv X pins σ H { s with heap := s.heap.push { cls := .type "range", data := .fields #[.int lo t, .int hi u, .int 1 v] }, toks := tk } := I.kept fun b o e => Heap.get?_push_of_some _ e
 refine ⟨(s.heap.push { cls := .type "range", data := .fields #[.int lo t, .int hi u, .int 1 v] }).objs.size, [(s.heap.push { cls := .type "range", data := .fields #[.int lo t, .int hi u, .int 1 v] }).objs.size], _, _, H, rfl,
  I1.kept (t' := tk) fun b o e => Heap.get?_push_of_some _ e, yj _ lo (hi - lo).toNat, ?_, fun b hb => ?_, q⟩
 ·have e1 : lo + ((0 : Nat) : Int) * 1 = lo := by simp
  have e2 : (((hi - lo).toNat : Nat) : Int) - ((0 : Nat) : Int) = Builtin.Range.rangeSize lo hi 1 := by rw [rangeSize_one]; split <;> omega
  show IsRangeIter _ _ (lo + ((0 : Nat) : Int) * 1) ((((hi - lo).toNat : Nat) : Int) - ((0 : Nat) : Int)) 1
  rw [e1, e2]
  exact Heap.get?_push_size _ rfl
 ·have e : b = (s.heap.push { cls := .type "range", data := .fields #[.int lo t, .int hi u, .int 1 v] }).objs.size := by simpa using hb
  subst e
  exact I1.EK (Nat.le_refl _) (I1.hok.fresh (Nat.le_refl _))
def LK (ta : TA) : TI := fun σ H R => ta σ H fun vs H1 => ∃ j : Int, vs = [.int j] ∧ -(2 ^ 62) ≤ j ∧ j < 2 ^ 62 ∧ R (GH 0 j.toNat) H1
theorem eZ {a : Expr} {ta : TA} {p pos : Pos} (hg : Gl X "range") (hm : X.mg "range" = none) (ha : PA X [a] ta) (hs : starEach [a] X.env = [(false, eval a X.env)] := by rfl) : PI X tg (.Call (.Name "range" p) [a] [] pos) (LK ta) := by
 intro pins s σ H R I h
 refine Call_ (uo I hg hm boot_range (PyProof.Rows.callWith_type1 (bQ (ha pos pins s σ H _ I h) fun us s1 ⟨vs, H1, I1, r1, q1⟩ => ?_) hs rfl))
 obtain ⟨j, e, q1, q2, q⟩ := q1
 subst e
 cases r1 with
 | cons r rr =>
  cases rr
  obtain ⟨t, rfl⟩ := r
  exact call_range_1 (Cq I1 (by omega) (by omega) q1 q2 (by simpa using q))
def Qy (wi : TI) (g : TG) (tb : TS) : TS := fun D σ H => wi σ H fun J H1 => ∃ W : Nat → Nat → St → Hp → Prop, (∃ m, W 0 m σ H1) ∧ ∀ i m σ H, W i m σ H →
 (J.stop i H ∧ D.nx σ H) ∨ (J.go i H ∧ ∃ N : St → Hp → Prop, (∀ σ' H', N σ' H' → ∃ m', m' < m ∧ W (i + 1) m' σ' H') ∧ ∀ x H', J.HM i H x H' → g x σ H' fun σ2 H2 => tb { D with nx := N, ct := N, bk := D.nx } σ2 H2)
def pU (fp : List Addr) (h : Heap) : List (Addr × Obj) := fp.filterMap fun b => (h.get? b).map fun o => (b, o)
theorem gP {fp : List Addr} {h : Heap} {b : Addr} {o : Obj} (hb : b ∈ fp) (e : h.get? b = some o) : (b, o) ∈ pU fp h := List.mem_filterMap.mpr ⟨b, hb, by rw [e]; rfl⟩
theorem Ba {fp : List Addr} {h : Heap} {p : Addr × Obj} (hp : p ∈ pU fp h) : p.1 ∈ fp ∧ h.get? p.1 = some p.2 := by
 obtain ⟨b, hb, e⟩ := List.mem_filterMap.mp hp
 cases q : h.get? b with
 | none => rw [q] at e; cases e
 | some o =>
  rw [q] at e
  have e' : (b, o) = p := Option.some.inj e
  subst e'
  exact ⟨hb, q⟩
theorem Inv.pinned {pins : List (Addr × Obj)} {σ : St} {H : Hp} {s : Shared} {fp : List Addr} (I : Inv X pins σ H s) (hf : ∀ b ∈ fp, rH X pins H b) (ho : ∀ b ∈ fp, ∃ o, s.heap.get? b = some o ∧ ∀ v, o.data ≠ .cell v) : Inv X (pins ++ pU fp s.heap) σ H s :=
 I.z8 fun p hp => (List.mem_append.mp hp).elim (fun z => I.pin p (List.mem_append_right _ z)) fun z => by
  obtain ⟨hb, e⟩ := Ba z
  obtain ⟨f0, f1, f2, _⟩ := hf p.1 hb
  obtain ⟨o, e', d⟩ := ho p.1 hb
  rw [e] at e'; cases e'
  exact ⟨e, f0, f1, f2, d⟩
theorem Inv.mn {pins pl : List (Addr × Obj)} {σ : St} {H : Hp} {s : Shared} (I : Inv X (pins ++ pl) σ H s) : Inv X pins σ H s := I.z8 fun p hp => I.pin p (List.mem_append_right _ (List.mem_append_left _ hp))
theorem bM {iter : Expr} {body : List Stmt} {wi : TI} {g : TG} {tb : TS} {pos : Pos} (hp : PassesOwn (model X.prog X.w) X.A X.env X.xe) (hc : X.calm = true) (hi : PI X tg iter wi) (hg : PG X tg g) (hb : xT X body tb)
  (hs : ∀ x, foldedSetIterable iter X.env x = pure x := by intro _; rfl) : PS X (.For tg iter body [] pos) (Qy wi g tb) := by
 intro pins s σ H D I h
 refine wpAny_For (bQ (hi pins s σ H _ I h) fun v s1 h1 => bQ h1 fun Qw s2 h2 => ?_) hs
 obtain ⟨it, fp, tn, J, H2, e, I2, T, KU, f2, W, ⟨m0, w0⟩, turn⟩ := h2
 subst e
 have yl : ∀ {H' : Hp}, (∀ b ∈ fp, H' b = none) → ∀ b ∈ fp, rH X pins H' b := fun hn b hb => ⟨hn b hb, (f2 b hb).2⟩
 refine codeAny_forLoop_any (fun n s' => ∃ i σ' H', Inv X pins σ' H' s' ∧ tn i s'.heap ∧ (∀ b ∈ fp, H' b = none) ∧ W i n σ' H') ?_ m0 ⟨0, σ, H2, I2, KU, fun b hb => (f2 b hb).1, w0⟩
 rintro n s3 ⟨i, σ3, H3, I3, HP, Ug, w3⟩
 rcases turn i n σ3 H3 w3 with ⟨stop, qn⟩ | ⟨go, N, hN, step⟩
 ·refine wpAny_passesOwn hp (bQ (T.done X rfl rfl rfl hc i pins s3 σ3 H3 X.xe I3 (yl Ug) HP stop) fun r s4 ⟨hr, I4⟩ => ?_)
  subst hr
  exact wpAny_execs_nil ⟨σ3, H3, I4, qn⟩
 ·refine wpAny_passesOwn hp (bQ (T.item X rfl rfl rfl hc i pins s3 σ3 H3 X.xe I3 (yl Ug) HP go) fun r s4 ⟨u, hr, h4⟩ => ?_)
  subst hr
  refine wpAny_passesOwn hp (bQ h4 fun _ s5 ⟨x, H5, I5, r5, y5, HQ, Qz⟩ => ?_)
  have V9 := I5.pinned (yl Qz) (T.obj _ _ HQ)
  refine wpAny_passesOwn hp (bQ (hg _ s5 σ3 H5 x u _ V9 r5 (step x H5 y5)) fun _ s6 ⟨σ6, H6, I6, q6⟩ => ?_)
  refine wpAny_passesOwn hp (bQ (hb _ s6 σ6 H6 _ I6 q6) fun f s7 q7 => ?_)
  have again : ∀ {σ7 : St} {H7 : Hp}, Inv X (pins ++ pU fp s5.heap) σ7 H7 s7 → N σ7 H7 → ∃ m, m < n ∧ ∃ i σ' H', Inv X pins σ' H' s7 ∧ tn i s7.heap ∧ (∀ b ∈ fp, H' b = none) ∧ W i m σ' H' := fun {σ7 H7} I7 n7 => by
   obtain ⟨m', hm, w7⟩ := hN σ7 H7 n7
   refine ⟨m', hm, i + 1, σ7, H7, I7.mn, T.keep _ _ _ HQ fun b hb o e => (I7.pin (b, o) (List.mem_append_right _ (List.mem_append_right _ (gP hb e)))).1, fun b hb => ?_, w7⟩
   obtain ⟨o, e, d⟩ := T.obj _ _ HQ b hb
   exact (I7.pin (b, o) (List.mem_append_right _ (List.mem_append_right _ (gP hb e)))).2.1
  cases f with
  | next => obtain ⟨σ7, H7, I7, n7⟩ := q7; exact again I7 n7
  | cont => obtain ⟨σ7, H7, I7, n7⟩ := q7; exact again I7 n7
  | brk => obtain ⟨σ7, H7, I7, q7⟩ := q7; exact ⟨σ7, H7, I7.mn, q7⟩
  | ret v => obtain ⟨x7, σ7, H7, I7, r7, q7⟩ := q7; exact ⟨x7, σ7, H7, I7.mn, r7, q7⟩
end
theorem bt {K : PySem.W.Frag} {a : Addr} {xs : List V} {g : TG} {tb : TS} {D : Ends} {σ : St} {H : Hp} (Pv : Nat → St → Hp → Prop) (h0 : Pv 0 σ H) (hl : ∀ i σ H, i ≤ xs.length → Pv i σ H → aD K H a xs)
  (hs : ∀ i x σ H, xs[i]? = some x → Pv i σ H → g x σ H fun σ2 H2 => tb { D with nx := Pv (i + 1), ct := Pv (i + 1), bk := D.nx } σ2 H2) (hd : ∀ σ H, Pv xs.length σ H → D.nx σ H) :
  ∃ W : Nat → Nat → St → Hp → Prop, (∃ m, W 0 m σ H) ∧ ∀ i m σ H, W i m σ H →
   ((EL K a).stop i H ∧ D.nx σ H) ∨ ((EL K a).go i H ∧ ∃ N : St → Hp → Prop, (∀ σ' H', N σ' H' → ∃ m', m' < m ∧ W (i + 1) m' σ' H') ∧ ∀ x H', (EL K a).HM i H x H' → g x σ H' fun σ2 H2 => tb { D with nx := N, ct := N, bk := D.nx } σ2 H2) := by
 refine ⟨fun i m σ H => m = xs.length - i ∧ i ≤ xs.length ∧ Pv i σ H, ⟨xs.length, by simp, Nat.zero_le _, h0⟩, ?_⟩
 rintro i m σ H ⟨rfl, hi, p⟩
 have q := hl i σ H hi p
 by_cases gQ : i < xs.length
 ·refine .inr ⟨⟨xs, xs[i], q, by simp [gQ]⟩, Pv (i + 1), fun σ' H' p' => ⟨xs.length - (i + 1), by omega, rfl, gQ, p'⟩, fun x H' y => ?_⟩
  obtain ⟨e, y⟩ := y
  subst e
  exact hs i x σ _ (y xs q) p
 ·have e : i = xs.length := by omega
  subst e
  exact .inl ⟨⟨xs, q, Nat.le_refl _⟩, hd σ H p⟩
theorem ur {K : PySem.W.Frag} {a : Addr} {xs : List V} {g : TG} {tb : TS} {D : Ends} {σ : St} {H : Hp} (Pv : Nat → St → Hp → Prop) (h0 : Pv 0 σ H) (hl : ∀ i σ H, i ≤ xs.length → Pv i σ H → aO K H a xs)
  (hs : ∀ i x σ H, xs[i]? = some x → Pv i σ H → g x σ H fun σ2 H2 => tb { D with nx := Pv (i + 1), ct := Pv (i + 1), bk := D.nx } σ2 H2) (hd : ∀ σ H, Pv xs.length σ H → D.nx σ H) :
  ∃ W : Nat → Nat → St → Hp → Prop, (∃ m, W 0 m σ H) ∧ ∀ i m σ H, W i m σ H →
   ((HN K a).stop i H ∧ D.nx σ H) ∨ ((HN K a).go i H ∧ ∃ N : St → Hp → Prop, (∀ σ' H', N σ' H' → ∃ m', m' < m ∧ W (i + 1) m' σ' H') ∧ ∀ x H', (HN K a).HM i H x H' → g x σ H' fun σ2 H2 => tb { D with nx := N, ct := N, bk := D.nx } σ2 H2) := by
 refine ⟨fun i m σ H => m = xs.length - i ∧ i ≤ xs.length ∧ Pv i σ H, ⟨xs.length, by simp, Nat.zero_le _, h0⟩, ?_⟩
 rintro i m σ H ⟨rfl, hi, p⟩
 have q := hl i σ H hi p
 by_cases gQ : i < xs.length
 ·refine .inr ⟨⟨xs, xs[i], q, by simp [gQ]⟩, Pv (i + 1), fun σ' H' p' => ⟨xs.length - (i + 1), by omega, rfl, gQ, p'⟩, fun x H' y => ?_⟩
  obtain ⟨e, y⟩ := y
  subst e
  exact hs i x σ _ (y xs q) p
 ·have e : i = xs.length := by omega
  subst e
  exact .inl ⟨⟨xs, q, Nat.le_refl _⟩, hd σ H p⟩
theorem Bb {lo : Int} {n : Nat} {g : TG} {tb : TS} {D : Ends} {σ : St} {H : Hp} (Pv : Nat → St → Hp → Prop) (h0 : Pv 0 σ H)
  (hs : ∀ i σ H, i < n → Pv i σ H → g (.int (lo + i)) σ H fun σ2 H2 => tb { D with nx := Pv (i + 1), ct := Pv (i + 1), bk := D.nx } σ2 H2) (hd : ∀ σ H, Pv n σ H → D.nx σ H) :
  ∃ W : Nat → Nat → St → Hp → Prop, (∃ m, W 0 m σ H) ∧ ∀ i m σ H, W i m σ H →
   ((GH lo n).stop i H ∧ D.nx σ H) ∨ ((GH lo n).go i H ∧ ∃ N : St → Hp → Prop, (∀ σ' H', N σ' H' → ∃ m', m' < m ∧ W (i + 1) m' σ' H') ∧ ∀ x H', (GH lo n).HM i H x H' → g x σ H' fun σ2 H2 => tb { D with nx := N, ct := N, bk := D.nx } σ2 H2) := by
 refine ⟨fun i m σ H => m = n - i ∧ i ≤ n ∧ Pv i σ H, ⟨n, by simp, Nat.zero_le _, h0⟩, ?_⟩
 rintro i m σ H ⟨rfl, hi, p⟩
 by_cases gQ : i < n
 ·refine .inr ⟨gQ, Pv (i + 1), fun σ' H' p' => ⟨n - (i + 1), by omega, rfl, gQ, p'⟩, fun x H' y => ?_⟩
  obtain ⟨e, y⟩ := y
  subst e y
  exact hs i σ _ gQ p
 ·have e : i = n := by omega
  subst e
  exact .inl ⟨Nat.le_refl _, hd σ H p⟩
end L2
namespace L2
open PySem PySem.Spec PyProof.Rows
abbrev R2 := V → V → Hp → VK → Prop
def nC (X : Cx) (f : Value → Value → Sem Value) (r : R2) : Prop :=
 ∀ (pins : List (Addr × Obj)) (s : Shared) (σ : St) (H : Hp) (x y : V) (v u : Value) (Q : VK), Inv X pins σ H s → RelV x v → RelV y u → r x y H Q →
  wpAny (model X.prog X.w) X.A (f v u) (EP X pins σ Q) X.xe s
def cw (X : Cx) (f : Value) (r : List V → Hp → VK → Prop) : Prop :=
 ∀ (pins : List (Addr × Obj)) (s : Shared) (σ : St) (H : Hp) (xs : List V) (us : List Value) (Q : VK), Inv X pins σ H s → Vals xs us → r xs H Q →
  wpAny (model X.prog X.w) X.A (call f us) (EP X pins σ Q) X.xe s
def Pj (r : R2) (ta tb : TE) : TE := fun σ H Q => ta σ H fun x H1 => tb σ H1 fun y H2 => r x y H2 Q
def rI (C : Int → Int → Prop) (g : Int → Int → V) : R2 := fun x y H Q => ∃ i j, x = .int i ∧ y = .int j ∧ C i j ∧ Q (g i j) H
def KW (g : Int → Int → V) : R2 := fun x y H Q => ∃ i j, x = .int i ∧ y = .int j ∧ Q (g i j) H
section
variable {X : Cx} {a b c : Expr} {ta tb tc : TE} {pos : Pos}
theorem HR (ha : PE X a ta) (hb : PE X b tb) {pins : List (Addr × Obj)} {s : Shared} {σ : St} {H : Hp} {R : V → V → Hp → Prop} (I : Inv X pins σ H s)
  (h : ta σ H fun x H1 => tb σ H1 fun y H2 => R x y H2) {Q : Value → Shared → Prop} {f : Value → Value → Sem Value}
  (hf : ∀ v u s2 x y H2, Inv X pins σ H2 s2 → RelV x v → RelV y u → R x y H2 → wpAny (model X.prog X.w) X.A (f v u) Q X.xe s2) :
  wpAny (model X.prog X.w) X.A (eval a X.env) (fun v s₁ => wpAny (model X.prog X.w) X.A (eval b X.env) (fun u s₂ => wpAny (model X.prog X.w) X.A (f v u) Q X.xe s₂) X.xe s₁) X.xe s := by
 refine bQ (ha pins s σ H _ I h) fun v s1 ⟨x, H1, I1, r1, q1⟩ => ?_
 refine bQ (hb pins s1 σ H1 _ I1 q1) fun u s2 ⟨y, H2, I2, r2, q2⟩ => ?_
 exact hf v u s2 x y H2 I2 r1 r2 q2
theorem ax {op : Operator} {r : R2} (ho : nC X (binaryOp op) r) (ha : PE X a ta) (hb : PE X b tb) : PE X (.BinOp a op b pos) (Pj r ta tb) := by
 intro pins s σ H Q I h
 exact wpAny_BinOp (HR ha hb I h fun v u s2 x y H2 I2 rx ry q => ho pins s2 σ H2 x y v u Q I2 rx ry q)
theorem QA {f : Value → Value → Sem Value} {C : Int → Int → Prop} {g : Int → Int → Int}
  (rule : ∀ (i j : Int) (t u : Tok) (s : Shared) (Q : Value → Shared → Prop) (E : Value → Shared → Prop), C i j → Q (.int (g i j) s.toks) { s with toks := s.toks + 1 } → wpAny (model X.prog X.w) X.A (f (.int i t) (.int j u)) Q E s) :
  nC X f (rI C fun i j => .int (g i j)) := by
 intro pins s σ H x y v u Q I rx ry h
 obtain ⟨i, j, rfl, rfl, hc, q⟩ := h
 obtain ⟨t, rfl⟩ := rx
 obtain ⟨t', rfl⟩ := ry
 exact rule i j t t' s _ _ hc ⟨.int (g i j), H, I.tok _, ⟨_, rfl⟩, q⟩
theorem LL {f : Value → Value → Sem Value} {g : Int → Int → Int}
  (rule : ∀ (i j : Int) (t u : Tok) (s : Shared) (Q : Value → Shared → Prop) (E : Value → Shared → Prop), Q (.int (g i j) s.toks) { s with toks := s.toks + 1 } → wpAny (model X.prog X.w) X.A (f (.int i t) (.int j u)) Q E s) :
  nC X f (KW fun i j => .int (g i j)) := by
 intro pins s σ H x y v u Q I rx ry h
 obtain ⟨i, j, rfl, rfl, q⟩ := h
 obtain ⟨t, rfl⟩ := rx
 obtain ⟨t', rfl⟩ := ry
 exact rule i j t t' s _ _ ⟨.int (g i j), H, I.tok _, ⟨_, rfl⟩, q⟩
theorem LM {f : Value → Value → Sem Value} {g : Int → Int → Bool}
  (rule : ∀ (i j : Int) (t u : Tok) (s : Shared) (Q : Value → Shared → Prop) (E : Value → Shared → Prop), Q (.bool (g i j)) s → wpAny (model X.prog X.w) X.A (f (.int i t) (.int j u)) Q E s) :
  nC X f (KW fun i j => .bl (g i j)) := by
 intro pins s σ H x y v u Q I rx ry h
 obtain ⟨i, j, rfl, rfl, q⟩ := h
 obtain ⟨t, rfl⟩ := rx
 obtain ⟨t', rfl⟩ := ry
 exact rule i j t t' s _ _ ⟨.bl (g i j), H, I, rfl, q⟩
def QB (i j : Int) : Prop := 0 < j ∧ j < 1073741824
def HS (i j : Int) : Prop := (-(2 ^ 64) < i ∧ i < 2 ^ 64) ∨ (-(2 ^ 64) < j ∧ j < 2 ^ 64)
theorem HS.ok {i j : Int} (h : HS i j) : IntMulOk i j := by
 rcases h with ⟨h1, h2⟩ | ⟨h1, h2⟩
 ·exact .of_left (intBits_le_64 h1 h2)
 ·exact .of_right (intBits_le_64 h1 h2)
theorem fY : nC X (binaryOp .Add) (KW fun i j => .int (i + j)) := LL fun _ _ _ _ _ _ _ q => add_int q
theorem HU : nC X (binaryOp .Sub) (KW fun i j => .int (i - j)) := LL fun _ _ _ _ _ _ _ q => sub_int q
theorem pV : nC X (binaryOp .Mult) (rI HS fun i j => .int (i * j)) := QA fun _ _ _ _ _ _ _ hc q => mul_int q hc.ok
theorem bW : nC X (binaryOp .FloorDiv) (rI QB fun i j => .int (i / j)) := QA fun i j _ _ _ _ _ hc q => by
 have h1 : (0 : Int) < j := hc.1
 have h2 : j < 1073741824 := hc.2
 exact floordiv_int (by omega) (by rw [Int.fdiv_eq_ediv_of_nonneg i (by omega)]; exact q) (.inl (PyProof.noPylong_small (by omega)))
theorem bB : nC X (binaryOp .Mod) (rI (fun _ j => 0 < j) fun i j => .int (i % j)) := QA fun i j _ _ _ _ _ hc q => by
 have h1 : (0 : Int) < j := hc
 exact mod_int' (by omega) (by rw [Int.fmod_eq_emod_of_nonneg i (by omega)]; exact q)
end
def LN : V → V → Bool
 | .bz, .bz => true | .bz, .int _ => true | .int _, .bz => true | .bz, .bl _ => true | .bl _, .bz => true | .bz, .str _ => true | .str _, .bz => true
 | .int _, .int _ => true | .bl _, .bl _ => true | .str _, .str _ => true | .Cg _, .Cg _ => true
 | .int _, .str _ => true | .str _, .int _ => true | .bl _, .str _ => true | .str _, .bl _ => true
 | _, _ => false
def Wa : R2 := fun x y H Q => LN x y = true ∧ Q (.bl (decide (x = y))) H
def Wb : R2 := fun x y H Q => LN x y = true ∧ Q (.bl (!decide (x = y))) H
theorem Aa {i j : Int} : decide (V.int i = V.int j) = (i == j) := by
 rw [Bool.eq_iff_iff]
 simp
theorem Cr {i j : Bool} : decide (V.bl i = V.bl j) = (i == j) := by
 rw [Bool.eq_iff_iff]
 simp
theorem Ab {i j : Str} : decide (V.str i = V.str j) = (i == j) := by
 rw [Bool.eq_iff_iff]
 simp
theorem Ac {i j : Array UInt8} : decide (V.Cg i = V.Cg j) = (i.toList == j.toList) := by
 rw [Bool.eq_iff_iff]
 cases i
 cases j
 simp
section
variable {X : Cx} {a b c : Expr} {ta tb tc : TE} {pos : Pos}
theorem aV {pins : List (Addr × Obj)} {σ : St} {H : Hp} {s : Shared} {Q : VK} {k k' : Bool} (I : Inv X pins σ H s) (q : Q (.bl k) H) (e : k = k') : EP X pins σ Q (.bool k') s := by
 subst e
 exact ⟨.bl k, H, I, rfl, q⟩
theorem eR : nC X (compareOp .Eq) Wa := by
 intro pins s σ H x y v u Q I rx ry h
 obtain ⟨hs, q⟩ := h
 cases x with
 | bz =>
  cases rx
  cases y with
  | bz => cases ry; exact PySem.EqNone.eq_none_none (aV I q (by simp))
  | bl j => cases ry; exact PySem.EqNone.eq_none_bool (aV I q (by simp))
  | int j => obtain ⟨t', rfl⟩ := ry; exact PySem.EqNone.eq_none_int (aV I q (by simp))
  | str j => obtain ⟨t', rfl⟩ := ry; exact PySem.EqNone.eq_none_str (aV I q (by simp))
  | _ => exact absurd (show false = true from hs) Bool.false_ne_true
 | bl i =>
  cases rx
  cases y with
  | bz => cases ry; exact PySem.EqNone.eq_bool_none (aV I q (by simp))
  | bl j => cases ry; exact eq_bool (aV I q Cr)
  | str j => obtain ⟨t', rfl⟩ := ry; exact PySem.EqMixed.eq_bool_str (aV I q (by simp))
  | _ => exact absurd (show false = true from hs) Bool.false_ne_true
 | int i =>
  obtain ⟨t, rfl⟩ := rx
  cases y with
  | bz => cases ry; exact PySem.EqNone.eq_int_none (aV I q (by simp))
  | int j => obtain ⟨t', rfl⟩ := ry; exact eq_int (aV I q Aa)
  | str j => obtain ⟨t', rfl⟩ := ry; exact PySem.EqMixed.eq_int_str (aV I q (by simp))
  | _ => exact absurd (show false = true from hs) Bool.false_ne_true
 | str i =>
  obtain ⟨t, rfl⟩ := rx
  cases y with
  | bz => cases ry; exact PySem.EqNone.eq_str_none (aV I q (by simp))
  | bl j => cases ry; exact PySem.EqMixed.eq_str_bool (aV I q (by simp))
  | int j => obtain ⟨t', rfl⟩ := ry; exact PySem.EqMixed.eq_str_int (aV I q (by simp))
  | str j => obtain ⟨t', rfl⟩ := ry; exact eq_str (aV I q Ab)
  | _ => exact absurd (show false = true from hs) Bool.false_ne_true
 | Cg i =>
  obtain ⟨t, rfl⟩ := rx
  cases y with
  | Cg j => obtain ⟨t', rfl⟩ := ry; exact PySem.W.eq_bytes (aV I q Ac)
  | _ => exact absurd (show false = true from hs) Bool.false_ne_true
 | _ => cases y <;> exact absurd (show false = true from hs) Bool.false_ne_true
theorem GI : nC X (compareOp .NotEq) Wb := by
 intro pins s σ H x y v u Q I rx ry h
 obtain ⟨hs, q⟩ := h
 cases x with
 | bz =>
  cases rx
  cases y with
  | bz => cases ry; exact PySem.EqNone.ne_none_none (aV I q (by simp))
  | bl j => cases ry; exact PySem.EqNone.ne_none_bool (aV I q (by simp))
  | int j => obtain ⟨t', rfl⟩ := ry; exact PySem.EqNone.ne_none_int (aV I q (by simp))
  | str j => obtain ⟨t', rfl⟩ := ry; exact PySem.EqNone.ne_none_str (aV I q (by simp))
  | _ => exact absurd (show false = true from hs) Bool.false_ne_true
 | bl i =>
  cases rx
  cases y with
  | bz => cases ry; exact PySem.EqNone.ne_bool_none (aV I q (by simp))
  | bl j => cases ry; exact ne_bool (aV I q (congrArg not Cr))
  | str j => obtain ⟨t', rfl⟩ := ry; exact PySem.EqMixed.ne_bool_str (aV I q (by simp))
  | _ => exact absurd (show false = true from hs) Bool.false_ne_true
 | int i =>
  obtain ⟨t, rfl⟩ := rx
  cases y with
  | bz => cases ry; exact PySem.EqNone.ne_int_none (aV I q (by simp))
  | int j => obtain ⟨t', rfl⟩ := ry; exact ne_int (aV I q (congrArg not Aa))
  | str j => obtain ⟨t', rfl⟩ := ry; exact PySem.EqMixed.ne_int_str (aV I q (by simp))
  | _ => exact absurd (show false = true from hs) Bool.false_ne_true
 | str i =>
  obtain ⟨t, rfl⟩ := rx
  cases y with
  | bz => cases ry; exact PySem.EqNone.ne_str_none (aV I q (by simp))
  | bl j => cases ry; exact PySem.EqMixed.ne_str_bool (aV I q (by simp))
  | int j => obtain ⟨t', rfl⟩ := ry; exact PySem.EqMixed.ne_str_int (aV I q (by simp))
  | str j => obtain ⟨t', rfl⟩ := ry; exact ne_str (aV I q (congrArg not Ab))
  | _ => exact absurd (show false = true from hs) Bool.false_ne_true
 | Cg i =>
  obtain ⟨t, rfl⟩ := rx
  cases y with
  | Cg j => obtain ⟨t', rfl⟩ := ry; exact PySem.W.ne_bytes (aV I q (congrArg not Ac))
  | _ => exact absurd (show false = true from hs) Bool.false_ne_true
 | _ => cases y <;> exact absurd (show false = true from hs) Bool.false_ne_true
theorem LO : nC X (compareOp .Lt) (KW fun i j => .bl (decide (i < j))) := LM fun _ _ _ _ _ _ _ q => lt_int q
theorem mq : nC X (compareOp .Gt) (KW fun i j => .bl (decide (j < i))) := LM fun _ _ _ _ _ _ _ q => gt_int q
theorem Bc : nC X (compareOp .In) (fun x y H Q => ∃ i j, x = .str i ∧ y = .str j ∧ Q (.bl (!(Builtin.Str.occurrences j i 0 j.length 1).isEmpty)) H) := by
 intro pins s σ H x y v u Q I rx ry h
 obtain ⟨i, j, rfl, rfl, q⟩ := h
 obtain ⟨t, rfl⟩ := rx
 obtain ⟨t', rfl⟩ := ry
 exact in_str (aV I q rfl)
theorem aR (b : Expr) {op : CmpOp} (h : op ≠ .In := by decide) (h2 : op ≠ .NotIn := by decide) : behindInMarks op b = false := by
 have e1 : (op == CmpOp.In) = false := by cases op <;> first | rfl | exact absurd rfl h
 have e2 : (op == CmpOp.NotIn) = false := by cases op <;> first | rfl | exact absurd rfl h2
 cases b <;> simp [behindInMarks, e1, e2]
theorem uu {op : CmpOp} {r : R2} (ho : nC X (compareOp op) r) (ha : PE X a ta) (hb : PE X b tb) (hm : behindInMarks op b = false) : PE X (.Compare a [op] [b] pos) (Pj r ta tb) := by
 intro pins s σ H Q I h
 exact wpAny_Compare1 (HR ha hb I h fun v u s2 x y H2 I2 rx ry q => ho pins s2 σ H2 x y v u Q I2 rx ry q) hm
def LP (t : TE) : TT := fun σ H Q => t σ H fun x H' => ∃ k, x = .bl k ∧ Q k H'
theorem aC {op : CmpOp} {r : R2} (ho : nC X (compareOp op) r) (ha : PE X a ta) (hb : PE X b tb) (hm : behindInMarks op b = false) : PT X (.Compare a [op] [b] pos) (LP (Pj r ta tb)) := by
 intro pins s σ H Q I h
 refine wpAny_isTrue_Compare1 (bQ (ha pins s σ H _ I h) fun v s1 ⟨x, H1, I1, r1, q1⟩ => bQ (hb pins s1 σ H1 _ I1 q1) fun u s2 ⟨y, H2, I2, r2, q2⟩ =>
  bQ (ho pins s2 σ H2 x y v u _ I2 r1 r2 q2) fun c s3 ⟨z, H3, I3, r3, k, e, q3⟩ => ?_) hm
 subst e
 cases r3
 exact wpAny_truthy_bool ⟨H3, I3, q3⟩
theorem nE : (sizeLine : Nat) < 2 ^ 63 := by rw [sizeLine_eq]; decide
theorem fg : nC X (binaryOp .Add) (fun x y H Q => ∃ i j, x = .str i ∧ y = .str j ∧ i.length + j.length ≤ sizeLine ∧ Q (.str (i ++ j)) H) := by
 intro pins s σ H x y v u Q I rx ry h
 obtain ⟨i, j, rfl, rfl, hz, q⟩ := h
 obtain ⟨t, rfl⟩ := rx
 obtain ⟨t', rfl⟩ := ry
 exact add_str (fun t' tk => ⟨.str (i ++ j), H, I.tok _, ⟨_, rfl⟩, q⟩) hz
theorem vals1 {x : V} {us : List Value} (r : Vals [x] us) : ∃ u, us = [u] ∧ RelV x u := by
 cases r with
 | cons r1 r2 => cases r2; exact ⟨_, rfl, r1⟩
theorem vals2 {x y : V} {us : List Value} (r : Vals [x, y] us) : ∃ u w', us = [u, w'] ∧ RelV x u ∧ RelV y w' := by
 cases r with
 | cons r1 r2 =>
  cases r2 with
  | cons r3 r4 => cases r4; exact ⟨_, _, rfl, r1, r3⟩
end
end L2
namespace L2
open PySem PySem.Spec PyProof.Rows
structure HV (h : Heap) (x dx C : Addr) (mA : Str → Option Value) : Prop where
 obj : h.get? x = some (PySem.W.instObj C dx)
 ns : h.Ns1 dx mA
 ne : dx ≠ x
theorem Bd {h : Heap} {dx : Addr} {mA : Str → Option Value} (n : h.Ns1 dx mA) : ∃ od, h.get? dx = some od ∧ ∀ name, PySem.W.lookIn name od = some (mA name) := by
 obtain ⟨o, es, ep, ho, hd, hk, _, hm⟩ := n
 refine ⟨o, ho, fun name => ?_⟩
 have e := hm name
 unfold nsFind findBy at e
 rw [← Array.find?_toList] at e
 unfold PySem.W.lookIn
 rw [hd]
 dsimp only
 split
 ·rename_i y q
  rw [q] at e
  exact congrArg some e
 ·rename_i q
  rw [q] at e
  have a : es.toList.any (·.refKey) = false := by
   rw [List.any_eq_false]
   intro y hy
   obtain ⟨z, t, hkey⟩ := hk y (Array.mem_toList_iff.mp hy)
   simp [DictEntry.refKey, hkey]
  have a' : ¬ es.toList.any (·.refKey) = true := by rw [a]; exact Bool.false_ne_true
  rw [if_neg a']
  exact congrArg some e
theorem HV.look {h : Heap} {x dx C : Addr} {mA : Str → Option Value} (I : HV h x dx C mA) : ∃ od, PySem.W.InstAt h x (PySem.W.instObj C dx) C (some od) ∧ ∀ name, PySem.W.lookIn name od = some (mA name) :=
 let ⟨od, ho, hl⟩ := Bd I.ns
 ⟨od, ⟨I.obj, rfl, rfl, ho⟩, hl⟩
section
variable {prog : Program} {w : World} {A : Around} {E : Value → Shared → Prop} {s : Shared} {K : PySem.W.Frag} {x dx C f : Addr} {mA : Str → Option Value} {name : Str} {v : Value}
end
theorem jj.some_of {v : V} {o : Option Value} (r : jj (some v) o) : ∃ u, o = some u ∧ RelV v u := by
 cases o with
 | none => exact (show False from r).elim
 | some u => exact ⟨u, rfl, r⟩
theorem jj.none_of {o : Option Value} (r : jj none o) : o = none := by
 cases o with
 | none => rfl
 | some u => exact (show False from r).elim
section
variable {P : Program} {w : World} {H H' : Hp} {h h' : Heap} {a C dx : Addr} {fs fs' : List (Str × V)}
theorem EM (hok : jh P w H h) (e : H a = some (.ins C dx fs)) : ∃ mA, HV h a dx C mA ∧ (∀ f, jj (fs.lookup f) (mA f)) ∧ PySem.Within mA (fs.map (·.1)) ∧ fs.length ≤ 1000 ∧ H dx = some (.own a) := by
 obtain ⟨d, z, ne, ob, mA, n, r, q⟩ := (show bg P w H h a (.ins C dx fs) from hok a _ e)
 exact ⟨mA, ⟨ob, n, ne⟩, r, q, z, d⟩
end
structure KY (K : PySem.W.Frag) (C : Addr) : Prop where
 pg : PySem.W.plainGet K C Str.empty = true
 hd : PySem.W.hasDictIn K C = true
 po : PySem.W.plainOver K C = true
 sa : PySem.W.findIn K (.ref C) "__setattr__" = some (some (.builtin "object.__setattr__"))
theorem KY.get {K : PySem.W.Frag} {C : Addr} (c : KY K C) (f : Str) : PySem.W.plainGet K C f = true := c.pg
def fh (K : PySem.W.Frag) (C : Addr) (f : Str) : Prop := PySem.W.findIn K (.ref C) f = some none
structure Y7 (K : PySem.W.Frag) (C : Addr) (f : Str) (v : V) (u : Value) : Prop where
 at_ : PySem.W.findIn K (.ref C) f = some (some u)
 rel : RelV v u
 get : PySem.W.specialIn K u "__get__" = some none
 cp : PySem.W.copiedNames.contains f = false
structure Meth (K : PySem.W.Frag) (C : Addr) (m : Str) (f : Addr) : Prop where
 at_ : PySem.W.findIn K (.ref C) m = some (some (.ref f))
 fn : PySem.W.isFn K (.ref f) = true
 kp : PySem.W.keepIn K (.ref f) = true
section
variable {X : Cx} {pins : List (Addr × Obj)} {σ : St} {H : Hp} {s : Shared} {a C dx : Addr} {fs : List (Str × V)} {f : Str} {v : V} {A : Around} {E : Value → Shared → Prop}
end
def LQ (X : Cx) (op : Operator) (rd : V → V → Hp → VK → Prop) : Prop :=
 ∀ (pins : List (Addr × Obj)) (s : Shared) (σ : St) (H : Hp) (x y : V) (u v : Value) (Q : VK), Inv X pins σ H s → RelV x u → RelV y v → rd x y H Q → wpAny (model X.prog X.w) X.A (inplaceOp op u v) (EP X pins σ Q) X.xe s
section
variable {X : Cx} {o e value : Expr} {f : Str} {pos pos' HW : Pos} {ta tv : TE}
def QC : V → V → Hp → VK → Prop := fun x y H Q => ∃ i j, x = .int i ∧ y = .int j ∧ Q (.int (i - j)) H
theorem HX : LQ X .Sub QC := by
 rintro pins s σ H x y u v Q I rx ry ⟨i, j, rfl, rfl, q⟩
 obtain ⟨t, rfl⟩ := (show ∃ t, u = Value.int i t from rx)
 obtain ⟨t', rfl⟩ := (show ∃ t', v = Value.int j t' from ry)
 exact PyProof.Rows.isub_int ⟨.int (i - j), H, I.tok _, ⟨_, rfl⟩, q⟩
end
section
variable {X : Cx} {pins : List (Addr × Obj)} {σ : St} {H : Hp} {s : Shared} {A : Around} {E : Value → Shared → Prop} {Q : Value → Shared → Prop} {c : Value} {b : Bool}
inductive nF (K : PySem.W.Frag) (H : Hp) : V → Value → Prop where
 | bz : nF K H .bz (.type "NoneType")
 | bl (x : Bool) : nF K H (.bl x) (.type "bool")
 | int (i : Int) : nF K H (.int i) (.type "int")
 | str (x : Str) : nF K H (.str x) (.type "str")
 | KQ (x : UInt64) : nF K H (.KQ x) (.type "float")
 | lst {a : Addr} {xs : List V} (e : H a = some (.lst xs)) : nF K H (.ref a) (.type "list")
 | ku {a : Addr} {o : Obj} {xs : List V} (e : H a = some (.ku o (.lst xs))) : nF K H (.ref a) (.type "list")
 | tup {a : Addr} {xs : List V} (e : H a = some (.tup xs)) : nF K H (.ref a) (.type "tuple")
 | dK {a : Addr} {kvs : List (Key × V)} (e : H a = some (.dK kvs)) : nF K H (.ref a) (.type "dict")
 | dT {a : Addr} {kvs : List (List Key × V)} (e : H a = some (.dT kvs)) : nF K H (.ref a) (.type "dict")
 | ins {a C dx : Addr} {fs : List (Str × V)} (e : H a = some (.ins C dx fs)) (cl : KY K C) (ha : PySem.W.findIn K (.ref C) "__class__" = some (some (.builtin "object.__class__")))
   (hn : PySem.W.specialIn K (.builtin "object.__class__") "__get__" = some (some (.builtin "getset_descriptor.__get__"))) (EN : PySem.W.takesIn K (.builtin "object.__class__") = some true)
   (hm : PySem.W.mroIn K C (.type "object") = some true) : nF K H (.ref a) (.ref C)
theorem Be {x : V} {u t : Value} (I : Inv X pins σ H s) (rx : RelV x u) (ty : nF X.K H x t) (e : PySem.W.kitOne X.K t c = some b) (h : ∀ tk, Q (.bool b) { s with toks := tk }) :
  wpAny (model X.prog X.w) A (call (.builtin "isinstance") [u, c]) Q E s := by
 cases ty with
 | bz => cases (show u = Value.none from rx); exact PySem.W.kia_one PySem.W.kitx_none I.pM True.intro e (fun z => nomatch z) h
 | bl y => cases (show u = Value.bool y from rx); exact PySem.W.kia_one PySem.W.kitx_bool I.pM True.intro e (fun z => nomatch z) h
 | int i => obtain ⟨t, q⟩ := (show ∃ t, u = Value.int i t from rx); cases q; exact PySem.W.kia_one PySem.W.kitx_int I.pM True.intro e (fun z => nomatch z) h
 | str y => obtain ⟨t, q⟩ := (show ∃ t, u = Value.str y t from rx); cases q; exact PySem.W.kia_one PySem.W.kitx_str I.pM True.intro e (fun z => nomatch z) h
 | KQ y => obtain ⟨t, q⟩ := (show ∃ t, u = Value.float y t from rx); cases q; exact PySem.W.kia_one PySem.W.kitx_float I.pM True.intro e (fun z => nomatch z) h
 | @lst a xs ea =>
  cases (show u = Value.ref a from rx)
  obtain ⟨_, _, n, _, h1⟩ := (show bg X.prog X.w H s.heap a (.lst xs) from I.hok a _ ea)
  exact PySem.W.kia_one PySem.W.kitx_list I.pM ⟨_, h1, rfl⟩ e (fun z => nomatch z) h
 | @ku a ob xs ea =>
  cases (show u = Value.ref a from rx)
  obtain ⟨_, _, _, n, _, h1⟩ := (show bg X.prog X.w H s.heap a (.ku ob (.lst xs)) from I.hok a _ ea)
  exact PySem.W.kia_one PySem.W.kitx_list I.pM ⟨_, h1, rfl⟩ e (fun z => nomatch z) h
 | @tup a xs ea =>
  cases (show u = Value.ref a from rx)
  obtain ⟨_, _, _, p⟩ := (show bg X.prog X.w H s.heap a (.tup xs) from I.hok a _ ea)
  obtain ⟨o, h1, h2, _⟩ := p
  exact PySem.W.kia_one PySem.W.kitx_tuple I.pM ⟨o, h1, h2⟩ e (fun z => nomatch z) h
 | @dK a kvs ea =>
  cases (show u = Value.ref a from rx)
  obtain ⟨_, _, vs, _, p⟩ := (show bg X.prog X.w H s.heap a (.dK kvs) from I.hok a _ ea)
  obtain ⟨o, es, ep, h1, h2, _⟩ := p
  exact PySem.W.kia_one PySem.W.kitx_dict I.pM ⟨o, h1, h2.1⟩ e (fun z => nomatch z) h
 | @dT a kvs ea =>
  cases (show u = Value.ref a from rx)
  obtain ⟨_, _, xs, _, o, es, ep, h1, h2, _⟩ := (show bg X.prog X.w H s.heap a (.dT kvs) from I.hok a _ ea)
  exact PySem.W.kia_one PySem.W.kitx_dict I.pM ⟨o, h1, h2.1⟩ e (fun z => nomatch z) h
 | @ins a C dx fs ea cl ha hn EN hm =>
  cases (show u = Value.ref a from rx)
  obtain ⟨mA, O, _⟩ := EM I.hok ea
  obtain ⟨od, J, _⟩ := O.look
  exact PySem.W.kia_one (PySem.W.kitx_own (cl.get _) cl.hd ha hn EN hm) I.pM J e (fun z => nomatch z) h
end
end L2
namespace L2
open PySem PySem.Spec PyProof.Rows
structure d9 (k : Nat) (A : Around) : Prop where
 hd : A.handled = none
 dp : A.depth + 3 * k + 5 < recursionLimit
 un : A.units + 16 * k + 200 < cLine
 gd : A.guards = some []
theorem d9.mono {j k : Nat} {A : Around} (r : d9 k A) (h : j ≤ k) : d9 j A := ⟨r.hd, by have := r.dp; omega, by have := r.un; omega, r.gd⟩
theorem d9.deeper {k : Nat} {A : Around} (r : d9 (k + 1) A) (env : Env) : d9 k (A.deeper env) :=
 ⟨r.hd, by have := r.dp; show A.depth + 1 + 3 * k + 5 < _; omega, by have := r.un; show A.units + 3 + 16 * k + 200 < _; omega, r.gd⟩
theorem d9.depth {k : Nat} {A : Around} (r : d9 k A) : A.depth < recursionLimit := by have := r.dp; omega
theorem d9.units {k : Nat} {A : Around} (r : d9 k A) : A.units + 64 < cLine := by have := r.un; omega
def QD : TA := fun _ H Q => Q [] H
def LR (ta : TE) (tr : TA) : TA := fun σ H Q => ta σ H fun x H1 => tr σ H1 fun xs H2 => Q (x :: xs) H2
section
variable {X : Cx} {e : Expr} {es : List Expr} {te : TE} {t : TA} {pos : Pos}
theorem af : PA X [] QD := fun _ _ _ _ H Q I h => Calls.spliced_nil ⟨[], H, I, .nil, h⟩
theorem aa (ha : PE X e te) (hr : PA X es t) (hs : starEach (e :: es) X.env = (false, eval e X.env) :: starEach es X.env := by rfl) : PA X (e :: es) (LR te t) := by
 intro pos pins s σ H Q I h
 rw [hs]
 show wpAny _ _ (spliced ((false, eval e X.env) :: backTo pos (starEach es X.env))) _ _ s
 refine Calls.spliced_cons (bQ (ha pins s σ H _ I h) fun u s1 ⟨x, H1, I1, r1, q1⟩ => ?_)
 exact bQ (hr pos pins s1 σ H1 _ I1 q1) fun us s2 ⟨xs, H2, I2, r2, q2⟩ => ⟨x :: xs, H2, I2, .cons r1 r2, q2⟩
def QE (t : TA) : TE := fun σ H Q => t σ H fun xs H1 => xs.length ≤ sizeLine ∧ ∀ p, H1 p = none → Q (.ref p) (upd H1 p (.tup xs))
def QF (t : TA) : TE := fun σ H Q => t σ H fun xs H1 => xs.length ≤ sizeLine ∧ ∀ p, H1 p = none → Q (.ref p) (upd H1 p (.lst xs))
theorem aZ {x1} (h : PA X es t) : PE X (.Tuple es x1 pos) (QE t) := by
 intro pins s σ H Q I hq
 refine wpAny_Tuple_spliced (bQ (h pos pins s σ H _ I hq) fun us s1 ⟨xs, H1, I1, r, z, q⟩ => ⟨by rw [← r.length]; exact z, ?_⟩)
 have hf : H1 s1.heap.objs.size = none := I1.hok.fresh (Nat.le_refl _)
 refine ⟨.ref s1.heap.objs.size, upd H1 s1.heap.objs.size (.tup xs), I1.laid (t' := s1.toks) (fun b u e => Heap.get?_push_of_some _ e) (Nat.le_refl _) ?_, rfl, q _ hf⟩
 exact ⟨z, us, r, ⟨_, Heap.get?_push_size _ rfl, rfl, _, rfl⟩⟩
theorem bc (h : PA X es t) : PE X (.List es pos) (QF t) := by
 intro pins s σ H Q I hq
 refine wpAny_List_spliced (bQ (h pos pins s σ H _ I hq) fun us s1 ⟨xs, H1, I1, r, z, q⟩ => ⟨by rw [← r.length]; exact z, ?_⟩)
 have hf : H1 s1.heap.objs.size = none := I1.hok.fresh (Nat.le_refl _)
 refine ⟨.ref s1.heap.objs.size, upd H1 s1.heap.objs.size (.lst xs), I1.laid (t' := s1.toks) (fun b u e => Heap.get?_push_of_some _ e) (Nat.le_refl _) ?_, rfl, q _ hf⟩
 exact ⟨z, us, 0, r, Heap.get?_push_size _ rfl⟩
end
abbrev Sp := List V → Hp → VK → XK → Prop
abbrev Ca := List Env → Hp → Shared → XK → Value → Shared → Prop
structure EO (P : Program) (w : World) (K : PySem.W.Frag) (mg : Str → Option Value) (base : Heap) (A : Around) (outer : List Env) (s : Shared) (H : Hp) : Prop where
 frames : A.frames = some outer
 mod : Mod K mg base
 bs : ∀ b o, base.get? b = some o → s.heap.get? b = some o ∧ H b = none
 EI : base.objs.size ≤ s.heap.objs.size
 nA : s.heap.FunFrames base outer
 HD : ∀ b ∈ eY outer, H b = none
 hok : jh P w H s.heap
 bare : AllBare s.gens
def CE (outer : List Env) (P : Program) (w : World) (H : Hp) (s : Shared) (Q : VK) (u : Value) (s' : Shared) : Prop :=
 ∃ v H', s'.os = s.os ∧ AllBare s'.gens ∧ Un (eY outer) [] H H' s.heap s'.heap ∧ jh P w H' s'.heap ∧ RelV v u ∧ Q v H'
def CR (CX : Ca) (outer : List Env) (P : Program) (w : World) (H : Hp) (s : Shared) (Q : VK) (E : XK) (r : Result) (s' : Shared) : Prop :=
 match r with
 | .ok (.ret u) => CE outer P w H s Q u s'
 | .ok _ => False
 | .error e => CX outer H s E e s'
structure bN (P : Program) (w : World) (K : PySem.W.Frag) (mg : Str → Option Value) (base : Heap) (CX : Ca) (k : Nat) (f : Addr) (fd : FuncData) (ps : List Str) (sp : Sp) : Prop where
 len : ∀ vs H Q E, sp vs H Q E → vs.length = ps.length
 run : ∀ (A : Around) (outer : List Env) (s : Shared) (H : Hp) (args : Args) (us : List Value) (vs : List V) (Q : VK) (E : XK), d9 k A → EO P w K mg base A outer s H → BindsTo s fd args (ps.zip us) → Vals vs us → sp vs H Q E →
  codeAny (model P w) A (.call (.ref f) args) (CR CX outer P w H s Q E) s
section
variable {X : Cx} {pins : List (Addr × Obj)} {σ : St} {H : Hp} {s s' : Shared}
theorem Inv.LS (I : Inv X pins σ H s) : EO X.prog X.w X.K X.mg X.base X.A X.stack s H :=
 ⟨I.ok.frames, I.ok.mod, I.bs, Nat.le_trans I.ok.EI I.sz, I.stack, I.um, I.hok, I.bare⟩
theorem Inv.after {Q : VK} {u : Value} (I : Inv X pins σ H s) (h : CE X.stack X.prog X.w H s Q u s') : EP X pins σ Q u s' := by
 obtain ⟨v, H', os, bare, un, hok, r, q⟩ := h
 obtain ⟨hh, g, d, t, Wc⟩ := s'
 obtain rfl : Wc = s.os := os
 exact ⟨v, H', I.call (h' := hh) (g' := g) (d' := d) (t' := t) (ch := []) un hok bare (fun b z => absurd z (by simp)), r, q⟩
end
def Ct (sp : Sp) (wz : List V) (E : XK) (t : TA) : TE := fun σ H Q => t σ H fun vs H1 => sp (vs ++ wz) H1 Q E
def Binds (K : PySem.W.Frag) (fd : FuncData) (ps : List Str) (ds : List Value) : Prop :=
 ∀ (s : Shared) (us : List Value), K.In s.heap → (us ++ ds).length = ps.length → BindsTo s fd ⟨us, []⟩ (ps.zip (us ++ ds))
theorem Binds.all {K : PySem.W.Frag} {fd : FuncData} {ps : List Str} (h : ∀ us : List Value, us.length = ps.length → bindArgs fd ⟨us, []⟩ = pure (ps.zip us)) : Binds K fd ps [] := fun s us _ hl => by
 rw [List.append_nil] at hl ⊢
 exact .of_eq (h us hl)
def Passes (CX : Ca) (X : Cx) (E : XK) : Prop := ∀ (pins : List (Addr × Obj)) (σ : St) (H : Hp) (s : Shared) (e : Value) (s' : Shared), Inv X pins σ H s → CX X.stack H s E e s' → X.xe e s'
section
variable {X : Cx} {CX : Ca} {k : Nat} {f C : Addr} {fd : FuncData} {ps : List Str} {sp : Sp} {wz : List V} {ds : List Value} {E : XK} {x m : Str} {p pos apos : Pos} {e o : Expr} {es : List Expr} {ta : TE} {t : TA}
theorem HY {pins : List (Addr × Obj)} {σ : St} {H : Hp} {s : Shared} {Q : VK} {us : List Value} {vs : List V} (F : bN X.prog X.w X.K X.mg X.base CX k f fd ps sp) (hr : d9 k X.A) (hb : Binds X.K fd ps ds) (hd : Vals wz ds) (hx : Passes CX X E)
  (I : Inv X pins σ H s) (r : Vals vs us) (h : sp (vs ++ wz) H Q E) : wpAny (model X.prog X.w) X.A (call (.ref f) us) (EP X pins σ Q) X.xe s := by
 have r2 : Vals (vs ++ wz) (us ++ ds) := r.append hd
 have hl : (us ++ ds).length = ps.length := by rw [← r2.length]; exact F.len _ _ _ _ h
 refine wpAny_call (codeAny_mono (F.run X.A X.stack s H ⟨us, []⟩ (us ++ ds) (vs ++ wz) Q E hr I.LS (hb s us I.pM hl) r2 h) fun r s' hq => ?_)
 cases r with
 | error e => exact hx pins σ H s e s' I hq
 | ok fl =>
  cases fl with
  | ret u => exact I.after hq
  | next => exact False.elim hq
  | brk => exact False.elim hq
  | cont => exact False.elim hq
theorem Ad (F : bN X.prog X.w X.K X.mg X.base CX k f fd ps sp) (hr : d9 k X.A) (hg : Gl X x) (hm : X.mg x = some (.ref f)) (hk : PySem.W.keepIn X.K (.ref f) = true) (hb : Binds X.K fd ps ds) (hd : Vals wz ds) (hx : Passes CX X E)
  (ha : PA X (e :: es) t) (uw : (x == ("__debug__" : Str)) = false := by decide) (he : starEach (e :: es) X.env = (false, eval e X.env) :: starEach es X.env := by rfl) (hpl : (backTo pos (starEach es X.env)).any (·.1) = false := by rfl) :
  PE X (.Call (.Name x p) (e :: es) [] pos) (Ct sp wz E t) := by
 intro pins s σ H Q I h
 refine wpAny_Call_Name_kw (mj I hg hm ?_ uw)
 refine PySem.W.callWith_K (h₀ := X.base) I.ok.mod.Ly hk (bQ (ha pos pins s σ H _ I h) fun us s1 ⟨vs, H1, I1, r, q⟩ => ⟨I1.pM, ?_⟩) he hpl
 exact HY F hr hb hd hx I1 r q
structure Mk (K : PySem.W.Frag) (C f : Addr) : Prop where
 makes : PySem.W.makesIn K C = true
 init : PySem.W.findIn K (.ref C) "__init__" = some (some (.ref f))
 fn : PySem.W.isFn K (.ref f) = true
 kp : PySem.W.keepIn K (.ref C) = true
end
section
variable {X : Cx} {CX : Ca} {k : Nat} {f C : Addr} {fd : FuncData} {ps ks : List Str} {sp : Sp} {E : XK} {x m : Str} {p pos apos Wd : Pos} {e o : Expr} {es : List Expr} {Y8 : List Keyword} {te ta : TE} {t tk : TA} {nm : Option Str}
structure QG (K : PySem.W.Frag) (fd : FuncData) (ps ks : List Str) (g : List Value → List Value → List Value) (gV : List V → List V → List V) : Prop where
 to : ∀ (s : Shared) (us ws : List Value), K.In s.heap → (g us ws).length = ps.length → BindsTo s fd ⟨us, ks.zip ws⟩ (ps.zip (g us ws))
 rel : ∀ {vs : List V} {us : List Value} {zs : List V} {ws : List Value}, Vals vs us → Vals zs ws → Vals (gV vs zs) (g us ws)
variable {g : List Value → List Value → List Value} {gV : List V → List V → List V}
end
structure aF (N P : List Str) (sc : Scope) : Prop where
 kind : sc.kind = .function
 co : sc.isCoroutine = false
 gen : sc.isGenerator = false
 nd : N.Nodup
 pre : N.take P.length = P
 par : ∀ x ∈ P, sc.names.lookup x = some .local ∨ sc.names.lookup x = some .cell
 HZ : ∀ y ∈ sc.names, y.2 ≠ .free
theorem sP {kindOf : Str → Option NameKind} {x : Str} : ∀ {binds : List (Str × Value)} {m : Str → Option Value}, (∀ v, (x, v) ∉ binds) → bindL kindOf binds m x = m x
 | [], _, _ => rfl
 | (n, v) :: r, m, h => by
  unfold bindL
  rw [sP fun w hw => h w (List.mem_cons_of_mem _ hw)]
  split
  ·have : x ≠ n := by rintro rfl; exact h v List.mem_cons_self
   simp [this]
  ·rfl
theorem sQ {kindOf : Str → Option NameKind} {x : Str} : ∀ {binds : List (Str × Value)} {m : Str → Option Value}, (∀ v, (x, v) ∉ binds) → bindC kindOf binds m x = m x
 | [], _, _ => rfl
 | (n, v) :: r, m, h => by
  unfold bindC
  rw [sQ fun w hw => h w (List.mem_cons_of_mem _ hw)]
  split
  ·rfl
  ·have : x ≠ n := by rintro rfl; exact h v List.mem_cons_self
   simp [this]
theorem sR {kindOf : Str → Option NameKind} {x : Str} {v : Value} : ∀ {P : List Str} {vs : List Value} {i : Nat} {m : Str → Option Value}, P.Nodup → P[i]? = some x → vs[i]? = some v → kindOf x = some .local →
  bindL kindOf (P.zip vs) m x = some v
 | [], _, _, _, _, h, _, _ => by simp at h
 | _ :: _, [], _, _, _, _, h, _ => by simp at h
 | p :: P, w :: vs, 0, m, nd, h1, h2, hk => by
  simp at h1 h2; subst h1; subst h2
  show bindL kindOf ((p, w) :: P.zip vs) m p = _
  unfold bindL
  rw [sP fun v hv => (List.nodup_cons.mp nd).1 (List.of_mem_zip hv).1, if_pos hk]
  simp
 | p :: P, w :: vs, i + 1, m, nd, h1, h2, hk => by
  show bindL kindOf ((p, w) :: P.zip vs) m x = _
  unfold bindL
  exact sR (i := i) (List.nodup_cons.mp nd).2 (by simpa using h1) (by simpa using h2) hk
theorem sS {kindOf : Str → Option NameKind} {x : Str} {v : Value} : ∀ {P : List Str} {vs : List Value} {i : Nat} {m : Str → Option Value}, P.Nodup → P[i]? = some x → vs[i]? = some v → kindOf x ≠ some .local →
  bindC kindOf (P.zip vs) m x = some v
 | [], _, _, _, _, h, _, _ => by simp at h
 | _ :: _, [], _, _, _, _, h, _ => by simp at h
 | p :: P, w :: vs, 0, m, nd, h1, h2, hk => by
  simp at h1 h2; subst h1; subst h2
  show bindC kindOf ((p, w) :: P.zip vs) m p = _
  unfold bindC
  rw [sQ fun v hv => (List.nodup_cons.mp nd).1 (List.of_mem_zip hv).1, if_neg hk]
  simp
 | p :: P, w :: vs, i + 1, m, nd, h1, h2, hk => by
  show bindC kindOf ((p, w) :: P.zip vs) m x = _
  unfold bindC
  exact sS (i := i) (List.nodup_cons.mp nd).2 (by simpa using h1) (by simpa using h2) hk
def start (N : List Str) (vs : List V) : St := vs.map some ++ List.replicate (N.length - vs.length) none
def ym (CX : Ca) (P : Program) (w : World) (K : PySem.W.Frag) (mg : Str → Option Value) (base : Heap) (N : List Str) (qual : Str) (scope : Scope) (f : Addr) (cd : Value) (A : Around) (outer : List Env) (s : Shared) (H : Hp) (E : XK) : Cx where
 prog := P
 w := w
 K := K
 mg := mg
 base := base
 A := A.deeper (envOfC qual scope s.heap.objs.size f cd)
 N := N
 s₀ := s
 H₀ := H
 env := envOfC qual scope s.heap.objs.size f cd
 outer := outer
 stack := envOfC qual scope s.heap.objs.size f cd :: outer
 ex := []
 calm := true
 fn := fun _ => true
 pn := []
 xe := fun e s' => wpAny (model P w) (A.deeper (envOfC qual scope s.heap.objs.size f cd)) (leaving (envOfC qual scope s.heap.objs.size f cd) e) (fun _ s'' => CX outer H s E e s'') (fun e' s'' => CX outer H s E e' s'') s'
theorem wA {sc : Scope} {n : Nat} {x : Str} (h : sc.names.lookup x = some .cell) : ∃ c, (cellsFrom n sc.names []).lookup x = some c := by
 have q := PySem.W.cellsFrom_some sc.names n [] (.inl h)
 exact Option.isSome_iff_exists.mp q
theorem Bf {CX : Ca} {P : Program} {w : World} {K : PySem.W.Frag} {mg : Str → Option Value} {base : Heap} {N ps : List Str} {qual : Str} {scope : Scope} {f : Addr} {cd : Value} {A : Around} {outer : List Env} {s s1 : Shared} {H : Hp} {E : XK} {us : List Value} {vs : List V}
  (S : aF N ps scope) (hd : A.handled = none) (e0 : EO P w K mg base A outer s H) (hl : vs.length = ps.length) (r : Vals vs us)
  (x : InCallC s s.heap.objs.size (bindL (envOfC qual scope s.heap.objs.size f cd).kindOf (ps.zip us) fun _ => none) (cellsFrom (s.heap.objs.size + 1) scope.names []) (bindC (envOfC qual scope s.heap.objs.size f cd).kindOf (ps.zip us) fun _ => none) s1) :
  Inv (ym CX P w K mg base N qual scope f cd A outer s H E) [] (start N vs) H s1 := by
 have hpl : ps.length ≤ N.length := by have := congrArg List.length S.pre; rw [List.length_take] at this; omega
 obtain ⟨h1, tk, rfl, hk⟩ := x.done
 have LU : ∀ b : Addr, b ∉ (ym CX P w K mg base N qual scope f cd A outer s H E).ex := fun b z => absurd (show b ∈ ([] : List Addr) from z) (by simp)
 refine ⟨⟨e0.mod, S.kind, rfl, rfl, Nat.le_refl _, fun y z c h1 h2 => ?_, fun y hy => ?_, fun y c _ h => ?_, fun _ => hd, Around.frames_deeper e0.frames, .inr ⟨rfl, rfl⟩, fun b z => absurd z (LU b), e0.bs, e0.EI, fun b _ _ => LU b, fun b z => absurd z (LU b), e0.nA, e0.HD⟩,
  rfl, e0.bare, Un.kept hk, ⟨_, x.toInCall.ns, fun i y v h1 h2 h3 => ?_⟩, fun y c h => ⟨_, x.cell y c h⟩, e0.hok.fresh (Nat.le_refl _), fun y c h => ?_, fun p hp => absurd (show p ∈ ([] : List (Addr × Obj)) from hp) (by simp), e0.hok.kept hk, ?_⟩
 ·exact name_of_addr x.apart (PySem.mem_of_lookup h1) (PySem.mem_of_lookup h2)
 ·have hy : scope.names.lookup y = some .cell ∨ scope.names.lookup y = some .free := hy
  rcases hy with hy | hy
  ·exact wA hy
  ·exact absurd rfl (S.HZ _ (PySem.mem_of_lookup hy))
 ·exact Nat.le_of_lt (x.above y c (PySem.mem_of_lookup h))
 ·have hi : i < vs.length := by
   unfold start at h2
   by_cases hi : i < vs.length
   ·exact hi
   ·rw [List.getElem?_append_right (by simpa using hi)] at h2
    rw [List.getElem?_replicate] at h2
    split at h2 <;> cases h2
  have ha : vs[i]? = some v := by
   unfold start at h2
   rw [List.getElem?_append_left (by simpa using hi), List.getElem?_map] at h2
   cases e : vs[i]? with
   | none => rw [e] at h2; cases h2
   | some a => rw [e] at h2; cases h2; rfl
  obtain ⟨u, hu, rv⟩ := r.get ha
  have hp : ps[i]? = some y := by
   rw [← S.pre, List.getElem?_take_of_lt (by omega)]; exact h1
  have Uh : ps.Nodup := by rw [← S.pre]; exact S.nd.sublist (List.take_sublist _ _)
  refine ⟨u, rv, ?_⟩
  rcases S.par y (List.mem_of_getElem? hp) with k | k
  ·exact .inl ⟨k, sR Uh hp hu k⟩
  ·obtain ⟨c, e⟩ := wA (n := s.heap.objs.size + 1) k
   refine .inr ⟨.inl k, c, e, ?_⟩
   have q := x.cell y c e
   rw [sS Uh hp hu (by show scope.names.lookup y ≠ _; rw [k]; decide)] at q
   exact q
 ·exact e0.hok.fresh (Nat.le_of_lt (x.above y c (PySem.mem_of_lookup h)))
 ·unfold start
  show _ = N.length
  rw [List.length_append, Lm9, List.length_replicate]
  omega
theorem GJ {CX : Ca} {P : Program} {w : World} {K : PySem.W.Frag} {mg : Str → Option Value} {base : Heap} {k : Nat} {f : Addr} {name qual : Str} {params : Arguments} {body : List Stmt} {scope : Scope} {dV kV doc pm dn ct oc : Value} {an od : Option Addr}
  {ER : Array (Option Value)} {N ps : List Str} {sp : Sp} (lk : K.lookup f = some ⟨oc, od, .func (PySem.W.fnOf name qual params body scope dV kV doc pm an dn ct), ER⟩) (hcd : PySem.W.codeIn K dn qual = true) (S : aF N ps scope)
  (len : ∀ vs H Q E, sp vs H Q E → vs.length = ps.length)
  (mr : ∀ (A : Around) (outer : List Env) (s : Shared) (H : Hp) (vs : List V) (Q : VK) (E : XK), d9 k (A.deeper (envOfC qual scope s.heap.objs.size f dn)) → sp vs H Q E →
   ∃ t, xT (ym CX P w K mg base N qual scope f dn A outer s H E) body t ∧ t { nx := fun _ H' => Q .bz H', rt := Q } (start N vs) H) :
  bN P w K mg base CX (k + 1) f (PySem.W.fnOf name qual params body scope dV kV doc pm an dn ct) ps sp := by
 refine ⟨len, fun A outer s H args us vs Q E hr e0 hb r Ey => ?_⟩
 have hl := len _ _ _ _ Ey
 have KX : K.In s.heap := e0.mod.Ly.keeps fun b o e => (e0.bs b o e).1
 have lim : s.heap.NoLimit := e0.mod.nolimit.keeps fun b o e => (e0.bs b o e).1
 have hkind : ∀ y ∈ ps.zip us, scope.names.lookup y.1 = some .local ∨ (scope.names.lookup y.1 = some .cell ∧ ((cellsFrom (s.heap.objs.size + 1) scope.names []).lookup y.1).isSome = true) := fun ⟨n, v⟩ hy => by
  rcases S.par n (List.of_mem_zip hy).1 with q | q
  ·exact .inl q
  ·exact .inr ⟨q, PySem.W.cellsFrom_some _ _ _ (.inl q)⟩
 refine codeAny_call_function hr.depth (KX _ _ lk) rfl S.co S.gen rfl (PySem.W.codeRec_of KX hcd) (hb _ _ _ _ ?_)
 refine wpAny_newFunctionEnv_cells S.kind hkind fun env he s1 x => ?_
 subst he
 refine ⟨lim.keeps x.toInCall.keep, codeAny_func ?_⟩
 obtain ⟨t, ht, hq⟩ := mr A outer s H vs Q E (hr.deeper _) Ey
 have I : Inv (ym CX P w K mg base N qual scope f dn A outer s H E) [] (start N vs) H s1 := Bf S hr.hd e0 hl r x
 refine wpAny_mono (ht [] s1 (start N vs) H _ I hq) (fun fl s' hs => ?_) fun e s' hs => hs
 have fin : ∀ {σ' : St} {H' : Hp} {v : V} {u : Value}, Inv (ym CX P w K mg base N qual scope f dn A outer s H E) [] σ' H' s' → RelV v u → Q v H' → CE outer P w H s Q u s' :=
  fun {σ' H' v u} J rv q => ⟨v, H', J.os, J.bare, J.base, J.hok, rv, q⟩
 cases fl with
 | ret u =>
  obtain ⟨v, σ', H', J, rv, q⟩ := hs
  exact fin J rv q
 | next =>
  obtain ⟨σ', H', J, q⟩ := hs
  exact fin (v := V.bz) (u := Value.none) J rfl q
 | brk =>
  obtain ⟨_, _, _, q⟩ := hs
  exact False.elim q
 | cont =>
  obtain ⟨_, _, _, q⟩ := hs
  exact False.elim q
end L2
namespace L2
open PySem PySem.Spec PyProof.Rows
section
variable {X : Cx} {x : Str} {p pos : Pos} {e : Expr} {es : List Expr} {t : TA} {id T : String} {r : List V → Hp → VK → Prop}
def Ui (r : List V → Hp → VK → Prop) (t : TA) : TE := fun σ H Q => t σ H fun vs H1 => r vs H1 Q
theorem aE (hc : cw X (.builtin id) r) (hg : Gl X x) (hm : X.mg x = none) (hv : bootBuiltins x = some (.builtin id)) (ha : PA X (e :: es) t) (hn : x ≠ "__name__" := by decide) (uw : (x == ("__debug__" : Str)) = false := by decide)
  (he : starEach (e :: es) X.env = (false, eval e X.env) :: starEach es X.env := by rfl) (hpl : (backTo pos (starEach es X.env)).any (·.1) = false := by rfl) : PE X (.Call (.Name x p) (e :: es) [] pos) (Ui r t) := by
 intro pins s σ H Q I h
 refine wpAny_Call_Name_kw (uo I hg hm hv ?_ hn uw)
 exact PyProof.Rows.callWith_builtin1 (bQ (ha pos pins s σ H _ I h) fun us s1 ⟨vs, H1, I1, r1, q1⟩ => hc pins s1 σ H1 vs us Q I1 r1 q1) he hpl
theorem aH (hc : cw X (.type T) r) (hg : Gl X x) (hm : X.mg x = none) (hv : bootBuiltins x = some (.type T)) (ha : PA X (e :: es) t) (hn : x ≠ "__name__" := by decide) (uw : (x == ("__debug__" : Str)) = false := by decide)
  (he : starEach (e :: es) X.env = (false, eval e X.env) :: starEach es X.env := by rfl) (hpl : (backTo pos (starEach es X.env)).any (·.1) = false := by rfl) : PE X (.Call (.Name x p) (e :: es) [] pos) (Ui r t) := by
 intro pins s σ H Q I h
 refine wpAny_Call_Name_kw (uo I hg hm hv ?_ hn uw)
 exact PyProof.Rows.callWith_type1 (bQ (ha pos pins s σ H _ I h) fun us s1 ⟨vs, H1, I1, r1, q1⟩ => hc pins s1 σ H1 vs us Q I1 r1 q1) he hpl
end
end L2
namespace HT
open PySem PyProof.Rows
section
open PySem.SeqAt
open PySem.AutoSeq1 (wpAny_loadPart')
open PySem.MeetsSeq PySem.MeetsSeq2 PySem.MeetsSeq3
end
section
variable {prog : Program} {w : World} {A : Around} {E : Value → Shared → Prop} {s : Shared}
theorem ES {t b : Addr} {vs ws : List Value} {Q : Value → Shared → Prop} (ht : IsTup s.heap t vs.toArray) (hb : IsTup s.heap b ws.toArray) (hv : vs ≠ [])
  (h1 : ws = [] → Q (.ref t) s) (h2 : ws ≠ [] → Q (.ref s.heap.objs.size) { s with heap := s.heap.push { cls := .type "tuple", data := .seq (vs ++ ws).toArray } })
  (hsz : vs.length + ws.length ≤ sizeLine) : wpAny (model prog w) A (binaryOp .Add (.ref t) (.ref b)) Q E s := by
 obtain ⟨⟨cls, dd, data, sl⟩, ho, hc, n, hd⟩ := id ht
 obtain ⟨⟨LV, GK, data2, yo⟩, xV, Cu, n2, hd2⟩ := id hb
 simp only at hc hd Cu hd2
 subst hc hd Cu hd2
 have e : vs.toArray ++ ws.toArray = (vs ++ ws).toArray := by simp
 by_cases hw : ws = []
 ·exact concat_meets ⟨_, ho, rfl⟩ ⟨_, xV, rfl⟩ noFill_tuple_add seq_tuple_add PySem.F.slot_tuple_add PySem.F.entry_tuple_add (PySem.F.args_tuple_add_2 _ _)
   (tuple_addW1 t b vs.toArray ws.toArray n n2 dd GK sl yo (by simpa using hv) (by simp [hw])) ⟨ho, xV, h1 hw⟩
 ·refine concat_meets ⟨_, ho, rfl⟩ ⟨_, xV, rfl⟩ noFill_tuple_add seq_tuple_add PySem.F.slot_tuple_add PySem.F.entry_tuple_add (PySem.F.args_tuple_add_2 _ _)
   (tuple_addW2 t b vs.toArray ws.toArray n n2 dd GK sl yo (by simpa using hv) (by simpa using hw) (by rw [List.size_toArray, List.size_toArray]; exact hsz)) ⟨ho, xV, ?_⟩
  rw [e]
  exact h2 hw
def cy (n d : Nat) : Option Int → Nat
 | none => d
 | some v => if v < 0 then (v + (n : Int)).toNat else min v.toNat n
theorem ux (n d k : Nat) : cy n d (some (k : Int)) = min k n := by
 show (if (k : Int) < 0 then ((k : Int) + (n : Int)).toNat else min (k : Int).toNat n) = min k n
 rw [if_neg (by omega), Int.toNat_natCast]
theorem Ia (n d : Nat) (hd : d ≤ n) (o : Option Int) : cy n d o ≤ n := by
 cases o with
 | none => exact hd
 | some v =>
  show (if v < 0 then (v + (n : Int)).toNat else min v.toNat n) ≤ n
  by_cases hv : v < 0
  ·rw [if_pos hv]; omega
  ·rw [if_neg hv]; exact Nat.min_le_right _ _
theorem Ae (v : Int) (n d : Nat) : (if v < 0 then max (v + (n : Int)) 0 else min v (n : Int)) = ((cy n d (some v) : Nat) : Int) := by
 show (if v < 0 then max (v + (n : Int)) 0 else min v (n : Int)) = (((if v < 0 then (v + (n : Int)).toNat else min v.toNat n) : Nat) : Int)
 by_cases hv : v < 0
 ·simp only [if_pos hv]; omega
 ·simp only [if_neg hv]; omega
theorem yp (lo hi : Option Int) (n : Nat) : Builtin.Slice.sliceAdjust lo hi 1 (n : Int) = (((cy n 0 lo : Nat) : Int), ((cy n n hi : Nat) : Int)) := by
 have h1 : ¬ ((1 : Int) < 0) := by omega
 unfold Builtin.Slice.sliceAdjust
 simp only [h1, if_false]
 refine Prod.ext ?_ ?_
 ·cases lo with
  | none => rfl
  | some v => exact Ae v n 0
 ·cases hi with
  | none => rfl
  | some v => exact Ae v n n
theorem yq (i j : Nat) : Builtin.Slice.slicePlaces (i : Int) (j : Int) 1 = j - i := by
 unfold Builtin.Slice.slicePlaces
 have h1 : (1 : Int) > 0 := by omega
 simp only [h1, if_true, Int.ediv_one]
 split <;> omega
theorem pW {v : Value} {o : Option Int} {Q : Option Int → Shared → Prop} (p : IsPart v o) (h : Q o s) : wpAny (model prog w) A (Builtin.Slice.slicePartIndex v) Q E s := by
 cases p with
 | none => exact slicePart_none h
 | int i t => exact slicePart_int h
theorem gu {sl : Addr} {vl vu : Value} {lo hi : Option Int} {n : Nat} {Q : Int × Int × Nat → Shared → Prop} (hs : s.heap.IsSliceOf sl vl vu .none) (pl : IsPart vl lo) (pu : IsPart vu hi)
  (h : Q (((cy n 0 lo : Nat) : Int), 1, cy n n hi - cy n 0 lo) s) : wpAny (model prog w) A (Builtin.Slice.sliceApplied (.ref sl) (pure (n : Int))) Q E s := by
 obtain ⟨os, ET, Bg, LW⟩ := id hs
 unfold Builtin.Slice.sliceApplied Builtin.Slice.sliceFields
 refine wpAny_bind (wpAny_bind (wpAny_field ET LW (x := vl) rfl (wpAny_bind (wpAny_field ET LW (x := vu) rfl (wpAny_bind (wpAny_field ET LW (x := .none) rfl (wpAny_pure ?_)))))))
 refine wpAny_bind (slicePart_none ?_)
 show wpAny _ _ (if ((1 : Int) == 0) = true then _ else _) _ _ s
 rw [if_neg (by decide)]
 refine wpAny_bind (pW pl (wpAny_bind (pW pu (wpAny_bind (wpAny_pure ?_)))))
 show wpAny _ _ (match Builtin.Slice.sliceAdjust lo hi 1 (n : Int) with | (lo, hi) => pure (lo, (1 : Int), Builtin.Slice.slicePlaces lo hi 1)) _ _ s
 rw [yp lo hi n]
 show wpAny _ _ (pure (((cy n 0 lo : Nat) : Int), (1 : Int), Builtin.Slice.slicePlaces ((cy n 0 lo : Nat) : Int) ((cy n n hi : Nat) : Int) 1)) _ _ s
 rw [yq]
 exact wpAny_pure h
theorem Cv (xs : Array Value) (i k : Nat) : ((List.range k).filterMap fun (m : Nat) => xs[((i : Int) + (m : Int) * 1).toNat]?).toArray = ((xs.toList.drop i).take k).toArray := by
 have e : (fun (m : Nat) => xs[((i : Int) + (m : Int) * 1).toNat]?) = fun m => xs[i + m]? := by
  funext m
  have : ((i : Int) + (m : Int) * 1).toNat = i + m := by omega
  rw [this]
 rw [e]
 have := pick_run xs i k
 rw [List.filterMap_map] at this
 have e2 : ((fun x => xs[x]?) ∘ fun x => i + x) = fun m => xs[i + m]? := rfl
 rw [e2] at this
 rw [this]
theorem mv {t sl : Addr} {items : Array Value} {vl vu : Value} {lo hi : Option Int} {Q : Value → Shared → Prop} (ht : IsTup s.heap t items) (hs : s.heap.IsSliceOf sl vl vu .none) (pl : IsPart vl lo) (pu : IsPart vu hi)
  (hw : ¬ (cy items.size 0 lo = 0 ∧ cy items.size items.size hi = items.size))
  (h : Q (.ref s.heap.objs.size) { s with heap := s.heap.push { cls := .type "tuple", data := .seq ((items.toList.drop (cy items.size 0 lo)).take (cy items.size items.size hi - cy items.size 0 lo)).toArray } })
  (hsz : items.size ≤ sizeLine) : wpAny (model prog w) A (getItem (.ref t) (.ref sl)) Q E s := by
 have Af : sizeOk (.seq ((items.toList.drop (cy items.size 0 lo)).take (cy items.size items.size hi - cy items.size 0 lo)).toArray) := by
  show ((items.toList.drop (cy items.size 0 lo)).take (cy items.size items.size hi - cy items.size 0 lo)).toArray.size ≤ sizeLine
  rw [List.size_toArray, List.length_take, List.length_drop, Array.length_toList]
  omega
 have hj : cy items.size items.size hi ≤ items.size := Ia _ _ (Nat.le_refl _) hi
 obtain ⟨os, ET, Bg, LW⟩ := id hs
 have KZ : s.TypeIs (.ref sl) "slice" := ⟨os, ET, Bg⟩
 unfold getItem
 try with_reducible refine wpAny_holding ?_
 first | refine wpAny_bind (wpAny_pure ?_) | skip
 refine wpAny_bind (wpAny_sequenceKey ht.typeIs (by decide) ?_)
 refine wpAny_bind (wpAny_callSpecial?_slot (name := Str.ofString "__getitem__") ht.typeIs PyProof.Rows.slot_tuple_getitem
  (wpAny_call_entry PyProof.Rows.slot_tuple_getitem ht.typeIs entry_tuple_getitem ?_ (args_tuple_getitem _ _)))
 show wpAny _ _ (Builtin.Tuple.tupleItemsOf (.ref t) >>= _) _ _ s
 refine wpAny_bind (tupleItemsOf_ ht ?_)
 refine wpAny_bind (wpAny_typeOf KZ ?_)
 rw [if_pos (by decide)]
 refine wpAny_bind (gu hs pl pu ?_)
 have ji : ¬ ((((cy items.size 0 lo : Nat) : Int) == 0 && (1 : Int) == 1 && (cy items.size items.size hi - cy items.size 0 lo) == items.size) = true) := by
  intro q
  rw [Bool.and_eq_true, Bool.and_eq_true] at q
  have q1 : ((cy items.size 0 lo : Nat) : Int) = 0 := eq_of_beq q.1.1
  have q2 : cy items.size items.size hi - cy items.size 0 lo = items.size := eq_of_beq q.2
  exact hw ⟨by omega, by omega⟩
 show wpAny _ _ (if (((cy items.size 0 lo : Nat) : Int) == 0 && (1 : Int) == 1 && (cy items.size items.size hi - cy items.size 0 lo) == items.size) = true then _ else _) _ _ s
 rw [if_neg ji, Cv]
 first
  | exact wpAny_bind (m := Builtin.Tuple.tupleExact _) (wpAny_newObj_type (wpAny_pure ⟨_, rfl, wpAny_pure h⟩) Af)
  | exact wpAny_bind (m := Builtin.Tuple.tupleExact _) (wpAny_newObj_type (wpAny_bind (wpAny_pure (wpAny_pure ⟨_, rfl, wpAny_pure h⟩))) Af)
  | exact wpAny_bind (wpAny_bind (m := Builtin.Tuple.tupleExact _) (wpAny_newObj_type (wpAny_pure (wpAny_pure ⟨_, rfl, wpAny_pure h⟩)) Af))
  | exact wpAny_bind (wpAny_bind (m := Builtin.Tuple.tupleExact _) (wpAny_newObj_type (wpAny_pure ⟨_, rfl, wpAny_pure h⟩) Af))
end
end HT
namespace L2
open PySem PySem.Spec PyProof.Rows
abbrev TO := St → Hp → (Option Int → Hp → Prop) → Prop
def PO (X : Cx) (e : Option Expr) (t : TO) : Prop :=
 ∀ (pins : List (Addr × Obj)) (s : Shared) (σ : St) (H : Hp) (Q : Option Int → Hp → Prop), Inv X pins σ H s → t σ H Q →
  wpAny (model X.prog X.w) X.A (evalPart e X.env) (fun u s' => ∃ o H', Inv X pins σ H' s' ∧ IsPart u o ∧ Q o H') X.xe s
def EU : TO := fun _ H Q => Q none H
def LX (t : TE) : TO := fun σ H Q => t σ H fun x H1 => ∃ i, x = .int i ∧ Q (some i) H1
section
variable {X : Cx} {e : Expr} {te : TE} {lo hi : Option Expr} {tl th : TO} {pos p2 : Pos}
theorem o7 : PO X none EU := by
 intro pins s σ H Q I h
 rw [evalPart_none]
 exact wpAny_pure ⟨none, H, I, .none, h⟩
theorem d7 (h : PE X e te) : PO X (some e) (LX te) := by
 intro pins s σ H Q I hw
 rw [evalPart_some]
 refine bQ (h pins s σ H _ I hw) fun u s1 ⟨x, H1, I1, r1, q1⟩ => ?_
 obtain ⟨i, rfl, q⟩ := q1
 obtain ⟨t, rfl⟩ := r1
 exact ⟨some i, H1, I1, .int i t, q⟩
def LY (X : Cx) (r : V → Option Int → Option Int → Hp → VK → Prop) : Prop :=
 ∀ (pins : List (Addr × Obj)) (s : Shared) (σ : St) (H : Hp) (x : V) (v vl vu : Value) (lo hi : Option Int) (sl : Addr) (Q : VK), Inv X pins σ H s → RelV x v → s.heap.IsSliceOf sl vl vu .none → IsPart vl lo → IsPart vu hi → r x lo hi H Q →
  ∃ T id, typeLookup (.type T) "__getitem__" = pure (some (.builtin id)) ∧ s.TypeIs v T ∧ wpAny (model X.prog X.w) X.A (getItem v (.ref sl)) (EP X pins σ Q) X.xe s
def We (r : V → Option Int → Option Int → Hp → VK → Prop) (te : TE) (tl th : TO) : TE := fun σ H Q => te σ H fun x H1 => tl σ H1 fun l H2 => th σ H2 fun u H3 => r x l u H3 Q
theorem fi {r : V → Option Int → Option Int → Hp → VK → Prop} (hr : LY X r) (he : PE X e te) (hl : PO X lo tl) (hu : PO X hi th) : PE X (.Subscript e (.Slice lo hi none p2) pos) (We r te tl th) := by
 intro pins s σ H Q I h
 refine Subscript_ (bQ (he pins s σ H _ I h) fun v s1 ⟨x, H1, I1, r1, q1⟩ => ?_)
 refine wpAny_Slice (bQ (hl pins s1 σ H1 _ I1 q1) fun vl s2 ⟨l, H2, I2, pl, q2⟩ => bQ (hu pins s2 σ H2 _ I2 q2) fun vu s3 ⟨u, H3, I3, pu, q3⟩ => ?_)
 rw [evalPart_none]
 refine wpAny_pure ?_
 have I4 : Inv X pins σ H3 { s3 with heap := s3.heap.push { cls := .type "slice", data := .fields #[vl, vu, .none] } } := I3.kept (t' := s3.toks) fun b ob q => Heap.get?_push_of_some _ q
 obtain ⟨T, id, hT, ht, hg⟩ := hr pins { s3 with heap := s3.heap.push { cls := .type "slice", data := .fields #[vl, vu, .none] } } σ H3 x v vl vu l u s3.heap.objs.size Q I4 r1 (Heap.IsSliceOf.new ..) pl pu q3
 show wpAny (model X.prog X.w) X.A (subscriptTail e (.Slice lo hi none p2) v (.ref s3.heap.objs.size)) (EP X pins σ Q) X.xe { s3 with heap := s3.heap.push { cls := .type "slice", data := .fields #[vl, vu, .none] } }
 exact tail_any (ops := [.ref s3.heap.objs.size, v]) ht hT hg (by with_unfolding_all rfl)
def lj (xs : List V) (lo hi : Option Int) : List V := (xs.drop (HT.cy xs.length 0 lo)).take (HT.cy xs.length xs.length hi - HT.cy xs.length 0 lo)
theorem oq (xs : List V) (lo hi : Option Int) : (lj xs lo hi).length ≤ xs.length := by
 unfold lj
 rw [List.length_take, List.length_drop]
 omega
def QH (K : PySem.W.Frag) : V → Option Int → Option Int → Hp → VK → Prop := fun x lo hi H Q => ∃ a xs, x = .ref a ∧ aO K H a xs ∧
 ¬ (HT.cy xs.length 0 lo = 0 ∧ HT.cy xs.length xs.length hi = xs.length) ∧ ∀ p, H p = none → Q (.ref p) (upd H p (.tup (lj xs lo hi)))
theorem Ib : LY X (QH X.K) := by
 intro pins s σ H x v vl vu lo hi sl Q I rx hs pl pu h
 obtain ⟨a, xs, rfl, hx, hw, q⟩ := h
 cases rx
 obtain ⟨its, r, ht, hz⟩ := I.tuple hx
 have hlen : its.toArray.size = xs.length := by rw [List.size_toArray]; exact r.length.symm
 refine ⟨"tuple", _, PyProof.Rows.slot_tuple_getitem.lookup, ht.typeIs, ?_⟩
 refine HT.mv ht hs pl pu (by rw [hlen]; exact hw) ?_ (by rw [hlen]; exact hz)
 rw [hlen]
 refine ⟨.ref s.heap.objs.size, _, I.laid (t' := s.toks) (o := .tup (lj xs lo hi)) (fun b ob q => Heap.get?_push_of_some _ q) (Nat.le_refl _) ?_, rfl, q _ (I.hok.fresh (Nat.le_refl _))⟩
 exact ⟨Nat.le_trans (oq xs lo hi) hz, _, (r.drop (HT.cy xs.length 0 lo)).take (HT.cy xs.length xs.length hi - HT.cy xs.length 0 lo), IsTup.new _ _⟩
def LZ (K : PySem.W.Frag) : R2 := fun x y H Q => ∃ a b xs ys, x = .ref a ∧ y = .ref b ∧ aO K H a xs ∧ aO K H b ys ∧ xs ≠ [] ∧ xs.length + ys.length ≤ sizeLine ∧
 (ys = [] → Q (.ref a) H) ∧ (ys ≠ [] → ∀ p, H p = none → Q (.ref p) (upd H p (.tup (xs ++ ys))))
theorem Vals.o8 {xs : List V} {us : List Value} (r : Vals xs us) : us = [] ↔ xs = [] := by
 cases r with
 | nil => simp
 | cons _ _ => simp
theorem EV : nC X (binaryOp .Add) (LZ X.K) := by
 intro pins s σ H x y v u Q I rx ry h
 obtain ⟨a, b, xs, ys, rfl, rfl, ha, hb, hx, hz, q1, q2⟩ := h
 cases rx
 cases ry
 obtain ⟨its, r1, p1, _⟩ := I.tuple ha
 obtain ⟨bw, r2, p2, _⟩ := I.tuple hb
 refine HT.ES p1 p2 (fun z => hx (r1.o8.mp z)) (fun z => ⟨.ref a, H, I, rfl, q1 (r2.o8.mp z)⟩) (fun z => ?_) (by rw [← r1.length, ← r2.length]; exact hz)
 refine ⟨.ref s.heap.objs.size, _, I.laid (t' := s.toks) (o := .tup (xs ++ ys)) (fun b ob q => Heap.get?_push_of_some _ q) (Nat.le_refl _) ?_, rfl, q2 (fun w => z (r2.o8.mpr w)) _ (I.hok.fresh (Nat.le_refl _))⟩
 exact ⟨by rw [List.length_append]; exact hz, _, r1.append r2, IsTup.new _ _⟩
end
end L2
namespace L2
open PySem PySem.Spec PyProof.Rows
def EW (n : Nat) (i : Int) : Option Nat := if 0 ≤ i then (if i < n then some i.toNat else none) else if -(n : Int) ≤ i then some (i + n).toNat else none
def wm {α : Type} (xs : List α) (i : Int) : Option α := (EW xs.length i).bind fun j => xs[j]?
theorem Ag {n : Nat} {i : Int} {j : Nat} (h : EW n i = some j) : seqIndex? i n = some j ∧ j < n ∧ -(n : Int) ≤ i ∧ i < n := by
 unfold EW at h
 by_cases h0 : 0 ≤ i
 ·rw [if_pos h0] at h
  by_cases h1 : i < n
  ·rw [if_pos h1] at h
   have e : i.toNat = j := Option.some.inj h
   exact ⟨by rw [seqIndex_of h0 h1, e], by omega, by omega, h1⟩
  ·rw [if_neg h1] at h; cases h
 ·rw [if_neg h0] at h
  by_cases h1 : -(n : Int) ≤ i
  ·rw [if_pos h1] at h
   have e : (i + n).toNat = j := Option.some.inj h
   exact ⟨by rw [seqIndex_neg (by omega) h1, e], by omega, h1, by omega⟩
  ·rw [if_neg h1] at h; cases h
theorem uy {α : Type} {xs : List α} {i : Int} {v : α} (h : wm xs i = some v) : ∃ j, seqIndex? i xs.length = some j ∧ xs[j]? = some v ∧ j < xs.length ∧ -(xs.length : Int) ≤ i ∧ i < xs.length := by
 unfold wm at h
 cases e : EW xs.length i with
 | none => rw [e] at h; cases h
 | some j =>
  rw [e] at h
  obtain ⟨h1, h2, h3, h4⟩ := Ag e
  exact ⟨j, h1, h, h2, h3, h4⟩
theorem gR {α : Type} {xs : List α} {j : Nat} {v : α} (h : xs[j]? = some v) : wm xs (j : Int) = some v := by
 have hj : j < xs.length := (List.getElem?_eq_some_iff.mp h).1
 have e : EW xs.length (j : Int) = some j := by
  unfold EW
  rw [if_pos (by omega), if_pos (by omega)]; simp
 unfold wm; rw [e]; exact h
def EX (b : Expr) : Prop := ∀ o i, subscripted b false o i = operate [o, i] (getItem o i)
def Pk (X : Cx) (r : R2) : Prop :=
 ∀ (value slice : Expr) (pins : List (Addr × Obj)) (s : Shared) (σ : St) (H : Hp) (x y : V) (v u : Value) (Q : VK), Inv X pins σ H s → RelV x v → RelV y u → r x y H Q →
  subscripted slice false v u = operate [v, u] (getItem v u) → wpAny (model X.prog X.w) X.A (subscriptTail value slice v u) (EP X pins σ Q) X.xe s
def L3 (X : Cx) (id : String) (r : V → List V → Hp → VK → Prop) : Prop :=
 ∀ (pins : List (Addr × Obj)) (s : Shared) (σ : St) (H : Hp) (x : V) (xs : List V) (v : Value) (us : List Value) (Q : VK), Inv X pins σ H s → RelV x v → Vals xs us → r x xs H Q →
  wpAny (model X.prog X.w) X.A (call (.builtin id) (v :: us)) (EP X pins σ Q) X.xe s
section
variable {X : Cx} {a b : Expr} {ta tb : TE} {pos : Pos}
theorem aw {r : R2} (hr : Pk X r) (ha : PE X a ta) (hb : PE X b tb) (hs : EX b) : PE X (.Subscript a b pos) (Pj r ta tb) := by
 intro pins s σ H Q I h
 exact Subscript_ (HR ha hb I h fun v u s2 x y H2 I2 rx ry q => hr a b pins s2 σ H2 x y v u Q I2 rx ry q (hs _ _))
def EY (K : PySem.W.Frag) : R2 := fun x y H Q => ∃ p xs i v, x = .ref p ∧ y = .int i ∧ aD K H p xs ∧ wm xs i = some v ∧ Q v H
def yr (K : PySem.W.Frag) : R2 := fun x y H Q => ∃ p xs i v, x = .ref p ∧ y = .int i ∧ aO K H p xs ∧ wm xs i = some v ∧ Q v H
def QI : R2 := fun x y H Q => ∃ z i c, x = .str z ∧ y = .int i ∧ z.length ≤ sizeLine ∧ wm z.cps.toList i = some c ∧ Q (.str ⟨#[c]⟩) H
theorem cX : Pk X (EY X.K) := by
 intro value slice pins s σ H x y v u Q I rx ry h hs
 obtain ⟨p, xs, i, z, rfl, rfl, hq, he, q⟩ := h
 cases rx
 obtain ⟨t, rfl⟩ := ry
 obtain ⟨its, r, pl, hz⟩ := I.list hq
 obtain ⟨j, h1, h2, h3, h4, h5⟩ := uy he
 obtain ⟨w, ew, rJ⟩ := r.get h2
 have hl := r.length
 have hn := nE
 have fin : EP X pins σ Q w s := ⟨z, H, I, rJ, q⟩
 by_cases h0 : 0 ≤ i
 ·have hj : i.toNat = j := by
   rw [seqIndex_of h0 h5] at h1
   exact Option.some.inj h1
  exact item_listR pl.isList h0 (by omega) (by rw [hj]; simpa using ew) fin hs
 ·have hj : (i + (its.toArray.size : Int)).toNat = j := by
   rw [seqIndex_neg (by omega) h4] at h1
   rw [List.size_toArray, ← hl]
   exact Option.some.inj h1
  exact subscriptTail_builtinR (x := w) pl.isList.typeIs slot_list_getitem.lookup
   (wpAny_getItem_list_neg (Q := fun r s' => r = w ∧ EP X pins σ Q r s') pl.isList (by omega) (by rw [List.size_toArray] <;> omega) (by omega) (by rw [hj]; simpa using ew) ⟨rfl, fin⟩) hs
theorem av : Pk X (yr X.K) := by
 intro value slice pins s σ H x y v u Q I rx ry h hs
 obtain ⟨p, xs, i, z, rfl, rfl, hq, he, q⟩ := h
 cases rx
 obtain ⟨t, rfl⟩ := ry
 obtain ⟨its, r, pl, hz⟩ := I.tuple hq
 obtain ⟨j, h1, h2, h3, h4, h5⟩ := uy he
 obtain ⟨w, ew, rJ⟩ := r.get h2
 have hl := r.length
 have hn := nE
 have fin : EP X pins σ Q w s := ⟨z, H, I, rJ, q⟩
 exact subscriptTail_builtinR (x := w) pl.typeIs slot_tuple_getitem.lookup
  (getItem_tuple (j := j) (Q := fun r s' => r = w ∧ EP X pins σ Q r s') pl (by omega) (by omega) (by rw [List.size_toArray, ← hl]; exact h1) (by simpa using ew) ⟨rfl, fin⟩) hs
theorem lu : Pk X QI := by
 intro value slice pins s σ H x y v u Q I rx ry h hs
 obtain ⟨z, i, c, rfl, rfl, hz, he, q⟩ := h
 obtain ⟨t, rfl⟩ := rx
 obtain ⟨t', rfl⟩ := ry
 obtain ⟨j, h1, h2, h3, h4, h5⟩ := uy he
 have hl : z.cps.toList.length = z.length := by simp [Str.length]
 rw [hl] at h1 h4 h5
 have hn := nE
 exact tail_any (typeIs_str s z t) slot_str_getitem.lookup (getItem_str (c := c) (by
  have e1 : decide (i < -(2 ^ 63 : Int)) = false := decide_eq_false (by omega)
  have e2 : decide (i ≥ 2 ^ 63) = false := decide_eq_false (by omega)
  rw [e1, e2, Bool.or_false]) (by rw [h1]; simpa using h2) ⟨.str ⟨#[c]⟩, H, I.tok _, ⟨_, rfl⟩, q⟩) hs
theorem yu (its : List Value) (n j : Nat) (u : Value) : Obj.mapSeq (·.setIfInBounds j u) { cls := .type "list", data := .seq its.toArray n } = { cls := .type "list", data := .seq (its.set j u).toArray n } := by
 simp [Obj.mapSeq]
theorem Inv.lst {pins : List (Addr × Obj)} {σ : St} {H : Hp} {s : Shared} {p : Addr} {xs : List V} (I : Inv X pins σ H s) (h : H p = some (.lst xs)) :
  ∃ (its : List Value) (n : Nat), Vals xs its ∧ s.heap.get? p = some { cls := .type "list", data := .seq its.toArray n } ∧ xs.length ≤ sizeLine := by
 obtain ⟨z, its, n, r, e⟩ := I.hok p _ h
 exact ⟨its, n, r, e, z⟩
theorem Inv.Ic {pins : List (Addr × Obj)} {σ : St} {H : Hp} {s : Shared} {p : Addr} {xs ys : List V} {its its' : List Value} {n n' : Nat} {f : Obj → Obj} (I : Inv X pins σ H s) (h : H p = some (.lst xs))
  (ho : s.heap.get? p = some { cls := .type "list", data := .seq its.toArray n }) (hf : f { cls := .type "list", data := .seq its.toArray n } = { cls := .type "list", data := .seq its'.toArray n' }) (r : Vals ys its') (hz : ys.length ≤ sizeLine) (t : Nat) :
  Inv X pins σ (upd H p (.lst ys)) { s with heap := s.heap.update p f, toks := t } := by
 have e : (s.heap.update p f).get? p = some { cls := .type "list", data := .seq its'.toArray n' } := by
  rw [Heap.get?_update_self f ho (by rw [hf] <;> rfl), hf]
 refine I.write (x := p) (e := p) (by rw [h]; trivial) (.inl rfl) (fun b u hb q => (Heap.get?_update_other _ _ (Ne.symm hb)).trans q) ⟨_, e⟩ ?_
 exact ⟨hz, its', n', r, e⟩
def L4 : V → V → V → Hp → (Hp → Prop) → Prop := fun o i v H Q => ∃ p xs k j, o = .ref p ∧ i = .int k ∧ H p = some (.lst xs) ∧ EW xs.length k = some j ∧ Q (upd H p (.lst (xs.set j v)))
theorem set_list : LH X L4 := by
 intro pins s σ H o i v ov iv u Q I ro ri rv h
 obtain ⟨p, xs, k, j, rfl, rfl, hp, hj, q⟩ := h
 cases ro
 obtain ⟨t, rfl⟩ := ri
 obtain ⟨its, n, r, ho, hz⟩ := I.lst hp
 obtain ⟨h1, h2, h3, h4⟩ := Ag hj
 have hl := r.length
 have hn := nE
 have I' : Inv X pins σ (upd H p (.lst (xs.set j v))) { s with heap := s.heap.update p (Obj.mapSeq (·.setIfInBounds j u)) } :=
  I.Ic hp ho (yu its n j u) (r.set rv j) (by rw [List.length_set]; exact hz) s.toks
 by_cases h0 : 0 ≤ k
 ·have hk : k.toNat = j := by
   rw [seqIndex_of h0 h4] at h1
   exact Option.some.inj h1
  exact PySem.W.ki_setAt ho h0 (by omega) (by rw [List.size_toArray, ← hl]; exact h4) (by rw [hk]; exact ⟨_, I', q⟩)
 ·have hk : (k + (its.toArray.size : Int)).toNat = j := by
   rw [seqIndex_neg (by omega) h3] at h1
   rw [List.size_toArray, ← hl]
   exact Option.some.inj h1
  exact PySem.W.ki_setBack ho (by omega) (by rw [List.size_toArray, ← hl]; exact h3) (by omega) (by rw [hk]; exact ⟨_, I', q⟩)
theorem uz (lo hi : Option Int) (n : Nat) : (sliceBounds lo hi none n).1 = ((HT.cy n 0 lo : Nat) : Int) ∧ (sliceBounds lo hi none n).2.1 = ((HT.cy n n hi : Nat) : Int) ∧ (sliceBounds lo hi none n).2.2 = 1 := by
 refine ⟨?_, ?_, rfl⟩
 ·cases lo with
  | none => simp [sliceBounds, HT.cy]
  | some i =>
   simp only [sliceBounds, HT.cy, Option.getD_none, show (1 : Int) > 0 by decide, if_true]
   by_cases h : i < 0
   ·simp only [h, if_true] <;> omega
   ·simp only [h, if_false] <;> omega
 ·cases hi with
  | none => simp [sliceBounds, HT.cy]
  | some i =>
   simp only [sliceBounds, HT.cy, Option.getD_none, show (1 : Int) > 0 by decide, if_true]
   by_cases h : i < 0
   ·simp only [h, if_true] <;> omega
   ·simp only [h, if_false] <;> omega
theorem rK (its : List Value) (lo hi : Option Int) : slicePick its.toArray lo hi none = ((its.drop (HT.cy its.length 0 lo)).take (HT.cy its.length its.length hi - HT.cy its.length 0 lo)).toArray := by
 obtain ⟨h1, h2, h3⟩ := uz lo hi its.toArray.size
 unfold slicePick
 rw [h1, h2, h3]
 simp only [sliceRange_one, pick_run, List.size_toArray] <;> rfl
def QJ (K : PySem.W.Frag) : V → Option Int → Option Int → Hp → VK → Prop := fun x lo hi H Q => ∃ a xs, x = .ref a ∧ aD K H a xs ∧ ∀ p, H p = none → Q (.ref p) (upd H p (.lst (lj xs lo hi)))
theorem Ah : LY X (QJ X.K) := by
 intro pins s σ H x v vl vu lo hi sl Q I rx hs pl pu h
 obtain ⟨a, xs, rfl, hx, q⟩ := h
 cases rx
 obtain ⟨its, r, ht, hz⟩ := I.list hx
 have hlen := r.length
 refine ⟨"list", _, slot_list_getitem.lookup, ht.isList.typeIs, ?_⟩
 refine wpAny_getItem_list_slice ht.isList hs pl pu .none (by simp) ?_ (by rw [List.size_toArray] <;> omega)
 rw [rK, ← hlen]
 refine ⟨.ref s.heap.objs.size, _, I.laid (t' := s.toks) (o := .lst (lj xs lo hi)) (fun b ob q => Heap.get?_push_of_some _ q) (Nat.le_refl _) ?_, rfl, q _ (I.hok.fresh (Nat.le_refl _))⟩
 exact ⟨Nat.le_trans (oq xs lo hi) hz, _, 0, (r.drop (HT.cy xs.length 0 lo)).take (HT.cy xs.length xs.length hi - HT.cy xs.length 0 lo), Heap.get?_push_size _ rfl⟩
def mw : V → Bool
 | .bz => true
 | .bl _ => true
 | .int _ => true
 | .str _ => true
 | _ => false
def GL : V → V → Bool
 | .bz, .bz => true
 | .bl a, .bl b => a == b
 | .bl a, .int b => (if a then 1 else 0) == b
 | .int a, .bl b => a == (if b then 1 else 0)
 | .int a, .int b => a == b
 | .str a, .str b => a == b
 | _, _ => false
theorem Ie {A : Around} {s : Shared} {y x : V} {u v : Value} (ry : RelV y u) (rx : RelV x v) (fy : mw y = true) (fx : mw x = true) : SeqAt.EqAt A s u v (GL y x) := by
 cases y with
 | bz =>
  cases ry
  cases x with
  | bz => cases rx; exact SeqAt.EqAt.same _
  | bl b => cases rx; exact SeqAt.EqAt.none_bool b
  | int b => obtain ⟨t, rfl⟩ := rx; exact SeqAt.EqAt.none_int b t
  | str b => obtain ⟨t, rfl⟩ := rx; exact SeqAt.EqAt.none_str b t
  | _ => exact absurd (show false = true from fx) Bool.false_ne_true
 | bl a =>
  cases ry
  cases x with
  | bz => cases rx; exact SeqAt.EqAt.bool_none a
  | bl b => cases rx; exact SeqAt.EqAt.bool_bool a b
  | int b => obtain ⟨t, rfl⟩ := rx; exact SeqAt.EqAt.bool_int a b t
  | str b => obtain ⟨t, rfl⟩ := rx; exact SeqAt.EqAt.bool_str a b t
  | _ => exact absurd (show false = true from fx) Bool.false_ne_true
 | int a =>
  obtain ⟨t', rfl⟩ := ry
  cases x with
  | bz => cases rx; exact SeqAt.EqAt.int_none a t'
  | bl b => cases rx; exact SeqAt.EqAt.int_bool a t' b
  | int b => obtain ⟨t, rfl⟩ := rx; exact SeqAt.EqAt.int_int a t' b t
  | str b => obtain ⟨t, rfl⟩ := rx; exact SeqAt.EqAt.int_str a t' b t
  | _ => exact absurd (show false = true from fx) Bool.false_ne_true
 | str a =>
  obtain ⟨t', rfl⟩ := ry
  cases x with
  | bz => cases rx; exact SeqAt.EqAt.str_none a t'
  | bl b => cases rx; exact SeqAt.EqAt.str_bool a t' b
  | int b => obtain ⟨t, rfl⟩ := rx; exact SeqAt.EqAt.str_int a t' b t
  | str b => obtain ⟨t, rfl⟩ := rx; exact SeqAt.EqAt.str_str a t' b t
  | _ => exact absurd (show false = true from fx) Bool.false_ne_true
 | _ => exact absurd (show false = true from fy) Bool.false_ne_true
def yw (x : V) (u : Value) : Bool := match u with
 | .none => GL .bz x
 | .bool b => GL (.bl b) x
 | .int i _ => GL (.int i) x
 | .str z _ => GL (.str z) x
 | _ => false
theorem Cw {x y : V} {u : Value} (r : RelV y u) (f : mw y = true) : yw x u = GL y x := by
 cases y with
 | bz => cases r; rfl
 | bl b => cases r; rfl
 | int i => obtain ⟨t, rfl⟩ := r; rfl
 | str z => obtain ⟨t, rfl⟩ := r; rfl
 | _ => exact absurd (show false = true from f) Bool.false_ne_true
theorem mx {x : V} : ∀ {xs : List V} {us : List Value}, Vals xs us → xs.all mw = true → us.any (yw x) = xs.any fun y => GL y x
 | _, _, .nil, _ => rfl
 | y :: xs, u :: us, .cons r t, f => by
  rw [List.all_cons, Bool.and_eq_true] at f
  rw [List.any_cons, List.any_cons, Cw r f.1, mx t f.2]
theorem jl {A : Around} {s : Shared} {x : V} {v : Value} (rx : RelV x v) (fx : mw x = true) : ∀ {xs : List V} {us : List Value}, Vals xs us → xs.all mw = true → ∀ u ∈ us, SeqAt.EqAt A s u v (yw x u)
 | _, _, .nil, _ => fun u hu => by cases hu
 | y :: xs, u :: us, .cons r t, f => fun u' hu => by
  rw [List.all_cons, Bool.and_eq_true] at f
  rcases List.mem_cons.mp hu with rfl | hu
  ·rw [Cw r f.1]; exact Ie r rx f.1 fx
  ·exact jl rx fx t f.2 u' hu
def Pl (x : V) (xs : List V) : Bool := xs.any fun y => GL y x
def Pm (K : PySem.W.Frag) (neg : Bool) : R2 := fun x y H Q => ∃ p xs, y = .ref p ∧ (aD K H p xs ∨ aO K H p xs) ∧ mw x = true ∧ xs.all mw = true ∧ Q (.bl (if neg then !Pl x xs else Pl x xs)) H
theorem sT : nC X (compareOp .In) (Pm X.K false) := by
 intro pins s σ H x y v u Q I rx ry h
 obtain ⟨p, xs, rfl, hq, fx, fs, q⟩ := h
 cases ry
 rcases hq with hq | hq
 ·obtain ⟨its, r, pl, hz⟩ := I.list hq
  refine SeqAt.in_listAt (yw x) pl.isList (fun w hw => jl rx fx r fs w (by simpa using hw)) ⟨.bl _, H, I, rfl, ?_⟩
  rw [show its.toArray.any (yw x) = its.any (yw x) by simp, mx r fs]
  exact q
 ·obtain ⟨its, r, pl, hz⟩ := I.tuple hq
  refine SeqAt.in_tupleAt (yw x) pl (fun w hw => jl rx fx r fs w (by simpa using hw)) ⟨.bl _, H, I, rfl, ?_⟩
  rw [show its.toArray.any (yw x) = its.any (yw x) by simp, mx r fs]
  exact q
theorem my : nC X (compareOp .NotIn) (Pm X.K true) := by
 intro pins s σ H x y v u Q I rx ry h
 obtain ⟨p, xs, rfl, hq, fx, fs, q⟩ := h
 cases ry
 rcases hq with hq | hq
 ·obtain ⟨its, r, pl, hz⟩ := I.list hq
  refine SeqAt.notIn_listAt (yw x) pl.isList (fun w hw => jl rx fx r fs w (by simpa using hw)) ⟨.bl _, H, I, rfl, ?_⟩
  rw [show its.toArray.any (yw x) = its.any (yw x) by simp, mx r fs]
  exact q
 ·obtain ⟨its, r, pl, hz⟩ := I.tuple hq
  refine SeqAt.notIn_tupleAt (yw x) pl (fun w hw => jl rx fx r fs w (by simpa using hw)) ⟨.bl _, H, I, rfl, ?_⟩
  rw [show its.toArray.any (yw x) = its.any (yw x) by simp, mx r fs]
  exact q
theorem aN : cw X (.builtin "len") (fun xs H Q => ∃ p ys, xs = [.ref p] ∧ (aD X.K H p ys ∨ aO X.K H p ys) ∧ Q (.int ys.length) H) := by
 intro pins s σ H xs us Q I r h
 obtain ⟨p, ys, rfl, hq, q⟩ := h
 obtain ⟨u, rfl, rx⟩ := vals1 r
 cases rx
 have hn := nE
 rcases hq with hq | hq
 ·obtain ⟨its, r', pl, hz⟩ := I.list hq
  have hlen := r'.length
  exact Calls.call_len_list pl.isList (by simp only [List.size_toArray] <;> omega) ⟨.int ys.length, H, I.tok _, ⟨s.toks + 1, by rw [List.size_toArray, hlen]⟩, q⟩
 ·obtain ⟨its, r', pl, hz⟩ := I.tuple hq
  have hlen := r'.length
  exact len_tuple pl (by simp only [List.size_toArray] <;> omega) ⟨.int ys.length, H, I.tok _, ⟨s.toks + 1, by rw [List.size_toArray, hlen]⟩, q⟩
theorem mz : cw X (.builtin "len") (fun xs H Q => ∃ z, xs = [.str z] ∧ z.length ≤ sizeLine ∧ Q (.int z.length) H) := by
 intro pins s σ H xs us Q I r h
 obtain ⟨z, rfl, hz, q⟩ := h
 obtain ⟨u, rfl, t, rfl⟩ := vals1 r
 have hn := nE
 exact len_str (by omega) ⟨.int z.length, H, I.tok _, ⟨_, rfl⟩, q⟩
theorem a8 : cw X (.type "list") (fun xs H Q => ∃ p ys, xs = [.ref p] ∧ (aD X.K H p ys ∨ aO X.K H p ys) ∧ ∀ l, H l = none → Q (.ref l) (upd H l (.lst ys))) := by
 intro pins s σ H xs us Q I r h
 obtain ⟨p, ys, rfl, hq, q⟩ := h
 obtain ⟨u, rfl, rx⟩ := vals1 r
 cases rx
 have fin : ∀ (its : List Value), Vals ys its → ys.length ≤ sizeLine → ∀ (h' : Heap) (c' : Nat), (∀ b o', s.heap.get? b = some o' → h'.get? b = some o') →
   h'.get? s.heap.objs.size = some { cls := .type "list", dict := none, data := .seq its.toArray c', slots := #[] } → EP X pins σ Q (.ref s.heap.objs.size) { s with heap := h' } := fun its r' hz h' c' kp e =>
  ⟨.ref s.heap.objs.size, _, I.laid (t' := s.toks) kp (Nat.le_refl _) (show bg X.prog X.w _ h' _ (.lst ys) from ⟨hz, its, c', r', e⟩), rfl, q _ (I.hok.fresh (Nat.le_refl _))⟩
 rcases hq with hq | hq
 ·obtain ⟨its, r', pl, hz⟩ := I.list hq
  have hlen := r'.length
  obtain ⟨o, ho, hc, n, hd⟩ := pl.isList
  exact call_list_seq p (.inl rfl) ho hc hd (fun h' c' kp e => fin its r' hz h' c' kp e) (by simp only [List.size_toArray] <;> omega)
 ·obtain ⟨its, r', pl, hz⟩ := I.tuple hq
  have hlen := r'.length
  obtain ⟨o, ho, hc, n, hd⟩ := pl
  exact call_list_seq p (.inr rfl) ho hc hd (fun h' c' kp e => fin its r' hz h' c' kp e) (by simp only [List.size_toArray] <;> omega)
theorem bE : cw X (.type "tuple") (fun xs H Q => ∃ p ys, xs = [.ref p] ∧ ((aD X.K H p ys ∧ ∀ l, H l = none → Q (.ref l) (upd H l (.tup ys))) ∨ (aO X.K H p ys ∧ Q (.ref p) H))) := by
 intro pins s σ H xs us Q I r h
 obtain ⟨p, ys, rfl, h⟩ := h
 obtain ⟨u, rfl, rx⟩ := vals1 r
 cases rx
 rcases h with ⟨hq, q⟩ | ⟨hq, q⟩
 ·obtain ⟨its, r', pl, hz⟩ := I.list hq
  have hlen := r'.length
  refine call_tuple_list pl.isList (fun h' kp => ?_) (by simp only [List.size_toArray] <;> omega)
  have I1 : Inv X pins σ H { s with heap := h' } := I.kept (t' := s.toks) kp
  have I2 : Inv X pins σ (upd H h'.objs.size (.tup ys)) { s with heap := h'.push { cls := .type "tuple", data := .seq its.toArray } } :=
   I1.laid (t' := s.toks) (fun b o e => Heap.get?_push_of_some _ e) (Nat.le_refl _) (show bg X.prog X.w _ _ _ (.tup ys) from ⟨hz, its, r', IsTup.new _ _⟩)
  exact ⟨.ref h'.objs.size, _, I2, rfl, q _ (I1.hok.fresh (Nat.le_refl _))⟩
 ·obtain ⟨its, r', pl, hz⟩ := I.tuple hq
  exact call_tuple_same pl ⟨.ref p, H, I, rfl, q⟩
def QK (K : PySem.W.Frag) (T : String) (x : V) (H : Hp) : Prop := match x with
 | .str _ => T = "str"
 | .int _ => T = "int"
 | .ref p => (T = "list" ∧ ∃ xs, aD K H p xs) ∨ (T = "tuple" ∧ ∃ o, K.lookup p = some o ∧ o.cls = .type "tuple" ∧ o.dict = none) ∨
   (T = "dict" ∧ ((∃ kvs, H p = some (.dK kvs)) ∨ ∃ kvs, H p = some (.dT kvs))) ∨ (T = "set" ∧ ∃ S n, H p = some (.set S n))
 | _ => False
theorem Cy {pins : List (Addr × Obj)} {σ : St} {H : Hp} {s : Shared} {T : String} {x : V} {v : Value} (I : Inv X pins σ H s) (r : RelV x v) (ty : QK X.K T x H) :
  s.TypeIs v T ∧ ∀ a, v = .ref a → ∃ ob, s.heap.get? a = some ob ∧ ob.dict = none := by
 cases x with
 | str z =>
  obtain ⟨t, rfl⟩ := r
  cases (show T = "str" from ty)
  exact ⟨typeIs_str s z t, fun _ e => nomatch e⟩
 | int i =>
  obtain ⟨t, rfl⟩ := r
  cases (show T = "int" from ty)
  exact ⟨typeIs_int s i t, fun _ e => nomatch e⟩
 | ref p =>
  cases r
  rcases ty with ⟨rfl, xs, hq⟩ | ⟨rfl, o, hk, hc, hd⟩ | ⟨rfl, hk⟩ | ⟨rfl, S, n, hk⟩
  ·obtain ⟨its, _, pl, _⟩ := I.list hq
   refine ⟨pl.isList.typeIs, fun a e => ?_⟩
   cases e
   obtain ⟨o, n, e, c, hd, _⟩ := pl
   exact ⟨o, e, hd⟩
  ·refine ⟨⟨o, I.pM p o hk, hc⟩, fun a e => ?_⟩
   cases e
   exact ⟨o, I.pM _ o hk, hd⟩
  ·have z : ∃ o, s.heap.get? p = some o ∧ o.ExactDict := by
    rcases hk with ⟨kvs, hk⟩ | ⟨kvs, hk⟩
    ·obtain ⟨_, _, _, _, o, _, _, e, ex, _⟩ := I.hok p _ hk
     exact ⟨o, e, ex⟩
    ·obtain ⟨_, _, _, _, o, _, _, e, ex, _⟩ := I.hok p _ hk
     exact ⟨o, e, ex⟩
   obtain ⟨o, e, ex⟩ := z
   refine ⟨⟨o, e, ex.1⟩, fun a e2 => ?_⟩
   cases e2
   exact ⟨o, e, ex.2.1⟩
  ·obtain ⟨o, _, _, _, e, ex, _⟩ := I.hok p _ hk
   refine ⟨⟨o, e, ex.1⟩, fun a e2 => ?_⟩
   cases e2
   exact ⟨o, e, ex.2.1⟩
 | _ => exact False.elim ty
def QL (K : PySem.W.Frag) (T : String) (r : V → List V → Hp → VK → Prop) (to : TE) : TE := fun σ H Q => to σ H fun x H1 => QK K T x H1 ∧ r x [] H1 Q
def Wf (K : PySem.W.Frag) (T : String) (r : V → List V → Hp → VK → Prop) (to : TE) (t : TA) : TE := fun σ H Q => to σ H fun x H1 => QK K T x H1 ∧ t σ H1 fun xs H2 => r x xs H2 Q
variable {o e : Expr} {es : List Expr} {to : TE} {t : TA} {name : Str} {apos cpos : Pos} {T id : String} {r : V → List V → Hp → VK → Prop}
theorem Cz (pa : PlainAttrs T) (slot : Slot T name id) (QM : typeOf (.builtin id) = pure (.type "method_descriptor")) (hm : L3 X id r) (ho : PE X o to)
  (CA : attributeBase o name X.env (eval o X.env) = eval o X.env := by rfl) (hline : (apos.endLine == cpos.line) = true := by rfl) : PE X (.Call (.Attribute o name apos) [] [] cpos) (QL X.K T r to) := by
 intro pins s σ H Q I h
 refine wpAny_Call_method0_late CA hline (bQ (ho pins s σ H _ I h) fun v s1 ⟨x, H1, I1, r1, ty, q1⟩ => ?_)
 obtain ⟨h1, h2⟩ := Cy I1 r1 ty
 exact ⟨T, id, pa, slot, QM, h1, h2, Calls.callWith_builtin rfl (PySem.evalArgs_none (hm pins s1 σ H1 x [] v [] Q I1 r1 .nil q1))⟩
theorem jm (pa : PlainAttrs T) (slot : Slot T name id) (QM : typeOf (.builtin id) = pure (.type "method_descriptor")) (hm : L3 X id r) (ho : PE X o to) (ha : PA X (e :: es) t)
  (CA : attributeBase o name X.env (eval o X.env) = eval o X.env := by rfl)
  (hfew : ((backTo cpos (starEach (e :: es) X.env)).all (fun x => !x.1) && (backToKw cpos (keywordEach [] X.env)).all (fun x => x.1.isSome)
   && decide ((e :: es).length + ([] : List Keyword).length + (if ([] : List Keyword).isEmpty then 0 else 1) < 30)) = true := by rfl)
  (hline : (apos.endLine == cpos.line) = true := by rfl) (hs : starEach (e :: es) X.env = (false, eval e X.env) :: starEach es X.env := by rfl) (Ig : (backTo cpos (starEach es X.env)).any (·.1) = false := by rfl) :
  PE X (.Call (.Attribute o name apos) (e :: es) [] cpos) (Wf X.K T r to t) := by
 intro pins s σ H Q I h
 refine wpAny_Call_method_late CA hfew hline rfl (bQ (ho pins s σ H _ I h) fun v s1 ⟨x, H1, I1, r1, ty, q1⟩ => ?_)
 obtain ⟨h1, h2⟩ := Cy I1 r1 ty
 refine ⟨T, id, pa, slot, QM, h1, h2, ?_⟩
 have hA := ha cpos pins s1 σ H1 _ I1 q1
 rw [hs] at hA ⊢
 refine Calls.callWith_builtin (by show (false || (backTo cpos (starEach es X.env)).any (·.1)) = false; rw [Ig] <;> rfl) (Calls.evalArgs_plain ?_)
 exact bQ hA fun us s2 ⟨vs, H2, I2, r2, q2⟩ => hm pins s2 σ H2 x vs v us Q I2 r1 r2 q2
end
end L2
namespace L2
open PySem PySem.Spec PyProof.Rows
def Pn (X : Cx) (id : String) (r : V → List V → Hp → VK → Prop) : Prop :=
 ∀ (pins : List (Addr × Obj)) (s : Shared) (σ : St) (H : Hp) (x : V) (xs : List V) (v : Value) (us : List Value) (Q : VK), Inv X pins σ H s → RelV x v → Vals xs us → r x xs H Q →
  wpAny (model X.prog X.w) X.A (call (.builtin id) (v :: us)) (EP X pins σ Q) X.xe s
theorem Vals.one : ∀ {x : V} {us : List Value}, Vals [x] us → ∃ u, us = [u] ∧ RelV x u
 | _, _, .cons r .nil => ⟨_, rfl, r⟩
theorem Vals.eraseIdx : ∀ {xs : List V} {us : List Value} (i : Nat), Vals xs us → Vals (xs.eraseIdx i) (us.eraseIdx i)
 | _, _, _, .nil => .nil
 | _, _, 0, .cons _ t => t
 | _, _, i + 1, .cons r t => .cons r (Vals.eraseIdx i t)
theorem kd {α : Type} : ∀ (l : List α) (i : Nat), (l.eraseIdx i).length ≤ l.length
 | [], _ => Nat.le_refl _
 | _ :: _, 0 => Nat.le_succ _
 | _ :: r, i + 1 => Nat.succ_le_succ (kd r i)
section
variable {X : Cx} {pins : List (Addr × Obj)} {σ : St} {H : Hp} {s : Shared} {l b : Addr} {xs ys zs : List V}
theorem Inv.EZ {its its' : List Value} {n : Nat} {f : Array Value → Array Value} {t' : Nat} (I : Inv X pins σ H s) (hH : H l = some (.lst xs))
  (e : s.heap.get? l = some { cls := .type "list", data := .seq its.toArray n }) (hf : f its.toArray = its'.toArray) (hv : Vals ys its') (hz : ys.length ≤ sizeLine) :
  Inv X pins σ (upd H l (.lst ys)) { s with heap := s.heap.update l (Obj.mapSeq f), toks := t' } := by
 have q := PySem.IsL.update e f
 rw [hf] at q
 refine I.write (x := l) (e := l) (by rw [hH]; exact trivial) (.inl rfl) (fun b' u hb hu => (Heap.get?_update_other s.heap (Obj.mapSeq f) (Ne.symm hb)).trans hu) ⟨_, q⟩ ?_
 exact ⟨hz, its', _, hv, q⟩
theorem Inv.QN {its : List Value} {t' : Nat} (I : Inv X pins σ H s) (hv : Vals ys its) (hz : ys.length ≤ sizeLine) :
  Inv X pins σ (upd H s.heap.objs.size (.lst ys)) { s with heap := s.heap.push { cls := .type "list", data := .seq its.toArray }, toks := t' } :=
 I.laid (fun _ _ q => Heap.get?_push_of_some _ q) (Nat.le_refl _) ⟨hz, its, 0, hv, Heap.get?_push_size _ rfl⟩
theorem Inv.fresh (I : Inv X pins σ H s) : H s.heap.objs.size = none := I.hok.fresh (Nat.le_refl _)
theorem Inv.yx (I : Inv X pins σ H s) (hH : H l = some (.lst xs)) : xs.length ≤ sizeLine ∧ ∃ (its : List Value) (n : Nat), Vals xs its ∧ xs.length = its.length ∧ s.heap.get? l = some { cls := .type "list", data := .seq its.toArray n } := by
 obtain ⟨z, its, n, r, e⟩ := I.hok l _ hH
 exact ⟨z, its, n, r, r.length, e⟩
theorem CB {n : Nat} (h : n ≤ sizeLine) : Builtin.List.listTooLong n = false := by
 unfold Builtin.List.listTooLong
 exact decide_eq_false (by omega)
end
section
variable {X : Cx}
def E1 : V → List V → Hp → VK → Prop := fun x vs H Q => ∃ l xs y, x = .ref l ∧ vs = [y] ∧ H l = some (.lst xs) ∧ xs.length < sizeLine ∧ Q .bz (upd H l (.lst (xs ++ [y])))
theorem df : Pn X "list.append" E1 := by
 intro pins s σ H x vs v us Q I rx rv h
 obtain ⟨l, xs, y, rfl, rfl, hH, hz, q⟩ := h
 cases rx
 obtain ⟨u, rfl, ru⟩ := rv.one
 obtain ⟨z, its, n, r, hl, e⟩ := I.yx hH
 refine call_meets F.slot_list_append ⟨_, e, rfl⟩ F.entry_list_append (F.args_list_append_2 _ _) (PySem.list_append l its.toArray n u (by rw [List.size_toArray]; omega)) ⟨e, ?_⟩
 refine ⟨.bz, _, I.EZ (its' := its ++ [u]) hH e (by simp) (r.append (.cons ru .nil)) ?_, rfl, q⟩
 rw [List.length_append, List.length_singleton]
 omega
def E2 : V → List V → Hp → VK → Prop := fun x vs H Q => ∃ l b xs zs, x = .ref l ∧ vs = [.ref b] ∧ H l = some (.lst xs) ∧ H b = some (.lst zs) ∧ xs.length + zs.length ≤ sizeLine ∧ Q .bz (upd H l (.lst (xs ++ zs)))
theorem K0 : Pn X "list.extend" E2 := by
 intro pins s σ H x vs v us Q I rx rv h
 obtain ⟨l, b, xs, zs, rfl, rfl, hH, hB, hz, q⟩ := h
 cases rx
 obtain ⟨u, rfl, ru⟩ := rv.one
 cases ru
 obtain ⟨z, its, n, r, hl, e⟩ := I.yx hH
 obtain ⟨z2, bw, n2, r2, mB, e2⟩ := I.yx hB
 have hsz : its.toArray.size + bw.toArray.size ≤ sizeLine := by rw [List.size_toArray, List.size_toArray]; omega
 have L5 : ¬ (!its.toArray.isEmpty && Builtin.List.listTooLong (its.toArray.size + bw.toArray.size)) = true := by
  rw [CB hsz, Bool.and_false]
  exact Bool.false_ne_true
 refine call_meets F.slot_list_extend ⟨_, e, rfl⟩ F.entry_list_extend (F.args_list_extend_2 _ _)
  (AutoSeq1.list_extend_list_list_0 l its.toArray n b bw.toArray n2 L5 (by rw [List.size_toArray]; omega) (by omega)) ⟨e, e2, ?_⟩
 refine ⟨.bz, _, I.EZ (its' := its ++ bw) hH e (by simp) (r.append r2) ?_, rfl, q⟩
 rw [List.length_append]
 omega
def Ih : V → List V → Hp → VK → Prop := fun x vs H Q => ∃ l xs i k y, x = .ref l ∧ vs = [.int i] ∧ H l = some (.lst xs) ∧ -(2 ^ 63) ≤ i ∧ i < 2 ^ 63 ∧ seqIndex? i xs.length = some k ∧ xs[k]? = some y ∧ Q y (upd H l (.lst (xs.eraseIdx k)))
theorem CC : Pn X "list.pop" Ih := by
 intro pins s σ H x vs v us Q I rx rv h
 obtain ⟨l, xs, i, k, y, rfl, rfl, hH, h1, h2, hk, hy, q⟩ := h
 cases rx
 obtain ⟨u, rfl, ru⟩ := rv.one
 obtain ⟨t, rfl⟩ := ru
 obtain ⟨z, its, n, r, hl, e⟩ := I.yx hH
 obtain ⟨w, hw, rJ⟩ := r.get hy
 refine call_meets F.slot_list_pop ⟨_, e, rfl⟩ F.entry_list_pop (F.args_list_pop_2 _ _)
  (MeetsSeq.list_pop_at l its.toArray n i t k w (fitsIndex_both h1 h2) (by rw [List.size_toArray, ← hl]; exact hk) (by rw [← Array.getElem?_toList]; exact hw) (by rw [List.size_toArray]; omega)) ⟨e, ?_⟩
 refine ⟨y, _, I.EZ (its' := its.eraseIdx k) hH e ?_ (r.eraseIdx k) ?_, rJ, q⟩
 ·show its.toArray.eraseIdxIfInBounds k = (its.eraseIdx k).toArray
  rw [List.eraseIdxIfInBounds_toArray]
 ·have := kd xs k
  omega
def QO : R2 := fun x y H Q => ∃ l b xs zs, x = .ref l ∧ y = .ref b ∧ H l = some (.lst xs) ∧ H b = some (.lst zs) ∧ xs.length + zs.length ≤ sizeLine ∧ ∀ p, H p = none → Q (.ref p) (upd H p (.lst (xs ++ zs)))
theorem jn : nC X (binaryOp .Add) QO := by
 intro pins s σ H x y v u Q I rx ry h
 obtain ⟨l, b, xs, zs, rfl, rfl, hH, hB, hz, q⟩ := h
 cases rx
 cases ry
 obtain ⟨z, its, n, r, hl, e⟩ := I.yx hH
 obtain ⟨z2, bw, n2, r2, mB, e2⟩ := I.yx hB
 refine PySem.P.add_list e e2 ?_ (by rw [List.size_toArray, List.size_toArray]; omega)
 have ea : its.toArray ++ bw.toArray = (its ++ bw).toArray := by simp
 rw [ea]
 exact ⟨.ref _, _, I.QN (t' := s.toks) (r.append r2) (by rw [List.length_append]; omega), rfl, q _ I.fresh⟩
end
section
variable {prog : Program} {w : World} {A : Around} {E : Value → Shared → Prop} {s : Shared}
end
section
variable {X : Cx}
end
end L2
namespace Uj
open PySem PySem.W PySem.Calls PyProof.Rows
theorem oH {P : Params} {h : Heap} : ∀ (ns : List Int) (vs : List Value), WellAll P h vs (ns.map WData.int) → IntsAre vs ns := by
 intro ns
 induction ns with
 | nil =>
  intro vs w
  rw [List.map_nil] at w
  cases w
  exact .nil
 | cons n ns ih =>
  intro vs w
  rw [List.map_cons] at w
  cases w with
  | cons a b =>
   cases a
   exact .cons _ _ (ih _ b)
theorem Bh {l : OpenLaw} {n : Nat} (hn : l.most = some n) {P : Params} {h : Heap} {args : List WData} {vals : List Value}
  (hpre : l.row.toRowW.claim.pre args = true) (hwl : WellAll P h vals args) :
  ∃ a vs ns, vals = [Value.ref a] ∧ args = [WData.list (ns.map WData.int)] ∧ h.get? a = some { cls := .type "list", data := .seq vs.toArray } ∧ IntsAre vs ns ∧ ns.length ≤ n := by
 have xW : WShape.hasAll [] args [.list .int] = true := (pre_splitW hpre).1
 have hc : l.pre.holds [] { args := args } = true := (pre_splitW hpre).2
 obtain ⟨d, r, rfl, h1, h2⟩ := hasAllW_cons xW
 obtain rfl := hasAllW_nil h2
 obtain ⟨xs, rfl, h3⟩ := hasW_list h1
 obtain ⟨ns, rfl⟩ := items_int h3
 have hlen : ns.length ≤ n := by
  unfold OpenLaw.pre at hc
  have h4 : (WTm.not (.lt (.lit (.int (n : Int))) (.len (.arg 0)))).holds [] { args := [.list (ns.map .int)] } = true := by
   have h4 := (holds_andW hc).1
   rw [hn] at h4
   exact h4
  have h5 := condW_of h4 (w_not (w_lt w_lit (w_len_list (w_arg rfl))))
  rw [Lm9] at h5
  refine Nat.le_of_not_lt fun q => ?_
  have q' : (n : Int) < ((ns.length : Nat) : Int) := by omega
  first
   | (rw [decide_eq_true q'] at h5; exact absurd h5 (by decide))
   | (simp at h5; omega)
 cases hwl with
 | cons w1 w2 =>
  cases w2
  cases w1 with
  | list ho hall => exact ⟨_, _, ns, rfl, rfl, ho, oH ns _ hall, hlen⟩
theorem Bi (l : OpenLaw) (args : List WData) : l.row.toRowW.claim.post args (.bool true) args = true :=
 postW_of (r := l.row.toRowW) (X := (true == true))
  (show WShape.has [] (.bool true) .bool = true by first | rfl | decide | simp [WShape.has, WShape.arms, WShape.armsAll])
  (show (WTm.eq .res (.lit (.bool true))).value [] { args := args, res := some (.bool true), after := args } = some (.bool (true == true)) from w_eq_bool (w_res rfl) w_lit) rfl
theorem wB {l : OpenLaw} {n : Nat} {q : Program} {loose : List Str} {XP : (Str → Option Value) → Heap → Prop} {YP : World → Heap → Prop} {d : DefRec}
  (hn : l.most = some n) (L6 : d.params.defaults = [])
  (call : ∀ (w : World) (s₀ s₁ : Shared) (mg mb : Str → Option Value) (fa : Addr) (o : Obj) (pm cd doc : Value) (a : Addr) (vs : List Value) (ns : List Int),
   Ground q loose [] XP w s₀ mg mb s₁.heap → YP w s₁.heap →
   s₁.heap.get? fa = some o → o.data = .func (docDef d.name d.params d.body d.scope pm cd doc) → s₁.heap.CodeRec cd d.name → mg d.name = some (.ref fa) →
   s₁.heap.get? a = some { cls := .type "list", data := .seq vs.toArray } → IntsAre vs ns → ns.length ≤ n → s₁.gens = #[] →
   codeAny (model l.prog w) callerA (.call (.ref fa) ⟨[.ref a], []⟩) (fun r s' => r = .ok (.ret (.bool true)) ∧ OldK s₁.heap s'.heap ∧ s'.os = s₁.os ∧ AllBare s'.gens) s₁) :
  WalkO q loose XP YP l.row.toRowW d [] (fun f vs => PySem.call f vs) := by
 intro w s₀ s₁ mg mb G Y fa o pm cd doc dV kV ho hd hcd hD hmg hg args vals as hpre hlay hrd hwl hlo
 obtain rfl : dV = .none := Dflts.none hD L6
 obtain rfl : kV = .none := Dflts.noKw hD
 obtain ⟨a, vs, ns, rfl, rfl, Ii, hints, hlen⟩ := Bh hn hpre hwl
 refine enter_call (codeAny_mono (call w s₀ s₁ mg mb fa o pm cd doc a vs ns G Y ho (fd_plain hd) hcd hmg Ii hints hlen hg) fun r s' hq => ?_)
 obtain ⟨rfl, h2, h3, h4⟩ := hq
 exact ⟨.inl ⟨.bool true, .bool true, [], rfl, fun _ => rfl, .bool true, Bi l _, fun _ => ⟨List.Pairwise.nil, fun _ hm => (nomatch hm)⟩⟩, h2, h3, h4⟩
section
variable {prog : Program} {w : World} {A : Around} {E : Value → Shared → Prop} {s : Shared} {K : Frag}
def ledger (h : Heap) (L d : Addr) : List (Addr × Obj) := (List.range h.objs.size).filterMap fun a => if a = L ∨ a = d then none else (h.get? a).map fun o => (a, o)
end
end Uj
namespace L2
open PySem PySem.Spec PyProof.Rows
theorem sU : ∀ {vs : List Value} {ns : List Int}, IntsAre vs ns → Vals (ns.map V.int) vs
 | _, _, .nil => .nil
 | _, _, .cons n t h => .cons ⟨t, rfl⟩ (sU h)
def Ij (H : Hp) : Prop := ∀ b, H b = none ∨ ∃ o xs, H b = some (.ku o (.lst xs))
theorem CD {P : Program} {w : World} {K : PySem.W.Frag} {mg mb : Str → Option Value} {CX : Ca} {k : Nat} {fa a : Addr} {fd : FuncData} {x : Str} {sp : Sp} {s₁ : Shared} {vs : List Value} {ns : List Int}
  (KX : K.In s₁.heap) (hns : s₁.heap.Ns mainGlobals mg) (hb : s₁.heap.Ns builtinsNs mb) (Wg : ∀ x : Str, x ≠ "__name__" → mb x = bootBuiltins x) (QP : s₁.heap.NoLimit) (hg : s₁.gens = #[])
  (ha : s₁.heap.get? a = some { cls := .type "list", data := .seq vs.toArray }) (hi : IntsAre vs ns) (hl : ns.length ≤ sizeLine) (hr : d9 k callerA)
  (F : ∀ base : Heap, K.In base → base.Ns mainGlobals mg → bN P w K mg base CX k fa fd [x] sp) (L7 : ∀ (s : Shared) (u : Value), BindsTo s fd ⟨[u], []⟩ [(x, u)])
  (Ey : ∀ H : Hp, Ij H → aD K H a (ns.map V.int) → sp [.ref a] H (fun v _ => v = .bl true) fun _ _ _ => False)
  (QR : ∀ H e s', CX [] H s₁ (fun _ _ _ => False) e s' → False) :
  codeAny (model P w) callerA (.call (.ref fa) ⟨[.ref a], []⟩) (fun r s' => r = .ok (.ret (.bool true)) ∧ OldK s₁.heap s'.heap ∧ s'.os = s₁.os ∧ AllBare s'.gens) s₁ := by
 have rv := sU hi
 have QS := hi.length
 have core : ∀ H : Hp, Ij H → aD K H a (ns.map V.int) → jh P w H s₁.heap → (∀ b, H b ≠ none → b = a) → (H a ≠ none → K.lookup a = none) →
   codeAny (model P w) callerA (.call (.ref fa) ⟨[.ref a], []⟩) (fun r s' => r = .ok (.ret (.bool true)) ∧ OldK s₁.heap s'.heap ∧ s'.os = s₁.os ∧ AllBare s'.gens) s₁ := by
  intro H hO hS hok hA hK
  have Ai : ∀ {b : Addr} {o : Obj}, s₁.heap.get? b = some o → H b = none → (ui s₁.heap H).get? b = some o := fun e n => Ci e n
  have LU : ∀ {b : Addr} {o : Obj} {es : Array DictEntry} {ep : Nat}, s₁.heap.get? b = some o → o.data = .dict es ep → H b = none := fun {b o es ep} e d => by
   cases q : H b with
   | none => rfl
   | some u =>
    have e' : b = a := hA b (by rw [q]; simp)
    subst e'
    rw [ha] at e; cases e
    have d' : Data.seq vs.toArray _ = Data.dict es ep := d
    cases d'
  have Po : ∀ {b : Addr} {m : Str → Option Value}, s₁.heap.Ns b m → (ui s₁.heap H).Ns b m := fun {b m} ⟨o, es, ep, e, d, r⟩ => ⟨o, es, ep, Ai e (LU e d), d, r⟩
  have Uk : K.In (ui s₁.heap H) := fun b o e => Ai (KX b o e) (by
   cases q : H b with
   | none => rfl
   | some u =>
    have e' : b = a := hA b (by rw [q]; simp)
    subst e'
    rw [hK (by rw [q]; simp)] at e; cases e)
  have hM : Mod K mg (ui s₁.heap H) := ⟨Uk, Po hns, ⟨mb, Po hb, Wg⟩, let ⟨mc, h1, h2⟩ := QP; ⟨mc, Po h1, h2⟩⟩
  have e0 : EO P w K mg (ui s₁.heap H) callerA [] s₁ H := ⟨rfl, hM, fun b o e => EG e, Nat.le_of_eq (A5 _ _), trivial, fun b hb => absurd (show b ∈ ([] : List Addr) from hb) (by simp), hok, .of_eq hg⟩
  refine codeAny_mono ((F _ Uk (Po hns)).run callerA [] s₁ H ⟨[.ref a], []⟩ [.ref a] [.ref a] _ _ hr e0 (L7 s₁ (.ref a)) (.cons rfl .nil) (Ey H hO hS)) fun r s' h => ?_
  cases r with
  | error e => exact (QR H e s' h).elim
  | ok fl =>
   cases fl with
   | next => exact False.elim h
   | brk => exact False.elim h
   | cont => exact False.elim h
   | ret u =>
    obtain ⟨v, H', os, bare, un, QT, r', q⟩ := h
    have q' : v = .bl true := q
    subst q'
    obtain rfl : u = Value.bool true := r'
    refine ⟨rfl, OldK.of_keep fun b o e => ?_, os, bare⟩
    cases q : H b with
    | none => exact un.keep b o e q (by intro z; exact absurd (show b ∈ ([] : List Addr) from z) (by simp)) (by simp)
    | some u =>
     rcases hO b with z | ⟨ob, xs, z⟩
     ·rw [q] at z; cases z
     ·have z2 := un.gM b ob _ z
      obtain ⟨e1, _⟩ := hok b _ z
      obtain ⟨e2, _⟩ := QT b _ z2
      rw [e] at e1; cases e1
      exact e2
 cases hk : K.lookup a with
 | some o =>
  have e := KX a o hk
  rw [ha] at e
  cases e
  refine core (fun _ => none) (fun _ => .inl rfl) (.inr ⟨_, vs.toArray, _, hk, rfl, rfl, rfl, by rw [List.size_toArray, QS]; exact hl, by simpa using rv⟩) (fun b u z => by have z' : (none : Option HO) = some u := z; cases z') (fun b z => absurd rfl z) fun z => absurd rfl z
 | none =>
  refine core (fun b => if b = a then some (.ku { cls := .type "list", data := .seq vs.toArray } (.lst (ns.map V.int))) else none) (fun b => ?_) (.inl (.inr ⟨{ cls := .type "list", data := .seq vs.toArray }, if_pos rfl⟩)) (fun b u z => ?_) (fun b z => ?_) fun _ => hk
  ·by_cases hb : b = a
   ·exact .inr ⟨_, _, if_pos hb⟩
   ·exact .inl (if_neg hb)
  ·by_cases hb : b = a
   ·have z' := (if_pos hb).symm.trans z
    cases z'
    subst hb
    exact ⟨ha, by rw [Lm9]; exact hl, vs, _, rv, ha⟩
   ·have z' := (if_neg hb).symm.trans z
    cases z'
  ·by_cases hb : b = a
   ·exact hb
   ·exact absurd (if_neg hb) z
end L2
namespace L2
open PySem PySem.Spec PyProof.Rows
abbrev Y9 {K : PySem.W.Frag} {h : Heap} (_ : K.In h) : PySem.W.Frag := K
theorem E3 {l : PySem.W.OpenLaw} {n k : Nat} {q : Program} {loose : List Str} {XP : (Str → Option Value) → Heap → Prop} {YP : World → Heap → Prop} {d : DefRec} {K : Params → PySem.W.Frag} {CX : World → Ca} {sp : World → Sp} {x : Str}
  (hn : l.most = some n) (E4 : n ≤ sizeLine) (L6 : d.params.defaults = []) (hr : d9 k callerA)
  (hY : ∀ (w : World) (h : Heap), YP w h → (K w.params).In h)
  (F : ∀ (w : World) (mg : Str → Option Value) (fa : Addr) (h : Heap), (K w.params).In h → h.Ns mainGlobals mg → mg d.name = some (.ref fa) →
   ∃ fd : FuncData, (∀ (s : Shared) (u : Value), BindsTo s fd ⟨[u], []⟩ [(x, u)]) ∧
    ∀ base : Heap, (K w.params).In base → base.Ns mainGlobals mg → bN l.prog w (K w.params) mg base (CX w) k fa fd [x] (sp w))
  (Ey : ∀ (w : World) (H : Hp) (a : Addr) (ns : List Int), ns.length ≤ n → Ij H → aD (K w.params) H a (ns.map V.int) → sp w [.ref a] H (fun v _ => v = .bl true) fun _ _ _ => False)
  (QR : ∀ (w : World) (H : Hp) (s : Shared) (e : Value) (s' : Shared), CX w [] H s (fun _ _ _ => False) e s' → False) :
  PySem.W.WalkO q loose XP YP l.row.toRowW d [] (fun f vs => PySem.call f vs) := by
 refine Uj.wB hn L6 fun w s₀ s₁ mg mb fa o pm cd doc a vs ns G Y ho hd hcd hmg Ii hints hlen hg => ?_
 have KX := hY w _ Y
 obtain ⟨fd, hb, hF⟩ := F w mg fa _ KX G.T.g hmg
 exact CD KX G.T.g G.T.b G.T.builtins G.T.nolimit hg Ii hints (Nat.le_trans hlen E4) hr hF hb (fun H hO hS => Ey w H a ns hlen hO hS) fun H e s' => QR w H s₁ e s'
end L2
namespace L2
open PySem PySem.Spec PyProof.Rows
def kg (s : Stmt) : Arguments := match s with
 | .FunctionDef _ a _ _ _ _ _ _ _ _ => a
 | _ => { posonlyargs := [], args := [], vararg := none, kwonlyargs := [], kw_defaults := [], kwarg := none, defaults := [] }
def fS (s : Stmt) : List Stmt := match s with
 | .FunctionDef _ _ b _ _ _ _ _ _ _ => b
 | _ => []
def au (s : Stmt) : Scope := match s with
 | .FunctionDef _ _ _ _ _ _ sc _ _ _ => sc
 | _ => { kind := .function, names := [], isGenerator := false, isCoroutine := false }
abbrev ny : Ca := fun _ _ _ _ _ _ => False
abbrev E0 : XK := fun _ _ _ => False
theorem L8 {X : Cx} : Passes ny X E0 := fun _ _ _ _ _ _ _ h => h.elim
structure cP (K : PySem.W.Frag) (x qual : Str) (st : Stmt) (f : Addr) (fd : FuncData) : Prop where
 ex : ∃ (oc : Value) (od : Option Addr) (kV doc pm : Value) (an : Option Addr) (dn ct : Value) (ER : Array (Option Value)),
  fd = PySem.W.fnOf x qual (kg st) (fS st) (au st) .none kV doc pm an dn ct ∧ K.lookup f = some ⟨oc, od, .func fd, ER⟩ ∧ PySem.W.codeIn K dn qual = true
 kp : PySem.W.keepIn K (.ref f) = true
section
variable {P : Program} {w : World} {K : PySem.W.Frag} {mg : Str → Option Value} {base : Heap}
theorem cP.ok {x qual : Str} {st : Stmt} {f : Addr} {fd : FuncData} {N ps : List Str} {k : Nat} {sp : Sp} (F : cP K x qual st f fd) (S : aF N ps (au st)) (len : ∀ vs H Q E, sp vs H Q E → vs.length = ps.length)
  (mr : ∀ (dn : Value) (A : Around) (outer : List Env) (s : Shared) (H : Hp) (vs : List V) (Q : VK) (E : XK), d9 k (A.deeper (envOfC qual (au st) s.heap.objs.size f dn)) → sp vs H Q E →
   ∃ t, xT (ym ny P w K mg base N qual (au st) f dn A outer s H E).Ph (fS st) t ∧ t { nx := fun _ H' => Q .bz H', rt := Q } (start N vs) H) : bN P w K mg base ny (k + 1) f fd ps sp := by
 obtain ⟨oc, od, kV, doc, pm, an, dn, ct, ER, rfl, lk, hcd⟩ := F.ex
 refine GJ lk hcd S len fun A outer s H vs Q E hr Ey => ?_
 obtain ⟨t, h, q⟩ := mr dn A outer s H vs Q E hr Ey
 exact ⟨t, h.Ph, q⟩
theorem cP.binds {x qual : Str} {st : Stmt} {f : Addr} {fd : FuncData} {ps : List Str} (F : cP K x qual st f fd)
  (h : ∀ (kV doc pm : Value) (an : Option Addr) (dn ct : Value) (us : List Value), us.length = ps.length → bindArgs (PySem.W.fnOf x qual (kg st) (fS st) (au st) .none kV doc pm an dn ct) ⟨us, []⟩ = pure (ps.zip us)) : Binds K fd ps [] := by
 obtain ⟨oc, od, kV, doc, pm, an, dn, ct, ER, rfl, lk, hcd⟩ := F.ex
 exact .all (h kV doc pm an dn ct)
theorem aW {x qual : Str} {st : Stmt} {f : Addr} {oc : Value} {od an : Option Addr} {ER : Array (Option Value)} {kV doc pm dn ct : Value} (l : K.lookup f = some ⟨oc, od, .func (PySem.W.fnOf x qual (kg st) (fS st) (au st) .none kV doc pm an dn ct), ER⟩)
  (c : PySem.W.codeIn K dn qual = true) (k : PySem.W.keepIn K (.ref f) = true) : cP K x qual st f (PySem.W.fnOf x qual (kg st) (fS st) (au st) .none kV doc pm an dn ct) := ⟨⟨oc, od, kV, doc, pm, an, dn, ct, ER, rfl, l, c⟩, k⟩
end
theorem CF {A : Around} {k : Nat} (hr : d9 k A) : A.units + 1 < cLine := Nat.lt_of_le_of_lt (Nat.add_le_add_left (by decide : 1 ≤ 64) _) hr.units
section
variable {X : Cx}
theorem pv (i : Nat) {x : Str} {pos : Pos} (hN : X.N[i]? = some x := by rfl) (hv : Qj X.env.scope x := by first | exact Or.inl rfl | exact Or.inr (Or.inl rfl) | exact Or.inr (Or.inr rfl)) (hd : (x == ("__debug__" : Str)) = false := by decide)
  (hcd : (x == ("__classdict__" : Str)) = false := by decide) : PE X (.Name x pos) (LC i) := HE hN hv hd hcd
end
theorem dm {A B : Prop} (h : B) : if false = true then A else B := by
 rw [if_neg Bool.false_ne_true]
 exact h
theorem gS {A B : Prop} (h : A) : if true = true then A else B := by
 rw [if_pos rfl]
 exact h
theorem jf {c A B : Prop} [Decidable c] (h1 : c → A) (h2 : ¬ c → B) : if c then A else B := by
 by_cases h : c
 ·rw [if_pos h]
  exact h1 h
 ·rw [if_neg h]
  exact h2 h
def ai (H H' : Hp) : Prop := ∀ b o, H b = some o → H' b = some o
theorem ai.refl (H : Hp) : ai H H := fun _ _ h => h
theorem ai.trans {H H1 H2 : Hp} (a : ai H H1) (b : ai H1 H2) : ai H H2 := fun c o h => b c o (a c o h)
theorem ai.free {H H' : Hp} (e : ai H H') {l : Addr} (h : H' l = Option.none) : H l = Option.none := by
 cases q : H l with
 | none => rfl
 | some o =>
  rw [e l o q] at h
  cases h
theorem ai.seq {K : PySem.W.Frag} {H H' : Hp} {a : Addr} {xs : List V} (e : ai H H') (h : aD K H a xs) : aD K H' a xs := by
 rcases h with (h | ⟨o, h⟩) | h
 ·exact .inl (.inl (e _ _ h))
 ·exact .inl (.inr ⟨o, e _ _ h⟩)
 ·exact .inr h
end L2
namespace L2
open PySem PySem.Spec PyProof.Rows
def bu (env : Env) : List (Str × NameKind) → List (Str × Addr) → List (Str × Addr)
 | [], cs => cs
 | (n, k) :: r, cs => if (k == NameKind.free) = true then bu env r ((n, (env.cells.lookup n).getD 0) :: cs) else bu env r cs
theorem fZ {env : Env} : ∀ (names : List (Str × NameKind)) (cs : List (Str × Addr)), (∀ y ∈ names, y.2 = .free → (env.cells.lookup y.1).isSome = true) →
  (forIn names cs (fun x (cs : List (Str × Addr)) => (match x with | (name, kind) => if (kind == NameKind.free) = true then (do let a ← cellOf env name; pure (ForInStep.yield ((name, a) :: cs))) else pure (ForInStep.yield cs) : Sem (ForInStep (List (Str × Addr))))) : Sem (List (Str × Addr))) = pure (bu env names cs)
 | [], cs, _ => rfl
 | (n, k) :: r, cs, h => by
  have hr : ∀ y ∈ r, y.2 = .free → (env.cells.lookup y.1).isSome = true := fun y hy => h y (List.mem_cons_of_mem _ hy)
  rw [List.forIn_cons]
  by_cases hk : (k == NameKind.free) = true
  ·have e : k = .free := by simpa using hk
   have hs := h (n, k) List.mem_cons_self e
   obtain ⟨a, ha⟩ := Option.isSome_iff_exists.mp hs
   simp only [hk, if_true, bu, cellOf, ha, Option.getD_some, pure_bind]
   exact fZ r _ hr
  ·simp only [hk, bu, pure_bind, Bool.false_eq_true, if_false]
   exact fZ r _ hr
theorem yy {env : Env} {scope : Scope} (h : ∀ y ∈ scope.names, y.2 = .free → (env.cells.lookup y.1).isSome = true) : closureFor scope env = pure (bu env scope.names []) := by
 have e := fZ (env := env) scope.names [] h
 unfold closureFor
 simp only [bind_pure_comp, map_pure] at e ⊢
 rw [← e]
 simp
theorem mC {env : Env} : ∀ {names : List (Str × NameKind)} {cs : List (Str × Addr)} {y : Str} {c : Addr}, (∀ z ∈ names, z.2 = .free → (env.cells.lookup z.1).isSome = true) → (∀ y c, cs.lookup y = some c → env.cells.lookup y = some c) →
  (bu env names cs).lookup y = some c → env.cells.lookup y = some c
 | [], _, _, _, _, hc, h => hc _ _ h
 | (n, k) :: r, cs, y, c, hn, hc, h => by
  have hr : ∀ z ∈ r, z.2 = .free → (env.cells.lookup z.1).isSome = true := fun z hz => hn z (List.mem_cons_of_mem _ hz)
  unfold bu at h
  by_cases hk : (k == NameKind.free) = true
  ·rw [if_pos hk] at h
   have e : k = .free := by simpa using hk
   obtain ⟨a, ha⟩ := Option.isSome_iff_exists.mp (hn (n, k) List.mem_cons_self e)
   refine mC hr (fun z d q => ?_) h
   rw [List.lookup_cons] at q
   cases hz : z == n with
   | true =>
    have ez : z = n := by simpa using hz
    rw [hz] at q
    simp only [ha, Option.getD_some] at q
    have ha' : env.cells.lookup n = some a := ha
    rw [ez, ha']
    exact q
   | false =>
    rw [hz] at q
    exact hc z d q
  ·rw [if_neg hk] at h
   exact mC hr hc h
theorem mD {env : Env} : ∀ {names : List (Str × NameKind)} {cs : List (Str × Addr)} {y : Str}, ((y, NameKind.free) ∈ names ∨ (cs.lookup y).isSome = true) → ((bu env names cs).lookup y).isSome = true
 | [], _, _, h => by
  rcases h with h | h
  ·cases h
  ·exact h
 | (n, k) :: r, cs, y, h => by
  unfold bu
  have key : ∀ a : Addr, (cs.lookup y).isSome = true → (List.lookup y ((n, a) :: cs)).isSome = true := fun a q => by
   rw [List.lookup_cons]
   cases y == n with
   | true => rfl
   | false => exact q
  by_cases hk : (k == NameKind.free) = true
  ·rw [if_pos hk]
   refine mD ?_
   rcases h with h | h
   ·rcases List.mem_cons.mp h with e | h
    ·cases e
     refine .inr ?_
     rw [List.lookup_cons]
     simp
    ·exact .inl h
   ·exact .inr (key _ h)
  ·rw [if_neg hk]
   refine mD ?_
   rcases h with h | h
   ·rcases List.mem_cons.mp h with e | h
    ·cases e
     exact absurd (by simp) hk
    ·exact .inl h
   ·exact .inr h
def gU (X : Cx) (scope : Scope) (cl : List (Str × Addr)) (N : List Str) (C : Addr) (s₀ : Shared) (H₀ : Hp) (ex : List Addr) : Cx where
 prog := X.prog
 w := X.w
 K := X.K
 mg := X.mg
 base := X.base
 A := X.A
 N := N
 s₀ := s₀
 H₀ := H₀
 env := compEnvC scope cl C X.env
 outer := X.stack
 stack := X.stack
 ex := ex
 fn := fun _ => false
 calm := X.calm
 pn := []
 xe := fun _ _ => False
def eT (X : Cx) (x : Str) (aX : List Nat) : List Str := x :: aX.map fun i => X.N.getD i (Str.ofString "")
def dg (σ : St) (o : Option V) (aX : List Nat) : St := o :: aX.map fun i => (σ[i]?).join
def pX (outer scope : Scope) (x : Str) (N : List Str) : Bool :=
 decide (scope.kind = .function) && scope.names.all (fun y => decide (y.2 ≠ .cell)) && scope.names.all (fun y => decide (y.2 = .local → scope.names.lookup y.1 = some .local)) && decide (scope.names.lookup x = some .local) &&
  scope.names.all (fun y => decide (y.2 = .free → (outer.names.lookup y.1 = some .cell ∨ outer.names.lookup y.1 = some .free))) && N.tail.all (fun y => decide (scope.names.lookup y = some .free)) && decide N.Nodup
structure CG (outer scope : Scope) (x : Str) (N : List Str) : Prop where
 kind : scope.kind = .function
 yz : ∀ y ∈ scope.names, y.2 ≠ .cell
 locs : ∀ y ∈ scope.names, y.2 = .local → scope.names.lookup y.1 = some .local
 QU : scope.names.lookup x = some .local
 frees : ∀ y ∈ scope.names, y.2 = .free → (outer.names.lookup y.1 = some .cell ∨ outer.names.lookup y.1 = some .free)
 aX : ∀ y ∈ N.tail, scope.names.lookup y = some .free
 nd : N.Nodup
theorem Bj {outer scope : Scope} {x : Str} {N : List Str} (h : pX outer scope x N = true) : CG outer scope x N := by
 unfold pX at h
 simp only [Bool.and_eq_true, List.all_eq_true, decide_eq_true_eq] at h
 obtain ⟨⟨⟨⟨⟨⟨h1, h2⟩, h3⟩, h4⟩, h5⟩, h6⟩, h7⟩ := h
 exact ⟨h1, h2, h3, h4, h5, h6, h7⟩
theorem mE {scope : Scope} {env : Env} {y : Str} {k' : NameKind} (h : (relabel scope env).names.lookup y = some k') : ∃ k, scope.names.lookup y = some k ∧ (k' = k ∨ (k = .free ∧ k' = .cell)) := by
 have go : ∀ (names : List (Str × NameKind)), (names.map fun (n, k) => if (k == NameKind.free && env.scope.kind == .function && env.kindOf n == some .cell) then (n, NameKind.cell) else (n, k)).lookup y = some k' →
   ∃ k, names.lookup y = some k ∧ (k' = k ∨ (k = .free ∧ k' = .cell)) := by
  intro names
  induction names with
  | nil => intro h; simp at h
  | cons a r ih =>
   obtain ⟨n, k⟩ := a
   intro h
   rw [List.map_cons] at h
   by_cases hc : (k == NameKind.free && env.scope.kind == .function && env.kindOf n == some .cell) = true
   ·simp only [hc, if_true, List.lookup_cons] at h
    rw [List.lookup_cons]
    cases hy : y == n with
    | true =>
     rw [hy] at h
     have hk : k = .free := by
      simp only [Bool.and_eq_true, beq_iff_eq] at hc
      exact hc.1.1
     exact ⟨k, rfl, .inr ⟨hk, (Option.some.inj h).symm⟩⟩
    | false =>
     rw [hy] at h
     exact ih h
   ·simp only [hc, Bool.false_eq_true, if_false, List.lookup_cons] at h
    rw [List.lookup_cons]
    cases hy : y == n with
    | true =>
     rw [hy] at h
     exact ⟨k, rfl, .inl (Option.some.inj h).symm⟩
    | false =>
     rw [hy] at h
     exact ih h
 exact go scope.names h
theorem uA {scope : Scope} {env : Env} {y : Str} (h : scope.names.lookup y = some .free) : (relabel scope env).names.lookup y = some .cell ∨ (relabel scope env).names.lookup y = some .free := by
 have go : ∀ (names : List (Str × NameKind)), names.lookup y = some .free → (names.map fun (n, k) => if (k == NameKind.free && env.scope.kind == .function && env.kindOf n == some .cell) then (n, NameKind.cell) else (n, k)).lookup y = some .cell ∨
   (names.map fun (n, k) => if (k == NameKind.free && env.scope.kind == .function && env.kindOf n == some .cell) then (n, NameKind.cell) else (n, k)).lookup y = some .free := by
  intro names
  induction names with
  | nil => intro h; simp at h
  | cons a r ih =>
   obtain ⟨n, k⟩ := a
   intro h
   rw [List.map_cons]
   rw [List.lookup_cons] at h
   by_cases hc : (k == NameKind.free && env.scope.kind == .function && env.kindOf n == some .cell) = true
   ·simp only [hc, if_true, List.lookup_cons]
    cases hy : y == n with
    | true => exact .inl rfl
    | false =>
     rw [hy] at h
     exact ih h
   ·simp only [hc, Bool.false_eq_true, if_false, List.lookup_cons]
    cases hy : y == n with
    | true =>
     rw [hy] at h
     have h' : k = .free := Option.some.inj h
     exact .inr (by rw [h'])
    | false =>
     rw [hy] at h
     exact ih h
 exact go scope.names h
def K1 (X : Cx) (ifs : List Expr) (t : TT) : Prop :=
 ∀ (pins : List (Addr × Obj)) (s : Shared) (σ : St) (H : Hp) (Q : Bool → Hp → Prop), Inv X pins σ H s → t σ H Q →
  wpAny (model X.prog X.w) X.A (forIn ifs true fun c r => if r = true then do let ok ← isTrue c X.env (eval c X.env); pure (ForInStep.yield ok) else pure (ForInStep.yield r)) (TP X pins σ Q) X.xe s
def CH : TT := fun _ H Q => Q true H
theorem cz {X : Cx} : K1 X [] CH := fun _ _ _ H _ I h => wpAny_tests_nil ⟨H, I, h⟩
theorem kh {X : Cx} {c : Expr} {t : TT} (h : PT X c t) : K1 X [c] t := fun pins s σ H Q I hq => wpAny_tests_one (h pins s σ H Q I hq)
theorem uB {prog : Program} {w : World} {A : Around} {R : Result → Shared → Prop} {s : Shared} {elt target iter : Expr} {ifs : List Expr} {scope : Scope} {pos : Pos} {it acc : Value} {env : Env} (I : Nat → Shared → Prop)
  (turn : ∀ n s, I n s → wpAny (model prog w) A (pyNext it) (fun r s₁ => match r with
   | none => R (.ok .next) s₁
   | some v => wpAny (model prog w) A (letOwnedTupleGo target it v) (fun _ Ul => wpAny (model prog w) A (assign target env v) (fun _ s₂ =>
     wpAny (model prog w) A (forIn ifs true fun c r => if r = true then do let ok ← isTrue c env (eval c env); pure (ForInStep.yield ok) else pure (ForInStep.yield r)) (fun ok s₃ =>
      if ok = true then wpAny (model prog w) A (eval elt env) (fun x s₄ =>
       wpAny (model prog w) A (call (.builtin "list.append") [acc, x]) (fun _ s₅ => ∃ m, m < n ∧ I m s₅) (fun _ _ => False) s₄) (fun _ _ => False) s₃
      else ∃ m, m < n ∧ I m s₃) (fun _ _ => False) s₂) (fun _ _ => False) Ul) (fun _ _ => False) s₁) (fun _ _ => False) s)
  (n : Nat) (h : I n s) : codeAny (model prog w) A (.compLoop (.ListComp elt [⟨target, iter, ifs, 0⟩] scope pos) 0 it acc env) R s := by
 refine codeAny_loop rfl I (fun n s hI => ?_) n h
 show wpAny _ A ((compTurn (.ListComp elt [⟨target, iter, ifs, 0⟩] scope pos) 0 it acc env).onRaise (fun x => do noteFrame x env; theTreesLotGoes x)) _ _ s
 refine wpAny_noted ?_
 rw [compTurn_list]
 refine wpAny_bind (wpAny_standAt (wpAny_bind (wpAny_mono (turn n s hI) (fun r s₁ h₁ => ?_) fun _ _ h' => h'.elim)))
 cases r with
 | none => exact wpAny_pure h₁
 | some v =>
  refine wpAny_bind (wpAny_mono h₁ (fun _ Ul Wh => ?_) fun _ _ h' => h'.elim)
  refine wpAny_bind (wpAny_mono Wh (fun _ s₂ h₂ => wpAny_bind (wpAny_mono h₂ (fun ok s₃ h₃ => ?_) fun _ _ h' => h'.elim)) fun _ _ h' => h'.elim)
  cases ok with
  | false => exact wpAny_pure ⟨rfl, h₃⟩
  | true =>
   exact wpAny_bind (wpAny_bind (wpAny_mono h₃ (fun x s₄ h₄ => wpAny_bind (wpAny_mono h₄ (fun _ s₅ h₅ => wpAny_pure (wpAny_pure ⟨rfl, h₅⟩)) fun _ _ h' => h'.elim)) fun _ _ h' => h'.elim))
def pY (tt : TT) (te : TE) (aX : List Nat) (σ : St) (Q : VK) (J : It) (H1 : Hp) (D : Addr) : Prop :=
 ∃ W : Nat → Nat → List V → Hp → Prop, (∃ m, W 0 m [] (upd H1 D (.lst []))) ∧ ∀ i m ys H, W i m ys H →
  H D = some (.lst ys) ∧ ys.length < sizeLine ∧
  ((J.stop i H ∧ Q (.ref D) H) ∨ (J.go i H ∧ ∃ N : List V → Hp → Prop, (∀ zs H', N zs H' → ∃ m', m' < m ∧ W (i + 1) m' zs H') ∧ ∀ x H', J.HM i H x H' → tt (dg σ (some x) aX) H' fun b H2 =>
   if b = true then te (dg σ (some x) aX) H2 fun y H3 => H3 D = some (.lst ys) ∧ N (ys ++ [y]) (upd H3 D (.lst (ys ++ [y])))
   else N ys H2))
def CI (wi : TI) (tt : TT) (te : TE) (aX : List Nat) : TE := fun σ H Q => wi σ H fun J H1 => ∀ D, H1 D = none → pY tt te aX σ Q J H1 D
section
variable {X : Cx}
theorem yA {scope : Scope} {x : Str} {aX : List Nat} {pins : List (Addr × Obj)} {σ : St} {H : Hp} {s3 : Shared} {h1 : Heap} {fp : List Addr} {m : Str → Option Value} {tk : Nat} (ok : CG X.env.scope scope x (eT X x aX)) (I : Inv X pins σ H s3)
  (hf : ∀ b ∈ fp, rH X pins H b) (gQ : ∀ b ∈ fp, b < s3.heap.objs.size) (hn : h1.Ns s3.heap.objs.size m) (keep : ∀ b o, s3.heap.get? b = some o → h1.get? b = some o) :
  Inv (gU X scope (bu X.env scope.names []) (eT X x aX) s3.heap.objs.size s3 H fp) [] (dg σ none aX) H { s3 with heap := h1, toks := tk } := by
 have Aj : ∀ z ∈ scope.names, z.2 = .free → (X.env.cells.lookup z.1).isSome = true := fun z hz xX => by
  obtain ⟨c, e⟩ := I.ok.has z.1 (by
   rcases ok.frees z hz xX with q | q
   ·exact .inl q
   ·exact .inr q)
  rw [e]; rfl
 have sub : ∀ y c, (bu X.env scope.names []).lookup y = some c → X.env.cells.lookup y = some c := fun y c h => mC Aj (fun _ _ q => by simp at q) h
 have hC : H s3.heap.objs.size = none := I.hok.fresh (Nat.le_refl _)
 have A7 : ∀ y c, X.env.cells.lookup y = some c → c < s3.heap.objs.size := fun y c e => by
  obtain ⟨v, z⟩ := I.cell y c e
  exact z.lt
 refine ⟨⟨I.ok.mod, ?_, I.ok.glob, I.ok.blt, Nat.le_refl _, fun y z c e1 e2 => I.ok.inj y z c (sub _ _ e1) (sub _ _ e2), fun y hy => ?_, fun y c EJ _ => ?_, I.ok.hd, I.ok.frames, .inl rfl, fun b hb => ⟨Nat.ne_of_lt (gQ b hb), fun y c e => (hf b hb).2.2.2.2.1 y c (sub _ _ e)⟩,
   I.bs, Nat.le_trans I.ok.EI I.sz, fun b o e hb => ?_, fun b hb Ak => ?_, I.stack, I.um⟩,
  rfl, I.bare, Un.kept keep, ⟨m, hn, fun i y v e1 e2 e3 => ?_⟩, fun y c e => ?_, hC, fun y c e => I.eQ y c (sub _ _ e), fun p hp => absurd (show p ∈ ([] : List (Addr × Obj)) from hp) (by simp), I.hok.kept keep, by simp [gU, eT, dg]⟩
 ·show (relabel scope X.env).kind = .function
  exact ok.kind
 ·have hy' : (relabel scope X.env).names.lookup y = some .cell ∨ (relabel scope X.env).names.lookup y = some .free := hy
  have fr : scope.names.lookup y = some .free := by
   rcases hy' with q | q
   ·obtain ⟨k, e, z⟩ := mE q
    rcases z with z | ⟨z, _⟩
    ·exact absurd z.symm (ok.yz _ (PySem.mem_of_lookup e))
    ·rw [e, z]
   ·obtain ⟨k, e, z⟩ := mE q
    rcases z with z | ⟨_, z⟩
    ·rw [e, z]
    ·cases z
  exact Option.isSome_iff_exists.mp (mD (.inl (PySem.mem_of_lookup fr)))
 ·exact absurd (show (fun _ => false) y = true from EJ) (by simp)
 ·rcases (hf b hb).2.2.2.1 with z | z
  ·exact I.ok.A6 b o e z
  ·exact absurd (Nat.lt_of_lt_of_le (Heap.lt_size e) (Nat.le_trans I.ok.EI z)) (Nat.lt_irrefl _)
 ·rcases List.mem_cons.mp (I.uj b Ak) with z | z
  ·exact (hf b hb).2.1 z
  ·exact (hf b hb).2.2.1 z
 ·have e1' : (eT X x aX)[i]? = some y := e1
  cases i with
  | zero => simp [dg] at e2
  | succ i =>
   simp only [eT, List.getElem?_cons_succ, List.getElem?_map] at e1'
   simp only [dg, List.getElem?_cons_succ, List.getElem?_map] at e2
   cases hj : aX[i]? with
   | none => rw [hj] at e2; cases e2
   | some j =>
    rw [hj] at e1' e2
    simp only [Option.map_some, Option.some.injEq] at e1' e2
    cases hσ : σ[j]? with
    | none => rw [hσ] at e2; cases e2
    | some o =>
     rw [hσ] at e2
     have e2' : o = some v := e2
     subst e2'
     have Um : j < X.N.length := by rw [← I.len]; exact (List.getElem?_eq_some_iff.mp hσ).1
     have eN : X.N[j]? = some y := by
      rw [Ge9 Um]
      rw [Gd9, Ge9 Um] at e1'
      exact congrArg some e1'
     have hy : scope.names.lookup y = some .free := ok.aX y (by
      show y ∈ aX.map fun i => X.N.getD i (Str.ofString "")
      exact List.mem_map.mpr ⟨j, List.mem_of_getElem? hj, e1'⟩)
     have hk := ok.frees (y, .free) (PySem.mem_of_lookup hy) rfl
     obtain ⟨m', _, hl⟩ := I.loc
     obtain ⟨u, r, q⟩ := hl j y v eN hσ (.inr hk)
     refine ⟨u, r, .inr ⟨uA hy, ?_⟩⟩
     rcases q with ⟨k, _⟩ | ⟨_, c, e, z⟩
     ·have k' : X.env.scope.names.lookup y = some .local := k
      rw [k'] at hk
      rcases hk with hk | hk <;> cases hk
     ·obtain ⟨c', e'⟩ := Option.isSome_iff_exists.mp (mD (env := X.env) (cs := []) (.inl (PySem.mem_of_lookup hy)))
      have ec := sub _ _ e'
      rw [e] at ec
      cases ec
      obtain ⟨o, ho, hd⟩ := z
      exact ⟨c, e', o, keep c o ho, hd⟩
 ·obtain ⟨v, o, ho, hd⟩ := I.cell y c (sub _ _ e)
  exact ⟨v, o, keep c o ho, hd⟩
theorem sV {x : Str} {px pos p : Pos} {iter elt : Expr} {ifs : List Expr} {scope : Scope} {wi : TI} {tt : TT} {te : TE} {aX : List Nat} {use : Option (Value → Sem Unit)} {QQ : Value → Shared → Prop}
  (hc : X.calm = true) (ho : pX X.env.scope scope x (eT X x aX) = true) (hi : PI X (.Name x px) iter wi)
  (ht : ∀ cl C s₀ H₀ ex, K1 (gU X scope cl (eT X x aX) C s₀ H₀ ex) ifs tt) (he : ∀ cl C s₀ H₀ ex, PE (gU X scope cl (eT X x aX) C s₀ H₀ ex) elt te)
  (hs : ∀ x, foldedSetIterable iter X.env x = pure x) {pins : List (Addr × Obj)} {s : Shared} {σ : St} {H : Hp} {Q : VK} (I : Inv X pins σ H s) (h : CI wi tt te aX σ H Q)
  (fin : ∀ (D C : Addr) (H' : Hp) (s' : Shared) (m : Str → Option Value), Inv X pins σ H' s' → Q (.ref D) H' → s'.heap.Ns C m → rH X pins H' C → compPost (model X.prog X.w) X.A X.xe use QQ (.ref D) C (.ok .next) s') :
  wpAny (model X.prog X.w) X.A (comprehension (.ListComp elt [⟨.Name x px, iter, ifs, 0⟩] scope pos) scope X.env p (newList []) false (eval iter X.env) use) QQ X.xe s := by
 have ok := Bj ho
 have Aj : ∀ z ∈ scope.names, z.2 = .free → (X.env.cells.lookup z.1).isSome = true := fun z hz xX => by
  obtain ⟨c, e⟩ := I.ok.has z.1 (by
   rcases ok.frees z hz xX with q | q
   ·exact .inl q
   ·exact .inr q)
  rw [e]; rfl
 refine wpAny_comprehension_free (cl := bu X.env scope.names []) (use := use) rfl hs (yy Aj) ok.kind ok.locs (bQ (hi pins s σ H _ I h) fun v s1 h1 => bQ h1 fun Qw s2 h2 => ?_)
 obtain ⟨it, fp, tn, J, H2, e, I2, T, KU, f2, rd⟩ := h2
 subst e
 refine wpAny_newObj_type (wpAny_newFunctionEnv ok.yz (by intro y hy; simp at hy) (fun h₁ Ik Il => ?_) ok.kind)
 dsimp only at Ik Il ⊢
 have Bl : H2 s2.heap.objs.size = none := I2.hok.fresh (Nat.le_refl _)
 obtain ⟨W, ⟨m0, w0⟩, turn⟩ := rd s2.heap.objs.size Bl
 have L9 : ∀ b ∈ fp, b < s2.heap.objs.size := fun b hb => by
  obtain ⟨o, e, _⟩ := T.obj 0 _ KU b hb
  exact Heap.lt_size e
 have hsz : (s2.heap.push { cls := .type "list", dict := none, data := .seq ([] : List Value).toArray }).objs.size = s2.heap.objs.size + 1 := Heap.size_push ..
 have I3 : Inv X pins σ (upd H2 s2.heap.objs.size (.lst [])) { s2 with heap := s2.heap.push { cls := .type "list", dict := none, data := .seq ([] : List Value).toArray } } :=
  I2.laid (t' := s2.toks) (fun b u e => Heap.get?_push_of_some _ e) (Nat.le_refl _) ⟨by simp, [], 0, .nil, Heap.get?_push_size _ rfl⟩
 have HP : tn 0 (s2.heap.push { cls := .type "list", dict := none, data := .seq ([] : List Value).toArray }) := T.keep _ _ _ KU fun b _ o e => Heap.get?_push_of_some _ e
 generalize Za : s2.heap.push { cls := .type "list", dict := none, data := .seq ([] : List Value).toArray } = h3 at Ik Il hsz I3 HP ⊢
 generalize Wi : upd H2 s2.heap.objs.size (.lst []) = H3 at I3 w0
 have Ma : ∀ b ∈ fp, b < h3.objs.size := fun b hb => by rw [hsz]; exact Nat.lt_succ_of_lt (L9 b hb)
 have f3 : ∀ b ∈ fp, rH X pins H3 b := fun b hb => ⟨by rw [← Wi, az (Nat.ne_of_lt (L9 b hb))]; exact (f2 b hb).1, (f2 b hb).2⟩
 have keep : ∀ b o, h3.get? b = some o → h₁.get? b = some o := fun b o e => Il.extBut b o (Nat.ne_of_lt (Heap.lt_size e)) (Heap.get?_push_of_some _ e)
 have I4 := yA (s3 := { s2 with heap := h3 }) (tk := s2.toks + ([] : List (Str × Value)).length) ok I3 f3 Ma Ik keep
 have Uo : tn 0 h₁ := T.keep _ _ _ HP fun b _ o e => keep b o e
 generalize yB : gU X scope (bu X.env scope.names []) (eT X x aX) ({ s2 with heap := h3 } : Shared).heap.objs.size { s2 with heap := h3 } H3 fp = X' at I4
 have eA : X'.A = X.A := by rw [← yB] <;> rfl
 have eP : X'.prog = X.prog := by rw [← yB] <;> rfl
 have ew : X'.w = X.w := by rw [← yB] <;> rfl
 have eK : X'.K = X.K := by rw [← yB] <;> rfl
 have ee : X'.env = compEnvC scope (bu X.env scope.names []) h3.objs.size X.env := by rw [← yB] <;> rfl
 have ex : X'.xe = fun _ _ => False := by rw [← yB] <;> rfl
 have eN : X'.N = eT X x aX := by rw [← yB] <;> rfl
 have ec : X'.calm = true := by rw [← yB]; exact hc
 have Wj : X'.fs = eY X.stack := by rw [← yB] <;> rfl
 have hT' : K1 X' ifs tt := by rw [← yB]; exact ht _ _ _ _ _
 have hE' : PE X' elt te := by rw [← yB]; exact he _ _ _ _ _
 have leave : ∀ {σ' : St} {H' : Hp} {s' : Shared}, Inv X' [] σ' H' s' → Q (.ref s2.heap.objs.size) H' → compPost (model X.prog X.w) X.A X.xe use QQ (.ref s2.heap.objs.size) h3.objs.size (.ok .next) s' := fun {σ' H' s'} J q => by
  have un : Un (eY X.stack) fp H3 H' h3 s'.heap := by have z := J.base; rw [← yB] at z; exact z
  have ET : s'.os = s2.os := by have z := J.os; rw [← yB] at z; exact z
  have hk : jh X.prog X.w H' s'.heap := by have z := J.hok; rw [eP, ew] at z; exact z
  have Jx := I3.LB (s' := s') (ch := fp) ET un hk J.bare fun b hb => ⟨(f3 b hb).2.2.2.1, (f3 b hb).2.1, (f3 b hb).2.2.2.2.1, (f3 b hb).2.2.2.2.2⟩
  obtain ⟨m, hn, _⟩ := J.loc
  have hn' : s'.heap.Ns h3.objs.size m := by rw [ee] at hn; exact hn
  have xX : H' h3.objs.size = none := by have z := J.free; rw [ee] at z; exact z
  exact fin _ _ H' s' m Jx q hn' (I3.EK (Nat.le_refl _) xX)
 have yl : ∀ {H' : Hp}, (∀ b ∈ fp, H' b = none) → ∀ b ∈ fp, rH X' [] H' b := fun {H'} hn b hb => by
  refine ⟨hn b hb, ?_, ?_, .inl ?_, fun y c e => ?_, fun p hp => ?_⟩
  ·rw [ee]; exact Nat.ne_of_lt (Ma b hb)
  ·rw [Wj]
   intro z
   rcases List.mem_cons.mp (I3.uj b z) with z | z
   ·exact (f3 b hb).2.1 z
   ·exact (f3 b hb).2.2.1 z
  ·rw [← yB]; exact hb
  ·have e' : (bu X.env scope.names []).lookup y = some c := by rw [ee] at e; exact e
   exact (f3 b hb).2.2.2.2.1 y c (mC Aj (fun _ _ q => by simp at q) e')
  ·rw [← yB] at hp
   exact absurd (show p ∈ ([] : List (Addr × Obj)) from hp) (by simp)
 have loop : ∀ s₃ : Shared, s₃ = { s2 with heap := h₁, toks := s2.toks + ([] : List (Str × Value)).length } →
   codeAny (model X.prog X.w) X.A (.compLoop (.ListComp elt [⟨.Name x px, iter, ifs, 0⟩] scope pos) 0 (.ref it) (.ref s2.heap.objs.size) (compEnvC scope (bu X.env scope.names []) h3.objs.size X.env))
    (compPost (model X.prog X.w) X.A X.xe use QQ (.ref s2.heap.objs.size) h3.objs.size) s₃ := by
  rintro s₃ rfl
  refine uB (fun n s' => ∃ i o H' ys, Inv X' [] (dg σ o aX) H' s' ∧ tn i s'.heap ∧ (∀ b ∈ fp, H' b = none) ∧ W i n ys H') ?_ m0 ⟨0, none, H3, [], I4, Uo, fun b hb => (f3 b hb).1, w0⟩
  rintro n s' ⟨i, o, H', ys, J, xU, Up, w'⟩
  obtain ⟨Zb, hlen, alt⟩ := turn i n ys H' w'
  rcases alt with ⟨stop, q⟩ | ⟨go, N, hN, step⟩
  ·have z := T.done X' eP ew eK ec i [] s' _ H' (fun _ _ => False) J (yl Up) xU stop
   rw [eA] at z
   refine bQ z fun r s4 ⟨hr, J4⟩ => ?_
   subst hr
   exact leave J4 q
  ·have z := T.item X' eP ew eK ec i [] s' _ H' (fun _ _ => False) J (yl Up) xU go
   rw [eA] at z
   refine bQ z fun r s4 ⟨u, hr, h4⟩ => ?_
   subst hr
   refine bQ h4 fun _ s5 ⟨xv, H5, J5, r5, y5, HQ, Qz⟩ => ?_
   have Wk := J5.pinned (yl Qz) (T.obj _ _ HQ)
   have lx : (relabel scope X.env).names.lookup x = some .local := lookup_relabel_local ok.QU
   have hg : PG X' (.Name x px) (sO 0) := bf (by rw [eN]; exact ok.nd) (by rw [eN] <;> rfl) (by rw [ee]; exact .inl lx) (by rw [ee]; exact .inr lx)
   have zg := hg _ s5 _ H5 xv u (fun σ6 H6 => σ6 = dg σ (some xv) aX ∧ H6 = H5) Wk r5 ⟨rfl, rfl⟩
   rw [eP, ew, eA, ee, ex] at zg
   refine bQ zg fun _ s6 ⟨σ6, H6, J6, q6⟩ => ?_
   obtain ⟨e6, Wl⟩ := q6
   subst e6 Wl
   have zt := hT' _ s6 _ _ _ J6 (step xv _ y5)
   rw [eP, ew, eA, ee, ex] at zt
   refine bQ zt fun b s7 ⟨H7, J7, q7⟩ => ?_
   have again : ∀ {H8 : Hp} {s8 : Shared} {wo : List V}, Inv X' ([] ++ pU fp s5.heap) (dg σ (some xv) aX) H8 s8 → N wo H8 → ∃ m, m < n ∧ ∃ i o H' ys, Inv X' [] (dg σ o aX) H' s8 ∧ tn i s8.heap ∧ (∀ b ∈ fp, H' b = none) ∧ W i m ys H' := fun {H8 s8 wo} J8 n8 => by
    obtain ⟨m', hm, w8⟩ := hN wo H8 n8
    refine ⟨m', hm, i + 1, some xv, H8, wo, J8.mn, T.keep _ _ _ HQ fun b hb o e => (J8.pin (b, o) (List.mem_append_right _ (List.mem_append_right _ (gP hb e)))).1, fun b hb => ?_, w8⟩
    obtain ⟨o, e, d⟩ := T.obj _ _ HQ b hb
    exact (J8.pin (b, o) (List.mem_append_right _ (List.mem_append_right _ (gP hb e)))).2.1
   cases b with
   | false => exact again J7 q7
   | true =>
    have ze := hE' _ s7 _ H7 _ J7 q7
    rw [eP, ew, eA, ee, ex] at ze
    refine bQ ze fun yv s8 ⟨y, H8, J8, r8, Pp, q8⟩ => ?_
    have za := df (X := X') _ s8 _ H8 (.ref s2.heap.objs.size) [y] (.ref s2.heap.objs.size) [yv] (fun _ H9 => H9 = upd H8 s2.heap.objs.size (.lst (ys ++ [y]))) J8 rfl (.cons r8 .nil) ⟨_, ys, y, rfl, rfl, Pp, hlen, rfl⟩
    rw [eP, ew, eA, ex] at za
    refine bQ za fun _ s9 ⟨_, H9, J9, _, q9⟩ => ?_
    subst q9
    exact again J9 q8
 exact codeAny_compStart_list (loop _ rfl) (T.self _ 0 _ _ _ Uo (loop _ rfl))
theorem bR {x : Str} {px pos : Pos} {iter elt : Expr} {ifs : List Expr} {scope : Scope} {wi : TI} {tt : TT} {te : TE} (aX : List Nat)
  (hc : X.calm = true) (ho : pX X.env.scope scope x (eT X x aX) = true) (hi : PI X (.Name x px) iter wi)
  (ht : ∀ cl C s₀ H₀ ex, K1 (gU X scope cl (eT X x aX) C s₀ H₀ ex) ifs tt) (he : ∀ cl C s₀ H₀ ex, PE (gU X scope cl (eT X x aX) C s₀ H₀ ex) elt te)
  (hs : ∀ x, foldedSetIterable iter X.env x = pure x := by intro _; rfl) : PE X (.ListComp elt [⟨.Name x px, iter, ifs, 0⟩] scope pos) (CI wi tt te aX) := by
 intro pins s σ H Q I h
 rw [eval_ListComp]
 refine sV (use := none) hc ho hi ht he hs I h fun D C H' s' m J q hn hf => ?_
 exact ⟨m, hn, fun h' sb => ⟨.ref D, H', J.turned (t' := s'.toks) (fun b o hb e => (sb.2 b hb).trans e) hf.1 hf.2.1 hf.2.2.2.1 hf.2.2.2.2.1 hf.2.2.2.2.2, rfl, q⟩⟩
theorem pd {i : Nat} {x y : Str} {px py pos Mb : Pos} {iter elt : Expr} {ifs : List Expr} {scope : Scope} {wi : TI} {tt : TT} {te : TE} (aX : List Nat)
  (hN : X.N.Nodup) (Wm : X.N[i]? = some y) (hy : Loc X.env.scope y)
  (hc : X.calm = true) (ho : pX X.env.scope scope x (eT X x aX) = true) (hi : PI X (.Name x px) iter wi)
  (ht : ∀ cl C s₀ H₀ ex, K1 (gU X scope cl (eT X x aX) C s₀ H₀ ex) ifs tt) (he : ∀ cl C s₀ H₀ ex, PE (gU X scope cl (eT X x aX) C s₀ H₀ ex) elt te)
  (hsw : swapsWith (.ListComp elt [⟨.Name x px, iter, ifs, 0⟩] scope pos) (some (.Name y py)) Mb.line X.env = pure true := by rfl)
  (hs : ∀ x, foldedSetIterable iter X.env x = pure x := by intro _; rfl) (hf : X.fn y = true ∨ X.env.scope.names.lookup y = some .local := by first | exact .inl rfl | exact .inr rfl | assumption) :
  PS X (.Assign [.Name y py] (.ListComp elt [⟨.Name x px, iter, ifs, 0⟩] scope pos) Mb) (HK (CI wi tt te aX) (sO i)) := by
 intro pins s σ H D I h
 rw [exec_Assign_Name_used _ _ _ _ hsw]
 refine wpAny_bind (wpAny_standAt (wpAny_bind ?_))
 show wpAny _ X.A (do let _ ← comprehension (.ListComp elt [⟨.Name x px, iter, ifs, 0⟩] scope pos) scope X.env _ (newList []) false (eval iter X.env) (some (assign (.Name y py) X.env))) _ _ s
 refine wpAny_bind (wpAny_mono (sV (QQ := fun _ s' => SP X pins D .next s') (use := some (assign (.Name y py) X.env)) hc ho hi ht he hs I h fun D' C H' s' m J q hn hf' => ?_) (fun _ s' hq => wpAny_pure (wpAny_pure hq)) fun _ _ e => e)
 refine wpAny_assign_Name (sN (v := .ref D') J hN Wm hy rfl (fun s2 I2 Al => ?_) hf)
 obtain ⟨a, sb, ha⟩ := Al
 have hne : C ≠ a := by
  rcases ha with rfl | e
  ·exact hf'.2.1
  ·exact fun z => hf'.2.2.2.2.1 y a e z.symm
 exact ⟨m, hn.sameBut sb hne, fun Zc Wn => ⟨_, H', I2.turned (t' := s2.toks) (fun b o hb e => (Wn.2 b hb).trans e) hf'.1 hf'.2.1 hf'.2.2.2.1 hf'.2.2.2.2.1 hf'.2.2.2.2.2, q⟩⟩
end
section
variable {tt : TT} {te : TE} {aX : List Nat} {σ : St} {H1 : Hp} {Q : VK}
theorem uC {J : It} {D : Addr} (n : Nat) (hn : n < sizeLine) (at_ : Nat → V) (Pv : Nat → List V → Hp → Prop) (h0 : Pv 0 [] (upd H1 D (.lst [])))
  (hst : ∀ ys H, Pv n ys H → J.stop n H) (Wo : ∀ i ys H, Pv i ys H → i < n → J.go i H) (hy : ∀ i ys H x H', Pv i ys H → i < n → J.HM i H x H' → H' = H ∧ x = at_ i)
  (hD : ∀ i ys H, Pv i ys H → H D = some (.lst ys) ∧ ys.length ≤ i)
  (hs : ∀ i ys H, i < n → Pv i ys H → tt (dg σ (some (at_ i)) aX) H fun b H2 =>
   if b = true then te (dg σ (some (at_ i)) aX) H2 fun y H3 => H3 D = some (.lst ys) ∧ Pv (i + 1) (ys ++ [y]) (upd H3 D (.lst (ys ++ [y])))
   else Pv (i + 1) ys H2)
  (hd : ∀ ys H, Pv n ys H → Q (.ref D) H) : pY tt te aX σ Q J H1 D := by
 refine ⟨fun i m ys H => m = n - i ∧ i ≤ n ∧ Pv i ys H, ⟨n, by simp, Nat.zero_le _, h0⟩, ?_⟩
 rintro i m ys H ⟨rfl, hi, p⟩
 obtain ⟨Im, hl⟩ := hD i ys H p
 refine ⟨Im, by omega, ?_⟩
 by_cases gQ : i < n
 ·refine .inr ⟨Wo i ys H p gQ, Pv (i + 1), fun zs H' q => ⟨n - (i + 1), by omega, rfl, gQ, q⟩, fun x H' y => ?_⟩
  obtain ⟨e, e'⟩ := hy i ys H x H' p gQ y
  subst e e'
  exact hs i ys _ gQ p
 ·have e : i = n := by omega
  subst e
  exact .inl ⟨hst ys H p, hd ys H p⟩
theorem fj {lo : Int} {n : Nat} {D : Addr} (hn : n < sizeLine) (Pv : Nat → List V → Hp → Prop) (h0 : Pv 0 [] (upd H1 D (.lst [])))
  (hD : ∀ i ys H, Pv i ys H → H D = some (.lst ys) ∧ ys.length ≤ i)
  (hs : ∀ i ys H, i < n → Pv i ys H → tt (dg σ (some (.int (lo + i))) aX) H fun b H2 =>
   if b = true then te (dg σ (some (.int (lo + i))) aX) H2 fun y H3 => H3 D = some (.lst ys) ∧ Pv (i + 1) (ys ++ [y]) (upd H3 D (.lst (ys ++ [y])))
   else Pv (i + 1) ys H2)
  (hd : ∀ ys H, Pv n ys H → Q (.ref D) H) : pY tt te aX σ Q (GH lo n) H1 D :=
 uC (J := GH lo n) (Q := Q) (D := D) (H1 := H1) n hn (fun i => .int (lo + i)) Pv h0 (fun _ _ _ => Nat.le_refl _) (fun _ _ _ _ h => h) (fun _ _ _ _ _ _ _ y => y) hD hs hd
theorem nG {K : PySem.W.Frag} {a : Addr} {xs : List V} {D : Addr} (hn : xs.length < sizeLine) (Pv : Nat → List V → Hp → Prop) (h0 : Pv 0 [] (upd H1 D (.lst [])))
  (hl : ∀ i ys H, Pv i ys H → aD K H a xs) (hD : ∀ i ys H, Pv i ys H → H D = some (.lst ys) ∧ ys.length ≤ i)
  (hs : ∀ i ys H, i < xs.length → Pv i ys H → tt (dg σ (some (xs.getD i .bz)) aX) H fun b H2 =>
   if b = true then te (dg σ (some (xs.getD i .bz)) aX) H2 fun y H3 => H3 D = some (.lst ys) ∧ Pv (i + 1) (ys ++ [y]) (upd H3 D (.lst (ys ++ [y])))
   else Pv (i + 1) ys H2)
  (hd : ∀ ys H, Pv xs.length ys H → Q (.ref D) H) : pY tt te aX σ Q (EL K a) H1 D :=
 uC (J := EL K a) (Q := Q) (D := D) (H1 := H1) xs.length hn (fun i => xs.getD i .bz) Pv h0 (fun ys H p => ⟨xs, hl _ ys H p, Nat.le_refl _⟩)
  (fun i ys H p h => ⟨xs, xs[i], hl i ys H p, by simp [h]⟩) (fun i ys H x H' p h y => ⟨y.1, by
   have z := y.2 xs (hl i ys H p)
   rw [Gd9, z] <;> rfl⟩) hD hs hd
end
section
variable {X : Cx} {tg : Expr}
end
section
variable {X : Cx}
theorem pZ {zs : List Str} : ∀ {us : List Value}, Vals (zs.map V.str) us → StrsAre us zs := by
 induction zs with
 | nil => intro us r; rw [List.map_nil] at r; cases r; exact .nil
 | cons z zs ih =>
  intro us r
  rw [List.map_cons] at r
  cases r with
  | cons r1 r2 =>
   obtain ⟨t, e⟩ := r1
   subst e
   exact .cons z t (ih r2)
def rJoin (K : PySem.W.Frag) : V → List V → Hp → VK → Prop := fun x vs H Q => ∃ sep l zs, x = .str sep ∧ vs = [.ref l] ∧ (aD K H l (zs.map V.str) ∨ aO K H l (zs.map V.str)) ∧ (zs.map (·.length)).sum + zs.length * sep.length ≤ 16777216 ∧ Q (.str (Txt.join sep zs)) H
theorem E5 : L3 X "str.join" (rJoin X.K) := by
 intro pins s σ H x vs v us Q I rx rv h
 obtain ⟨sep, l, zs, rfl, rfl, hq, hz, q⟩ := h
 obtain ⟨t, rfl⟩ := rx
 obtain ⟨u, rfl, ru⟩ := vals1 rv
 cases ru
 rcases hq with hq | hq
 ·obtain ⟨its, r', pl, _⟩ := I.list hq
  exact join_list (items := its.toArray) pl.isList (pZ r') hz fun t' k => ⟨.str _, H, I.tok _, ⟨t', rfl⟩, q⟩
 ·obtain ⟨its, r', pl, _⟩ := I.tuple hq
  exact join_tuple (items := its.toArray) pl (pZ r') hz fun t' k => ⟨.str _, H, I.tok _, ⟨t', rfl⟩, q⟩
theorem wC : cw X (.builtin "isinstance") (fun xs H Q => ∃ (x : V) (n : String) (t : Value) (b : Bool), xs = [x, .ty n] ∧ nF X.K H x t ∧ PySem.W.kitOne X.K t (.type n) = some b ∧ Q (.bl b) H) := by
 intro pins s σ H xs us Q I r h
 obtain ⟨x, n, t, b, rfl, ty, e, q⟩ := h
 obtain ⟨u, u2, rfl, rx, ru⟩ := vals2 r
 have e2 : u2 = Value.type n := ru
 subst e2
 exact Be I rx ty e fun tk => ⟨.bl b, H, I.tok _, rfl, q⟩
end
end L2
namespace L2
open PySem PySem.Spec PyProof.Rows
section
variable {X : Cx}
def QV : V → Option Int → Option Int → Hp → VK → Prop := fun x lo hi H Q => ∃ z, x = .str z ∧ z.length ≤ sizeLine ∧ Q (.str (Txt.slice z lo hi)) H
theorem part_of {v : Value} {o : Option Int} (p : IsPart v o) : ∃ q : Option (Int × Tok), v = partValue q ∧ q.map (·.1) = o := by
 cases p with
 | none => exact ⟨none, rfl, rfl⟩
 | int i t => exact ⟨some (i, t), rfl, rfl⟩
theorem uD : LY X QV := by
 intro pins s σ H x v vl vu lo hi sl Q I rx hs pl pu h
 obtain ⟨z, rfl, hz, q⟩ := h
 obtain ⟨t, rfl⟩ := rx
 obtain ⟨ql, rfl, el⟩ := part_of pl
 obtain ⟨qu, rfl, eu⟩ := part_of pu
 refine ⟨"str", _, F.slot_str_getitem.lookup, typeIs_str _ _ _, wpAny_getItem_str_slice (l := ql) (u := qu) (st := none) hs rfl ?_⟩
 have e : sliceMade z t ql qu none = if ((1 : Int) == 1 && (Builtin.Str.strSliceIndices lo hi 1 z.length).length == z.length) = true then .val (.str z t) else .str ⟨((Builtin.Str.strSliceIndices lo hi 1 z.length).filterMap (z.cps[·]?)).toArray⟩ := by
  unfold sliceMade slicePicked
  rw [el, eu]
  rfl
 rw [e]
 exact post_val_or_str ⟨Nat.le_trans (Txt.slice_le z lo hi) hz, fun t' k => ⟨.str (Txt.slice z lo hi), H, I.tok _, ⟨t', rfl⟩, q⟩⟩
theorem CJ {z : Str} {j : Int} (h0 : 0 ≤ j) (h1 : j ≤ z.length) : (Txt.slice z none (some j)).cps.toList = z.cps.toList.take j.toNat := by
 have e := eq_of_beq (slice_closes_toL (x := z) h0 h1)
 rw [e]
 simp
theorem Bm {z : Str} {i j : Int} (h0 : 0 ≤ i) (h1 : i ≤ j) (h2 : j ≤ z.length) : (Txt.slice z (some i) (some j)).cps.toList = (z.cps.toList.drop i.toNat).take (j - i).toNat := by
 have e := eq_of_beq (slice_closesL (x := z) h0 h1 h2)
 rw [e]
end
inductive Dt where
 | bz | bl (b : Bool) | int (i : Int) | str (x : Str) | tup (ds : List Dt)
 deriving Inhabited
inductive cB (K : PySem.W.Frag) (H : Hp) : Dt → V → Prop
 | bz : cB K H .bz .bz
 | bl (b : Bool) : cB K H (.bl b) (.bl b)
 | int (i : Int) : cB K H (.int i) (.int i)
 | str (x : Str) : cB K H (.str x) (.str x)
 | tup {ds : List Dt} {xs : List V} {a : Addr} (h : aO K H a xs) (l : ds.length = xs.length) (r : ∀ (i : Nat) (h1 : i < ds.length) (h2 : i < xs.length), cB K H ds[i] xs[i]) : cB K H (.tup ds) (.ref a)
mutual
def Dt.deep : Dt → Nat
 | .tup ds => Dt.bJ ds + 1
 | _ => 0
def Dt.bJ : List Dt → Nat
 | [] => 0
 | d :: r => max (Dt.deep d) (Dt.bJ r)
end
theorem cg : ∀ {ds : List Dt} {i : Nat} (h : i < ds.length), (ds[i]).deep ≤ Dt.bJ ds
 | d :: r, 0, _ => by
  show d.deep ≤ max (Dt.deep d) (Dt.bJ r)
  omega
 | d :: r, i + 1, h => by
  have z := cg (ds := r) (i := i) (by simpa using h)
  show (r[i]'(by simpa using h)).deep ≤ max (Dt.deep d) (Dt.bJ r)
  omega
mutual
def nH : Dt → Dt → Bool
 | .bz, .bz => true
 | .bl a, .bl b => a == b
 | .bl a, .int b => (if a then 1 else 0) == b
 | .int a, .bl b => a == (if b then 1 else 0)
 | .int a, .int b => a == b
 | .str a, .str b => a == b
 | .tup a, .tup b => ky a b
 | _, _ => false
def ky : List Dt → List Dt → Bool
 | [], [] => true
 | a :: r, b :: q => nH a b && ky r q
 | _, _ => false
end
theorem gW : ∀ (a b : List Dt), ((List.range (min a.length b.length)).all (fun i => nH (a.getD i .bz) (b.getD i .bz)) && a.length == b.length) = ky a b
 | [], [] => by unfold ky; rfl
 | [], b :: q => by unfold ky; simp
 | a :: r, [] => by unfold ky; simp
 | a :: r, b :: q => by
  have ih := gW r q
  rw [ky, ← ih]
  have e : min (a :: r).length (b :: q).length = min r.length q.length + 1 := by simp only [List.length_cons]; omega
  rw [e, List.range_succ_eq_map, List.all_cons, List.all_map]
  have e2 : ((a :: r).length == (b :: q).length) = (r.length == q.length) := by simp
  rw [e2, Bool.and_assoc]
  rfl
theorem wD {K : PySem.W.Frag} {H : Hp} {X : Cx} {pins : List (Addr × Obj)} {σ : St} {s : Shared} (I : Inv X pins σ H s) (hK : X.K = K) :
  ∀ (n : Nat) {d e : Dt} {x : V}, d.deep ≤ n → cB K H d x → cB K H e x → nH d e = true := by
 subst hK
 intro n
 induction n with
 | zero =>
  intro d e x hd h1 h2
  cases h1 with
  | bz => cases h2; rfl
  | bl a => cases h2; show (a == a) = true; exact beq_self_eq_true a
  | int a => cases h2; show (a == a) = true; exact beq_self_eq_true a
  | str a => cases h2; show (a == a) = true; exact beq_self_eq_true a
  | tup h l r => exact absurd hd (by simp [Dt.deep])
 | succ n ih =>
  intro d e x hd h1 h2
  cases h1 with
  | @tup ds xs a h l r =>
   cases h2 with
   | @tup es ys b h' l' r' =>
    have hx : xs = ys := I.nB h h'
    subst hx
    show ky ds es = true
    rw [← gW, Bool.and_eq_true, List.all_eq_true]
    refine ⟨fun j hj => ?_, by rw [l, l']; simp⟩
    have hj' := List.mem_range.mp hj
    have g1 : ds.getD j .bz = ds[j]'(by omega) := by simp [Gd9, (show j < ds.length by omega)]
    have g2 : es.getD j .bz = es[j]'(by omega) := by simp [Gd9, (show j < es.length by omega)]
    rw [g1, g2]
    refine ih ?_ (r j (by omega) (by omega)) (r' j (by omega) (by omega))
    have z := cg (ds := ds) (i := j) (by omega)
    have hd' : Dt.bJ ds + 1 ≤ n + 1 := hd
    omega
  | bz => exact ih (by simp [Dt.deep]) .bz h2
  | bl a => exact ih (by simp [Dt.deep]) (.bl a) h2
  | int a => exact ih (by simp [Dt.deep]) (.int a) h2
  | str a => exact ih (by simp [Dt.deep]) (.str a) h2
theorem gY {K : PySem.W.Frag} {H : Hp} {X : Cx} {pins : List (Addr × Obj)} {σ : St} {s : Shared} (I : Inv X pins σ H s) (hK : X.K = K) :
  ∀ (n : Nat) (A : Around) {d e : Dt} {x y : V} {u v : Value}, d.deep ≤ n → A.units + n < cLine → cB K H d x → cB K H e y → RelV x u → RelV y v → SeqAt.EqAt A s u v (nH d e) := by
 subst hK
 intro n
 induction n with
 | zero =>
  intro A d e x y u v hd hu h1 h2 ru rv
  cases h1 with
  | bz =>
   cases ru
   cases h2 with
   | bz => cases rv; exact SeqAt.EqAt.same _
   | bl b => cases rv; exact SeqAt.EqAt.none_bool b
   | int b => obtain ⟨t, rfl⟩ := rv; exact SeqAt.EqAt.none_int b t
   | str b => obtain ⟨t, rfl⟩ := rv; exact SeqAt.EqAt.none_str b t
   | tup h l r => cases rv; obtain ⟨its, _, p, _⟩ := I.tuple h; exact SeqAt.EqAt.none_tuple p (by omega)
  | bl a =>
   cases ru
   cases h2 with
   | bz => cases rv; exact SeqAt.EqAt.bool_none a
   | bl b => cases rv; exact SeqAt.EqAt.bool_bool a b
   | int b => obtain ⟨t, rfl⟩ := rv; exact SeqAt.EqAt.bool_int a b t
   | str b => obtain ⟨t, rfl⟩ := rv; exact SeqAt.EqAt.bool_str a b t
   | tup h l r => cases rv; obtain ⟨its, _, p, _⟩ := I.tuple h; exact SeqAt.EqAt.bool_tuple a p (by omega)
  | int a =>
   obtain ⟨t', rfl⟩ := ru
   cases h2 with
   | bz => cases rv; exact SeqAt.EqAt.int_none a t'
   | bl b => cases rv; exact SeqAt.EqAt.int_bool a t' b
   | int b => obtain ⟨t, rfl⟩ := rv; exact SeqAt.EqAt.int_int a t' b t
   | str b => obtain ⟨t, rfl⟩ := rv; exact SeqAt.EqAt.int_str a t' b t
   | tup h l r => cases rv; obtain ⟨its, _, p, _⟩ := I.tuple h; exact SeqAt.EqAt.int_tuple a t' p (by omega)
  | str a =>
   obtain ⟨t', rfl⟩ := ru
   cases h2 with
   | bz => cases rv; exact SeqAt.EqAt.str_none a t'
   | bl b => cases rv; exact SeqAt.EqAt.str_bool a t' b
   | int b => obtain ⟨t, rfl⟩ := rv; exact SeqAt.EqAt.str_int a t' b t
   | str b => obtain ⟨t, rfl⟩ := rv; exact SeqAt.EqAt.str_str a t' b t
   | tup h l r => cases rv; obtain ⟨its, _, p, _⟩ := I.tuple h; exact SeqAt.EqAt.str_tuple a t' p (by omega)
  | tup h l r => exact absurd hd (by simp [Dt.deep])
 | succ n ih =>
  intro A d e x y u v hd hu h1 h2 ru rv
  cases h1 with
  | @tup ds xs a h l r =>
   cases ru
   obtain ⟨its, r1, p1, _⟩ := I.tuple h
   cases h2 with
   | bz => cases rv; exact SeqAt.EqAt.tuple_none p1 (by omega)
   | bl b => cases rv; exact SeqAt.EqAt.tuple_bool b p1 (by omega)
   | int b => obtain ⟨t, rfl⟩ := rv; exact SeqAt.EqAt.tuple_int b t p1 (by omega)
   | str b => obtain ⟨t, rfl⟩ := rv; exact SeqAt.EqAt.tuple_str b t p1 (by omega)
   | @tup es ys b h' l' r' =>
    cases rv
    obtain ⟨bw, r2, p2, _⟩ := I.tuple h'
    have rL := r1.length
    have rM := r2.length
    have key : SeqAt.RcAt A s (.ref a) (.ref b) ((List.range (min its.toArray.size bw.toArray.size)).all (fun i => nH (ds.getD i .bz) (es.getD i .bz)) && its.toArray.size == bw.toArray.size) := by
     refine SeqAt.RcAt.tuples p1 p2 (by omega) fun j j1 j2 => ?_
     have Pq : j < its.length := by simpa using j1
     have Pu : j < bw.length := by simpa using j2
     have hx := r j (by omega) (by omega)
     have hy := r' j (by omega) (by omega)
     obtain ⟨u1, e1, q1⟩ := r1.get (i := j) (x := xs[j]) (by simp)
     obtain ⟨u2, e2, q2⟩ := r2.get (i := j) (x := ys[j]) (by simp)
     have c1 : its.toArray[j] = u1 := by
      have z := List.getElem?_eq_some_iff.mp e1
      simpa using z.2
     have c2 : bw.toArray[j] = u2 := by
      have z := List.getElem?_eq_some_iff.mp e2
      simpa using z.2
     rw [c1, c2]
     have g1 : ds.getD j .bz = ds[j] := by simp [Gd9, (show j < ds.length by omega)]
     have g2 : es.getD j .bz = es[j] := by simp [Gd9, (show j < es.length by omega)]
     rw [g1, g2]
     refine ih A.in1 ?_ (by show A.units + 1 + n < cLine; omega) hx hy q1 q2
     have z := cg (ds := ds) (i := j) (by omega)
     have hd' : Dt.bJ ds + 1 ≤ n + 1 := hd
     omega
    have e0 : ((List.range (min its.toArray.size bw.toArray.size)).all (fun i => nH (ds.getD i .bz) (es.getD i .bz)) && its.toArray.size == bw.toArray.size) = nH (.tup ds) (.tup es) := by
     rw [List.size_toArray, List.size_toArray, ← rL, ← rM, ← l, ← l']
     rw [gW]
     rfl
    rw [e0] at key
    by_cases hab : a = b
    ·subst hab
     have hx : xs = ys := I.nB h h'
     subst hx
     have ed : nH (.tup ds) (.tup es) = true := wD I rfl (n + 1) hd (.tup h l r) (.tup h' l' r')
     rw [ed]
     exact SeqAt.EqAt.same _
    ·exact SeqAt.EqAt.of_refs hab key
  | bz => exact ih A (by simp [Dt.deep]) (by omega) .bz h2 ru rv
  | bl a => exact ih A (by simp [Dt.deep]) (by omega) (.bl a) h2 ru rv
  | int a => exact ih A (by simp [Dt.deep]) (by omega) (.int a) h2 ru rv
  | str a => exact ih A (by simp [Dt.deep]) (by omega) (.str a) h2 ru rv
def QW (K : PySem.W.Frag) : R2 := fun x y H Q => ∃ d e, cB K H d x ∧ cB K H e y ∧ d.deep ≤ 20 ∧ (∃ ds, d = .tup ds) ∧ (∃ es, e = .tup es) ∧ Q (.bl (nH d e)) H
theorem Io {X : Cx} (hu : X.A.units + 64 < cLine) : nC X (compareOp .Eq) (QW X.K) := by
 intro pins s σ H x y v u Q I rx ry h
 obtain ⟨d, e, h1, h2, hd, ⟨ds, rfl⟩, ⟨es, rfl⟩, q⟩ := h
 cases h1 with
 | @tup _ xs a g1 l1 r1 =>
  cases h2 with
  | @tup _ ys b g2 l2 r2 =>
   cases rx
   cases ry
   obtain ⟨its, sW, p1, _⟩ := I.tuple g1
   obtain ⟨bw, sX, p2, _⟩ := I.tuple g2
   have rL := sW.length
   have rM := sX.length
   refine SeqAt.eq_tupleAt (e := fun i => nH (ds.getD i .bz) (es.getD i .bz)) p1 p2 (by omega) (fun j j1 j2 => ?_) ?_
   ·have Pq : j < its.length := by simpa using j1
    have Pu : j < bw.length := by simpa using j2
    obtain ⟨u1, e1, q1⟩ := sW.get (i := j) (x := xs[j]) (by simp)
    obtain ⟨u2, e2, q2⟩ := sX.get (i := j) (x := ys[j]) (by simp)
    have c1 : its.toArray[j] = u1 := by
     have z := List.getElem?_eq_some_iff.mp e1
     simpa using z.2
    have c2 : bw.toArray[j] = u2 := by
     have z := List.getElem?_eq_some_iff.mp e2
     simpa using z.2
    rw [c1, c2]
    have g1 : ds.getD j .bz = ds[j] := by simp [Gd9, (show j < ds.length by omega)]
    have g2 : es.getD j .bz = es[j] := by simp [Gd9, (show j < es.length by omega)]
    rw [g1, g2]
    refine gY I rfl 20 X.A.in1 ?_ (by show X.A.units + 1 + 20 < cLine; omega) (r1 j (by omega) (by omega)) (r2 j (by omega) (by omega)) q1 q2
    have z := cg (ds := ds) (i := j) (by omega)
    have hd' : Dt.bJ ds + 1 ≤ 20 := hd
    omega
   ·refine ⟨.bl _, H, I, rfl, ?_⟩
    rw [List.size_toArray, List.size_toArray, ← rL, ← rM, ← l1, ← l2, gW]
    exact q
theorem cB.mono {K : PySem.W.Frag} {H H' : Hp} (e : ∀ a xs, aO K H a xs → aO K H' a xs) {d : Dt} {x : V} (h : cB K H d x) : cB K H' d x := by
 induction h with
 | bz => exact .bz
 | bl b => exact .bl b
 | int i => exact .int i
 | str z => exact .str z
 | tup h l r ih => exact .tup (e _ _ h) l ih
theorem aO.same {K : PySem.W.Frag} {H H' : Hp} (e : ai H H') {a : Addr} {xs : List V} (h : aO K H a xs) : aO K H' a xs := by
 rcases h with (h | ⟨o, h⟩) | h
 ·exact .inl (.inl (e _ _ h))
 ·exact .inl (.inr ⟨o, e _ _ h⟩)
 ·exact .inr h
theorem cB.same {K : PySem.W.Frag} {H H' : Hp} (e : ai H H') {d : Dt} {x : V} (h : cB K H d x) : cB K H' d x := h.mono fun _ _ q => q.same e
end L2
namespace L2
open PySem PySem.Spec PyProof.Rows
structure QX (P : Program) (w : World) (outer : List Env) (H : Hp) (s : Shared) (x : Addr) (cls : Value) (H' : Hp) (s' : Shared) : Prop where
 os : s'.os = s.os
 bare : AllBare s'.gens
 ex : ∃ (B : Heap) (a0 : Value), Heap.FlyingW B outer x cls a0 s'.heap ∧ jh P w H' B ∧ (∀ b o, s.heap.get? b = some o → H b = none → b ∉ eY outer → B.get? b = some o) ∧
  (∀ b o, s.heap.get? b = some o → b ∉ eY outer → ∃ o', B.get? b = some o')
 slot : ∀ b o, s.heap.get? b = some o → H b = none → b ∈ eY outer → ∃ sl, s'.heap.get? b = some { o with slots := sl }
 free : ∀ b o, s.heap.get? b = some o → H b = none → H' b = none
 jd : ∀ b xs, H b = some (.tup xs) → H' b = some (.tup xs)
 gM : ∀ b o u, H b = some (.ku o u) → H' b = some (.ku o u)
 je : ∀ b ps, H b = some (.Ew ps) → ∃ more, H' b = some (.Ew (ps ++ more))
def wF (P : Program) (w : World) : Ca := fun outer H s E e s' => ∃ (x : Addr) (cls : Value) (H' : Hp), e = .ref x ∧ QX P w outer H s x cls H' s' ∧ E cls none H'
section
variable {P : Program} {w : World} {K : PySem.W.Frag} {mg : Str → Option Value} {base : Heap} {N : List Str} {qual : Str} {scope : Scope} {f : Addr} {cd : Value} {A : Around} {outer : List Env} {s₀ : Shared} {H₀ : Hp} {E : XK}
abbrev gL (P : Program) (w : World) (K : PySem.W.Frag) (mg : Str → Option Value) (base : Heap) (N : List Str) (qual : Str) (scope : Scope) (f : Addr) (cd : Value) (A : Around) (outer : List Env) (s : Shared) (H : Hp) (E : XK) : Cx :=
 ym (wF P w) P w K mg base N qual scope f cd A outer s H E
theorem p4 (env : Env) (l : List Env) {a : Addr} (h : env.frame = some a) : eY (env :: l) = a :: eY l := by
 unfold eY
 rw [List.filterMap_cons, h]
theorem wG {h h' : Heap} {l : List Env} {B : Heap} (sm : h.UpToSlots h') (fl : h.FunFrames B l) {b : Addr} {o : Obj} (hb : b ∈ eY l) (e : h.get? b = some o) : ∃ sl, h'.get? b = some { o with slots := sl } := by
 obtain ⟨_, o', e', hd⟩ := fl.mem hb
 rw [e] at e'
 cases e'
 exact sm b o e hd
theorem Mc : Passes (wF P w) (gL P w K mg base N qual scope f cd A outer s₀ H₀ E) E := by
 intro pins σ H s e s' I h
 obtain ⟨x, cls, H', rfl, F, hE⟩ := h
 obtain ⟨B, a0, fl, hok, kp, th⟩ := F.ex
 have xX : (gL P w K mg base N qual scope f cd A outer s₀ H₀ E).env.frame = some s₀.heap.objs.size := rfl
 have st : eY (gL P w K mg base N qual scope f cd A outer s₀ H₀ E).stack = s₀.heap.objs.size :: eY outer := p4 _ _ xX
 have old : ∀ b o, s₀.heap.get? b = some o → b ∉ eY outer → b ∉ eY (gL P w K mg base N qual scope f cd A outer s₀ H₀ E).stack := fun b o q hb hm => by
  rw [st] at hm
  rcases List.mem_cons.mp hm with z | z
  ·exact Nat.ne_of_lt (Heap.lt_size q) z
  ·exact hb z
 refine wpAny_leaves_onW (L := s₀.heap.objs.size) I.ok.frames xX fl fun h1 Wq GN => ?_
 refine ⟨x, cls, H', rfl, ⟨F.os.trans I.os, F.bare, ⟨B, a0, Wq, hok, fun b o q n hb => ?_, fun b o q hb => ?_⟩, fun b o q n hb => ?_, fun b o q n => ?_, fun b xs q => F.jd b xs (I.base.jd b xs q), fun b o u q => F.gM b o u (I.base.gM b o u q), fun b ps q => ?_⟩, hE⟩
 ·exact kp b o (I.base.keep b o q n hb (by intro z; cases z)) (I.base.free b o q n (by intro z; cases z)) (old b o q hb)
 ·obtain ⟨o', q'⟩ := I.base.there b o q (by intro z; cases z)
  exact th b o' q' (old b o q hb)
 ·obtain ⟨sl, q1⟩ := I.base.slot b o q n hb (by intro z; cases z)
  obtain ⟨yo, q2⟩ := F.slot b _ q1 (I.base.free b o q n (by intro z; cases z)) (by rw [st]; exact List.mem_cons_of_mem _ hb)
  obtain ⟨Md, q3⟩ := wG (l := (gL P w K mg base N qual scope f cd A outer s₀ H₀ E).stack) GN fl.2.2.1 (by rw [st]; exact List.mem_cons_of_mem _ hb) q2
  exact ⟨Md, q3⟩
 ·obtain ⟨o', q'⟩ := I.base.there b o q (by intro z; cases z)
  exact F.free b o' q' (I.base.free b o q n (by intro z; cases z))
 ·obtain ⟨m1, e1⟩ := I.base.je b ps q
  obtain ⟨m2, e2⟩ := F.je b _ e1
  exact ⟨m1 ++ m2, by rw [e2, Array.append_assoc]⟩
theorem wH {pins : List (Addr × Obj)} {σ : St} {H : Hp} {s : Shared} {h1 : Heap} {e : Addr} {cls : Value} {vs : List Value} (I : Inv (gL P w K mg base N qual scope f cd A outer s₀ H₀ E) pins σ H s) (hx : Heap.MadeExcOf s.heap h1 e cls vs) (hE : E cls none H) :
  (gL P w K mg base N qual scope f cd A outer s₀ H₀ E).xe (.ref e) { s with heap := h1 } := by
 have xX : (gL P w K mg base N qual scope f cd A outer s₀ H₀ E).env.frame = some s₀.heap.objs.size := rfl
 have st : eY (gL P w K mg base N qual scope f cd A outer s₀ H₀ E).stack = s₀.heap.objs.size :: eY outer := p4 _ _ xX
 have old : ∀ b o, s₀.heap.get? b = some o → b ∉ eY outer → b ∉ eY (gL P w K mg base N qual scope f cd A outer s₀ H₀ E).stack := fun b o q hb hm => by
  rw [st] at hm
  rcases List.mem_cons.mp hm with z | z
  ·exact Nat.ne_of_lt (Heap.lt_size q) z
  ·exact hb z
 have Wr : ∀ env ∈ (gL P w K mg base N qual scope f cd A outer s₀ H₀ E).stack, ∀ b, env.frame = some b → b ∈ eY (gL P w K mg base N qual scope f cd A outer s₀ H₀ E).stack := fun env he b hb => List.mem_filterMap.mpr ⟨env, he, hb⟩
 have hB : (PySem.W.hideAll s.heap (eY (gL P w K mg base N qual scope f cd A outer s₀ H₀ E).stack)).StaysIn s.heap := fun b o q => PySem.W.of_hideAll _ q
 have get : ∀ b o, s.heap.get? b = some o → b ∉ eY (gL P w K mg base N qual scope f cd A outer s₀ H₀ E).stack → (PySem.W.hideAll s.heap (eY (gL P w K mg base N qual scope f cd A outer s₀ H₀ E).stack)).get? b = some o := fun b o q hb => PySem.W.hideAll_get _ q hb
 refine wpAny_leaves_madeW (base := PySem.W.hideAll s.heap (eY (gL P w K mg base N qual scope f cd A outer s₀ H₀ E).stack)) (h := s.heap) (L := s₀.heap.objs.size) I.ok.frames xX hB (PySem.W.funFrames_hide I.stack Wr) hx fun h2 t fl ht hn sm => ?_
 have hok : jh P w H (PySem.W.hideAll s.heap (eY (gL P w K mg base N qual scope f cd A outer s₀ H₀ E).stack)) := fun b o q => by
  refine (I.hok b o q).wy (fun c u hc r => get c u r fun hm => ?_) (fun _ r => r) fun _ _ r => r
  have z := I.um c hm
  rcases hc with rfl | hc
  ·rw [q] at z; cases z
  ·rw [hc] at z; cases z
 refine ⟨e, cls, H, rfl, ⟨I.os, I.bare, ⟨_, _, fl, hok, fun b o q n hb => ?_, fun b o q hb => ?_⟩, fun b o q n hb => ?_, fun b o q n => I.base.free b o q n (by intro z; cases z), I.base.jd, I.base.gM, I.base.je⟩, hE⟩
 ·exact get b o (I.base.keep b o q n hb (by intro z; cases z)) (old b o q hb)
 ·obtain ⟨o', q'⟩ := I.base.there b o q (by intro z; cases z)
  exact ⟨o', get b o' q' (old b o q hb)⟩
 ·obtain ⟨sl, q1⟩ := I.base.slot b o q n hb (by intro z; cases z)
  have q2 := hx.keeps b _ q1
  have Uq : b ∈ eY (gL P w K mg base N qual scope f cd A outer s₀ H₀ E).stack := by rw [st]; exact List.mem_cons_of_mem _ hb
  obtain ⟨_, o3, e3, hd⟩ := I.stack.mem Uq
  rw [q1] at e3
  cases e3
  obtain ⟨Md, q3⟩ := sm b _ q2 hd
  exact ⟨Md, q3⟩
end
theorem Ip {K : PySem.W.Frag} {h : Heap} {C : Addr} {Ur : List Value} {newId : String} (X : K.In h) (q : PySem.W.excIn K C Ur newId = true) :
  ∃ (bm : List Value) (Nn : Addr) (n1 n2 : Str) (bs : List Value) (hd : Bool) (sn : List Str) (sub : List Value) (ab : Bool) (col : Option Bool) (dd : Option Addr) (k0 k1 k2 k3 k5 : Option Value) (mN : Str → Option Value),
   h.get? C = some (excClassObj n1 n2 C Nn bs bm hd sn sub ab col dd k0 k1 k2 k3 k5 newId) ∧ h.Ns Nn mN ∧ mN "__init__" = none ∧ OwnTail h Ur bm := by
 unfold PySem.W.excIn at q
 split at q
 ·rename_i dd QY sl look
  split at q
  ·rename_i C1 bm k0 k1 k2 k3 nn k5 Me Ws
   simp only [Bool.and_eq_true, beq_iff_eq, Bool.not_eq_true'] at q
   obtain ⟨⟨⟨⟨⟨q1, q2⟩, q3⟩, q4⟩, q5⟩, q6⟩ := q
   subst q1
   subst q2
   obtain ⟨c1, c2, c3, c4, c5, c6, c7, c8, c9, Wt, Zd⟩ := QY
   dsimp only at Me q3 q5 q6
   subst Me
   subst q3
   obtain ⟨Wu⟩ := sl
   have es : Wu = [k0, k1, k2, k3, some (.builtin nn), k5] := Ws
   subst es
   exact ⟨bm, c4, c1, c5, c2, c6, c7, c8, c9, Wt, dd, k0, k1, k2, k3, k5, _, X _ _ look, .of_isNs (PySem.W.isNs_of_in X q5), PySem.W.nsMap_none_of_in X q5 q6, PySem.W.tail_of_in X q4⟩
  ·cases q
 ·cases q
abbrev E6 : List Value := [.type "ValueError", .type "Exception", .type "BaseException", .type "object"]
abbrev uE : String := "ValueError.__new__"
section
variable {P : Program} {w : World} {K : PySem.W.Frag} {mg : Str → Option Value} {base : Heap} {N : List Str} {qual : Str} {scope : Scope} {f : Addr} {cd : Value} {A : Around} {outer : List Env} {s₀ : Shared} {H₀ : Hp} {E : XK}
def Iq (C : Addr) (E : XK) (ta : TA) : TS := fun _ σ H => ta σ H fun vs H1 => vs.length ≤ sizeLine ∧ E (.ref C) none H1
theorem mF {C : Addr} {x : Str} {np cpos pos : Pos} {e : Expr} {es : List Expr} {t : TA} (ex : PySem.W.excIn K C E6 uE = true) (hm : mg x = some (.ref C)) (hg : Gl (gL P w K mg base N qual scope f cd A outer s₀ H₀ E) x)
  (ha : PA (gL P w K mg base N qual scope f cd A outer s₀ H₀ E) (e :: es) t) (uw : (x == ("__debug__" : Str)) = false := by decide)
  (he : starEach (e :: es) (gL P w K mg base N qual scope f cd A outer s₀ H₀ E).env = (false, eval e (gL P w K mg base N qual scope f cd A outer s₀ H₀ E).env) :: starEach es (gL P w K mg base N qual scope f cd A outer s₀ H₀ E).env := by rfl)
  (hpl : (backTo cpos (starEach es (gL P w K mg base N qual scope f cd A outer s₀ H₀ E).env)).any (·.1) = false := by rfl) :
  PS (gL P w K mg base N qual scope f cd A outer s₀ H₀ E) (.Raise (some (.Call (.Name x np) (e :: es) [] cpos)) none pos) (Iq C E t) := by
 intro pins s σ H D I h
 obtain ⟨bm, Nn, n1, n2, bs, hd, sn, sub, ab, col, dd, k0, k1, k2, k3, k5, mN, gC, gN, gi, gT⟩ := Ip I.mod.Ly ex
 refine wpAny_Raise_call_subU (C := C) (nm := n1) (q := n2) (N := Nn) (bs := bs) (bm := bm) (hdct := hd) (sn := sn) (sub := sub) (ab := ab) (col := col) (dd := dd) (k0 := k0) (k1 := k1) (k2 := k2) (k3 := k3) (k5 := k5) (mN := mN)
  PySem.F.excBase_ValueError (by decide +kernel) PySem.F.excBase_ValueError (gT.hasType (by decide +kernel)) (I.ok.hd rfl) (by rw [he]; show (false || (backTo cpos (starEach es (gL P w K mg base N qual scope f cd A outer s₀ H₀ E).env)).any (·.1)) = false; rw [hpl]; rfl) gi (mj I hg hm ⟨rfl, ?_⟩ uw)
 have hA := ha cpos pins s σ H _ I h
 rw [he] at hA ⊢
 refine Calls.evalArgs_plain (bQ hA fun us s2 ⟨vs, H2, I2, r2, hz, q2⟩ => ⟨rfl, ?_, I2.bk _ _ gC, gN.keeps I2.bk, gT.keeps I2.bk, fun h' x' hx => wH I2 hx q2⟩)
 show us.length ≤ sizeLine
 rw [← r2.length]
 exact hz
theorem cP.K2 {x qual : Str} {st : Stmt} {f : Addr} {fd : FuncData} {N ps : List Str} {k : Nat} {sp : Sp} (F : cP K x qual st f fd) (S : aF N ps (au st)) (len : ∀ vs H Q E, sp vs H Q E → vs.length = ps.length)
  (mr : ∀ (dn : Value) (A : Around) (outer : List Env) (s : Shared) (H : Hp) (vs : List V) (Q : VK) (E : XK), d9 k (A.deeper (envOfC qual (au st) s.heap.objs.size f dn)) → sp vs H Q E →
   ∃ t, xT (gL P w K mg base N qual (au st) f dn A outer s H E) (fS st) t ∧ t { nx := fun _ H' => Q .bz H', rt := Q } (start N vs) H) : bN P w K mg base (wF P w) (k + 1) f fd ps sp := by
 obtain ⟨oc, od, kV, doc, pm, an, dn, ct, ER, rfl, lk, hcd⟩ := F.ex
 refine GJ lk hcd S len fun A outer s H vs Q E hr Ey => ?_
 exact mr dn A outer s H vs Q E hr Ey
theorem ef : PassesOwn (model P w) (gL P w K mg base N qual scope f cd A outer s₀ H₀ E).A (gL P w K mg base N qual scope f cd A outer s₀ H₀ E).env (gL P w K mg base N qual scope f cd A outer s₀ H₀ E).xe := by
 intro e s' h
 have z := PassesOwn.leaving (M := model P w) (A := (gL P w K mg base N qual scope f cd A outer s₀ H₀ E).A) (env := (gL P w K mg base N qual scope f cd A outer s₀ H₀ E).env) (Q₁ := fun e s'' => wF P w outer H₀ s₀ E e s'') (E₁ := fun e' s'' => wF P w outer H₀ s₀ E e' s'')
 exact z e s' h
end
theorem Inv.land {X : Cx} {pins ff : List (Addr × Obj)} {σ : St} {H H' : Hp} {s s' : Shared} {h6 : Heap} {x : Addr} {cls : Value} (I : Inv X ff σ H s) (hp : ∀ p ∈ pins, p ∈ X.pn ++ ff) (hex : X.ex = []) (EJ : ∀ y, X.fn y = true)
  (hst : X.stack = X.env :: X.outer ∧ X.env.frame = some X.env.locals) (F : QX X.prog X.w X.stack H s x cls H' s') {B : Heap} {a0 : Value} (fl : Heap.FlyingW B X.stack x cls a0 s'.heap) (hok : jh X.prog X.w H' B)
  (kp : ∀ b o, s.heap.get? b = some o → H b = none → b ∉ eY X.stack → B.get? b = some o) (th : ∀ b o, s.heap.get? b = some o → b ∉ eY X.stack → ∃ o', B.get? b = some o') (sm : s'.heap.UpToSlots h6) (hB : B.StaysIn h6) :
  Inv X pins σ H' { s' with heap := h6 } := by
 have E7 : eY X.stack = X.env.locals :: X.fs := by rw [hst.1]; exact p4 _ _ hst.2
 have Ze : ∀ b : Addr, b ∉ X.ex := fun b z => by rw [hex] at z; cases z
 have Pw : ∀ b, b ≠ X.env.locals → b ∉ X.fs → b ∉ eY X.stack := fun b h1 h2 hm => by
  rw [E7] at hm
  rcases List.mem_cons.mp hm with z | z
  ·exact h1 z
  ·exact h2 z
 have Lz : ∀ b o, X.s₀.heap.get? b = some o → b ≠ X.env.locals := fun b o e => Nat.ne_of_lt (Nat.lt_of_lt_of_le (Heap.lt_size e) I.ok.above)
 have cnf : ∀ y c, X.env.cells.lookup y = some c → c ∉ X.fs := fun y c e hm => by
  obtain ⟨_, o, ho, _⟩ := I.ok.nA.mem hm
  exact absurd (Nat.lt_of_lt_of_le (Heap.lt_size ho) (I.ok.HC y c (EJ y) e)) (Nat.lt_irrefl _)
 have cellK : ∀ y c v, X.env.cells.lookup y = some c → s.heap.IsCell c v → h6.IsCell c v := fun y c v e ⟨o, ho, hd⟩ => ⟨o, hB _ _ (kp c o ho (I.eQ y c e) (Pw c (I.A7 y c e) (cnf y c e))), hd⟩
 refine ⟨I.ok, F.os.trans I.os, F.bare, ⟨fun b o e n hb hx => ?_, fun b o e n hb hx => ?_, fun b o e n hx => ?_, fun b o e hx => ?_, fun b xs e => F.jd b xs (I.base.jd b xs e), fun b o u e => F.gM b o u (I.base.gM b o u e), fun b ps e => ?_⟩, ?_, fun y c e => ?_, ?_, fun y c e => ?_, fun p Wv => ?_, hok.kept hB, I.len⟩
 ·exact hB _ _ (kp b o (I.base.keep b o e n hb hx) (I.base.free b o e n hx) (Pw b (Lz b o e) hb))
 ·obtain ⟨sl, e1⟩ := I.base.slot b o e n hb hx
  have hm : b ∈ eY X.stack := by rw [E7]; exact List.mem_cons_of_mem _ hb
  obtain ⟨yo, e2⟩ := F.slot b _ e1 (I.base.free b o e n hx) hm
  obtain ⟨Md, e3⟩ := wG sm fl.2.2.1 hm e2
  exact ⟨Md, e3⟩
 ·obtain ⟨o', e1⟩ := I.base.there b o e hx
  exact F.free b o' e1 (I.base.free b o e n hx)
 ·obtain ⟨o', e1⟩ := I.base.there b o e hx
  by_cases hb : b ∈ X.fs
  ·have hm : b ∈ eY X.stack := by rw [E7]; exact List.mem_cons_of_mem _ hb
   obtain ⟨_, o2, e2, hd⟩ := fl.2.2.1.mem hm
   obtain ⟨sl, e3⟩ := sm b o2 e2 hd
   exact ⟨_, e3⟩
  ·obtain ⟨o2, e2⟩ := th b o' e1 (Pw b (Lz b o e) hb)
   exact ⟨o2, hB _ _ e2⟩
 ·obtain ⟨m1, e1⟩ := I.base.je b ps e
  obtain ⟨m2, e2⟩ := F.je b _ e1
  exact ⟨m1 ++ m2, by rw [e2, Array.append_assoc]⟩
 ·obtain ⟨m, hn, hl⟩ := I.loc
  have hm : X.env.locals ∈ eY X.stack := by rw [E7]; exact List.mem_cons_self
  have Bn : s'.heap.Ns X.env.locals m := by
   obtain ⟨o, es, ep, ho, r⟩ := hn
   obtain ⟨sl, e⟩ := F.slot _ o ho I.free hm
   exact ⟨_, es, ep, e, r⟩
  refine ⟨m, sm.ns Bn, fun i y v e1 e2 e3 => ?_⟩
  obtain ⟨u, r, l⟩ := hl i y v e1 e2 e3
  refine ⟨u, r, ?_⟩
  rcases l with l | ⟨k, c, e, z⟩
  ·exact .inl l
  ·exact .inr ⟨k, c, e, cellK y c _ e z⟩
 ·obtain ⟨v, z⟩ := I.cell y c e
  exact ⟨v, cellK y c v e z⟩
 ·obtain ⟨m, ⟨o, _, _, ho, _⟩, _⟩ := I.loc
  exact F.free _ o ho I.free
 ·obtain ⟨v, o, ho, _⟩ := I.cell y c e
  exact F.free c o ho (I.eQ y c e)
 ·have QZ : p ∈ X.pn ++ ff := (List.mem_append.mp Wv).elim (fun z => List.mem_append_left _ z) (hp p)
  obtain ⟨e, n, ne, nf, d⟩ := I.pin p QZ
  exact ⟨hB _ _ (kp p.1 p.2 e n (Pw p.1 ne nf)), F.free p.1 p.2 e n, ne, nf, d⟩
theorem Cx.Ok.cx {X : Cx} (ok : X.Ok) {A' : Around} {cm : Bool} {pn : List (Addr × Obj)} {xe : Value → Shared → Prop} (hf : A'.frames = X.A.frames) (hh : cm = true → A'.handled = none) :
  Cx.Ok { X with A := A', calm := cm, pn := pn, xe := xe } :=
 ⟨ok.mod, ok.kind, ok.glob, ok.blt, ok.above, ok.inj, ok.has, ok.HC, hh, hf.trans ok.frames, ok.KS, ok.Qk, ok.bs, ok.EI, ok.A6, ok.Cj, ok.nA, ok.HD⟩
theorem Inv.cx {X : Cx} {pins ff : List (Addr × Obj)} {σ : St} {H : Hp} {s : Shared} (I : Inv X pins σ H s) {A' : Around} {cm : Bool} {pn : List (Addr × Obj)} {xe : Value → Shared → Prop} (hf : A'.frames = X.A.frames) (hh : cm = true → A'.handled = none)
  (hp : ∀ p ∈ pn ++ ff, p ∈ X.pn ++ pins) : Inv { X with A := A', calm := cm, pn := pn, xe := xe } ff σ H s :=
 ⟨I.ok.cx hf hh, I.os, I.bare, I.base, I.loc, I.cell, I.free, I.eQ, fun p q => I.pin p (hp p q), I.hok, I.len⟩
abbrev Ir (X : Cx) (pn : List (Addr × Obj)) : Cx := { X with pn := X.pn ++ pn }
abbrev mG (X : Cx) (pn : List (Addr × Obj)) (R : Value → St → Hp → Prop) : Cx :=
 { X with pn := X.pn ++ pn, xe := fun e s' => ∃ (ff : List (Addr × Obj)) (σ : St) (H : Hp) (s : Shared) (H' : Hp) (x : Addr) (cls : Value), Inv (Ir X pn) ff σ H s ∧ e = .ref x ∧ QX X.prog X.w X.stack H s x cls H' s' ∧ R cls σ H' }
abbrev Am (X : Cx) (x : Addr) : Cx := { X with A := X.A.mark (some (.ref x)), calm := false, xe := fun _ _ => False }
section
variable {X : Cx} {k : Nat} {f C : Addr} {fd : FuncData} {ps : List Str} {sp : Sp} {wz : List V} {ds : List Value} {x : Str} {p pos : Pos} {e : Expr} {es : List Expr} {t : TA} {pn : List (Addr × Obj)} {R : Value → St → Hp → Prop}
def CK (sp : Sp) (wz : List V) (R : Value → St → Hp → Prop) (t : TA) : TE := fun σ H Q => t σ H fun vs H1 => sp (vs ++ wz) H1 Q fun cls _ H' => R cls σ H'
theorem E8 {pins : List (Addr × Obj)} {σ : St} {H : Hp} {s : Shared} {Q : VK} {us : List Value} {vs : List V} (F : bN X.prog X.w X.K X.mg X.base (wF X.prog X.w) k f fd ps sp) (hr : d9 k X.A) (hb : Binds X.K fd ps ds) (hd : Vals wz ds)
  (I : Inv (mG X pn R) pins σ H s) (r : Vals vs us) (h : sp (vs ++ wz) H Q fun cls _ H' => R cls σ H') : wpAny (model X.prog X.w) X.A (call (.ref f) us) (EP (mG X pn R) pins σ Q) (mG X pn R).xe s := by
 have r2 : Vals (vs ++ wz) (us ++ ds) := r.append hd
 have hl : (us ++ ds).length = ps.length := by rw [← r2.length]; exact F.len _ _ _ _ h
 refine wpAny_call (codeAny_mono (F.run X.A X.stack s H ⟨us, []⟩ (us ++ ds) (vs ++ wz) Q _ hr I.LS (hb s us I.pM hl) r2 h) fun r s' hq => ?_)
 cases r with
 | error e =>
  obtain ⟨x, cls, H', ee, F', hE⟩ := hq
  exact ⟨pins, σ, H, s, H', x, cls, I.cx rfl I.ok.hd fun _ q => q, ee, F', hE⟩
 | ok fl =>
  cases fl with
  | ret u => exact I.after hq
  | next => exact False.elim hq
  | brk => exact False.elim hq
  | cont => exact False.elim hq
theorem CL (F : bN X.prog X.w X.K X.mg X.base (wF X.prog X.w) k f fd ps sp) (hr : d9 k X.A) (hg : Gl X x) (hm : X.mg x = some (.ref f)) (hk : PySem.W.keepIn X.K (.ref f) = true) (hb : Binds X.K fd ps ds) (hd : Vals wz ds)
  (ha : PA (mG X pn R) (e :: es) t) (uw : (x == ("__debug__" : Str)) = false := by decide) (he : starEach (e :: es) X.env = (false, eval e X.env) :: starEach es X.env := by rfl) (hpl : (backTo pos (starEach es X.env)).any (·.1) = false := by rfl) :
  PE (mG X pn R) (.Call (.Name x p) (e :: es) [] pos) (CK sp wz R t) := by
 intro pins s σ H Q I h
 refine wpAny_Call_Name_kw (mj I hg hm ?_ uw)
 refine PySem.W.callWith_K (h₀ := X.base) I.ok.mod.Ly hk (bQ (ha pos pins s σ H _ I h) fun us s1 ⟨vs, H1, I1, r, q⟩ => ⟨I1.pM, ?_⟩) he hpl
 exact E8 F hr hb hd I1 r q
end
theorem bg.has {P : Program} {w : World} {H : Hp} {h : Heap} {a : Addr} {o : HO} (x : bg P w H h a o) : ∃ u, h.get? a = some u := by
 cases o with
 | lst xs => obtain ⟨_, _, _, _, e⟩ := x; exact ⟨_, e⟩
 | tup xs => obtain ⟨_, _, _, o, e, _⟩ := x; exact ⟨_, e⟩
 | dK kvs => obtain ⟨_, _, _, _, o, _, _, e, _⟩ := x; exact ⟨_, e⟩
 | dT kvs => obtain ⟨_, _, _, _, o, _, _, e, _⟩ := x; exact ⟨_, e⟩
 | set S n => obtain ⟨o, _, _, _, e, _⟩ := x; exact ⟨_, e⟩
 | ins C dx fs => obtain ⟨_, _, _, e, _⟩ := x; exact ⟨_, e⟩
 | own y => obtain ⟨_, e⟩ := x; exact ⟨_, e⟩
 | xd fs => obtain ⟨_, ⟨_, _, _, e, _⟩, _⟩ := x; exact ⟨_, e⟩
 | Pa lo hi => obtain ⟨_, _, _, e⟩ := x; exact ⟨_, e⟩
 | ku ob u => obtain ⟨e, _⟩ := x; exact ⟨_, e⟩
 | Ew ps => exact ⟨_, (show h.get? a = some _ from x)⟩
 | met f y => exact ⟨_, (show h.get? a = some _ from x)⟩
 | ext φ => obtain ⟨_, ⟨_, e⟩, _⟩ := x; exact ⟨_, e⟩
structure Lit (X : Cx) (pins : List (Addr × Obj)) (σ : St) (H : Hp) (x : Addr) (cls : Value) (B : Heap) (a0 : Value) (s : Shared) : Prop where
 fl : Heap.FlyingW B X.stack x cls a0 s.heap
 land : ∀ h', s.heap.UpToSlots h' → B.StaysIn h' → Inv X pins σ H { s with heap := h' }
 fr : H x = none
def PH (X : Cx) (hs : List ExceptHandler) (th : Value → TS) : Prop :=
 ∀ (pins : List (Addr × Obj)) (s : Shared) (σ : St) (H : Hp) (D : Ends) (x : Addr) (cls : Value) (B : Heap) (a0 : Value), Lit X pins σ H x cls B a0 s → th cls D σ H → wpAny (model X.prog X.w) X.A (handleBy (.ref x) X.env hs) (SP X pins D) X.xe s
def Ww : Value → TS := fun _ _ _ _ => False
theorem Iu {X : Cx} : PH X [] Ww := fun _ _ _ _ _ _ _ _ _ _ h => False.elim h
theorem SP.cx {X X' : Cx} {pins ff : List (Addr × Obj)} {D : Ends} {f : Flow} {s : Shared} (h : SP X pins D f s) (hI : ∀ σ H, Inv X pins σ H s → Inv X' ff σ H s) : SP X' ff D f s := by
 cases f with
 | next => obtain ⟨σ, H, I, q⟩ := h; exact ⟨σ, H, hI _ _ I, q⟩
 | brk => obtain ⟨σ, H, I, q⟩ := h; exact ⟨σ, H, hI _ _ I, q⟩
 | cont => obtain ⟨σ, H, I, q⟩ := h; exact ⟨σ, H, hI _ _ I, q⟩
 | ret u => obtain ⟨v, σ, H, I, r, q⟩ := h; exact ⟨v, σ, H, hI _ _ I, r, q⟩
def Q0 (tb : (Value → St → Hp → Prop) → TS) (th : Value → TS) : TS := fun D σ H => tb (fun cls σ' H' => th cls D σ' H') D σ H
theorem Iv {X : Cx} {body : List Stmt} {h₀ : ExceptHandler} {hs : List ExceptHandler} {pos : Pos} {tb : (Value → St → Hp → Prop) → TS} {th : Value → TS} (hb : ∀ pn R, xT (mG X pn R) body (tb R)) (hh : PH X (h₀ :: hs) th)
  (hst : X.stack = X.env :: X.outer := by rfl) (xX : X.env.frame = some X.env.locals := by rfl) (hex : X.ex = [] := by rfl) (EJ : ∀ y, X.fn y = true := by intro y; rfl) : PS X (.Try body (h₀ :: hs) [] [] pos) (Q0 tb th) := by
 intro pins s σ H D I h
 refine wpAny_Try_except (wpAny_mono (hb pins _ [] s σ H D (I.cx rfl I.ok.hd fun p q => by rw [List.append_nil] at q; exact q) h) (fun fw s1 q => ?_) fun e s1 q => ?_)
 ·have q' : SP X pins D fw s1 := SP.cx q fun σ' H' J => J.cx (X := mG X pins _) (A' := X.A) rfl I.ok.hd fun p z => by rw [List.append_nil]; exact z
  cases fw with
  | next => exact wpAny_execs_nil q'
  | brk => exact q'
  | cont => exact q'
  | ret u => exact q'
 ·obtain ⟨ff, σ', H1, s0, H', x, cls, I', rfl, F, hR⟩ := q
  obtain ⟨B, a0, fl, hok, kp, tr⟩ := F.ex
  refine wpAny_looks_onW (base := B) (outer := X.outer) (L := X.env.locals) (cls := cls) (a0 := a0) (by rw [I.ok.frames, hst]) xX (by rw [← hst]; exact fl) fun h1 held GN => ?_
  refine wpAny_landsW held fun h2 Wx yC => ?_
  have hfr' : H' x = none := by
   cases e : H' x with
   | none => rfl
   | some o =>
    obtain ⟨u, hu⟩ := bg.has (hok x o e)
    rw [fl.2.1] at hu
    cases hu
  refine hh pins _ σ' H' D x cls B a0 ⟨by rw [hst]; exact Wx, fun h3 Wy HP => ?_, hfr'⟩ hR
  have J : Inv (Ir X pins) [] σ' H' { s1 with heap := h3 } := Inv.land (X := Ir X pins) I' (fun p z => nomatch z) hex EJ ⟨hst, xX⟩ F fl hok kp tr ((GN.trans yC).trans Wy) HP
  exact J.cx rfl I.ok.hd fun p z => by rw [List.append_nil]; exact z
end L2
namespace L2
open PySem PySem.Spec PyProof.Rows
def dq (P : Program) (w : World) (K : PySem.W.Frag) (mg : Str → Option Value) (base : Heap) (x : Str) (k : Nat) (ps : List Str) (sp : Sp) : Prop :=
 ∃ f fd, bN P w K mg base ny k f fd ps sp ∧ Binds K fd ps [] ∧ PySem.W.keepIn K (.ref f) = true ∧ mg x = some (.ref f)
section
variable {X : Cx} {k : Nat} {C : Addr} {ps : List Str} {sp : Sp} {x m : Str} {p pos apos : Pos} {e o : Expr} {es : List Expr} {ta : TE} {t : TA}
theorem aq (c : dq X.prog X.w X.K X.mg X.base x k ps sp) (hr : d9 k X.A) (hg : Gl X x) (ha : PA X (e :: es) t) (uw : (x == ("__debug__" : Str)) = false := by decide) (he : starEach (e :: es) X.env = (false, eval e X.env) :: starEach es X.env := by rfl) (hpl : (backTo pos (starEach es X.env)).any (·.1) = false := by rfl) :
  PE X (.Call (.Name x p) (e :: es) [] pos) (Ct sp [] E0 t) := by
 obtain ⟨f, fd, F, b, kp, mg⟩ := c
 exact Ad F hr hg mg kp b .nil L8 ha uw he hpl
theorem eH {K : PySem.W.Frag} {T C : Addr} {b : Bool} (hc : PySem.W.isClsIn K C = true) (ht : PySem.W.typeIn K (.ref C) = some (.type "type")) (hs : PySem.W.mroIn K C (.ref C) = some true) (hm : PySem.W.mroIn K T (.ref C) = some b) :
  PySem.W.kitOne K (.ref T) (.ref C) = some b := by
 unfold PySem.W.kitOne
 split
 ·rename_i h
  have e : Value.ref T = Value.ref C := beq_iff_eq.mp h
  injection e with e
  subst e
  rw [hs] at hm
  exact hm
 ·unfold PySem.W.kitCls
  have hc' : (PySem.W.clsIn K C).isSome = true := hc
  simp only [hc', ht, beq_self_eq_true, Bool.and_self, if_true]
  exact hm
def Iw : V → List V → Hp → VK → Prop := fun x vs H Q => ∃ z, x = .str z ∧ vs = [] ∧ Q (.bl (Txt.isupper z)) H
theorem yD : L3 X "str.isupper" Iw := by
 intro pins s σ H x xs v us Q I rx rs h
 obtain ⟨z, rfl, rfl, q⟩ := h
 obtain ⟨t, rfl⟩ := (show ∃ t, v = Value.str z t from rx)
 cases rs
 exact SC.isupper ⟨.bl (Txt.isupper z), H, I, rfl, q⟩
end
end L2
namespace L2
open PySem PySem.Spec PyProof.Rows
section
variable {X : Cx}
end
end L2
namespace L2
open PySem PySem.Spec PyProof.Rows
end L2
namespace L2
open PySem PySem.Spec PyProof.Rows
end L2
namespace HT
open PySem PySem.Spec PyProof.Rows
section
variable {prog : Program} {w : World} {A : Around} {E : Value → Shared → Prop} {s : Shared}
theorem mH {t sl : Addr} {items : Array Value} {vl vu : Value} {lo hi : Option Int} {Q : Value → Shared → Prop} (ht : IsTup s.heap t items) (hs : s.heap.IsSliceOf sl vl vu .none) (pl : IsPart vl lo) (pu : IsPart vu hi)
  (hw : cy items.size 0 lo = 0 ∧ cy items.size items.size hi = items.size) (h : Q (.ref t) s) : wpAny (model prog w) A (getItem (.ref t) (.ref sl)) Q E s := by
 obtain ⟨os, ET, Bg, LW⟩ := id hs
 have KZ : s.TypeIs (.ref sl) "slice" := ⟨os, ET, Bg⟩
 unfold getItem
 try with_reducible refine wpAny_holding ?_
 first | refine wpAny_bind (wpAny_pure ?_) | skip
 refine wpAny_bind (wpAny_sequenceKey ht.typeIs (by decide) ?_)
 refine wpAny_bind (wpAny_callSpecial?_slot (name := Str.ofString "__getitem__") ht.typeIs PyProof.Rows.slot_tuple_getitem
  (wpAny_call_entry PyProof.Rows.slot_tuple_getitem ht.typeIs entry_tuple_getitem ?_ (args_tuple_getitem _ _)))
 show wpAny _ _ (Builtin.Tuple.tupleItemsOf (.ref t) >>= _) _ _ s
 refine wpAny_bind (tupleItemsOf_ ht ?_)
 refine wpAny_bind (wpAny_typeOf KZ ?_)
 rw [if_pos (by decide)]
 refine wpAny_bind (gu hs pl pu ?_)
 have Q1 : (((cy items.size 0 lo : Nat) : Int) == 0 && (1 : Int) == 1 && (cy items.size items.size hi - cy items.size 0 lo) == items.size) = true := by
  rw [hw.1, hw.2]
  simp
 show wpAny _ _ (if (((cy items.size 0 lo : Nat) : Int) == 0 && (1 : Int) == 1 && (cy items.size items.size hi - cy items.size 0 lo) == items.size) = true then _ else _) _ _ s
 rw [if_pos Q1]
 unfold Builtin.Tuple.tupleIsExact
 refine wpAny_bind (wpAny_bind (wpAny_typeOf ht.typeIs (wpAny_pure ?_)))
 rw [if_pos (by decide)]
 refine wpAny_bind (wpAny_rule ?_)
 first
  | exact wpAny_pure ⟨_, rfl, wpAny_pure h⟩
  | exact wpAny_bind (wpAny_pure (wpAny_pure ⟨_, rfl, wpAny_pure h⟩))
end
end HT
namespace L2
open PySem PySem.Spec PyProof.Rows
section
variable {X : Cx}
def Q2 (K : PySem.W.Frag) : V → Option Int → Option Int → Hp → VK → Prop := fun x lo hi H Q => ∃ a xs, x = .ref a ∧ aO K H a xs ∧ ∀ p H', ai H H' → aO K H' p (lj xs lo hi) → Q (.ref p) H'
theorem E9 : LY X (Q2 X.K) := by
 intro pins s σ H x v vl vu lo hi sl Q I rx hs pl pu h
 obtain ⟨a, xs, rfl, hx, q⟩ := h
 by_cases hw : HT.cy xs.length 0 lo = 0 ∧ HT.cy xs.length xs.length hi = xs.length
 ·cases rx
  obtain ⟨its, r, ht, hz⟩ := I.tuple hx
  have hlen : its.toArray.size = xs.length := by rw [List.size_toArray]; exact r.length.symm
  refine ⟨"tuple", _, PyProof.Rows.slot_tuple_getitem.lookup, ht.typeIs, ?_⟩
  refine HT.mH ht hs pl pu (by rw [hlen]; exact hw) ⟨.ref a, H, I, rfl, q a H (ai.refl H) ?_⟩
  unfold lj
  rw [hw.1, hw.2, List.drop_zero, Nat.sub_zero, List.take_length]
  exact hx
 ·exact Ib pins s σ H (.ref a) v vl vu lo hi sl Q I rx hs pl pu ⟨a, xs, rfl, hx, hw, fun p hp => q p _ (fun b o e => by rw [az (aY e hp)]; exact e) (aO.of ae)⟩
end
end L2
namespace L2
open PySem PySem.Spec PyProof.Rows
section
variable {X : Cx}
end
end L2
namespace L2
open PySem PySem.Spec PyProof.Rows
section
variable {X : Cx} {K : PySem.W.Frag} {o e : Expr} {f : Str} {pos : Pos} {ta : TE}
def Mf (K : PySem.W.Frag) : List V → Hp → VK → Prop := fun xs H Q => ∃ p ys, xs = [.ref p] ∧ (aD K H p ys ∨ aO K H p ys) ∧ Q (.int ys.length) H
theorem yE (hK : X.K = K) : cw X (.builtin "len") (Mf K) := by
 subst hK
 exact aN
end
end L2
namespace L2
open PySem PySem.Spec PyProof.Rows
section
variable {κ : Type} [DecidableEq κ]
def eI (kvs : List (κ × V)) (k : κ) : Option V := (kvs.find? fun kv => decide (kv.1 = k)).map (·.2)
def putK (kvs : List (κ × V)) (k : κ) (v : V) : List (κ × V) :=
 if (kvs.any fun kv => decide (kv.1 = k)) = true then kvs.map (fun kv => if kv.1 = k then (kv.1, v) else kv) else kvs ++ [(k, v)]
theorem p6 {p : κ × V} {r : List (κ × V)} {k : κ} (e : p.1 = k) : eI (p :: r) k = some p.2 := by simp [eI, List.find?_cons, e]
theorem p7 {p : κ × V} {r : List (κ × V)} {k : κ} (e : ¬ p.1 = k) : eI (p :: r) k = eI r k := by simp [eI, List.find?_cons, e]
theorem p8 (k : κ) : ∀ kvs : List (κ × V), (kvs.any fun kv => decide (kv.1 = k)) = (eI kvs k).isSome
 | [] => rfl
 | p :: r => by
  rw [List.any_cons]
  by_cases e : p.1 = k
  ·simp only [p6 e, decide_eq_true e, Bool.true_or, Option.isSome_some]
  ·rw [p7 e, decide_eq_false e, Bool.false_or]; exact p8 k r
theorem ou (kvs : List (κ × V)) (k : κ) (v : V) : (putK kvs k v).length ≤ kvs.length + 1 := by
 unfold putK
 split
 ·rw [Lm9]; omega
 ·rw [List.length_append, List.length_cons, List.length_nil]; omega
theorem wI {kvs : List (κ × V)} {k : κ} (v : V) (h : eI kvs k = none) : putK kvs k v = kvs ++ [(k, v)] := by
 unfold putK
 rw [p8, h]
 exact if_neg (by decide)
theorem jj.nI {o : Option V} {u : Option Value} (r : jj o u) : o.isSome = u.isSome := by
 cases o with
 | none => cases u with
  | none => rfl
  | some _ => exact (show False from r).elim
 | some _ => cases u with
  | none => exact (show False from r).elim
  | some _ => rfl
theorem jj.getD {o : Option V} {u : Option Value} {d : V} {d' : Value} (r : jj o u) (rd : RelV d d') : RelV (o.getD d) (u.getD d') := by
 cases o with
 | none => cases u with
  | none => exact rd
  | some _ => exact (show False from r).elim
 | some _ => cases u with
  | none => exact (show False from r).elim
  | some _ => exact r
theorem KV.val {kvs : List (κ × V)} {vs : List (κ × Value)} (r : KV kvs vs) (k : κ) : jj (eI kvs k) (valueAt vs k) := by
 unfold KV at r
 induction r with
 | nil => exact True.intro
 | @cons p q ps qs h t ih =>
  obtain ⟨h1, h2⟩ := h
  by_cases e : p.1 = k
  ·have e' : q.1 = k := h1.symm.trans e
   have b : valueAt (q :: qs) k = some q.2 := by simp [valueAt, List.find?_cons, e']
   rw [p6 e, b]; exact h2
  ·have e' : ¬ q.1 = k := fun z => e (h1.trans z)
   have b : valueAt (q :: qs) k = valueAt qs k := by simp [valueAt, List.find?_cons, e']
   rw [p7 e, b]; exact ih
theorem KV.any {kvs : List (κ × V)} {vs : List (κ × Value)} (r : KV kvs vs) (k : κ) : (kvs.any fun kv => decide (kv.1 = k)) = vs.any fun kv => decide (kv.1 = k) := by
 unfold KV at r
 induction r with
 | nil => rfl
 | cons h t ih => rw [List.any_cons, List.any_cons, ih, h.1]
theorem KV.Q3 {kvs : List (κ × V)} {vs : List (κ × Value)} (r : KV kvs vs) (k : κ) {y : V} {u : Value} (ry : RelV y u) :
  KV (kvs.map fun kv => if kv.1 = k then (kv.1, y) else kv) (vs.map fun kv => if kv.1 = k then (kv.1, u) else kv) := by
 unfold KV at r ⊢
 induction r with
 | nil => exact .nil
 | @cons p q ps qs h t ih =>
  rw [List.map_cons, List.map_cons]
  refine .cons ?_ ih
  obtain ⟨h1, h2⟩ := h
  by_cases e : p.1 = k
  ·rw [if_pos e, if_pos (h1.symm.trans e)]; exact ⟨h1, ry⟩
  ·rw [if_neg e, if_neg (fun z => e (h1.trans z))]; exact ⟨h1, h2⟩
theorem KV.put {kvs : List (κ × V)} {vs : List (κ × Value)} (r : KV kvs vs) (k : κ) {y : V} {u : Value} (ry : RelV y u) : KV (putK kvs k y) (stored vs k u) := by
 unfold putK stored
 rw [r.any k]
 by_cases e : (vs.any fun kv => decide (kv.1 = k)) = true
 ·rw [if_pos e, if_pos e]; exact r.Q3 k ry
 ·rw [if_neg e, if_neg e]; exact Paired.snoc r ⟨rfl, ry⟩
theorem KV.length {kvs : List (κ × V)} {vs : List (κ × Value)} (r : KV kvs vs) : kvs.length = vs.length := Paired.length r
end
theorem qa {P : Program} {w : World} {k : Key} {u : Value} (r : RelV (kV k) u) : (aG P w).is k u = true := by
 cases k with
 | inl i => obtain ⟨t, e⟩ := (show ∃ t, u = Value.int i t from r); subst e; exact wu P w i t
 | inr x => obtain ⟨t, e⟩ := (show ∃ t, u = Value.str x t from r); subst e; exact wx P w x t
theorem sY {P : Program} {w : World} : ∀ {ks : List Key} {us : List Value}, Vals (ks.map kV) us → ItemsAre (aG P w) ks us
 | [], _, r => by rw [List.map_nil] at r; cases r; exact .nil
 | k :: ks, _, r => by
  rw [List.map_cons] at r
  cases r with
  | cons h t => exact .cons (qa h) (sY t)
abbrev KT (H : Hp) : List (List Key × V) → List (List Key × Addr × Value) → Prop := Paired fun p q => p.1 = q.1 ∧ H q.2.1 = some (.tup (p.1.map kV)) ∧ RelV p.2 q.2.2
theorem KT.val {H : Hp} {kvs : List (List Key × V)} {xs : List (List Key × Addr × Value)} (r : KT H kvs xs) (k : List Key) : jj (eI kvs k) ((atKey xs k).map (·.2)) := by
 induction r with
 | nil => exact True.intro
 | @cons p q ps qs h t ih =>
  obtain ⟨h1, _, h2⟩ := h
  by_cases e : p.1 = k
  ·have e' : q.1 = k := h1.symm.trans e
   have b : atKey (q :: qs) k = some q.2 := by simp [atKey, List.find?_cons, e']
   rw [p6 e, b]; exact h2
  ·have e' : ¬ q.1 = k := fun z => e (h1.trans z)
   have b : atKey (q :: qs) k = atKey qs k := by simp [atKey, List.find?_cons, e']
   rw [p7 e, b]; exact ih
theorem KT.keeps {H H' : Hp} {kvs : List (List Key × V)} {xs : List (List Key × Addr × Value)} (r : KT H kvs xs) (ht : ∀ b ys, H b = some (.tup ys) → H' b = some (.tup ys)) : KT H' kvs xs :=
 Paired.rF r fun _ _ z => ⟨z.1, ht _ _ z.2.1, z.2.2⟩
section
variable {P : Program} {w : World} {H : Hp} {h : Heap} {a : Addr}
theorem GO {u : HO} (ok : jh P w H h) (e : Rd H a u) : bg P w H h a u := e.ok ok
theorem sZ {kvs : List (Key × V)} (ok : jh P w H h) (e : Rd H a (.dK kvs)) : kvs.length ≤ sizeLine ∧ (a == sysModules) = false ∧ ∃ vs, KV kvs vs ∧ h.DictOf (aG P w) a vs :=
 show bg P w H h a (.dK kvs) from GO ok e
theorem CM {kvs : List (Key × V)} (ok : jh P w H h) (e : H a = some (.dK kvs)) : kvs.length ≤ sizeLine ∧ (a == sysModules) = false ∧ ∃ vs, KV kvs vs ∧ h.DictOf (aG P w) a vs := sZ ok (.inl e)
theorem uF {ks : List Key} (ok : jh P w H h) (e : H a = some (.tup (ks.map kV))) : (tupleKind (aG P w)).is h ks a := by
 obtain ⟨_, its, r, o, h1, h2, n, h3⟩ := (show bg P w H h a (.tup (ks.map kV)) from ok a _ e)
 exact ⟨o, its.toArray, n, h1, h2, h3, by simpa using sY r⟩
theorem wJ {kvs : List (List Key × V)} (ok : jh P w H h) (e : Rd H a (.dT kvs)) : kvs.length ≤ sizeLine ∧ (a == sysModules) = false ∧
  ∃ xs, KT H kvs xs ∧ h.DictOfH (tupleKind (aG P w)) a xs := by
 obtain ⟨z, y, xs, r, o, es, ep, h1, h2, h3, h4, h5⟩ := (show bg P w H h a (.dT kvs) from GO ok e)
 refine ⟨z, y, xs, r, o, es, ep, h1, h2, h3, h4, fun x hx => ?_, h5⟩
 have all : ∀ {l : List (List Key × V)} {m : List (List Key × Addr × Value)}, KT H l m → ∀ x ∈ m, (tupleKind (aG P w)).is h x.1 x.2.1 := by
  intro l m q
  induction q with
  | nil => intro x hx; exact nomatch hx
  | @cons p q ps qs hq t ih =>
   intro x hx
   rcases List.mem_cons.mp hx with e | hx
   ·subst e
    exact uF ok (by rw [← hq.1]; exact hq.2.1)
   ·exact ih x hx
 exact all r x hx
end
def oI (H : Hp) (a : Addr) (y : V) (r : Option V) : Prop :=
 (∃ kvs k, Rd H a (.dK kvs) ∧ y = kV k ∧ r = eI kvs k) ∨ ∃ kvs k b, Rd H a (.dT kvs) ∧ y = .ref b ∧ H b = some (.tup (k.map kV)) ∧ r = eI kvs k
theorem oI.k {H : Hp} {a : Addr} {kvs : List (Key × V)} {k : Key} (e : H a = some (.dK kvs)) : oI H a (kV k) (eI kvs k) := .inl ⟨kvs, k, .inl e, rfl, rfl⟩
section
variable {X : Cx} {pins : List (Addr × Obj)} {σ : St} {H : Hp} {s : Shared} {a : Addr} {y v : V} {u r : Value} {o : Option V} {A : Around} {E : Value → Shared → Prop}
theorem Inv.big (I : Inv X pins σ H s) : sysModules < s.heap.objs.size := by
 have h : mainGlobals < s.heap.objs.size := (I.mod.glob.keeps I.bk).lt
 exact Nat.lt_trans (by decide) h
theorem Bo {Q : Value → Shared → Prop} (hu : A.units + 1 < cLine) (I : Inv X pins σ H s) (g : oI H a y (some v)) (ry : RelV y u) (h : ∀ w' s', Inv X pins σ H s' → RelV v w' → Q w' s') :
  wpAny (model X.prog X.w) A (getItem (.ref a) u) Q E s := by
 rcases g with ⟨kvs, k, e, ey, l⟩ | ⟨kvs, k, b, e, ey, eb, l⟩
 ·subst ey
  obtain ⟨z, hd, vs, rel, dd⟩ := sZ I.hok e
  obtain ⟨w', hw, rJ⟩ := jj.some_of (v := v) (o := valueAt vs k) (by rw [l]; exact rel.val k)
  exact wpAny_getItem_of (qa ry) dd.mapOf hw (h w' _ (I.tok _) rJ)
 ·subst ey
  cases (show u = Value.ref b from ry)
  obtain ⟨z, hd, xs, rel, dd⟩ := wJ I.hok e
  obtain ⟨w', hw, rJ⟩ := jj.some_of (v := v) (o := (atKey xs k).map (·.2)) (by rw [l]; exact rel.val k)
  obtain ⟨p, hp, mI⟩ := Option.map_eq_some_iff.mp hw
  refine wpAny_getItem_heap (tupleKind_room_in1 hu) (uF I.hok eb) dd hp ?_
  rw [mI]
  exact h w' _ (I.tok _) rJ
theorem Fb {Q : Value → Shared → Prop} (hu : A.units + 1 < cLine) (I : Inv X pins σ H s) (g : oI H a y o) (ry : RelV y u) (h : ∀ s', Inv X pins σ H s' → Q (.bool (!o.isSome)) s') :
  wpAny (model X.prog X.w) A (compareOp .NotIn u (.ref a)) Q E s := by
 rcases g with ⟨kvs, k, e, ey, l⟩ | ⟨kvs, k, b, e, ey, eb, l⟩
 ·subst ey
  obtain ⟨z, hd, vs, rel, dd⟩ := sZ I.hok e
  refine wpAny_notIn_of (qa ry) hd dd.mapOf ?_
  rw [← (rel.val k).nI, ← l]
  exact h _ (I.tok _)
 ·subst ey
  cases (show u = Value.ref b from ry)
  obtain ⟨z, hd, xs, rel, dd⟩ := wJ I.hok e
  refine wpAny_notIn_heap (tupleKind_room_in1 hu) (uF I.hok eb) hd dd ?_
  have q := (rel.val k).nI
  rw [Option.isSome_map] at q
  rw [← q, ← l]
  exact h _ (I.tok _)
theorem An {h' : Heap} {t' : Nat} {ob : HO} (I : Inv X pins σ H s) (mu : Lw (H a)) (hs : Heap.SameBut a s.heap h') (he : ∃ q, h'.get? a = some q) (new : bg X.prog X.w (upd H a ob) h' a ob) :
  Inv X pins σ (upd H a ob) { s with heap := h', toks := t' } :=
 I.write (x := a) (e := a) mu (.inl rfl) (fun b q hb z => (hs.2 b hb).trans z) he new
theorem Iy {P : Program} {w : World} {H' : Hp} {h' : Heap} {kvs : List (Key × V)} {vs : List (Key × Value)} (z : kvs.length ≤ sizeLine) (hd : (a == sysModules) = false) (rel : KV kvs vs) (dd : h'.DictOf (aG P w) a vs) :
  bg P w H' h' a (.dK kvs) := ⟨z, hd, vs, rel, dd⟩
end
section
variable {X : Cx} {pins : List (Addr × Obj)} {σ : St} {H : Hp} {s : Shared} {a : Addr} {kvs : List (Key × V)} {k : Key} {u : Value} {A : Around} {E : Value → Shared → Prop}
end
def Iz (i : Expr) : Prop := ∀ ov iv, subscripted i false ov iv = operate [ov, iv] (getItem ov iv)
theorem Ao {prog : Program} {w : World} {A : Around} {E : Value → Shared → Prop} {s : Shared} {env : Env} {value slice : Expr} {pos : Pos} {T id : String} {Q : Value → Shared → Prop}
  (hl : typeLookup (.type T) "__getitem__" = pure (some (.builtin id))) (hs : Iz slice)
  (h : wpAny (model prog w) A (eval value env) (fun o s₁ => wpAny (model prog w) A (eval slice env) (fun i s₂ => s₂.TypeIs o T ∧ wpAny (model prog w) A (getItem o i) Q E s₂) E s₁) E s) :
  wpAny (model prog w) A (eval (.Subscript value slice pos) env) Q E s := by
 refine Subscript_ (wpAny_mono h (fun o s₁ h₁ => wpAny_mono h₁ (fun i s₂ h₂ => ?_) fun _ _ x => x) fun _ _ x => x)
 obtain ⟨hT, h₂⟩ := h₂
 unfold subscriptTail
 refine wpAny_bind ?_
 rw [getitemInPython_of_ne hT.not_modules]
 refine wpAny_bind (wpAny_specialOf hT hl ?_)
 have fin : wpAny (model prog w) A (subscripted slice false o i) (fun r s₃ => wpAny (model prog w) A (letTemporaryGo value o r >>= fun _ => pure r) Q E s₃) E s₂ := by
  rw [hs o i]
  exact wpAny_operating (wpAny_mono h₂ (fun r s₃ h₃ => wpAny_bind (wpAny_letTemporaryGo (wpAny_pure h₃))) fun _ _ x => x)
 first
  | exact wpAny_pure (wpAny_bind fin)
  | exact wpAny_bind (wpAny_pure (wpAny_bind fin))
  | exact wpAny_bind fin
theorem wK {X : Cx} {pins : List (Addr × Obj)} {σ : St} {H : Hp} {s : Shared} {a : Addr} {y : V} {o : Option V} (I : Inv X pins σ H s) (g : oI H a y o) : s.TypeIs (.ref a) "dict" := by
 rcases g with ⟨kvs, k, e, _, _⟩ | ⟨kvs, k, b, e, _, _, _⟩
 ·obtain ⟨_, _, vs, _, dd⟩ := sZ I.hok e
  exact dd.typeIs
 ·obtain ⟨_, _, xs, _, dd⟩ := wJ I.hok e
  exact dd.typeIs
def Mg (td ty : TE) : TE := fun σ H Q => td σ H fun x H1 => ty σ H1 fun y H2 => ∃ a v, x = .ref a ∧ oI H2 a y (some v) ∧ Q v H2
def Fd (ty td : TE) : TE := fun σ H Q => ty σ H fun y H1 => td σ H1 fun x H2 => ∃ a o, x = .ref a ∧ oI H2 a y o ∧ Q (.bl (!o.isSome)) H2
section
variable {X : Cx} {o i e value : Expr} {pos pos' HW : Pos} {td ty tv : TE}
theorem Fe (hu : X.A.units + 1 < cLine) (ho : PE X o td) (hi : PE X i ty) (hs : Iz i) : PE X (.Subscript o i pos) (Mg td ty) := by
 intro pins s σ H Q I h
 refine Ao PySem.F.slot_dict_getitem.lookup hs (bQ (ho pins s σ H _ I h) fun u s1 ⟨x, H1, I1, rx, q1⟩ => bQ (hi pins s1 σ H1 _ I1 q1) fun iv s2 ⟨y, H2, I2, ry, a, v, ex, g, q2⟩ => ?_)
 subst ex
 obtain rfl : u = Value.ref a := rx
 exact ⟨wK I2 g, Bo hu I2 g ry fun w' s3 I3 rJ => ⟨v, H2, I3, rJ, q2⟩⟩
theorem Bp (hu : X.A.units + 1 < cLine) (hi : PE X i ty) (ho : PE X o td) : PC X .NotIn i o (Fd ty td) := by
 intro pins s σ H Q I h
 refine bQ (hi pins s σ H _ I h) fun iv s1 ⟨y, H1, I1, ry, q1⟩ => bQ (ho pins s1 σ H1 _ I1 q1) fun u s2 ⟨x, H2, I2, rx, a, ov, ex, g, q2⟩ => ?_
 subst ex
 obtain rfl : u = Value.ref a := rx
 exact Fb hu I2 g ry fun s3 I3 => ⟨.bl (!ov.isSome), H2, I3, rfl, q2⟩
end
section
variable {X : Cx} {pos : Pos}
end
abbrev VV : List (V × V) → List (Value × Value) → Prop := Paired fun p q => RelV p.1 q.1 ∧ RelV p.2 q.2
def cY (kvs more : List (Key × V)) : List (Key × V) := more.foldl (fun acc kv => putK acc kv.1 kv.2) kvs
structure M1 (X : Cx) (o : Expr) (m : Str) (apos : Pos) (e : Expr) (cpos : Pos) : Prop where
 base : attributeBase o m X.env (eval o X.env) = eval o X.env
 few : ((backTo cpos (starEach [e] X.env)).all (fun x => !x.1) && (backToKw cpos (keywordEach [] X.env)).all (fun x => x.1.isSome)
  && decide (([e] : List Expr).length + ([] : List Keyword).length + (if ([] : List Keyword).isEmpty then 0 else 1) < 30)) = true
 line : (apos.endLine == cpos.line) = true
 trees : backTo cpos (starEach [e] X.env) = [(false, eval e X.env)]
structure M2 (X : Cx) (o : Expr) (m : Str) (apos : Pos) (e f : Expr) (cpos : Pos) : Prop where
 base : attributeBase o m X.env (eval o X.env) = eval o X.env
 few : ((backTo cpos (starEach [e, f] X.env)).all (fun x => !x.1) && (backToKw cpos (keywordEach [] X.env)).all (fun x => x.1.isSome)
  && decide (([e, f] : List Expr).length + ([] : List Keyword).length + (if ([] : List Keyword).isEmpty then 0 else 1) < 30)) = true
 line : (apos.endLine == cpos.line) = true
 trees : backTo cpos (starEach [e, f] X.env) = [(false, eval e X.env), (false, eval f X.env)]
def IA (H : Hp) (a : Addr) : Prop := (∃ kvs, Rd H a (.dK kvs)) ∨ ∃ kvs, Rd H a (.dT kvs)
theorem Ap {X : Cx} {pins : List (Addr × Obj)} {σ : St} {H : Hp} {s : Shared} {a : Addr} (I : Inv X pins σ H s) (d : IA H a) :
  s.TypeIs (.ref a) "dict" ∧ (∀ b, Value.ref a = .ref b → ∃ ob, s.heap.get? b = some ob ∧ ob.dict = none) ∧ (a == sysModules) = false := by
 rcases d with ⟨kvs, e⟩ | ⟨kvs, e⟩
 ·obtain ⟨_, hd, vs, _, dd⟩ := sZ I.hok e
  refine ⟨dd.typeIs, fun b q => ?_, hd⟩
  cases q
  obtain ⟨ob, _, _, h1, h2, _⟩ := dd
  exact ⟨ob, h1, h2.2.1⟩
 ·obtain ⟨_, hd, xs, _, dd⟩ := wJ I.hok e
  refine ⟨dd.typeIs, fun b q => ?_, hd⟩
  cases q
  obtain ⟨ob, _, _, h1, h2, _⟩ := dd
  exact ⟨ob, h1, h2.2.1⟩
section
variable {X : Cx} {pins : List (Addr × Obj)} {σ : St} {H : Hp} {s : Shared} {a : Addr} {y d : V} {u r : Value} {o : Option V} {A : Around} {E : Value → Shared → Prop}
theorem IB {Q : Value → Shared → Prop} (hu : A.units + 1 < cLine) (I : Inv X pins σ H s) (g : oI H a y o) (ry : RelV y u) (rd : RelV d r) (h : ∀ w' s', Inv X pins σ H s' → RelV (o.getD d) w' → Q w' s') :
  wpAny (model X.prog X.w) A (call (.builtin "dict.get") [.ref a, u, r]) Q E s := by
 rcases g with ⟨kvs, k, e, ey, l⟩ | ⟨kvs, k, b, e, ey, eb, l⟩
 ·subst ey
  obtain ⟨z, hd, vs, rel, dd⟩ := sZ I.hok e
  refine call_meetsIn PySem.F.slot_dict_get dd.typeIs PySem.F.entry_dict_get (PySem.F.args_dict_get_3 _ _ _) (meets_dict_get_default (aG X.prog X.w) a (qa ry) hd r) ⟨_, dd.mapOf, h _ _ (I.tok _) ?_⟩
  rw [l]
  exact (rel.val k).getD rd
 ·subst ey
  cases (show u = Value.ref b from ry)
  obtain ⟨z, hd, xs, rel, dd⟩ := wJ I.hok e
  refine call_meetsIn PySem.F.slot_dict_get dd.typeIs PySem.F.entry_dict_get (PySem.F.args_dict_get_3 _ _ _) (meetsH_dict_get_default (tupleKind (aG X.prog X.w)) a b hd r) ⟨tupleKind_room_in1 hu, k, xs, uF I.hok eb, dd, h _ _ (I.tok _) ?_⟩
  rw [l]
  exact (rel.val k).getD rd
end
def IC (td ty tx : TE) : TE := fun σ H Q => td σ H fun x H1 => ∃ a, x = .ref a ∧ IA H1 a ∧ ty σ H1 fun y H2 => tx σ H2 fun z H3 => ∃ o, oI H3 a y o ∧ Q (o.getD z) H3
section
variable {X : Cx} {o e f : Expr} {apos cpos : Pos} {td ty tx : TE}
theorem CN (hu : X.A.units + 1 < cLine) (ho : PE X o td) (he : PE X e ty) (hf : PE X f tx) (m : M2 X o "get" apos e f cpos) : PE X (.Call (.Attribute o "get" apos) [e, f] [] cpos) (IC td ty tx) := by
 intro pins s σ H Q I h
 refine wpAny_Call_method m.base m.few m.line PySem.F.plainAttrs_dict PySem.F.slot_dict_get PySem.F.type_dict_get (bQ (ho pins s σ H _ I h) fun u s1 ⟨x, H1, I1, rx, a, ex, d, q1⟩ => ?_)
 subst ex
 obtain rfl : u = Value.ref a := rx
 obtain ⟨t1, t2, _⟩ := Ap I1 d
 refine ⟨t1, t2, ?_⟩
 rw [m.trees]
 refine Calls.callWith_builtin rfl (Calls.evalArgs_plain (Calls.spliced_cons (bQ (he pins s1 σ H1 _ I1 q1) fun iv s2 ⟨y, H2, I2, ry, q2⟩ =>
  Calls.spliced_cons (bQ (hf pins s2 σ H2 _ I2 q2) fun fv s3 ⟨z, H3, I3, rz, ov, g, q3⟩ => Calls.spliced_nil ?_))))
 exact IB hu I3 g ry rz fun w' s4 I4 rJ => ⟨_, H3, I4, rJ, q3⟩
end
section
variable {X : Cx} {pins : List (Addr × Obj)} {σ : St} {H : Hp} {s : Shared} {a : Addr} {kvs : List (Key × V)} {A : Around} {E : Value → Shared → Prop}
end
section
variable {X : Cx} {pins : List (Addr × Obj)} {σ : St} {H : Hp} {s : Shared} {a : Addr} {y : V} {u : Value} {A : Around} {E : Value → Shared → Prop}
end
end L2
namespace L2
open PySem PySem.Spec PyProof.Rows
section
variable {X : Cx}
end
section
variable {κ : Type} [DecidableEq κ]
theorem Ff {kvs : List (κ × V)} {k : κ} {v : V} (h : eI kvs k = some v) : k ∈ kvs.map (·.1) := by
 have q : (kvs.any fun kv => decide (kv.1 = k)) = true := by
  rw [p8, h]
  all_goals rfl
 obtain ⟨p, hp, e⟩ := List.any_eq_true.mp q
 exact List.mem_map.mpr ⟨p, hp, of_decide_eq_true e⟩
end
end L2
namespace L2
open PySem PySem.Spec PyProof.Rows
theorem ID {prog : Program} {w : World} {A : Around} {E : Value → Shared → Prop} {s : Shared} {a : Addr} {o : Obj} {xs : Array Value} {k : Nat} {Q : Option Value → Shared → Prop}
  (hx : s.heap.get? a = some o) (hc : o.cls = .type "list") (Mh : o.data = .seq xs k) (hd : o.dict = none) (hA : A.handled = none)
  (h : ∀ h' tk e, Heap.NewExcOf s.heap h' e "AttributeError" → Q none { s with heap := h', toks := tk }) :
  wpAny (model prog w) A (getAttr? (.ref a) "keys") Q E s := by
 obtain ⟨c, Zf, dat, sl⟩ := o
 simp only at hc Mh hd
 subst hc Mh hd
 obtain ⟨hp, g, d, tk, os⟩ := s
 have hT : ∀ tk', (⟨hp, g, d, tk', os⟩ : Shared).TypeIs (.ref a) "list" := fun _ => ⟨_, hx, rfl⟩
 have f1 := sub_AttributeError
 have f3 := PySem.F.slot_list_getattribute.lookup
 have f4 := PySem.F.slot_list_getattribute.bind (.ref a)
 have f5 := am_list_getattr_none
 have hmiss : typeLookup (.type "list") "keys" = pure none := by rw [typeLookup_type, builtinLookup_eq_fast]; kernel_rfl
 unfold getAttr? getAttrBy? getAttrBy
 repeat (any_goals (first | assumption | exact hT _ | ((with_reducible show wpAny _ _ (call (Value.builtin "list.__getattribute__") _ _) _ _ _); refine call_meets PySem.F.slot_list_getattribute (hT _) am_entry_list_getattribute (PySem.F.args_list_getattribute_2 _ _) (meets_getattribute_miss_list a xs k sl "keys" _ hmiss (by decide +kernel) (by decide)) ⟨hx, hA, fun h' tk' e hx' => ?_⟩) | wp_step))
 obtain ⟨t', u', he⟩ := hx'.there
 show wpAny _ _ (getattributeRaised _ _ _ _ _ _ _) _ _ _
 unfold getattributeRaised
 repeat (any_goals (first | assumption | wp_step))
 exact h _ _ _ hx'.of
end L2
namespace L2
open PySem PySem.Spec PyProof.Rows
theorem entry_dul : entryFor table "dict.update.loop" = some Builtin.«dict.update.loop» := entryFor_of_tree (by kernel_rfl)
theorem plain_dul : plainId "dict.update.loop" = true := by decide +kernel
theorem paired_at {α β : Type} {F : α → β → Prop} : ∀ {l1 : List α} {l2 : List β}, Paired F l1 l2 → ∀ i (h1 : i < l1.length) (h2 : i < l2.length), F l1[i] l2[i]
 | _, _, .cons h _, 0, _, _ => h
 | _, _, .cons _ t, i + 1, h1, h2 => paired_at t i (by simpa using h1) (by simpa using h2)
theorem gZ : ∀ (ps : List (Key × V)), (cY [] ps).length ≤ ps.length := by
 have key : ∀ (ps acc : List (Key × V)), (cY acc ps).length ≤ acc.length + ps.length := by
  intro ps
  induction ps with
  | nil => intro acc; exact Nat.le_refl _
  | cons p r ih =>
   intro acc
   have z := ih (putK acc p.1 p.2)
   have z2 : (putK acc p.1 p.2).length ≤ acc.length + 1 := ou acc p.1 p.2
   show (cY (putK acc p.1 p.2) r).length ≤ _
   rw [List.length_cons]
   omega
 intro ps
 have z := key ps []
 simpa using z
section
variable {X : Cx} {pins : List (Addr × Obj)} {σ : St} {H : Hp} {s : Shared} {a it l : Addr} {ys : List V} {its : List Value} {ps : List (Key × V)}
def mJ (K : PySem.W.Frag) (H : Hp) (ps : List (Key × V)) (ys : List V) : Prop := Paired (fun (p : Key × V) (y : V) => ∃ t, y = .ref t ∧ aO K H t [kV p.1, p.2]) ps ys
theorem Fg {A : Around} {R : Result → Shared → Prop} (I : Inv X pins σ H s) (hh : A.handled = none) (hl : s.heap.IsList l its.toArray) (rv : Vals ys its) (hP : mJ X.K H ps ys) (hlen : ps.length ≤ 100000)
  (ha : s.heap.objs.size ≤ a) (CO : s.heap.objs.size ≤ it) (hne : a ≠ it)
  (fin : ∀ h' tk vs, (∀ b o, s.heap.get? b = some o → h'.get? b = some o) → h'.DictOf (aG X.prog X.w) a vs → KV (cY [] ps) vs → R (.ok (.ret .none)) { s with heap := h', toks := tk }) :
  ∀ (k i : Nat) (h' : Heap) (tk : Nat) (vs : List (Key × Value)), its.length - i = k → i ≤ its.length → (∀ b o, s.heap.get? b = some o → h'.get? b = some o) → h'.IsListIter it l i → h'.DictOf (aG X.prog X.w) a vs → KV (cY [] (ps.take i)) vs →
   wpAny (model X.prog X.w) A.in1 (Builtin.«dict.update.loop» ⟨[.ref a, .ref it, rawInt (i : Int), .none], []⟩) (fun fin s' => match fin with | .done f => R (.ok f) s' | .again c' => c'.quiet = true ∧ codeAny (model X.prog X.w) A c' R s') (fun e s' => R (.error e) s') { s with heap := h', toks := tk } := by
 have tf := rv.length
 have mB := Paired.length hP
 have lt : ∀ b o, s.heap.get? b = some o → b ≠ a ∧ b ≠ it := fun b o q => by
  exact ⟨Nat.ne_of_lt (Nat.lt_of_lt_of_le (Heap.lt_size q) ha), Nat.ne_of_lt (Nat.lt_of_lt_of_le (Heap.lt_size q) CO)⟩
 obtain ⟨ol, Aq, GP⟩ := id hl
 intro k
 induction k with
 | zero =>
  intro i h' tk vs hk hi kp hit hD hK
  obtain rfl : i = its.length := by omega
  unfold Builtin.«dict.update.loop»
  dsimp only [rawInt]
  refine wpAny_bind (wpAny_pyNext_list_end (s := { s with heap := h', toks := tk }) (A := A.in1) hh hit (show h'.IsList l its.toArray from ⟨ol, kp _ _ Aq, GP⟩) (by simp) fun h2 qb => ?_)
  dsimp only
  have ki : h2.DictOf (aG X.prog X.w) a vs := hD.extBut qb hne
  show wpAny _ _ (Builtin.Dict.addKeywords a [] >>= _) _ _ _
  refine wpAny_bind (wpAny_pure (wpAny_pure ?_))
  exact fin h2 tk vs (fun b o q => qb b o (lt b o q).2 (kp b o q)) ki (by rw [← tf, ← mB, List.take_length] at hK; exact hK)
 | succ k ih =>
  intro i h' tk vs hk hi kp hit hD hK
  have K3 : i < its.length := by omega
  have Mi : i < ps.length := by omega
  unfold Builtin.«dict.update.loop»
  dsimp only [rawInt]
  refine wpAny_bind (wpAny_pyNext_list_item (s := { s with heap := h', toks := tk }) (x := its[i]) hit (show h'.IsList l its.toArray from ⟨ol, kp _ _ Aq, GP⟩) (by simp [K3]) fun h1 tm Al => ?_)
  dsimp only
  have Fh : ∀ b o, s.heap.get? b = some o → h1.get? b = some o := fun b o q => (Al.2 b (lt b o q).2).trans (kp b o q)
  have I1 : Inv X pins σ H { s with heap := h1, toks := tk } := I.kept Fh
  have K5 : h1.DictOf (aG X.prog X.w) a vs := hD.sameBut Al hne
  obtain ⟨u1, f1, q1⟩ := rv.get (i := i) (x := ys[i]'(by omega)) (by simp)
  have eu : its[i] = u1 := (List.getElem?_eq_some_iff.mp f1).2
  obtain ⟨t, et, hq⟩ : ∃ t, ys[i]'(by omega) = .ref t ∧ aO X.K H t [kV (ps[i]).1, (ps[i]).2] := by
   have z := hP
   unfold mJ at z
   exact paired_at z i Mi (by omega)
  rw [et] at q1
  have IE : its[i] = .ref t := by rw [eu]; exact q1
  rw [IE]
  obtain ⟨Wz, rt, pl, _⟩ := I1.tuple hq
  obtain ⟨uk, uv, rfl, rk, Q4⟩ := vals2 rt
  obtain ⟨ot, Mj, IF, n, CQ⟩ := id pl
  have Q5 : Shared.TypeIs { s with heap := h1, toks := tk } (.ref t) "tuple" := ⟨ot, Mj, IF⟩
  refine wpAny_bind (wpAny_holding (wpAny_bind ?_))
  have IG : ∀ {E' : Value → Shared → Prop} {Q' : List Value → Shared → Prop}, Q' [uk, uv] { s with heap := h1, toks := tk } → wpAny (model X.prog X.w) A.in1 (Builtin.Dict.pairItems (.ref t)) Q' E' { s with heap := h1, toks := tk } := fun {E' Q'} hq' => by
   unfold Builtin.Dict.pairItems
   refine wpAny_bind (wpAny_typeOf Q5 ?_)
   rw [if_pos (by decide)]
   refine wpAny_bind (wpAny_seqItems Mj CQ (wpAny_pure ?_))
   exact hq'
  refine wpAny_tryCatch (IG ?_)
  dsimp only
  have hsz : vs.length ≤ sizeLine := by
   have z := hK.length
   have z2 := gZ (ps.take i)
   rw [List.length_take] at z2
   exact Nat.le_trans (show vs.length ≤ 100000 by omega) (show 100000 ≤ sizeLine by rw [sizeLine_eq]; decide)
  refine wpAny_holding (wpAny_dictSet_pairs (hsz := hsz) (qa rk) K5 fun h2 ki uG => ?_)
  have Fi : ∀ b o, s.heap.get? b = some o → h2.get? b = some o := fun b o q => (uG.2 b (lt b o q).1).trans (Fh b o q)
  have CS : h2.IsListIter it l (i + 1) := by
   obtain ⟨o, ho, r⟩ := tm
   exact ⟨o, (uG.2 it (Ne.symm hne)).trans ho, r⟩
  refine wpAny_pure ?_
  refine ⟨plainId_quiet plain_dul _, codeAny_builtin entry_dul ?_⟩
  rw [Around.under_plainId plain_dul _]
  refine ih (i + 1) h2 (tk + 1) _ (by omega) (by omega) Fi CS ki ?_
  rw [List.take_succ_eq_append_getElem Mi]
  unfold cY
  rw [List.foldl_append]
  exact hK.put _ Q4
theorem oJ (hc : X.calm = true) : cw X (.type "dict") (fun xs H Q => ∃ (l : Addr) (ys : List V) (ps : List (Key × V)), xs = [.ref l] ∧ H l = some (.lst ys) ∧ mJ X.K H ps ys ∧ ps.length ≤ 100000 ∧ ∀ d, H d = none → Q (.ref d) (upd H d (.dK (cY [] ps)))) := by
 intro pins s σ H xs us Q I r h
 obtain ⟨l, ys, ps, rfl, hl, hP, hlen, q⟩ := h
 obtain ⟨u, rfl, ru⟩ := vals1 r
 cases (show u = Value.ref l from ru)
 have hh := I.ok.hd hc
 obtain ⟨hz, its, n, rv, hg⟩ := (show bg X.prog X.w H s.heap l (.lst ys) from I.hok l _ hl)
 have hf : H s.heap.objs.size = none := I.hok.fresh (Nat.le_refl _)
 refine callType_codes (Q₁ := fun obj s₁ => obj = .ref s.heap.objs.size ∧ s₁ = { s with heap := s.heap.push { cls := .type "dict", data := .dict #[] } }) PySem.F.kt_called_dict (PySem.F.kt_typeCall_dict_1 _) PySem.F.entry_dict_init (kt_code_dict_new _ ⟨rfl, rfl⟩) ?_
 rintro obj s₁ ⟨rfl, rfl⟩
 have qc : (s.heap.push { cls := .type "dict", data := .dict #[] }).DictOf (aG X.prog X.w) s.heap.objs.size [] := Heap.DictOf.new s.heap
 refine ⟨qc.typeIs, PySem.F.args_dict_init_2 _ _, ?_⟩
 unfold Builtin.«dict.__init__»
 refine wpAny_bind ?_
 unfold Builtin.Dict.selfAndRest
 refine wpAny_bind (wpAny_notOrdered_dict qc.typeIs ?_)
 show wpAny _ _ (pure (s.heap.objs.size, [Value.ref l])) _ _ _
 refine wpAny_pure ?_
 show wpAny _ _ (Builtin.Dict.updateFrom "dict.__init__" s.heap.objs.size (.ref l) [] .none) _ _ _
 unfold Builtin.Dict.updateFrom
 have CT : (s.heap.push { cls := .type "dict", data := .dict #[] }).get? l = some { cls := .type "list", data := .seq its.toArray n } := Heap.get?_push_of_some _ hg
 refine wpAny_bind (wpAny_typeOf (T := "list") ⟨_, CT, rfl⟩ ?_)
 rw [if_pos (by decide)]
 refine wpAny_bind (ID CT rfl rfl rfl hh fun h1 Fj e hx => ?_)
 rw [if_pos (show (none : Option Value).isNone = true from rfl)]
 refine wpAny_bind (wpAny_rule ?_)
 have K6 := hx.keeps _ _ CT
 have hd2 : h1.DictOf (aG X.prog X.w) s.heap.objs.size [] := by
  obtain ⟨o, es, ep, ho, r⟩ := qc
  exact ⟨o, es, ep, hx.keeps _ _ ho, r⟩
 have oK : s.heap.objs.size < h1.objs.size := by
  obtain ⟨o, es, ep, ho, r⟩ := hd2
  exact Heap.lt_size ho
 have IH : h1.IsList l its.toArray := ⟨_, K6, rfl, n, rfl⟩
 refine wpAny_bind (wpAny_pyIter_list (s := { s with heap := h1, toks := Fj }) IH ?_)
 refine wpAny_pure ⟨plainId_quiet plain_dul _, codeAny_builtin entry_dul ?_⟩
 rw [Around.under_plainId plain_dul _]
 have Fl : ∀ b o, s.heap.get? b = some o → (h1.push { cls := .type "list_iterator", data := .fields #[.ref l, .int 0 0] }).get? b = some o := fun b o q => Heap.get?_push_of_some _ (hx.keeps _ _ (Heap.get?_push_of_some _ q))
 refine Fg (A := X.A.in1) (its := its) (a := s.heap.objs.size) (it := h1.objs.size) I hh ⟨_, hg, rfl, n, rfl⟩ rv hP hlen (Nat.le_refl _) (Nat.le_of_lt oK) (Nat.ne_of_lt oK) (fun h' tk vs kp hD hK => ?_)
  its.length 0 (h1.push { cls := .type "list_iterator", data := .fields #[.ref l, .int 0 0] }) Fj [] (by omega) (Nat.zero_le _) Fl ⟨_, Heap.get?_push_size _ rfl, rfl, rfl⟩ (hd2.push _) .nil
 refine ⟨rfl, .ref s.heap.objs.size, upd H s.heap.objs.size (.dK (cY [] ps)), I.laid (t' := tk) kp (Nat.le_refl _) ?_, rfl, q _ hf⟩
 refine ⟨Nat.le_trans (gZ ps) (Nat.le_trans hlen (by rw [sizeLine_eq]; decide)), ?_, vs, hK, hD⟩
 exact beq_eq_false_iff_ne.mpr (Nat.ne_of_gt I.big)
end
end L2
namespace L2
open PySem PySem.Spec PyProof.Rows
section
variable {X : Cx}
theorem Ml {P : Program} {w : World} {k : Key} {u : Value} (r : (aG P w).is k u = true) : RelV (kV k) u := by
 rcases bD (k := k) (v := u) r with ⟨i, t, rfl, rfl⟩ | ⟨x, t, rfl, rfl⟩
 ·exact ⟨t, rfl⟩
 ·exact ⟨t, rfl⟩
end
end L2
namespace eF
open PySem
abbrev dW : Str := "abcdefghijklmnopqrstuvwxyz"
abbrev cZ : Str := "ABCDEFGHIJKLMNOPQRSTUVWXYZ"
abbrev II : Str := "0123456789"
def mK (c : Nat) : Bool := decide (c ∈ dW.cps.toList) || (decide (c ∈ cZ.cps.toList) || decide (c ∈ II.cps.toList))
def shut (cur : List Nat) (r : List (List Nat)) : List (List Nat) := if cur = [] then r else cur :: r
def Ar : List Nat → List Nat → List (List Nat)
 | [], cur => shut cur []
 | c :: r, cur => if mK c = true then Ar r (cur ++ [c]) else shut cur (if c = 32 then Ar r [] else [c] :: Ar r [])
def toks (l : List Nat) : List (List Nat) := Ar l []
def cA (p : List Nat) : Bool := decide (1 ≤ p.length) && (decide (p.length ≤ 12) && p.all mK)
def GQ : List (List Nat) → Option (List (List Nat) × Nat)
 | n :: m :: r => if cA n = true then (if m = [41] then some ([n], 2) else if m = [44] then (GQ r).map fun q => (n :: q.1, q.2 + 2) else none) else none
 | _ => none
def between : List (List Nat) → List (List Nat)
 | [] => []
 | [a] => [a, [41]]
 | a :: r => a :: [44] :: between r
end eF
namespace Bk
open PySem L2 eF
abbrev Cs := List Nat
abbrev S (p : Cs) : Str := ⟨p.toArray⟩
abbrev tx (p : Cs) : V := .str (S p)
theorem du (p : Cs) : (S p).cps.toList = p := by simp
theorem Bq (x : Str) : S x.cps.toList = x := by cases x; simp
theorem dh (p : Cs) : (S p).length = p.length := by simp [Str.length]
theorem nJ (x : Str) : x.cps.toList.length = x.length := by simp [Str.length]
theorem mL {a b : Cs} (h : S a = S b) : a = b := by
 have e := congrArg (fun s : Str => s.cps.toList) h
 simpa using e
structure Fc where
 k : Cs
 as : List Cs
structure Kd where
 n : Cs
 c : Nat
 l : Bool
structure Lk where
 same : Bool
 l : Cs
 r : Cs
structure Rl where
 title : Cs
 take : List Fc
 keep : List Fc
 CU : List Lk
 put : List Fc
 tell : List (Cs × Cs)
structure Kp (H0 H H' : Hp) : Prop where
 new : ∀ b o, H0 b = none → H b = some o → H' b = some o
 tup : ∀ b xs, H b = some (.tup xs) → H' b = some (.tup xs)
 ku : ∀ b o u, H b = some (.ku o u) → H' b = some (.ku o u)
 K7 : ∀ b, H' b = none → H b = none
theorem Kp.trans {H0 H H1 H2 : Hp} (a : Kp H0 H H1) (b : Kp H0 H1 H2) : Kp H0 H H2 :=
 ⟨fun c o n h => b.new c o n (a.new c o n h), fun c xs h => b.tup c xs (a.tup c xs h), fun c o u h => b.ku c o u (a.ku c o u h), fun c h => a.K7 c (b.K7 c h)⟩
theorem Kp.same {H0 H H' : Hp} (s : ai H H') : Kp H0 H H' := ⟨fun b o _ h => s b o h, fun b xs h => s b _ h, fun b o u h => s b _ h, fun b h => by
 cases e : H b with
 | none => rfl
 | some o => rw [s b o e] at h; cases h⟩
theorem Kp.upd {H0 H : Hp} {l : Addr} {o o' u0 : HO} (h0 : H0 l = some u0) (h : H l = some o) (nt : ∀ xs, o ≠ .tup xs) (nf : ∀ ob u, o ≠ .ku ob u) : Kp H0 H (upd H l o') := by
 refine ⟨fun b u n e => ?_, fun b xs e => ?_, fun b ob u e => ?_, fun b e => ?_⟩
 ·rw [az (fun z => by rw [z, h0] at n; cases n)]; exact e
 ·rw [az (fun z => by rw [z, h] at e; exact nt xs (Option.some.inj e))]; exact e
 ·rw [az (fun z => by rw [z, h] at e; exact nf ob u (Option.some.inj e))]; exact e
 ·by_cases z : b = l
  ·rw [z, ae] at e; cases e
  ·rw [az z] at e; exact e
theorem Kp.bU {H0 H1 H H' : Hp} (k : Kp H0 H H') (d : ∀ b, H1 b = none → H0 b = none) : Kp H1 H H' := ⟨fun b o n h => k.new b o (d b n) h, k.tup, k.ku, k.K7⟩
theorem aO.keep {K : PySem.W.Frag} {H0 H H' : Hp} (k : Kp H0 H H') {a : Addr} {xs : List V} (h : aO K H a xs) : aO K H' a xs := by
 rcases h with (h | ⟨o, h⟩) | h
 ·exact .inl (.inl (k.tup _ _ h))
 ·exact .inl (.inr ⟨o, k.ku _ _ _ h⟩)
 ·exact .inr h
def Fact (K : PySem.W.Frag) (H : Hp) (f : Fc) (v : V) : Prop := ∃ t t2, v = .ref t ∧ aO K H t [tx f.k, .ref t2] ∧ aO K H t2 (f.as.map tx)
def Kind (K : PySem.W.Frag) (H : Hp) (k : Kd) (v : V) : Prop := ∃ t, v = .ref t ∧ aO K H t [tx k.n, .int k.c, .bl k.l]
def Pair (K : PySem.W.Frag) (H : Hp) (p : Cs × Cs) (v : V) : Prop := ∃ t, v = .ref t ∧ aO K H t [tx p.1, tx p.2]
theorem Fact.keep {K : PySem.W.Frag} {H0 H H' : Hp} {f : Fc} {v : V} (k : Kp H0 H H') (h : Fact K H f v) : Fact K H' f v := by
 obtain ⟨t, t2, e, h1, h2⟩ := h
 exact ⟨t, t2, e, aO.keep k h1, aO.keep k h2⟩
def xY (α : Type) (R : Hp → α → V → Prop) (H0 H : Hp) (v : V) (xs : List α) : Prop := ∃ l vs, v = .ref l ∧ H0 l = none ∧ H l = some (.lst vs) ∧ Paired (R H) xs vs
theorem xY.bU {α : Type} {R : Hp → α → V → Prop} {H0 H1 H : Hp} {v : V} {xs : List α} (d : ∀ b, H1 b = none → H0 b = none) (h : xY α R H1 H v xs) : xY α R H0 H v xs := by
 obtain ⟨l, vs, e, n, h1, h2⟩ := h
 exact ⟨l, vs, e, d l n, h1, h2⟩
def Us (C : Addr) (H0 H : Hp) (v : V) (F : List (Str × V) → Prop) : Prop := ∃ a dx fs, v = .ref a ∧ H0 a = none ∧ H a = some (.ins C dx fs) ∧ F fs
structure Cl where
 same : Addr
 unlike : Addr
 rule : Addr
 book : Addr
def Cl.look (c : Cl) (b : Bool) : Addr := if b = true then c.same else c.unlike
def As (c : Cl) (H0 H : Hp) (k : Lk) (v : V) : Prop := Us (c.look k.same) H0 H v fun fs => fs.lookup ("left" : Str) = some (tx k.l) ∧ fs.lookup ("right" : Str) = some (tx k.r) ∧ fs.lookup ("holds" : Str) = none ∧ fs.lookup ("word" : Str) = none
def great (x : Cs) : Bool := decide (x.headD 0 ∈ cZ.cps.toList)
def once : List Cs → List Cs → List Cs
 | [], acc => acc
 | x :: r, acc => once r (if x ∈ acc then acc else acc ++ [x])
def opens (fs : List Fc) : List Cs := once ((fs.flatMap (·.as)).filter great) []
def Facts (K : PySem.W.Frag) := xY Fc (Fact K)
def Pairs (K : PySem.W.Frag) := xY (Cs × Cs) (Pair K)
def Kinds (K : PySem.W.Frag) := xY Kd (Kind K)
def Mm (H0 H : Hp) (v : V) (xs : List Cs) : Prop := ∃ l, v = .ref l ∧ H0 l = none ∧ H l = some (.lst (xs.map tx))
def Looks (c : Cl) (H0 H : Hp) (v : V) (xs : List Lk) : Prop := ∃ l vs, v = .ref l ∧ H0 l = none ∧ H l = some (.lst vs) ∧ Paired (As c H0 H) xs vs
structure Au (K : PySem.W.Frag) (c : Cl) (H0 H : Hp) (r : Rl) (fs : List (Str × V)) : Prop where
 title : fs.lookup ("title" : Str) = some (tx r.title)
 taken : ∃ v, fs.lookup ("taken" : Str) = some v ∧ Facts K H0 H v r.take
 kept : ∃ v, fs.lookup ("kept" : Str) = some v ∧ Facts K H0 H v r.keep
 CU : ∃ v, fs.lookup ("looks" : Str) = some v ∧ Looks c H0 H v r.CU
 given : ∃ v, fs.lookup ("given" : Str) = some v ∧ Facts K H0 H v r.put
 told : ∃ v, fs.lookup ("told" : Str) = some v ∧ Pairs K H0 H v r.tell
 names : ∃ v, fs.lookup ("names" : Str) = some v ∧ Mm H0 H v (opens (r.take ++ r.keep))
 calls : fs.lookup ("calls" : Str) = none
def wL (K : PySem.W.Frag) (c : Cl) (H0 H : Hp) (r : Rl) (v : V) : Prop := Us c.rule H0 H v (Au K c H0 H r)
def Rules (K : PySem.W.Frag) (c : Cl) (H0 H : Hp) (v : V) (xs : List Rl) : Prop := ∃ l vs, v = .ref l ∧ H0 l = none ∧ H l = some (.lst vs) ∧ Paired (wL K c H0 H) xs vs
structure Ut (K : PySem.W.Frag) (c : Cl) (H0 H : Hp) (ks : List Kd) (rs : List Rl) (fs : List (Str × V)) : Prop where
 kinds : ∃ v, fs.lookup ("kinds" : Str) = some v ∧ Kinds K H0 H v ks
 rules : ∃ v, fs.lookup ("rules" : Str) = some v ∧ Rules K c H0 H v rs
def g0 (p : Cs) : Bool := cA p && decide (p.headD 0 ∈ dW.cps.toList)
inductive wM : List Cs → Fc → Prop
 | bare {k : Cs} (hk : g0 k = true) : wM [k] ⟨k, []⟩
 | empty {k : Cs} (hk : g0 k = true) : wM [k, [40], [41]] ⟨k, []⟩
 | args {k : Cs} {as : List Cs} (hk : g0 k = true) (h0 : as ≠ []) (h : ∀ a ∈ as, cA a = true) : wM (k :: [40] :: between as) ⟨k, as⟩
inductive Fm : List Cs → List Fc → Prop
 | one {ps : List Cs} {f : Fc} (h : wM ps f) : Fm ps [f]
 | more {ps r : List Cs} {f : Fc} {fs : List Fc} (h : wM ps f) (t : Fm r fs) : Fm (ps ++ [44] :: r) (f :: fs)
def glue (m : Cs) : List (List Cs) → List Cs
 | [] => []
 | [q] => q
 | q :: r => q ++ m :: glue m r
end Bk
namespace Bk
open PySem L2 eF
theorem Av {x : Str} (h : 1 ≤ x.length) : wm x.cps.toList (0 : Int) = some (x.cps.toList.headD 0) := by
 have e := nJ x
 cases q : x.cps.toList with
 | nil => rw [q] at e; simp at e; omega
 | cons a r => exact gR (j := 0) rfl
theorem sz {n : Nat} (h : n ≤ 100000) : n ≤ sizeLine := by rw [sizeLine_eq]; omega
theorem uH {n : Nat} (h : n ≤ 100000) : n < sizeLine := by rw [sizeLine_eq]; omega
theorem ag {H : Hp} {p : Addr} (h : H p = none) (o : HO) : ai H (upd H p o) := fun b u q => by rw [az (aY q h)]; exact q
theorem ai.aT {H H' : Hp} {p : Addr} (e : ai H H') (h : H p = none) (o : HO) : ai H (upd H' p o) := fun b u q => by
 rw [az (aY q h)]
 exact e b u q
theorem mid {a b : Int} (h : 0 < b) : 0 ≤ a % b ∧ a % b < b := ⟨Int.emod_nonneg a (by omega), Int.emod_lt_of_pos a h⟩
theorem getD_get {l : List Nat} {i : Nat} (h : i < l.length) : l[i]? = some (l.getD i 0) := by
 rw [Gd9, Ge9 h]
 rfl
theorem yF {x : Str} {i : Int} (h0 : 0 ≤ i) (h1 : i < x.length) : wm x.cps.toList i = some (x.cps.toList.getD i.toNat 0) := by
 have hl := nJ x
 have hk : i.toNat < x.cps.toList.length := by omega
 have z := gR (xs := x.cps.toList) (j := i.toNat) (v := x.cps.toList.getD i.toNat 0) (getD_get hk)
 rw [show ((i.toNat : Nat) : Int) = i by omega] at z
 exact z
def uI : Sp := fun vs H Q _ => ∃ p : Cs, vs = [tx p] ∧ p ≠ [] ∧ p.length ≤ 1000 ∧ Q (.bl (great p)) H
def WA (m : Str) (c : Nat) : Bool := mK c || (decide (c ∈ m.cps.toList) || c == 32)
inductive yG : List Cs → Cs → List Cs → Nat → Prop
 | bare {k : Cs} {r : List Cs} (hk : g0 k = true) (h : r.getD 0 [] ≠ [40]) : yG (k :: r) k [] 1
 | empty {k : Cs} {r : List Cs} (hk : g0 k = true) : yG (k :: [40] :: [41] :: r) k [] 3
 | args {k : Cs} {r as : List Cs} {n : Nat} (hk : g0 k = true) (h0 : r.getD 0 [] ≠ [41]) (h : GQ r = some (as, n)) : yG (k :: [40] :: r) k as (n + 2)
theorem Fn {x : Str} {p n : Nat} (h : p + n ≤ x.length) : Txt.slice x (some (p : Int)) (some ((p + n : Nat) : Int)) = S ((x.cps.toList.drop p).take n) := by
 have e := Bm (z := x) (i := p) (j := ((p + n : Nat) : Int)) (by omega) (by omega) (by omega)
 rw [← Bq (Txt.slice x (some (p : Int)) (some ((p + n : Nat) : Int))), e, show ((p : Int)).toNat = p by omega, show (((p + n : Nat) : Int) - (p : Int)).toNat = n by omega]
end Bk
namespace Bk
open PySem L2 eF
def told (p : Cs) : Bool := match p.dropWhile (· == 32) with
 | [] => false
 | c :: _ => !(c == 35)
abbrev Mn : Str := "(),:;="
abbrev cs (s : Str) : Cs := s.cps.toList
abbrev Br : Cs := [112, 97, 115, 115, 105, 110, 103]
abbrev Bs : Cs := [108, 97, 115, 116, 105, 110, 103]
abbrev IJ : Cs := [114, 117, 108, 101]
abbrev IK : Cs := [116, 97, 107, 101]
abbrev IL : Cs := [107, 101, 101, 112]
abbrev IM : Cs := [108, 111, 111, 107]
abbrev Mo : Cs := [112, 117, 116]
abbrev IP : Cs := [116, 101, 108, 108]
def Mp (k : Kd) : List Cs := [if k.l = true then Bs else Br, k.n, [48 + k.c]]
end Bk
namespace Bk
open PySem L2 eF
theorem gv {tt : TE} {aX : List Nat} {σ : St} {H1 : Hp} {Q : VK} {K : PySem.W.Frag} {a : Addr} {xs : List V} {D : Addr} {β : Type} (bs : List β) (Out : Hp → Hp → β → V → Prop)
  (keep : ∀ H0 H H' b y, Kp H0 H H' → Out H0 H b y → Out H0 H' b y) (bU : ∀ H0 H2 H b y, (∀ c, H2 c = none → H0 c = none) → Out H2 H b y → Out H0 H b y)
  (hn : xs.length < sizeLine) (Bl : H1 D = none) (hl : aD K H1 a xs) (hb : bs.length = xs.length)
  (he : ∀ (i : Nat) x b H' R, xs[i]? = some x → bs[i]? = some b → ai H1 H' → (∀ y xZ, ai H' xZ → Out H' xZ b y → R y xZ) → tt (dg σ (some x) aX) H' R)
  (hd : ∀ H' ys, ai H1 H' → H' D = some (.lst ys) → Paired (Out H1 H') bs ys → Q (.ref D) H') : pY CH tt aX σ Q (EL K a) H1 D := by
 have s0 : ai H1 (upd H1 D (.lst [])) := ag Bl _
 have IQ : ∀ c, upd H1 D (.lst []) c = none → H1 c = none := fun c h => s0.free h
 refine nG (K := K) (a := a) (xs := xs) hn (fun i ys H' => ai H1 H' ∧ H' D = some (.lst ys) ∧ (∀ c, H' c = none → upd H1 D (.lst []) c = none) ∧ Paired (Out (upd H1 D (.lst [])) H') (bs.take i) ys) ⟨s0, ae, fun _ h => h, .nil⟩
  (fun i ys H' p => p.1.seq hl) (fun i ys H' p => ⟨p.2.1, ?_⟩) (fun i ys H' hi p => ?_) (fun ys H' p => ?_)
 ·have z := Paired.length p.2.2.2
  rw [List.length_take] at z
  omega
 ·have hx : xs.getD i .bz = xs[i] := by rw [Gd9, Ge9 hi]; rfl
  rw [hx]
  have eU : i < bs.length := by omega
  refine he i xs[i] bs[i] H' _ (Ge9 hi) (Ge9 eU) p.1 fun y H2 s2 ho => ?_
  have ki := s2 _ _ p.2.1
  have kp : Kp (upd H1 D (.lst [])) H2 (upd H2 D (.lst (ys ++ [y]))) := Kp.upd ae ki (by intro xs z; cases z) (by intro o u z; cases z)
  refine ⟨ki, ai.aT (ai.trans p.1 s2) Bl _, ae, fun c h => ?_, ?_⟩
  ·have h2 := kp.K7 c h
   exact p.2.2.1 c (s2.free h2)
  ·rw [List.take_succ_eq_append_getElem eU]
   refine (L2.Paired.rF p.2.2.2 fun b v z => keep _ _ _ _ _ kp (keep _ _ _ _ _ (Kp.same s2) z)).snoc ?_
   exact keep _ _ _ _ _ kp (bU _ _ _ _ _ p.2.2.1 ho)
 ·have z := p.2.2.2
  rw [List.take_of_length_le (by omega)] at z
  exact hd H' ys p.1 p.2.1 (L2.Paired.rF z fun b v h => bU _ _ _ _ _ (fun c h => by
   by_cases e : c = D
   ·rw [e]; exact Bl
   ·exact IQ c h) h)
theorem ak {α β : Type} {R R' : α → β → Prop} : ∀ {l1 : List α} {l2 : List β}, Paired R l1 l2 → (∀ a b, b ∈ l2 → R a b → R' a b) → Paired R' l1 l2
 | _, _, .nil, _ => .nil
 | _, _, .cons r t, h => .cons (h _ _ List.mem_cons_self r) (ak t fun a b hb => h a b (List.mem_cons_of_mem _ hb))
def Mq (H0 H : Hp) (row : List Cs) (v : V) : Prop := ∃ b, v = .ref b ∧ H0 b = none ∧ H b = some (.lst (row.map tx))
def Rows (H0 H : Hp) (v : V) (rows : List (List Cs)) : Prop := ∃ l vs, v = .ref l ∧ H0 l = none ∧ H l = some (.lst vs) ∧ Paired (Mq H0 H) rows vs
abbrev IS : Cs := [115, 97, 109, 101]
abbrev CV : Cs := [117, 110, 108, 105, 107, 101]
def Mr (k : Lk) : List Cs := [k.l, if k.same = true then IS else CV, k.r]
def Ms (p : Cs × Cs) : List Cs := [p.1, [61], p.2]
structure WB (K : PySem.W.Frag) (C : Addr) : Prop where
 cl : KY K C
 nL : fh K C "left"
 nR : fh K C "right"
end Bk
namespace Bk
open PySem L2 eF
inductive Pt where
 | fs (l : List Fc)
 | lk (l : List Lk)
 | pr (l : List (Cs × Cs))
def nK (K : PySem.W.Frag) (c : Cl) (H0 H : Hp) (v : V) : Pt → Prop
 | .fs l => Facts K H0 H v l
 | .lk l => Looks c H0 H v l
 | .pr l => Pairs K H0 H v l
theorem As.bU {c : Cl} {H0 H1 H : Hp} {x : Lk} {v : V} (d : ∀ b, H1 b = none → H0 b = none) (h : As c H1 H x v) : As c H0 H x v := by
 obtain ⟨a, dx, fs, e, n, r⟩ := h
 exact ⟨a, dx, fs, e, d a n, r⟩
theorem Looks.bU {c : Cl} {H0 H1 H : Hp} {xs : List Lk} {v : V} (d : ∀ b, H1 b = none → H0 b = none) (h : Looks c H1 H v xs) : Looks c H0 H v xs := by
 obtain ⟨l, vs, e, n, h1, h2⟩ := h
 exact ⟨l, vs, e, d l n, h1, L2.Paired.rF h2 fun _ _ z => z.bU d⟩
theorem nK.bU {K : PySem.W.Frag} {c : Cl} {H0 H1 H : Hp} {v : V} (d : ∀ b, H1 b = none → H0 b = none) : ∀ {p : Pt}, nK K c H1 H v p → nK K c H0 H v p
 | .fs _, h => xY.bU d h
 | .lk _, h => Looks.bU d h
 | .pr _, h => xY.bU d h
def wordAt : Nat → Cs
 | 0 => IK
 | 1 => IL
 | 2 => IM
 | 3 => Mo
 | _ => IP
inductive Aw : Nat → List Cs → Pt → Prop
 | fs {n : Nat} {ps : List Cs} {l : List Fc} (hn : n = 0 ∨ n = 1 ∨ n = 3) (h : Fm ps l) : Aw n ps (.fs l)
 | lk {l : List Lk} (h0 : l ≠ []) (hl : l.length ≤ 1000) (h : ∀ k ∈ l, cA k.l = true ∧ cA k.r = true) : Aw 2 (glue [44] (l.map Mr)) (.lk l)
 | pr {l : List (Cs × Cs)} (h0 : l ≠ []) (hl : l.length ≤ 1000) (h : ∀ k ∈ l, cA k.1 = true ∧ cA k.2 = true) : Aw 4 (glue [44] (l.map Ms)) (.pr l)
structure Pr where
 n : Nat
 ps : List Cs
 p : Pt
def Uu : Nat → List Pr → Prop
 | _, [] => True
 | m, x :: r => m ≤ x.n ∧ x.n < 5 ∧ Uu (x.n + 1) r
structure Mt (title : Cs) (L : List Pr) : Prop where
 tt : g0 title = true
 ne : L ≠ []
 inc : Uu 0 L
 ok : ∀ x ∈ L, Aw x.n x.ps x.p
 hd : ∃ x ∈ L, x.n = 0 ∨ x.n = 1
 no : ∀ x ∈ L, [59] ∉ x.ps
def IT (title : Cs) (L : List Pr) : List Cs := IJ :: title :: [58] :: glue [59] (L.map fun x => wordAt x.n :: x.ps)
theorem Bt {kvs : List (Key × V)} {k : Key} (h : ∀ p ∈ kvs, p.1 ≠ k) : eI kvs k = none := by
 cases e : eI kvs k with
 | none => rfl
 | some v =>
  obtain ⟨p, hp, hk⟩ := List.mem_map.mp (Ff e)
  exact absurd hk (h p hp)
end Bk
namespace Bk
open PySem L2 eF
def IU (f : Fc) : Prop := g0 f.k = true ∧ f.as.length ≤ 20000 ∧ ∀ a ∈ f.as, cA a = true
def CW (n : Nat) (L : List Pr) : Option Pr := L.find? fun x => x.n == n
def IV (n : Nat) (L : List Pr) : List Fc := match CW n L with
 | some ⟨_, _, .fs l⟩ => l
 | _ => []
def Q6 (L : List Pr) : List Lk := match CW 2 L with
 | some ⟨_, _, .lk l⟩ => l
 | _ => []
def Q7 (L : List Pr) : List (Cs × Cs) := match CW 4 L with
 | some ⟨_, _, .pr l⟩ => l
 | _ => []
def Mu (title : Cs) (L : List Pr) : Rl := ⟨title, IV 0 L, IV 1 L, Q6 L, IV 3 L, Q7 L⟩
structure WC (K : PySem.W.Frag) (C : Addr) : Prop where
 cl : KY K C
 n1 : fh K C "title"
 n2 : fh K C "taken"
 n3 : fh K C "kept"
 n4 : fh K C "looks"
 n5 : fh K C "given"
 n6 : fh K C "told"
 n7 : fh K C "names"
structure WD (K : PySem.W.Frag) (C : Addr) : Prop where
 cl : KY K C
 n1 : fh K C "kinds"
 n2 : fh K C "rules"
structure Q8 (r : Rl) : Prop where
 heads : ∀ f ∈ r.take ++ r.keep, IU f
 few : (r.take ++ r.keep).length ≤ 20000
 WE : ((r.take ++ r.keep).flatMap (·.as)).length ≤ 20000
theorem bO {α β : Type} {R : α → β → Prop} : ∀ {a1 a2 : List α} {b1 b2 : List β}, Paired R a1 b1 → Paired R a2 b2 → Paired R (a1 ++ a2) (b1 ++ b2)
 | _, _, _, _, .nil, h => h
 | _, _, _, _, .cons r t, h => .cons r (bO t h)
end Bk
namespace Bk
open PySem L2 eF
theorem ph (a : Cs) (l : List Cs) : Pl (tx a) (l.map tx) = decide (a ∈ l) := by
 unfold Pl
 rw [List.any_map, Bool.eq_iff_iff, List.any_eq_true, decide_eq_true_eq]
 constructor
 ·rintro ⟨x, hx, h⟩
  have e : (S x == S a) = true := h
  rw [mL (eq_of_beq e)] at hx
  exact hx
 ·intro h
  exact ⟨a, h, (show (S a == S a) = true from beq_self_eq_true _)⟩
theorem mM (l : List Cs) : (l.map tx).all mw = true := by
 rw [List.all_map, List.all_eq_true]
 intro x _
 rfl
theorem fb {tt : TT} {te : TE} {aX : List Nat} {σ : St} {H1 : Hp} {Q : VK} {K : PySem.W.Frag} {a : Addr} {xs : List V} {D : Addr} {β γ : Type} (bs : List β) (kp : β → Bool) (g : β → γ) (Out : Hp → Hp → γ → V → Prop)
  (keep : ∀ H0 H H' b y, Kp H0 H H' → Out H0 H b y → Out H0 H' b y) (bU : ∀ H0 H2 H b y, (∀ c, H2 c = none → H0 c = none) → Out H2 H b y → Out H0 H b y)
  (hn : xs.length < sizeLine) (Bl : H1 D = none) (hl : aD K H1 a xs) (hb : bs.length = xs.length)
  (ht : ∀ (i : Nat) x b H' R, xs[i]? = some x → bs[i]? = some b → ai H1 H' → (∀ xZ, ai H' xZ → R (kp b) xZ) → tt (dg σ (some x) aX) H' R)
  (he : ∀ (i : Nat) x b H' R, xs[i]? = some x → bs[i]? = some b → kp b = true → ai H1 H' → (∀ y xZ, ai H' xZ → Out H' xZ (g b) y → R y xZ) → te (dg σ (some x) aX) H' R)
  (hd : ∀ H' ys, ai H1 H' → H' D = some (.lst ys) → Paired (Out H1 H') ((bs.filter kp).map g) ys → Q (.ref D) H') : pY tt te aX σ Q (EL K a) H1 D := by
 have s0 : ai H1 (upd H1 D (.lst [])) := ag Bl _
 have IQ : ∀ c, upd H1 D (.lst []) c = none → H1 c = none := fun c h => s0.free h
 refine nG (K := K) (a := a) (xs := xs) hn (fun i ys H' => ai H1 H' ∧ H' D = some (.lst ys) ∧ (∀ c, H' c = none → upd H1 D (.lst []) c = none) ∧ Paired (Out (upd H1 D (.lst [])) H') (((bs.take i).filter kp).map g) ys) ⟨s0, ae, fun _ h => h, .nil⟩
  (fun i ys H' p => p.1.seq hl) (fun i ys H' p => ⟨p.2.1, ?_⟩) (fun i ys H' hi p => ?_) (fun ys H' p => ?_)
 ·have z := Paired.length p.2.2.2
  rw [Lm9] at z
  have z2 := List.length_filter_le kp (bs.take i)
  rw [List.length_take] at z2
  omega
 ·have hx : xs.getD i .bz = xs[i] := by rw [Gd9, Ge9 hi]; rfl
  rw [hx]
  have eU : i < bs.length := by omega
  refine ht i xs[i] bs[i] H' _ (Ge9 hi) (Ge9 eU) p.1 fun Uv IW => ?_
  have K5 := IW _ _ p.2.1
  have IX : ∀ c, Uv c = none → upd H1 D (.lst []) c = none := fun c h => p.2.2.1 c (IW.free h)
  cases hk : kp bs[i] with
  | false =>
   refine dm ⟨ai.trans p.1 IW, K5, IX, ?_⟩
   rw [List.take_succ_eq_append_getElem eU, List.filter_append]
   have e : [bs[i]].filter kp = [] := by simp [hk]
   rw [e, List.append_nil]
   exact L2.Paired.rF p.2.2.2 fun b v z => keep _ _ _ _ _ (Kp.same IW) z
  | true =>
   refine gS ?_
   refine he i xs[i] bs[i] Uv _ (Ge9 hi) (Ge9 eU) hk (ai.trans p.1 IW) fun y H2 s2 ho => ?_
   have ki := s2 _ _ K5
   have Fi : Kp (upd H1 D (.lst [])) H2 (upd H2 D (.lst (ys ++ [y]))) := Kp.upd ae ki (by intro xs z; cases z) (by intro o u z; cases z)
   refine ⟨ki, ai.aT (ai.trans (ai.trans p.1 IW) s2) Bl _, ae, fun c h => ?_, ?_⟩
   ·exact IX c (s2.free (Fi.K7 c h))
   ·rw [List.take_succ_eq_append_getElem eU, List.filter_append]
    have e : [bs[i]].filter kp = [bs[i]] := by simp [hk]
    rw [e, List.map_append]
    refine (L2.Paired.rF p.2.2.2 fun b v z => keep _ _ _ _ _ Fi (keep _ _ _ _ _ (Kp.same (ai.trans IW s2)) z)).snoc ?_
    exact keep _ _ _ _ _ Fi (bU _ _ _ _ _ IX ho)
 ·have z := p.2.2.2
  rw [List.take_of_length_le (by omega)] at z
  exact hd H' ys p.1 p.2.1 (L2.Paired.rF z fun b v h => bU _ _ _ _ _ (fun c h => by
   by_cases e : c = D
   ·rw [e]; exact Bl
   ·exact IQ c h) h)
theorem tq : ∀ {l : List Cs} {ys : List V}, Paired (fun b y => y = tx b) l ys → ys = l.map tx
 | _, _, .nil => rfl
 | _, _, .cons r t => by rw [r, tq t]; rfl
def Q9 (k : Kd) : Prop := g0 k.n = true ∧ k.c ≤ 4
structure Ra (K : PySem.W.Frag) (c : Cl) (H0 H : Hp) (lk lr : Addr) (ks : List Kd) (rs : List Rl) (kvs Uw : List V) : Prop where
 hk : H lk = some (.lst kvs)
 pk : Paired (Kind K H) ks kvs
 hr : H lr = some (.lst Uw)
 pr : Paired (wL K c H0 H) rs Uw
 ne : lk ≠ lr
 ok : ∃ u, H0 lk = some u
 or : ∃ u, H0 lr = some u
 K7 : ∀ b, H b = none → H0 b = none
 fk : ks.length ≤ 10000
 fr : rs.length ≤ 10000
theorem wL.bU {K : PySem.W.Frag} {c : Cl} {H0 H1 H : Hp} {r : Rl} {v : V} (d : ∀ b, H1 b = none → H0 b = none) (h : wL K c H1 H r v) : wL K c H0 H r v := by
 obtain ⟨a, dx, fs, e, n, h1, ⟨t1, ⟨v2, e2, h2⟩, ⟨v3, e3, h3⟩, ⟨v4, e4, h4⟩, ⟨v5, e5, h5⟩, ⟨v6, e6, h6⟩, ⟨v7, e7, h7⟩, h8⟩⟩ := h
 refine ⟨a, dx, fs, e, d a n, h1, ⟨t1, ⟨v2, e2, xY.bU d h2⟩, ⟨v3, e3, xY.bU d h3⟩, ⟨v4, e4, Looks.bU d h4⟩, ⟨v5, e5, xY.bU d h5⟩, ⟨v6, e6, xY.bU d h6⟩, ⟨v7, e7, ?_⟩, h8⟩⟩
 obtain ⟨l, el, nl, hl⟩ := h7
 exact ⟨l, el, d l nl, hl⟩
theorem nK.apart {K : PySem.W.Frag} {c : Cl} {H0 H : Hp} {v : V} {x : Addr} {o : HO} (hx : H x = none) {p : Pt} (h : nK K c H0 H v p) : nK K c (upd H0 x o) H v p := by
 have key : ∀ b u, H b = some u → H0 b = none → upd H0 x o b = none := fun b u e n => by rw [az (aY e hx)]; exact n
 cases p with
 | fs l =>
  obtain ⟨l, vs, e, n, h1, h2⟩ := h
  exact ⟨l, vs, e, key _ _ h1 n, h1, h2⟩
 | pr l =>
  obtain ⟨l, vs, e, n, h1, h2⟩ := h
  exact ⟨l, vs, e, key _ _ h1 n, h1, h2⟩
 | lk l =>
  obtain ⟨l, vs, e, n, h1, h2⟩ := h
  exact ⟨l, vs, e, key _ _ h1 n, h1, L2.Paired.rF h2 fun k y z => by
   obtain ⟨a, dx, fs, e, n, z1, z2⟩ := z
   exact ⟨a, dx, fs, e, key _ _ z1 n, z1, z2⟩⟩
theorem Au.bU {K : PySem.W.Frag} {c : Cl} {H0 H1 H : Hp} {r : Rl} {fs : List (Str × V)} (d : ∀ b, H1 b = none → H0 b = none) (h : Au K c H1 H r fs) : Au K c H0 H r fs := by
 obtain ⟨t1, ⟨v2, e2, h2⟩, ⟨v3, e3, h3⟩, ⟨v4, e4, h4⟩, ⟨v5, e5, h5⟩, ⟨v6, e6, h6⟩, ⟨v7, e7, h7⟩, h8⟩ := h
 refine ⟨t1, ⟨v2, e2, xY.bU d h2⟩, ⟨v3, e3, xY.bU d h3⟩, ⟨v4, e4, Looks.bU d h4⟩, ⟨v5, e5, xY.bU d h5⟩, ⟨v6, e6, xY.bU d h6⟩, ⟨v7, e7, ?_⟩, h8⟩
 obtain ⟨l, el, nl, hl⟩ := h7
 exact ⟨l, el, d l nl, hl⟩
def CY (ks : List Kd) (f : Fc) : Prop := ∃ k ∈ ks, k.n = f.k ∧ f.as.length = k.c
def yH (r : Rl) : List Cs := (r.CU.flatMap fun k => [k.l, k.r]) ++ ((r.put.flatMap (·.as)) ++ (r.tell.flatMap fun p => [p.1, p.2]))
structure IY (ks : List Kd) (r : Rl) : Prop where
 fits : ∀ f ∈ r.take ++ r.keep ++ r.put, CY ks f
 takes : ∀ f ∈ r.take, f.k ∉ (ks.filter (·.l)).map (·.n)
 calls : r.take = [] → ∀ f ∈ r.put, f.k ∈ (ks.filter (·.l)).map (·.n)
 WG : ∀ a ∈ yH r, great a = true → a ∈ opens (r.take ++ r.keep)
 names : ∀ a ∈ yH r, cA a = true
 few : (yH r).length ≤ 20000
 WH : (r.take ++ r.keep ++ r.put).length ≤ 20000
theorem g6 : ∀ (ps acc : List (Key × V)), ((acc ++ ps).map (·.1)).Nodup → cY acc ps = acc ++ ps
 | [], acc, _ => by show acc = acc ++ []; rw [List.append_nil]
 | p :: r, acc, h => by
  have hn : eI acc p.1 = none := Bt fun q hq e => by
   rw [List.map_append, List.map_cons, List.nodup_append] at h
   exact h.2.2 q.1 (List.mem_map.mpr ⟨q, hq, rfl⟩) p.1 List.mem_cons_self e
  have ih := g6 r (acc ++ [p]) (by rw [List.append_assoc]; exact h)
  show cY (putK acc p.1 p.2) r = _
  rw [wI _ hn, ih, List.append_assoc]
  rfl
def mO (k : Kd) : Key × V := (Sum.inr (S k.n), .int k.c)
theorem ow {K : PySem.W.Frag} {H : Hp} : ∀ {ks : List Kd} {ys : List V}, Paired (fun (k : Kd) (y : V) => ∃ t, y = .ref t ∧ aO K H t [tx k.n, .int k.c]) ks ys → mJ K H (ks.map mO) ys
 | _, _, .nil => .nil
 | _, _, .cons r t => .cons r (ow t)
theorem wN {ks : List Kd} (h : (ks.map (·.n)).Nodup) : ((ks.map mO).map (·.1)).Nodup := by
 rw [List.map_map]
 have e : ((fun p : Key × V => p.1) ∘ mO) = (fun n : Cs => (Sum.inr (S n) : Key)) ∘ (fun k : Kd => k.n) := rfl
 rw [e, ← List.map_map]
 exact List.pairwise_map.mpr (List.Pairwise.imp (fun hne e => hne (mL (Sum.inr.inj e))) h)
end Bk
namespace Bk
open PySem L2 eF
inductive It where
 | kind (k : Kd)
 | rule (title : Cs) (L : List Pr)
def It.ps : It → List Cs
 | .kind k => Mp k
 | .rule t L => IT t L
def Fo : List It → List Kd
 | [] => []
 | .kind k :: r => k :: Fo r
 | .rule _ _ :: r => Fo r
def Fp : List It → List Rl
 | [] => []
 | .kind _ :: r => Fp r
 | .rule t L :: r => Mu t L :: Fp r
def Rb : It → Prop
 | .kind k => Q9 k
 | .rule t L => Mt t L ∧ Q8 (Mu t L)
structure Ux (ls : List Cs) (its : List (Cs × It)) : Prop where
 lines : ls.filter told = its.map (·.1)
 ok : ∀ x ∈ its, x.1.all (WA Mn) = true ∧ toks x.1 = x.2.ps ∧ Rb x.2
 nk : ((Fo (its.map (·.2))).map (·.n)).Nodup
 nr : ((Fp (its.map (·.2))).map (·.title)).Nodup
 good : ∀ r ∈ Fp (its.map (·.2)), IY (Fo (its.map (·.2))) r
 few : its.length < 10000
end Bk
namespace L2
open PySem PySem.Spec PyProof.Rows
section
variable {X : Cx}
end
end L2
namespace L2
open PySem PySem.Spec PyProof.Rows
theorem uJ {X : Cx} : cw X (.builtin "isinstance") (fun xs H Q => ∃ (a : Addr) (ys : List V) (n : String) (b : Bool), xs = [.ref a, .ty n] ∧ aO X.K H a ys ∧ PySem.W.kitOne X.K (.type "tuple") (.type n) = some b ∧ Q (.bl b) H) := by
 intro pins s σ H xs us Q I r h
 obtain ⟨a, ys, n, b, rfl, g, e, q⟩ := h
 obtain ⟨u, u2, rfl, rx, ru⟩ := vals2 r
 have e2 : u2 = Value.type n := ru
 subst e2
 cases (show u = Value.ref a from rx)
 obtain ⟨its, _, ⟨o, h1, h2, _⟩, _⟩ := I.tuple g
 exact PySem.W.kia_one PySem.W.kitx_tuple I.pM ⟨o, h1, h2⟩ e (fun z => nomatch z) fun tk => ⟨.bl b, H, I.tok _, rfl, q⟩
end L2
namespace Bk
open PySem L2 eF
abbrev oM : Str := "abcdefghijklmnopqrstuvwxyz0123456789ABCDEFGHIJKLMNOPQRSTUVWXYZ"
abbrev GR : Str := "abcdefghijklmnopqrstuvwxyz0123456789"
theorem wO (a b : List Nat) : S a ++ S b = S (a ++ b) := by
 rw [← Bq (S a ++ S b), PySem.W.KT.app_list, du, du]
theorem IZ (cs : List Nat) : Txt.join (Str.ofString "") (cs.map fun c => S [c]) = S cs := by
 show Builtin.Str.glued (Str.ofString "") _ = _
 rw [StrLaws.glued_eq_join]
 have e := PyProof.Rows.join_nil_signs (S cs)
 unfold PyProof.Rows.signs at e
 rw [du] at e
 exact e
theorem Ax : ∀ {as : List (List Nat)} {B : Nat}, (∀ a ∈ as, a.length ≤ B) → ((as.map S).map (·.length)).sum ≤ as.length * B
 | [], _, _ => by simp
 | a :: r, B, h => by
  have z := h a (by simp)
  have ih := Ax (as := r) (B := B) fun x hx => h x (List.mem_cons_of_mem _ hx)
  rw [List.map_cons, List.map_cons, List.sum_cons, dh, List.length_cons, Nat.add_mul]
  omega
theorem CZ : oM.cps.toList.all mK = true := by decide +kernel
theorem mP : oM.length = 62 := by decide +kernel
def yI (K : PySem.W.Frag) : Sp := fun vs H Q _ => ∃ (a : Addr) (ns : List Int) (k : Int), vs = [.ref a, .int k] ∧ aD K H a (ns.map V.int) ∧ 0 ≤ k ∧ ∀ v : Int, Q (.int v) H
def tu : Sp := fun vs H Q _ => ∃ c k : Int, vs = [.int c, .int k] ∧ 0 ≤ k ∧ k ≤ 100 ∧ ∀ (v : Int) (H' : Hp), ai H H' → 0 ≤ v → Q (.int v) H'
def Good (fs : List Nat) (z : List Nat) : Prop := cA z = true ∧ z.headD 0 ∈ fs
def mQ : Sp := fun vs H Q _ => ∃ (c : Int) (n : Nat) (fs : List Nat), vs = [.int c, .int n, tx fs] ∧ n ≤ 10 ∧ 10 ≤ fs.length ∧ fs.length ≤ 62 ∧ fs.all mK = true ∧ fs.Nodup ∧
 ∀ (l : Addr) (zs : List (List Nat)) (H' : Hp), ai H H' → H l = none → H' l = some (.lst (zs.map tx)) → zs.length = n → (∀ z ∈ zs, Good fs z) → zs.Nodup → Q (.ref l) H'
def f9 (fs : List Nat) : Sp := fun vs H Q _ => ∃ (c : Int) (n : Nat), vs = [.int c, .int n] ∧ n ≤ 10 ∧
 ∀ (l : Addr) (zs : List (List Nat)) (H' : Hp), ai H H' → H l = none → H' l = some (.lst (zs.map tx)) → zs.length = n → (∀ z ∈ zs, Good fs z) → zs.Nodup → Q (.ref l) H'
def Ay (K : PySem.W.Frag) : Sp := fun vs H Q _ => ∃ (a : Addr) (ns : List Int), vs = [.ref a] ∧ aD K H a (ns.map V.int) ∧ ns.length ≤ 63 ∧ ∀ H', Q (.bl true) H'
theorem uK {fs : List Nat} {c : Nat} {r : List Nat} (hc : c ∈ fs) (hf : fs.all mK = true) (hr : r.all mK = true) (hl : r.length ≤ 11) : Good fs ([c] ++ r) := by
 refine ⟨?_, hc⟩
 show cA (c :: r) = true
 unfold cA
 rw [List.all_eq_true] at hf
 have z : (c :: r).all mK = true := by rw [List.all_cons, hf c hc, hr]; rfl
 rw [z]
 simp
 omega
theorem sign_of {x : Str} {i : Int} (h0 : 0 ≤ i) (h1 : i < x.length) : ∃ c, wm x.cps.toList i = some c ∧ c ∈ x.cps.toList := by
 have hl := nJ x
 exact ⟨_, yF h0 h1, List.mem_of_getElem? (getD_get (by omega))⟩
theorem qd {T : List Nat} {n : Nat} (h : n ≤ T.length) : Txt.slice (S T) none (some (n : Int)) = S (T.take n) := by
 have e := CJ (z := S T) (j := (n : Int)) (by omega) (by rw [dh]; omega)
 rw [← Bq (Txt.slice (S T) none (some (n : Int))), e, du, show ((n : Int)).toNat = n by omega]
theorem eJ {α : Type} {n : Nat} {g : Nat → α} (h : ∀ i j, i < n → j < n → g i = g j → i = j) : ((List.range n).map g).Nodup := by
 rw [List.nodup_iff_pairwise_ne, List.pairwise_map]
 refine List.Pairwise.imp_of_mem ?_ (List.nodup_range (n := n))
 intro a b ha hb hne e
 exact hne (h a b (List.mem_range.mp ha) (List.mem_range.mp hb) e)
theorem qe {l : List Nat} (h : l.Nodup) {i j : Nat} (hi : i < l.length) (hj : j < l.length) (e : l.getD i 0 = l.getD j 0) : i = j := by
 rw [Gd9, Gd9, Ge9 hi, Ge9 hj] at e
 have e : l[i] = l[j] := e
 have p := List.pairwise_iff_getElem.mp h
 rcases Nat.lt_trichotomy i j with z | z | z
 ·exact absurd e (p i j hi hj z)
 ·exact z
 ·exact absurd e.symm (p j i hj hi z)
theorem Az {a : Int} {m i j : Nat} (hi : i < m) (hj : j < m) (e : ((a + (0 + (i : Int))) % (m : Int)).toNat = ((a + (0 + (j : Int))) % (m : Int)).toNat) : i = j := by
 have m0 : (0 : Int) < m := by omega
 have h1 := Int.emod_nonneg (a + (0 + (i : Int))) (b := (m : Int)) (by omega)
 have h2 := Int.emod_nonneg (a + (0 + (j : Int))) (b := (m : Int)) (by omega)
 have e' : (a + (0 + (i : Int))) % (m : Int) = (a + (0 + (j : Int))) % (m : Int) := by omega
 have e3 : ((i : Int) - (j : Int)) % (m : Int) = 0 := by
  have z := Int.emod_eq_emod_iff_emod_sub_eq_zero.mp e'
  have z2 : a + (0 + (i : Int)) - (a + (0 + (j : Int))) = (i : Int) - (j : Int) := by omega
  rw [z2] at z
  exact z
 obtain ⟨k, hk⟩ := Int.dvd_of_emod_eq_zero e3
 have uL : k = 0 := by
  rcases Int.lt_trichotomy k 0 with h | h | h
  ·have : (m : Int) * k ≤ -(m : Int) := by
    have := Int.mul_le_mul_of_nonneg_left (show k ≤ -1 by omega) (Int.le_of_lt m0)
    omega
   omega
  ·exact h
  ·have : (m : Int) ≤ (m : Int) * k := by
    have := Int.mul_le_mul_of_nonneg_left (show 1 ≤ k by omega) (Int.le_of_lt m0)
    omega
   omega
 rw [uL] at hk
 omega
theorem fm {K : PySem.W.Frag} {t : Value} : PySem.W.kitOne K t t = some true := by
 unfold PySem.W.kitOne
 rw [if_pos (beq_self_eq_true t)]
end Bk
namespace Bk
open PySem L2 eF
end Bk
namespace Bk
open PySem L2 eF
end Bk
namespace Bk
open PySem L2 eF
end Bk
namespace L2
open PySem PySem.Spec PyProof.Rows
section
variable {X : Cx} {pins : List (Addr × Obj)} {σ : St} {H : Hp} {s : Shared} {h' : Heap}
end
end L2
namespace L2
open PySem PySem.Spec PyProof.Rows
section
variable {prog : Program} {w : World} {A : Around} {E : Value → Shared → Prop} {s : Shared}
end
section
variable {X : Cx}
end
end L2
namespace L2
open PySem PySem.Spec PyProof.Rows
section
variable {X : Cx}
end
end L2
namespace L2
open PySem PySem.Spec PyProof.Rows
structure Px (outer scope : Scope) (x : Str) (N : List Str) : Prop where
 kind : scope.kind = .function
 one : scope.names.filter (fun y => y.2 == .cell) = [(x, .cell)]
 locs : ∀ y ∈ scope.names, y.2 = .local → scope.names.lookup y.1 = some .local
 QU : scope.names.lookup x = some .cell
 frees : ∀ y ∈ scope.names, y.2 = .free → (outer.names.lookup y.1 = some .cell ∨ outer.names.lookup y.1 = some .free)
 aX : ∀ y ∈ N.tail, scope.names.lookup y = some .free
 nd : N.Nodup
section
variable {X : Cx}
end
end L2
namespace L2
open PySem PySem.Spec PyProof.Rows
structure Py (outer scope : Scope) (xs : List Str) (N : List Str) : Prop where
 kind : scope.kind = .function
 yz : ∀ y ∈ scope.names, y.2 ≠ .cell
 locs : ∀ y ∈ scope.names, y.2 = .local → scope.names.lookup y.1 = some .local
 QU : ∀ x ∈ xs, scope.names.lookup x = some .local
 frees : ∀ y ∈ scope.names, y.2 = .free → (outer.names.lookup y.1 = some .cell ∨ outer.names.lookup y.1 = some .free)
 aX : ∀ y ∈ N.drop xs.length, scope.names.lookup y = some .free
 nd : N.Nodup
section
variable {X : Cx}
end
end L2
namespace L2
open PySem PySem.Spec PyProof.Rows
section
variable {X : Cx}
end
end L2
namespace L2
open PySem PySem.Spec PyProof.Rows
section
variable {X : Cx} {pins : List (Addr × Obj)} {σ : St}
end
end L2
namespace L2
open PySem PySem.Spec PyProof.Rows
section
variable {X : Cx}
end
end L2
namespace L2
open PySem PySem.Spec PyProof.Rows
end L2
namespace L2
open PySem PySem.W PyProof.Rows
def cQ {α : Type} (lt : Nat → Nat → Bool) (n : Nat) : KasT α → (α → Prop) → Prop
 | .ret a, Q => Q a
 | .ask i j k, Q => i < n ∧ j < n ∧ cQ lt n (k (lt i j)) Q
theorem cQ.mono {α : Type} {lt : Nat → Nat → Bool} {n : Nat} {Q Q' : α → Prop} (hq : ∀ a, Q a → Q' a) : ∀ {t : KasT α}, cQ lt n t Q → cQ lt n t Q'
 | .ret _, h => hq _ h
 | .ask _ _ _, ⟨h1, h2, h3⟩ => ⟨h1, h2, cQ.mono hq h3⟩
theorem cQ.bind {α β : Type} {lt : Nat → Nat → Bool} {n : Nat} {f : α → KasT β} {Q : β → Prop} : ∀ {t : KasT α}, cQ lt n t (fun a => cQ lt n (f a) Q) → cQ lt n (t.bind f) Q
 | .ret _, h => h
 | .ask _ _ _, ⟨h1, h2, h3⟩ => ⟨h1, h2, cQ.bind h3⟩
theorem cQ.wp {α : Type} {lt : Nat → Nat → Bool} {n : Nat} {Q : α → Prop} {cmp : Nat → Nat → (Bool → Shared → Prop) → Shared → Prop} {R : α → Shared → Prop} {s : Shared} (hc : ∀ i j C, i < n → j < n → C (lt i j) s → cmp i j C s) (hq : ∀ a, Q a → R a s) :
  ∀ {t : KasT α}, cQ lt n t Q → t.kasWp cmp R s
 | .ret _, h => hq _ h
 | .ask _ _ _, ⟨h1, h2, h3⟩ => hc _ _ _ h1 h2 (cQ.wp hc hq h3)
structure WO (lt : Nat → Nat → Bool) : Prop where
 uM : ∀ a b, lt a b = true → lt b a = false
 tr : ∀ a b c, lt b a = false → lt c b = false → lt c a = false
theorem WO.K8 {lt : Nat → Nat → Bool} (W : WO lt) (a : Nat) : lt a a = false := by
 cases h : lt a a with
 | false => rfl
 | true => have := W.uM a a h; rw [h] at this; exact this
theorem WO.up {lt : Nat → Nat → Bool} (W : WO lt) {a b c : Nat} (h1 : lt a b = true) (h2 : lt c b = false) : lt a c = true := by
 cases h : lt a c with
 | true => rfl
 | false => have := W.tr b c a h2 h; rw [h1] at this; exact this.symm
def uN (lt : Nat → Nat → Bool) (p : Array Nat) (m : Nat) : Prop := ∀ i j, i < j → j < m → lt (p.getD j 0) (p.getD i 0) = false
def Cb (lt : Nat → Nat → Bool) (p : Array Nat) (m : Nat) : Prop := ∀ i j, i < j → j < m → lt (p.getD i 0) (p.getD j 0) = false
def Arr (n : Nat) (p : Array Nat) : Prop := p.size = n ∧ p.toList.Perm (List.range n)
theorem Arr.lt {n : Nat} {p : Array Nat} (h : Arr n p) {k : Nat} (hk : k < n) : p.getD k 0 < n := by
 have hs : k < p.size := by rw [h.1]; exact hk
 have e : p.getD k 0 = p[k] := by simp [Array.getD, hs]
 rw [e]
 have m : p[k] ∈ p.toList := by simp
 exact List.mem_range.mp (h.2.mem_iff.mp m)
theorem Arr.of {n : Nat} {p q : Array Nat} (h : Arr n p) (hp : q.Perm p) : Arr n q := ⟨hp.size_eq.trans h.1, (Array.perm_iff_toList_perm.mp hp).trans h.2⟩
theorem eo {p : Array Nat} {i j : Nat} (hj : j ≤ p.size) (k : Nat) : (kas_rev p i j).getD k 0 = if i ≤ k ∧ k < j then p.getD (i + j - 1 - k) 0 else p.getD k 0 := by
 rw [Array.getD_eq_getD_getElem?, Array.getD_eq_getD_getElem?, Array.getD_eq_getD_getElem?]
 unfold kas_rev
 rw [getElem?_mirror_all hj k]
 split <;> rfl
theorem wQ {p : Array Nat} {src d : Nat} (hs : src < p.size) (hd : d ≤ src) (k : Nat) : (bubble p src d).getD k 0 = if k = src - d then p.getD src 0 else if src - d < k ∧ k ≤ src then p.getD (k - 1) 0 else p.getD k 0 := by
 rw [Array.getD_eq_getD_getElem?, Array.getD_eq_getD_getElem?, Array.getD_eq_getD_getElem?, Array.getD_eq_getD_getElem?]
 rw [getElem?_bubble hs d hd k]
 split
 ·rfl
 ·split <;> rfl
theorem Arr.rev {n : Nat} {p : Array Nat} (h : Arr n p) (i j : Nat) : Arr n (kas_rev p i j) := h.of (mirror_perm _ _ _ _)
theorem Arr.WI {n : Nat} {p : Array Nat} (h : Arr n p) (i j : Nat) : Arr n (bubble p i j) := h.of (bubble_perm _ _ _)
section
variable {lt : Nat → Nat → Bool} {n : Nat} (W : WO lt)
include W
theorem uN.more {p : Array Nat} {m : Nat} (h : uN lt p m) (h1 : 1 ≤ m) (hl : lt (p.getD m 0) (p.getD (m - 1) 0) = false) : uN lt p (m + 1) := fun i j x6 hj => by
 by_cases e : j = m
 ·subst e
  by_cases e2 : i = j - 1
  ·subst e2; exact hl
  ·exact W.tr _ _ _ (h i (j - 1) (by omega) (by omega)) hl
 ·exact h i j x6 (by omega)
theorem Cb.more {p : Array Nat} {m : Nat} (h : Cb lt p m) (h1 : 1 ≤ m) (hl : lt (p.getD (m - 1) 0) (p.getD m 0) = false) : Cb lt p (m + 1) := fun i j x6 hj => by
 by_cases e : j = m
 ·subst e
  by_cases e2 : i = j - 1
  ·subst e2; exact hl
  ·exact W.tr _ _ _ hl (h i (j - 1) (by omega) (by omega))
 ·exact h i j x6 (by omega)
theorem yJ {p : Array Nat} (hp : Arr n p) : ∀ (f m : Nat), 1 ≤ m → m + f ≤ n → uN lt p m →
  cQ lt n (kas_asc p f m) (fun r => m ≤ r ∧ r ≤ m + f ∧ uN lt p r ∧ (r < m + f → lt (p.getD r 0) (p.getD (r - 1) 0) = true))
 | 0, m, _, _, h => ⟨Nat.le_refl _, Nat.le_refl _, h, fun z => absurd z (by omega)⟩
 | f + 1, m, h1, h2, h => by
  refine ⟨hp.lt (by omega), hp.lt (by omega), ?_⟩
  cases e : lt (p.getD m 0) (p.getD (m - 1) 0) with
  | true => exact ⟨Nat.le_refl _, by omega, h, fun _ => e⟩
  | false =>
   show cQ lt n (kas_asc p f (m + 1)) _
   exact (yJ hp f (m + 1) (by omega) (by omega) (h.more W h1 e)).mono fun r ⟨a, b, c, d⟩ => ⟨by omega, by omega, c, fun z => d (by omega)⟩
def Pz (lt : Nat → Nat → Bool) (p : Array Nat) (a b : Nat) : Prop := ∀ i j, a ≤ i → i < b → a ≤ j → j < b → lt (p.getD i 0) (p.getD j 0) = false
omit W in
theorem Cb.rev {p : Array Nat} {a m : Nat} (hm : m ≤ p.size) (h : Cb lt p m) (he : Pz lt p a m) : Cb lt (kas_rev p a m) m := fun i j x6 hj => by
 rw [eo hm, eo hm]
 by_cases h1 : a ≤ i
 ·rw [if_pos ⟨h1, by omega⟩, if_pos ⟨by omega, hj⟩]
  exact he _ _ (by omega) (by omega) (by omega) (by omega)
 ·rw [if_neg (by omega)]
  by_cases h2 : a ≤ j
  ·rw [if_pos ⟨h2, hj⟩]
   exact h _ _ (by omega) (by omega)
  ·rw [if_neg (by omega)]
   exact h i j x6 hj
theorem pj : ∀ (f : Nat) (p : Array Nat) (m q : Nat), Arr n p → q + 1 ≤ m → m + f = n → Cb lt p m → Pz lt p (m - (q + 1)) m →
  cQ lt n (kas_desc f p m q) (fun r => Arr n r.1 ∧ r.2.1 ≤ n ∧ r.2.2 + 1 ≤ r.2.1 ∧ Cb lt r.1 r.2.1 ∧ Pz lt r.1 (r.2.1 - (r.2.2 + 1)) r.2.1)
 | 0, p, m, q, hp, hq, hm, h, he => ⟨hp, by show m ≤ n; omega, hq, h, he⟩
 | f + 1, p, m, q, hp, hq, hm, h, he => by
  refine ⟨hp.lt (by omega), hp.lt (by omega), ?_⟩
  have hsz : m ≤ p.size := by rw [hp.1]; omega
  cases e : lt (p.getD m 0) (p.getD (m - 1) 0) with
  | true =>
   show cQ lt n (if q > 0 then _ else _) _
   split
   ·have hr := h.rev hsz he
    have e1 : (kas_rev p (m - (q + 1)) m).getD m 0 = p.getD m 0 := by rw [eo hsz, if_neg (by omega)]
    have hl : lt ((kas_rev p (m - (q + 1)) m).getD (m - 1) 0) ((kas_rev p (m - (q + 1)) m).getD m 0) = false := by
     rw [e1, eo hsz, if_pos ⟨by omega, by omega⟩]
     have e2 : m - (q + 1) + m - 1 - (m - 1) = m - (q + 1) := by omega
     rw [e2]
     exact W.tr _ _ _ (W.uM _ _ e) (he (m - (q + 1)) (m - 1) (by omega) (by omega) (by omega) (by omega))
    refine pj f _ (m + 1) 0 (hp.rev _ _) (by omega) (by omega) (hr.more W (by omega) hl) fun i j a1 a2 a3 a4 => ?_
    obtain rfl : i = j := by omega
    exact W.K8 _
   ·refine pj f p (m + 1) 0 hp (by omega) (by omega) (h.more W (by omega) (W.uM _ _ e)) fun i j a1 a2 a3 a4 => ?_
    obtain rfl : i = j := by omega
    exact W.K8 _
  | false =>
   show cQ lt n (.ask (p.getD (m - 1) 0) (p.getD m 0) _) _
   refine ⟨hp.lt (by omega), hp.lt (by omega), ?_⟩
   cases e2 : lt (p.getD (m - 1) 0) (p.getD m 0) with
   | true => exact ⟨hp, by show m ≤ n; omega, hq, h, he⟩
   | false =>
    show cQ lt n (kas_desc f p (m + 1) (q + 1)) _
    refine pj f p (m + 1) (q + 1) hp (by omega) (by omega) (h.more W (by omega) e2) fun i j a1 a2 a3 a4 => ?_
    by_cases c1 : i = m
    ·subst c1
     by_cases c2 : j = i
     ·subst c2; exact W.K8 _
     ·exact W.tr _ _ _ (he j (i - 1) (by omega) (by omega) (by omega) (by omega) |> fun z => he (i - 1) j (by omega) (by omega) (by omega) (by omega)) e
    ·by_cases c2 : j = m
     ·subst c2
      exact W.tr _ _ _ e2 (he i (j - 1) (by omega) (by omega) (by omega) (by omega))
     ·exact he i j (by omega) (by omega) (by omega) (by omega)
theorem wR {p : Array Nat} {m : Nat} (hp : Arr n p) (h1 : 1 ≤ m) (hm : m ≤ n) (h : Cb lt p m) : cQ lt n (kas_tail3 m n p) (fun r => Arr n r.2 ∧ 1 ≤ r.1 ∧ r.1 ≤ n ∧ uN lt r.2 r.1) := by
 have hsz : m ≤ p.size := by rw [hp.1]; exact hm
 have hr : uN lt (kas_rev p 0 m) m := fun i j x6 hj => by
  rw [eo hsz, eo hsz, if_pos ⟨by omega, hj⟩, if_pos ⟨by omega, by omega⟩]
  exact h _ _ (by omega) (by omega)
 refine cQ.bind ((yJ W (hp.rev 0 m) (n - m) m h1 (by omega) hr).mono fun r ⟨a, b, c, _⟩ => ?_)
 exact ⟨hp.rev 0 m, by show 1 ≤ r; omega, by show r ≤ n; omega, c⟩
theorem oy {p : Array Nat} {m : Nat} (hp : Arr n p) (hm : m + 1 ≤ n) (h : Cb lt p (m + 1)) : cQ lt n (kas_descPart m n p) (fun r => Arr n r.2 ∧ 1 ≤ r.1 ∧ r.1 ≤ n ∧ uN lt r.2 r.1) := by
 refine cQ.bind ((pj W (n - (m + 1)) p (m + 1) 0 hp (by omega) (by omega) h fun i j a1 a2 a3 a4 => ?_).mono fun r ⟨a, b, c, d, e⟩ => ?_)
 ·obtain rfl : i = j := by omega
  exact W.K8 _
 ·split
  ·exact wR W (a.rev _ _) (by omega) b (d.rev (by rw [a.1]; exact b) e)
  ·exact wR W a (by omega) b d
theorem C0 {p : Array Nat} (hp : Arr n p) (h1 : 1 ≤ n) : cQ lt n (kas_count n p) (fun r => Arr n r.2 ∧ 1 ≤ r.1 ∧ r.1 ≤ n ∧ uN lt r.2 r.1) := by
 refine cQ.bind ((yJ W hp (n - 1) 1 (Nat.le_refl _) (by omega) fun i j a b => absurd a (by omega)).mono fun m ⟨a, b, c, d⟩ => ?_)
 split
 ·exact ⟨hp, a, by show m ≤ n; omega, c⟩
 ·rename_i hne
  have hne' : m ≠ n := fun z => hne (beq_iff_eq.mpr z)
  have hd := d (by omega)
  split
  ·refine ⟨hp.lt (by omega), hp.lt (by omega), ?_⟩
   cases e : lt (p.getD 0 0) (p.getD (m - 1) 0) with
   | true => exact ⟨hp, a, by show m ≤ n; omega, c⟩
   | false =>
    show cQ lt n (kas_descPart m n (kas_rev p 0 m)) _
    have hsz : m ≤ p.size := by rw [hp.1]; omega
    have all : Pz lt p 0 m := fun i j _ hi _ hj => by
     have z1 : lt (p.getD (m - 1) 0) (p.getD j 0) = false := by
      by_cases cj : j = m - 1
      ·subst cj; exact W.K8 _
      ·exact c j (m - 1) (by omega) (by omega)
     have z2 : lt (p.getD i 0) (p.getD 0 0) = false := by
      by_cases ci : i = 0
      ·subst ci; exact W.K8 _
      ·exact c 0 i (by omega) hi
     exact W.tr _ _ _ (W.tr _ _ _ z1 e) z2
    have hf : Cb lt (kas_rev p 0 m) m := Cb.rev hsz (fun i j x6 hj => all i j (by omega) (by omega) (by omega) hj) all
    refine oy W (hp.rev 0 m) (by omega) (hf.more W a ?_)
    rw [eo hsz, eo hsz, if_pos ⟨by omega, by omega⟩, if_neg (by omega)]
    have e2 : 0 + m - 1 - (m - 1) = 0 := by omega
    rw [e2]
    exact W.tr _ _ _ (W.uM _ _ hd) e
  ·obtain rfl : m = 1 := by omega
   refine oy W hp (by omega) fun i j x6 hj => ?_
   obtain rfl : i = 0 := by omega
   obtain rfl : j = 1 := by omega
   exact W.uM _ _ hd
theorem qg {p : Array Nat} {k : Nat} (hp : Arr n p) (hk : k < n) (h : uN lt p k) : ∀ (f l r : Nat), l ≤ r → r ≤ k → r - l ≤ f → (∀ i, i < l → lt (p.getD k 0) (p.getD i 0) = false) → (∀ i, r ≤ i → i < k → lt (p.getD k 0) (p.getD i 0) = true) →
  cQ lt n (kas_place p k f l r) (fun x => x ≤ k ∧ (∀ i, i < x → lt (p.getD k 0) (p.getD i 0) = false) ∧ ∀ i, x ≤ i → i < k → lt (p.getD k 0) (p.getD i 0) = true)
 | 0, l, r, a, b, c, d, e => by
  obtain rfl : l = r := by omega
  exact ⟨b, d, e⟩
 | f + 1, l, r, a, b, c, d, e => by
  show cQ lt n (if l ≥ r then _ else _) _
  split
  ·obtain rfl : l = r := by omega
   exact ⟨b, d, e⟩
  ·refine ⟨hp.lt hk, hp.lt (by omega), ?_⟩
   cases q : lt (p.getD k 0) (p.getD ((l + r) / 2) 0) with
   | true =>
    refine qg hp hk h f l ((l + r) / 2) (by omega) (by omega) (by omega) d fun i h1 h2 => ?_
    by_cases c1 : i = (l + r) / 2
    ·subst c1; exact q
    ·exact W.up q (h _ i (by omega) h2)
   | false =>
    refine qg hp hk h f ((l + r) / 2 + 1) r (by omega) b (by omega) (fun i h1 => ?_) e
    by_cases c1 : i = (l + r) / 2
    ·subst c1; exact q
    ·exact W.tr _ _ _ (h i ((l + r) / 2) (by omega) (by omega)) q
theorem C5 : ∀ (f : Nat) (p : Array Nat) (k : Nat), Arr n p → k + f = n → uN lt p k → cQ lt n (kas_bin f p k) (fun q => Arr n q ∧ uN lt q n)
 | 0, p, k, hp, hk, h => by
  obtain rfl : k = n := by omega
  exact ⟨hp, h⟩
 | f + 1, p, k, hp, hk, h => by
  refine cQ.bind ((qg W hp (by omega) h k 0 k (Nat.zero_le _) (Nat.le_refl _) (by omega) (fun i z => absurd z (by omega)) fun i z1 z2 => absurd z1 (by omega)).mono fun l ⟨a, b, c⟩ => ?_)
  have hs : k < p.size := by rw [hp.1]; omega
  refine C5 f _ (k + 1) (hp.WI _ _) (by omega) fun i j x6 hj => ?_
  have e : k - (k - l) = l := by omega
  rw [wQ hs (by omega), wQ hs (by omega), e]
  by_cases j1 : j = l
  ·rw [if_pos j1, if_neg (by omega), if_neg (by omega)]
   exact b i (by omega)
  ·rw [if_neg j1]
   by_cases j2 : l < j ∧ j ≤ k
   ·rw [if_pos j2]
    by_cases i1 : i = l
    ·rw [if_pos i1]
     exact W.uM _ _ (c (j - 1) (by omega) (by omega))
    ·rw [if_neg i1]
     by_cases i2 : l < i ∧ i ≤ k
     ·rw [if_pos i2]; exact h _ _ (by omega) (by omega)
     ·rw [if_neg i2]; exact h _ _ (by omega) (by omega)
   ·rw [if_neg j2, if_neg (by omega), if_neg (by omega)]
    exact h i j x6 (by omega)
theorem Fq (h1 : 1 ≤ n) : cQ lt n (kas_sort n) (fun p => Arr n p ∧ uN lt p n) := by
 have h0 : Arr n (List.toArray (List.range n)) := ⟨by simp, by simp⟩
 refine cQ.bind ((C0 W h0 h1).mono fun r ⟨a, b, c, d⟩ => ?_)
 have hm : max r.1 1 = r.1 := by omega
 split
 ·rw [hm]
  exact C5 W _ _ _ a (by omega) d
 ·have e : r.1 = n := by omega
  rw [e] at d
  exact ⟨a, d⟩
end
end L2
namespace L2
open PySem PySem.W PySem.Calls PyProof.Rows
section
variable {prog : Program} {w : World} {A : Around} {E : Value → Shared → Prop} {s : Shared}
theorem kJ {a : Addr} {vs : List Value} {n : Nat} {κ : SortKind} {lt : Nat → Nat → Bool} {P : PySem.Fin → Shared → Prop} (W : WO lt) (ho : s.heap.get? a = some (seqObj "list" vs.toArray n)) (Cc : vs.length < 64)
  (hk : 2 ≤ vs.length → ∀ h', (∀ b o, b ≠ a → s.heap.get? b = some o → h'.get? b = some o) → ∀ Q : SortKind → Shared → Prop, Q κ { s with heap := h' } → wpAny (model prog w) A (keyKind' vs.toArray) Q (fun _ _ => False) { s with heap := h' })
  (hc : ∀ h', (∀ b o, b ≠ a → s.heap.get? b = some o → h'.get? b = some o) → ∀ i j (C : Bool → Shared → Prop), i < vs.length → j < vs.length → C (lt i j) { s with heap := h' } →
   wpAny (model prog w) A (keyLt' κ (vs.getD i Value.none) (vs.getD j Value.none)) C (fun _ _ => False) { s with heap := h' })
  (fin : ∀ p h' c, Arr vs.length p → uN lt p vs.length → (∀ b o, b ≠ a → s.heap.get? b = some o → h'.get? b = some o) → h'.get? a = some (seqObj "list" (List.toArray (p.toList.map fun i => vs.getD i Value.none)) c) → P (.done (.ret .none)) { s with heap := h' }) :
  wpAny (model prog w) A (Builtin.«list.sort» ⟨[.ref a], []⟩) P E s := by
 have ha : a < s.heap.objs.size := Heap.lt_size ho
 obtain ⟨e1, C6⟩ : ∃ e1, (s.heap.update a (Obj.mapSeq fun _ => (#[] : Array Value))).get? a = some (seqObj "list" #[] e1) := ⟨_, get?_update_seq ho fun _ => #[]⟩
 have Mv : (((s.heap.update a (Obj.mapSeq fun _ => (#[] : Array Value))).push (seqObj "tuple" vs.toArray 0)).push (seqObj "list" #[] 0)).get? a = some (seqObj "list" #[] e1) := by
  rw [Heap.get?_push_ne _ _ _ (by rw [size_push', Heap.size_update]; exact Nat.ne_of_lt (Nat.lt_succ_of_lt ha)), Heap.get?_push_ne _ _ _ (by rw [Heap.size_update]; exact Nat.ne_of_lt ha)]
  exact C6
 have keep : ∀ b o, b ≠ a → s.heap.get? b = some o → (((s.heap.update a (Obj.mapSeq fun _ => (#[] : Array Value))).push (seqObj "tuple" vs.toArray 0)).push (seqObj "list" #[] 0)).get? b = some o := fun b o hb q => by
  have gQ : b < s.heap.objs.size := Heap.lt_size q
  rw [Heap.get?_push_ne _ _ _ (by rw [size_push', Heap.size_update]; exact Nat.ne_of_lt (Nat.lt_succ_of_lt gQ)), Heap.get?_push_ne _ _ _ (by rw [Heap.size_update]; exact Nat.ne_of_lt gQ), Heap.get?_update_ne _ _ _ _ hb]
  exact q
 have Mw : ∀ p (arr : Array Value), Arr vs.length p → uN lt p vs.length → arr = List.toArray (p.toList.map fun i => vs.getD i Value.none) → P (.done (.ret .none)) { s with heap := ((((s.heap.update a (Obj.mapSeq fun _ => (#[] : Array Value))).push (seqObj "tuple" vs.toArray 0)).push (seqObj "list" #[] 0))).update a (Obj.mapSeq fun _ => arr) } := fun p arr h1 h2 h3 => by
  subst h3
  refine fin p _ _ h1 h2 (fun b o hb q => ?_) (get?_update_seq Mv fun _ => _)
  rw [Heap.get?_update_ne _ _ _ _ hb]
  exact keep b o hb q
 rw [list_sort_plain]
 refine wpAny_bind (listItems_at ho rfl ?_)
 refine wpAny_bind (listUpdate_at ho rfl ?_ (by rw [List.size_toArray, sizeLine_eq]; omega) (Nat.zero_le _))
 refine wpAny_bind (seqEpoch_at C6 rfl ?_)
 refine wpAny_bind (wpAny_newTuple ?_ (by show vs.length ≤ _; rw [sizeLine_eq]; omega))
 refine wpAny_bind (wpAny_newList ?_ (Nat.zero_le _))
 refine wpAny_holding ?_
 show wpAny (model prog w) A _ P E { s with heap := ((s.heap.update a (Obj.mapSeq fun _ => (#[] : Array Value))).push (seqObj "tuple" vs.toArray 0)).push (seqObj "list" #[] 0) }
 dsimp only
 by_cases h2 : vs.toArray.size < 2
 ·rw [if_pos h2, if_pos h2]
  refine wpAny_bind (wpAny_pure ?_)
  rw [StateT.run_pure]
  refine wpAny_bind (wpAny_pure ?_)
  dsimp only
  have hr : (List.range vs.length).map (fun i => vs.getD i Value.none) = vs := by
   apply List.ext_getElem (by simp)
   intro i a1 a2
   simp [a2]
  refine wpAny_bind (seqEpoch_at Mv rfl ?_)
  refine wpAny_bind (listUpdate_at Mv rfl ?_ (hsz2 := by rw [Array.size_map]; show (pairsOf vs).size ≤ _; rw [pairsOf_size, sizeLine_eq]; omega))
  simp only [bne_self_eq_false, Bool.false_eq_true, if_false]
  refine wpAny_pure (Mw (List.toArray (List.range vs.length)) _ ⟨by simp, by simp⟩ (fun i j h1 h3 => ?_) ?_)
  ·rw [List.size_toArray] at h2; omega
  ·show Array.map (·.2) (pairsOf vs) = _
   apply Array.toList_inj.mp
   rw [Array.toList_map, pairsOf_toList]
   show _ = (List.range vs.length).map (fun i => vs.getD i Value.none)
   rw [hr]
   exact List.map_snd_zip (by simp)
 ·rw [if_neg h2, if_neg h2]
  rw [List.size_toArray] at h2
  refine wpAny_bind (wpAny_mono (hk (by omega) _ keep _ ?_) (fun κ' s' hq => hq) fun _ _ x => x.elim)
  refine wpAny_bind (wpAny_mono (kat_run (κ := κ) (Q := fun xU s' => ∃ p : Array Nat, arrOf xU = p.map (kas_item (vs.toArray.zip vs.toArray)) ∧ failedOf xU = none ∧ Arr vs.length p ∧ uN lt p vs.length ∧ s' = { s with heap := ((s.heap.update a (Obj.mapSeq fun _ => (#[] : Array Value))).push (seqObj "tuple" vs.toArray 0)).push (seqObj "list" #[] 0) })
   (G := fun p s' => Arr vs.length p ∧ uN lt p vs.length ∧ s' = { s with heap := ((s.heap.update a (Obj.mapSeq fun _ => (#[] : Array Value))).push (seqObj "tuple" vs.toArray 0)).push (seqObj "list" #[] 0) })
   rfl (by omega) Cc (fun p' xU s' a1 a2 a3 a4 => ⟨p', a2, a3, a4.1, a4.2.1, a4.2.2⟩) ((Fq W (n := vs.length) (by omega)).wp (fun i j C h3 h4 h5 => hc _ keep i j C h3 h4 h5) fun p hp => ⟨hp.1, hp.2, rfl⟩)) ?_ fun _ _ e => e)
  rintro ⟨⟨⟩, xU⟩ s' ⟨p, WJ, hf, hp, Rc, rfl⟩
  dsimp only
  have Rf := kat_snds (ks := vs) rfl WJ
  have hsz : (List.toArray (p.toList.map fun i => vs.getD i Value.none)).size = vs.length := by rw [List.size_toArray, Lm9, Array.length_toList, hp.1]
  rw [Rf]
  refine wpAny_bind (seqEpoch_at Mv rfl ?_)
  refine wpAny_bind (listUpdate_at Mv rfl ?_ (Nat.zero_le _) (Nat.le_trans (Nat.le_of_eq hsz) (by rw [sizeLine_eq]; omega)))
  rw [hf]
  simp only [bne_self_eq_false, Bool.false_eq_true, if_false]
  exact wpAny_pure (Mw p _ hp Rc rfl)
theorem yK {l : Addr} {vs : List Value} {κ : SortKind} {lt : Nat → Nat → Bool} {Q : Value → Shared → Prop} (W : WO lt) (hl : s.heap.IsList l vs.toArray) (Cc : vs.length < 64)
  (hk : 2 ≤ vs.length → ∀ h', (∀ b o, s.heap.get? b = some o → h'.get? b = some o) → ∀ Q : SortKind → Shared → Prop, Q κ { s with heap := h' } → wpAny (model prog w) A.in1.in1 (keyKind' vs.toArray) Q (fun _ _ => False) { s with heap := h' })
  (hc : ∀ h', (∀ b o, s.heap.get? b = some o → h'.get? b = some o) → ∀ i j (C : Bool → Shared → Prop), i < vs.length → j < vs.length → C (lt i j) { s with heap := h' } →
   wpAny (model prog w) A.in1.in1 (keyLt' κ (vs.getD i Value.none) (vs.getD j Value.none)) C (fun _ _ => False) { s with heap := h' })
  (fin : ∀ p D h' c, Arr vs.length p → uN lt p vs.length → (∀ b o, s.heap.get? b = some o → h'.get? b = some o) → s.heap.objs.size ≤ D → h'.get? D = some (seqObj "list" (List.toArray (p.toList.map fun i => vs.getD i Value.none)) c) → Q (.ref D) { s with heap := h' }) :
  wpAny (model prog w) A (call (.builtin "sorted") [.ref l]) Q E s := by
 refine Calls.call_function_entry kind_sorted plain_sorted entry_sorted (args_sorted1 _) ?_
 unfold Builtin.«sorted»
 refine wpAny_bind (m := checkCount "sorted" 1 1 _) (wpAny_pure ?_)
 refine wpAny_bind (collect_list hl ?_ (by rw [sizeLine_eq]; omega))
 refine wpAny_bind (wpAny_newList ?_ (by rw [sizeLine_eq]; omega))
 have hsz : ((s.heap.push (seqObj "list" #[] 0)).update s.heap.objs.size (Obj.mapSeq (· ++ vs.toArray))).objs.size = s.heap.objs.size + 1 := by
  rw [Heap.size_update, size_push']
 have Pf : (((s.heap.push (seqObj "list" #[] 0)).update s.heap.objs.size (Obj.mapSeq (· ++ vs.toArray))).push (seqObj "list" vs.toArray 0)).get? (s.heap.objs.size + 1) = some (seqObj "list" vs.toArray 0) := by
  rw [← hsz]; exact Heap.get?_push_size _ rfl
 have keep : ∀ b o, s.heap.get? b = some o → (((s.heap.push (seqObj "list" #[] 0)).update s.heap.objs.size (Obj.mapSeq (· ++ vs.toArray))).push (seqObj "list" vs.toArray 0)).get? b = some o := fun b o q => by
  have gQ : b < s.heap.objs.size := Heap.lt_size q
  rw [Heap.get?_push_ne _ _ _ (by rw [hsz]; exact Nat.ne_of_lt (Nat.lt_succ_of_lt gQ)), Heap.get?_update_ne _ _ _ _ (Nat.ne_of_lt gQ), Heap.get?_push_ne _ _ _ (Nat.ne_of_lt gQ)]
  exact q
 have nD : ∀ b o, s.heap.get? b = some o → b ≠ s.heap.objs.size + 1 := fun b o q => Nat.ne_of_lt (Nat.lt_succ_of_lt (Heap.lt_size q))
 show wpAny _ _ _ _ _ { s with heap := ((s.heap.push (seqObj "list" #[] 0)).update s.heap.objs.size (Obj.mapSeq (· ++ vs.toArray))).push (seqObj "list" vs.toArray 0) }
 rw [hsz]
 refine wpAny_bind (wpAny_holding (wpAny_call_entry slot_list_sort ⟨_, Pf, rfl⟩ entry_list_sort ?body (args_list_sort _)))
 case body =>
  refine kJ (κ := κ) (lt := lt) (s := { s with heap := ((s.heap.push (seqObj "list" #[] 0)).update s.heap.objs.size (Obj.mapSeq (· ++ vs.toArray))).push (seqObj "list" vs.toArray 0) }) W Pf Cc
   (fun h2 h' k => hk h2 h' fun b o q => k b o (nD b o q) (keep b o q)) (fun h' k => hc h' fun b o q => k b o (nD b o q) (keep b o q)) fun p h' c hp hr k e => ?_
  exact ⟨_, rfl, wpAny_pure ⟨_, rfl, fin p _ h' c hp hr (fun b o q => k b o (nD b o q) (keep b o q)) (Nat.le_succ _) e⟩⟩
end
end L2
namespace L2
open PySem PySem.W PySem.Calls PyProof.Rows
inductive Tr where
 | int (i : Int) | str (x : Str) | tup (l : List Tr)
 deriving Inhabited
mutual
def Tr.toD : Tr → Dt
 | .int i => .int i
 | .str x => .str x
 | .tup l => .tup (Tr.toDs l)
def Tr.toDs : List Tr → List Dt
 | [] => []
 | a :: r => a.toD :: Tr.toDs r
end
theorem toDs_length : ∀ (l : List Tr), (Tr.toDs l).length = l.length
 | [] => by unfold Tr.toDs; rfl
 | a :: r => by unfold Tr.toDs; simp [toDs_length r]
theorem toDs_get : ∀ (l : List Tr) (i : Nat) (h : i < l.length) (h' : i < (Tr.toDs l).length), (Tr.toDs l)[i] = (l[i]).toD
 | a :: r, 0, _, _ => by simp [Tr.toDs]
 | a :: r, i + 1, h, h' => by
  have := toDs_get r i (by simpa using h) (by rw [toDs_length]; simpa using h)
  simp only [Tr.toDs, List.getElem_cons_succ]
  exact this
def eqT (a b : Tr) : Bool := nH a.toD b.toD
mutual
theorem uO : ∀ (a b : Tr), nH a.toD b.toD = true ↔ a = b
 | .int a, .int b => by simp [Tr.toD, nH]
 | .int a, .str b => by simp [Tr.toD, nH]
 | .int a, .tup b => by simp [Tr.toD, nH]
 | .str a, .int b => by simp [Tr.toD, nH]
 | .str a, .str b => by simp [Tr.toD, nH]
 | .str a, .tup b => by simp [Tr.toD, nH]
 | .tup a, .int b => by simp [Tr.toD, nH]
 | .tup a, .str b => by simp [Tr.toD, nH]
 | .tup a, .tup b => by
  have h := wU a b
  simp only [Tr.toD, nH, Tr.tup.injEq]
  exact h
theorem wU : ∀ (a b : List Tr), ky (Tr.toDs a) (Tr.toDs b) = true ↔ a = b
 | [], [] => by simp [Tr.toDs, ky]
 | [], b :: q => by simp [Tr.toDs, ky]
 | a :: r, [] => by simp [Tr.toDs, ky]
 | a :: r, b :: q => by
  have h1 := uO a b
  have h2 := wU r q
  simp only [Tr.toDs, ky, Bool.and_eq_true, List.cons.injEq, h1, h2]
end
theorem jo {a b : Tr} (h : eqT a b = true) : a = b := (uO a b).mp h
theorem er (a : Tr) : eqT a a = true := (uO a a).mpr rfl
theorem g7 {a b : Tr} (h : a ≠ b) : eqT a b = false := by
 cases e : eqT a b with
 | false => rfl
 | true => exact absurd (jo e) h
mutual
def cI : Tr → Tr → Bool
 | .int a, .int b => decide (a < b)
 | .int _, _ => true
 | .str a, .str b => decide (a.cps.toList < b.cps.toList)
 | .str _, .tup _ => true
 | .str _, .int _ => false
 | .tup a, .tup b => da a b
 | .tup _, _ => false
def da : List Tr → List Tr → Bool
 | [], [] => false
 | [], _ :: _ => true
 | _ :: _, [] => false
 | a :: r, b :: q => if eqT a b = true then da r q else cI a b
end
mutual
theorem AA : ∀ (a : Tr), cI a a = false
 | .int a => by simp [cI]
 | .str a => by simp [cI]
 | .tup a => by simp only [cI]; exact wV a
theorem wV : ∀ (a : List Tr), da a a = false
 | [] => by simp [da]
 | a :: r => by
  simp only [da, er, if_true]
  exact wV r
end
theorem Fs {a b : Str} (h : a ≠ b) : a.cps.toList < b.cps.toList ∨ b.cps.toList < a.cps.toList := by
 by_cases h1 : a.cps.toList < b.cps.toList
 ·exact .inl h1
 ·by_cases h2 : b.cps.toList < a.cps.toList
  ·exact .inr h2
  ·have e := List.le_antisymm (List.not_lt.mp h2) (List.not_lt.mp h1)
   exact absurd (by cases a; cases b; simpa using e) h
mutual
theorem uP : ∀ (a b : Tr), a ≠ b → cI a b = true ∨ cI b a = true
 | .int a, .int b, h => by
  have h' : a ≠ b := fun e => h (by rw [e])
  simp only [cI, decide_eq_true_eq]
  omega
 | .int a, .str b, h => by simp [cI]
 | .int a, .tup b, h => by simp [cI]
 | .str a, .int b, h => by simp [cI]
 | .str a, .str b, h => by
  have h' : a ≠ b := fun e => h (by rw [e])
  simp only [cI, decide_eq_true_eq]
  exact Fs h'
 | .str a, .tup b, h => by simp [cI]
 | .tup a, .int b, h => by simp [cI]
 | .tup a, .str b, h => by simp [cI]
 | .tup a, .tup b, h => by
  simp only [cI]
  exact wW a b fun e => h (by rw [e])
theorem wW : ∀ (a b : List Tr), a ≠ b → da a b = true ∨ da b a = true
 | [], [], h => absurd rfl h
 | [], b :: q, h => by simp [da]
 | a :: r, [], h => by simp [da]
 | a :: r, b :: q, h => by
  simp only [da]
  by_cases e : a = b
  ·subst e
   simp only [er, if_true]
   exact wW r q fun z => h (by rw [z])
  ·rw [g7 e, g7 (Ne.symm e)]
   simp only [Bool.false_eq_true, if_false]
   exact uP a b e
end
mutual
theorem nM : ∀ (a b c : Tr), cI a b = true → cI b c = true → cI a c = true
 | .int a, .int b, .int c, h1, h2 => by simp only [cI, decide_eq_true_eq] at *; omega
 | .int a, _, .str c, h1, h2 => by simp [cI]
 | .int a, _, .tup c, h1, h2 => by simp [cI]
 | .int a, .str b, .int c, h1, h2 => by simp [cI] at h2
 | .int a, .tup b, .int c, h1, h2 => by simp [cI] at h2
 | .str a, .int b, c, h1, h2 => by simp [cI] at h1
 | .str a, .str b, .int c, h1, h2 => by simp [cI] at h2
 | .str a, .str b, .str c, h1, h2 => by simp only [cI, decide_eq_true_eq] at *; exact List.lt_trans h1 h2
 | .str a, .str b, .tup c, h1, h2 => by simp [cI]
 | .str a, .tup b, .int c, h1, h2 => by simp [cI] at h2
 | .str a, .tup b, .str c, h1, h2 => by simp [cI] at h2
 | .str a, .tup b, .tup c, h1, h2 => by simp [cI]
 | .tup a, .int b, c, h1, h2 => by simp [cI] at h1
 | .tup a, .str b, c, h1, h2 => by simp [cI] at h1
 | .tup a, .tup b, .int c, h1, h2 => by simp [cI] at h2
 | .tup a, .tup b, .str c, h1, h2 => by simp [cI] at h2
 | .tup a, .tup b, .tup c, h1, h2 => by
  simp only [cI] at *
  exact qh a b c h1 h2
theorem qh : ∀ (a b c : List Tr), da a b = true → da b c = true → da a c = true
 | [], [], _, h1, _ => by simp [da] at h1
 | [], _ :: _, [], _, h2 => by simp [da] at h2
 | [], _ :: _, _ :: _, _, _ => by simp [da]
 | _ :: _, [], _, h1, _ => by simp [da] at h1
 | _ :: _, _ :: _, [], _, h2 => by simp [da] at h2
 | a :: r, b :: q, c :: t, h1, h2 => by
  simp only [da] at h1 h2 ⊢
  by_cases e1 : a = b
  ·subst e1
   simp only [er, if_true] at h1
   by_cases e2 : a = c
   ·subst e2
    simp only [er, if_true] at h2 ⊢
    exact qh r q t h1 h2
   ·rw [g7 e2] at h2 ⊢
    exact h2
  ·rw [g7 e1] at h1
   simp only [Bool.false_eq_true, if_false] at h1
   by_cases e2 : b = c
   ·subst e2
    rw [g7 e1]
    exact h1
   ·rw [g7 e2] at h2
    simp only [Bool.false_eq_true, if_false] at h2
    have h3 := nM a b c h1 h2
    have e3 : a ≠ c := fun z => by
     subst z
     have := AA a
     rw [h3] at this
     cases this
    rw [g7 e3]
    exact h3
end
theorem uQ (f : Nat → Tr) : WO (fun i j => cI (f i) (f j)) := by
 have uM : ∀ a b, cI a b = true → cI b a = false := fun a b h => by
  cases e : cI b a with
  | false => rfl
  | true => have z := nM a b a h e; rw [AA] at z; cases z
 refine ⟨fun a b h => uM _ _ h, fun a b c h1 h2 => ?_⟩
 cases e : cI (f c) (f a) with
 | false => rfl
 | true =>
  by_cases e1 : f a = f b
  ·rw [e1] at e; rw [e] at h2; cases h2
  ·rcases uP _ _ e1 with q | q
   ·rw [nM _ _ _ e q] at h2; cases h2
   ·rw [q] at h1; cases h1
theorem yL {a b : List Tr} (p : a.Perm b) (ha : a.Pairwise fun x y => cI y x = false) (hb : b.Pairwise fun x y => cI y x = false) : a = b :=
 List.Perm.eq_of_pairwise (fun x y _ _ h1 h2 => by
  by_cases e : x = y
  ·exact e
  ·rcases uP _ _ e with q | q
   ·rw [q] at h2; cases h2
   ·rw [q] at h1; cases h1) ha hb p
end L2
namespace L2
open PySem PySem.W PySem.Calls PyProof.Rows
def wX (A : Around) (s : Shared) (u v : Value) (b : Bool) : Prop :=
 ∀ (prog : Program) (w : World) (E : Value → Shared → Prop) (Q : Value → Shared → Prop), Q (.bool b) s → wpAny (model prog w) A (richCompare .Lt u v) Q E s
inductive Ez (A : Around) (s : Shared) : List Value → List Value → Bool → Prop
 | nn : Ez A s [] [] false
 | nc {w : Value} {ws : List Value} : Ez A s [] (w :: ws) true
 | cn {v : Value} {vs : List Value} : Ez A s (v :: vs) [] false
 | eq {v w : Value} {vs ws : List Value} {r : Bool} (e : SeqAt.EqAt A s v w true) (h : Ez A s vs ws r) : Ez A s (v :: vs) (w :: ws) r
 | ne {v w : Value} {vs ws : List Value} {r : Bool} (e : SeqAt.EqAt A s v w false) (h : wX A s v w r) : Ez A s (v :: vs) (w :: ws) r
section
open PySem.SeqAt
open PySem.AutoSeq1 (wpAny_loadPart')
open PySem.MeetsSeq PySem.MeetsSeq2 PySem.MeetsSeq3
theorem uR (l b : Addr) (items g8 : Array Value) (n n2 : Nat) (dd GK : Option Addr) (sl yo : Array (Option Value)) (r : Bool) :
  Meets (Builtin.«tuple.__lt__» ⟨[.ref l, .ref b], []⟩)
   (fun A R s => s.heap.get? l = some { cls := .type "tuple", dict := dd, data := .seq items n, slots := sl } ∧ s.heap.get? b = some { cls := .type "tuple", dict := GK, data := .seq g8 n2, slots := yo } ∧
    Ez A.in1 s items.toList g8.toList r ∧ R (.ok (.ret (.bool r))) s) :=
 .of_wp fun prog w A R s h => by
  obtain ⟨hp, g, d, tk, os⟩ := s; obtain ⟨hl, hb, hd, h⟩ := h
  have f2 := AutoSeq1.sub_tuple_tuple
  wp_walk using wpAny_loadPart' hl, wpAny_loadPart' hb, wpAny_forIn_list _ (fun rest b s' => b.1 = none ∧ s' = ⟨hp, g, d, tk, os⟩ ∧ ∃ (vs ws : List Value), rest = vs.zip ws ∧
   Ez A.in1 ⟨hp, g, d, tk, os⟩ vs ws r ∧ vs.length + g8.size = ws.length + items.size) _
  case turn =>
   rintro ⟨y, x⟩ rest b s' ⟨hb', rfl, vs, ws, hz, Rg, hlen⟩
   cases Rg with
   | nn => cases hz
   | nc => cases hz
   | cn => rw [List.zip_nil_right] at hz; cases hz
   | @eq v w' vs' ws' _ e hr =>
    rw [List.zip_cons_cons] at hz
    injection hz with Rh hrest
    injection Rh with hy hx
    subst hy hx
    simp only [List.length_cons] at hlen
    refine wpAny_bind (e prog w _ _ ?_)
    wp_walk
    exact ⟨rfl, rfl, _, _, hrest, hr, by omega⟩
   | @ne v w' vs' ws' _ e hr =>
    rw [List.zip_cons_cons] at hz
    injection hz with Rh hrest
    injection Rh with hy hx
    subst hy hx
    refine wpAny_bind (e prog w _ _ ?_)
    have Rc := hr prog w
    wp_walk using Rc
    exact ⟨_, rfl, by simpa using h⟩
  case fin =>
   rintro ⟨b1, b2⟩ s' ⟨hb', rfl, vs, ws, hz, Rg, hlen⟩
   simp only at hb'
   subst hb'
   have hv : r = decide (items.size < g8.size) := by
    cases Rg with
    | nn => simp only [List.length_nil] at hlen; exact (decide_eq_false (by omega)).symm
    | nc => simp only [List.length_nil, List.length_cons] at hlen; exact (decide_eq_true (by omega)).symm
    | cn => simp only [List.length_nil, List.length_cons] at hlen; exact (decide_eq_false (by omega)).symm
    | eq e hr => rw [List.zip_cons_cons] at hz; cases hz
    | ne e hr => rw [List.zip_cons_cons] at hz; cases hz
   rw [hv] at h
   wp_walk
   exact ⟨_, rfl, by simpa [Builtin.Tuple.tupleCompareSizes] using h⟩
  case h =>
   exact ⟨rfl, rfl, items.toList, g8.toList, rfl, hd, by simp; omega⟩
end
theorem yM {A : Around} {s : Shared} {l b : Addr} {items g8 : Array Value} {r : Bool} (hl : IsTup s.heap l items) (hb : IsTup s.heap b g8) (hu : A.units < cLine) (hd : Ez A.in1 s items.toList g8.toList r) : wX A s (.ref l) (.ref b) r := by
 intro prog w E Q h
 obtain ⟨⟨cls, dd, data, sl⟩, ho, hc, n, tw⟩ := id hl
 obtain ⟨⟨LV, GK, data2, yo⟩, xV, Cu, n2, hd2⟩ := id hb
 simp only at hc tw Cu hd2
 subst hc tw Cu hd2
 exact richCompare_meets_room (op := .Lt) ⟨_, ho, rfl⟩ ⟨_, xV, rfl⟩ PySem.F.slot_tuple_lt PySem.F.entry_tuple_lt (PySem.F.args_tuple_lt_2 _ _) (uR l b items g8 n n2 dd GK sl yo r)
  ⟨ho, xV, hd, show Value.bool r ≠ Value.notImplemented ∧ Q (.bool r) s from ⟨(fun x => nomatch x), h⟩⟩ hu
end L2
namespace L2
open PySem PySem.W PySem.Calls PyProof.Rows
mutual
def oz : Tr → Tr → Bool
 | .int _, .int _ => true
 | .str _, .str _ => true
 | .tup a, .tup b => mR a b
 | _, _ => false
def mR : List Tr → List Tr → Bool
 | a :: r, b :: q => oz a b && mR r q
 | _, _ => true
end
theorem C7 {A : Around} {s : Shared} : ∀ (a b : List Tr) (vs ws : List Value), vs.length = a.length → ws.length = b.length → mR a b = true →
  (∀ j (h1 : j < a.length) (h2 : j < b.length) (h3 : j < vs.length) (h4 : j < ws.length), SeqAt.EqAt A s vs[j] ws[j] (eqT a[j] b[j]) ∧ (oz a[j] b[j] = true → wX A s vs[j] ws[j] (cI a[j] b[j]))) → Ez A s vs ws (da a b)
 | [], [], [], [], _, _, _, _ => by simp only [da]; exact .nn
 | [], b :: q, [], w :: ws, _, _, _, _ => by simp only [da]; exact .nc
 | a :: r, [], v :: vs, [], _, _, _, _ => by simp only [da]; exact .cn
 | a :: r, b :: q, v :: vs, w :: ws, l1, l2, hs, h => by
  simp only [mR, Bool.and_eq_true] at hs
  obtain ⟨h0, h0'⟩ := h 0 (by simp) (by simp) (by simp) (by simp)
  have h0 : SeqAt.EqAt A s v w (eqT a b) := h0
  have h0' : oz a b = true → wX A s v w (cI a b) := h0'
  simp only [da]
  cases e : eqT a b with
  | true =>
   rw [e] at h0
   simp only [if_true]
   exact .eq h0 (C7 r q vs ws (by simpa using l1) (by simpa using l2) hs.2 fun j a1 a2 a3 a4 => h (j + 1) (by simpa using a1) (by simpa using a2) (by simpa using a3) (by simpa using a4))
  | false =>
   rw [e] at h0
   simp only [Bool.false_eq_true, if_false]
   exact .ne h0 (h0' hs.1)
 | [], [], _ :: _, _, l, _, _, _ => by simp at l
 | [], [], [], _ :: _, _, l, _, _ => by simp at l
 | [], _ :: _, _ :: _, _, l, _, _, _ => by simp at l
 | [], _ :: _, [], [], _, l, _, _ => by simp at l
 | _ :: _, _, [], _, l, _, _, _ => by simp at l
 | _ :: _, [], _ :: _, _ :: _, _, l, _, _ => by simp at l
 | _ :: _, _ :: _, _ :: _, [], _, l, _, _ => by simp at l
theorem I0 {K : PySem.W.Frag} {H : Hp} {X : Cx} {pins : List (Addr × Obj)} {σ : St} {s : Shared} (I : Inv X pins σ H s) (hK : X.K = K) :
  ∀ (n : Nat) (A : Around) {a b : Tr} {x y : V} {u v : Value}, a.toD.deep ≤ n → A.units + n + 20 < cLine → oz a b = true → cB K H a.toD x → cB K H b.toD y → RelV x u → RelV y v → wX A s u v (cI a b) := by
 subst hK
 intro n
 induction n with
 | zero =>
  intro A a b x y u v hd hu hs h1 h2 ru rv
  cases a with
  | int i =>
   cases b with
   | int j =>
    simp only [Tr.toD] at h1 h2
    cases h1; cases h2
    obtain ⟨t, rfl⟩ := ru
    obtain ⟨t', rfl⟩ := rv
    simp only [cI]
    exact fun prog w E Q h => (PyProof.Rows.lt_int h : wpAny (model prog w) A (compareOp .Lt _ _) Q E s)
   | str j => simp [oz] at hs
   | tup j => simp [oz] at hs
  | str i =>
   cases b with
   | int j => simp [oz] at hs
   | str j =>
    simp only [Tr.toD] at h1 h2
    cases h1; cases h2
    obtain ⟨t, rfl⟩ := ru
    obtain ⟨t', rfl⟩ := rv
    simp only [cI]
    exact fun prog w E Q h => (PyProof.Rows.lt_str h : wpAny (model prog w) A (compareOp .Lt _ _) Q E s)
   | tup j => simp [oz] at hs
  | tup i => simp only [Tr.toD, Dt.deep] at hd; omega
 | succ n ih =>
  intro A a b x y u v hd hu hs h1 h2 ru rv
  cases a with
  | int i => exact ih A (by simp [Tr.toD, Dt.deep]) (by omega) hs h1 h2 ru rv
  | str i => exact ih A (by simp [Tr.toD, Dt.deep]) (by omega) hs h1 h2 ru rv
  | tup i =>
   cases b with
   | int j => simp [oz] at hs
   | str j => simp [oz] at hs
   | tup j =>
    simp only [Tr.toD] at h1 h2 hd
    simp only [oz] at hs
    cases h1 with
    | @tup ds xs p h l r =>
     cases h2 with
     | @tup es ys q h' l' r' =>
      cases ru; cases rv
      obtain ⟨its, r1, p1, _⟩ := I.tuple h
      obtain ⟨bw, r2, p2, _⟩ := I.tuple h'
      have rL := r1.length
      have rM := r2.length
      simp only [cI]
      have k1 := toDs_length i
      have k2 := toDs_length j
      refine yM p1 p2 (by omega) ?_
      rw [List.toList_toArray, List.toList_toArray]
      refine C7 i j its bw (by omega) (by omega) hs fun c c1 c2 c3 c4 => ?_
      have hx := r c (by omega) (by omega)
      have hy := r' c (by omega) (by omega)
      rw [toDs_get i c c1] at hx
      rw [toDs_get j c c2] at hy
      obtain ⟨u1, e1, q1⟩ := r1.get (i := c) (x := xs[c]'(by omega)) (by simp)
      obtain ⟨u2, e2, q2⟩ := r2.get (i := c) (x := ys[c]'(by omega)) (by simp)
      have g1 : its[c] = u1 := (List.getElem?_eq_some_iff.mp e1).2
      have g2 : bw[c] = u2 := (List.getElem?_eq_some_iff.mp e2).2
      rw [g1, g2]
      have z := cg (ds := Tr.toDs i) (i := c) (by omega)
      rw [toDs_get i c c1] at z
      have hd' : Dt.bJ (Tr.toDs i) + 1 ≤ n + 1 := hd
      exact ⟨gY I rfl n A.in1 (by omega) (by show A.units + 1 + n < cLine; omega) hx hy q1 q2, fun xW => ih A.in1 (by omega) (by show A.units + 1 + n + 20 < cLine; omega) xW hx hy q1 q2⟩
end L2
namespace L2
open PySem PySem.W PySem.Calls PyProof.Rows
section
variable {prog : Program} {w : World} {A : Around} {E : Value → Shared → Prop} {s : Shared} {Q : Bool → Shared → Prop}
theorem oA : ∀ (a b : List Tr) (vs ws : List Value) (i : Nat), 0 < i → vs.length = a.length → ws.length = b.length → mR a b = true →
  (∀ j (h1 : j < a.length) (h2 : j < b.length) (h3 : j < vs.length) (h4 : j < ws.length), SeqAt.EqAt A s vs[j] ws[j] (eqT a[j] b[j]) ∧ (oz a[j] b[j] = true → wX A s vs[j] ws[j] (cI a[j] b[j]))) →
  ∀ fin, fin = decide (vs.length < ws.length) → Q (da a b) s → KatLex prog w A true fin Q (vs.zip ws) i s
 | [], [], [], [], i, _, _, _, _, _, fin, hf, h => by simp only [da] at h; simp at hf; subst hf; exact kat_nil h
 | [], b :: q, [], w' :: ws, i, _, _, _, _, _, fin, hf, h => by simp only [da] at h; simp at hf; subst hf; exact kat_nil h
 | a :: r, [], v :: vs, [], i, _, _, _, _, _, fin, hf, h => by simp only [da] at h; simp at hf; subst hf; exact kat_nil h
 | a :: r, b :: q, v :: vs, w' :: ws, i, hi, l1, l2, hs, hx, fin, hf, h => by
  simp only [mR, Bool.and_eq_true] at hs
  obtain ⟨h0, h0'⟩ := hx 0 (by simp) (by simp) (by simp) (by simp)
  have h0 : SeqAt.EqAt A s v w' (eqT a b) := h0
  have h0' : oz a b = true → wX A s v w' (cI a b) := h0'
  simp only [da] at h
  rw [List.zip_cons_cons]
  refine kat_cons (h0 prog w _ _ ?_)
  cases e : eqT a b with
  | true =>
   rw [e] at h
   simp only [if_true] at h
   exact kat_yes (oA r q vs ws (i + 1) (by omega) (by simpa using l1) (by simpa using l2) hs.2 (fun j a1 a2 a3 a4 => hx (j + 1) (by simpa using a1) (by simpa using a2) (by simpa using a3) (by simpa using a4)) fin (by simpa using hf) h)
  | false =>
   rw [e] at h
   simp only [Bool.false_eq_true, if_false] at h
   refine kat_no ?_
   have ei : (true && i == 0) = false := by
    simp only [Bool.true_and, beq_eq_false_iff_ne]
    omega
   rw [ei]
   exact kat_one _ _ (h0' hs.1 prog w _ _ h)
 | [], [], _ :: _, _, _, _, l, _, _, _, _, _, _ => by simp at l
 | [], [], [], _ :: _, _, _, _, l, _, _, _, _, _ => by simp at l
 | [], _ :: _, _ :: _, _, _, _, l, _, _, _, _, _, _ => by simp at l
 | [], _ :: _, [], [], _, _, _, l, _, _, _, _, _ => by simp at l
 | _ :: _, _, [], _, _, _, l, _, _, _, _, _, _ => by simp at l
 | _ :: _, [], _ :: _, _ :: _, _, _, _, l, _, _, _, _, _ => by simp at l
 | _ :: _, _ :: _, _ :: _, [], _, _, _, l, _, _, _, _, _ => by simp at l
theorem yN {a b : Tr} {r q : List Tr} {v w' : Value} {vs ws : List Value} (l1 : vs.length = r.length) (l2 : ws.length = q.length) (hs : mR (a :: r) (b :: q) = true)
  (h1 : (∃ x y t u, a = .str x ∧ b = .str y ∧ v = .str x t ∧ w' = .str y u) ∨ (∃ x y t u, a = .int x ∧ b = .int y ∧ v = .int x t ∧ w' = .int y u)) (h0 : SeqAt.EqAt A s v w' (eqT a b))
  (hx : ∀ j (h1 : j < r.length) (h2 : j < q.length) (h3 : j < vs.length) (h4 : j < ws.length), SeqAt.EqAt A s vs[j] ws[j] (eqT r[j] q[j]) ∧ (oz r[j] q[j] = true → wX A s vs[j] ws[j] (cI r[j] q[j])))
  {fin : Bool} (hf : fin = decide (vs.length < ws.length)) (h : Q (da (a :: r) (b :: q)) s) : KatLex prog w A true fin Q ((v :: vs).zip (w' :: ws)) 0 s := by
 simp only [mR, Bool.and_eq_true] at hs
 simp only [da] at h
 rw [List.zip_cons_cons]
 refine kat_cons (h0 prog w _ _ ?_)
 cases e : eqT a b with
 | true =>
  rw [e] at h
  simp only [if_true] at h
  exact kat_yes (oA r q vs ws 1 (by omega) l1 l2 hs.2 hx fin hf h)
 | false =>
  rw [e] at h
  simp only [Bool.false_eq_true, if_false] at h
  refine kat_no ?_
  show wpAny (model prog w) A (oneLt' true v w') Q _ s
  rcases h1 with ⟨x, y, t, u, rfl, rfl, rfl, rfl⟩ | ⟨x, y, t, u, rfl, rfl, rfl, rfl⟩
  ·simp only [cI] at h
   exact oneLt_str h
  ·simp only [cI] at h
   exact oneLt_int h
end
def rD : Tr → Nat
 | .tup (.str _ :: _) => 1
 | .tup (.int _ :: _) => 2
 | _ => 0
theorem Mx {t : Tr} (h : rD t = 1) : ∃ x r, t = .tup (.str x :: r) := by
 match t, h with
 | .tup (.str x :: r), _ => exact ⟨x, r, rfl⟩
 | .tup (.int _ :: _), h => simp [rD] at h
 | .tup (.tup _ :: _), h => simp [rD] at h
 | .tup [], h => simp [rD] at h
 | .int _, h => simp [rD] at h
 | .str _, h => simp [rD] at h
theorem My {t : Tr} (h : rD t = 2) : ∃ x r, t = .tup (.int x :: r) := by
 match t, h with
 | .tup (.str x :: r), h => simp [rD] at h
 | .tup (.int x :: r), _ => exact ⟨x, r, rfl⟩
 | .tup (.tup _ :: _), h => simp [rD] at h
 | .tup [], h => simp [rD] at h
 | .int _, h => simp [rD] at h
 | .str _, h => simp [rD] at h
def Ts (K : PySem.W.Frag) (H : Hp) (ts : List Tr) (ys : List V) : Prop := ts.length = ys.length ∧ ∀ (i : Nat) (h1 : i < ts.length) (h2 : i < ys.length), cB K H (ts[i]).toD ys[i]
def aU (ts : List Tr) : List Tr := ts.mergeSort fun x y => !cI y x
theorem Bu (a b : Tr) : ((!cI b a) || (!cI a b)) = true := by
 cases h : cI b a with
 | false => rfl
 | true =>
  have z : cI a b = false := (uQ fun i => if i = 0 then b else a).uM 0 1 h
  rw [z]; rfl
theorem bK (ts : List Tr) : (aU ts).Perm ts := List.mergeSort_perm _ _
theorem oB (ts : List Tr) : (aU ts).Pairwise fun x y => cI y x = false := by
 have h := List.pairwise_mergeSort (le := fun x y => !cI y x) (fun a b c h1 h2 => by
  simp only [Bool.not_eq_true'] at *
  exact (uQ fun i => if i = 0 then a else if i = 1 then b else c).tr 0 1 2 h1 h2) Bu ts
 exact h.imp fun z => by simpa using z
theorem uS {ts mS : List Tr} (p : mS.Perm ts) (h : mS.Pairwise fun x y => cI y x = false) : mS = aU ts := yL (p.trans (bK ts).symm) h (oB ts)
theorem fo {a b : List Tr} (p : a.Perm b) : aU a = aU b := uS ((bK a).trans p) (oB a)
def I8 (K : PySem.W.Frag) : List V → Hp → VK → Prop := fun xs H Q => ∃ a ys ts k, xs = [.ref a] ∧ aD K H a ys ∧ Ts K H ts ys ∧ ys.length < 64 ∧ (k = 1 ∨ k = 2) ∧ (∀ t ∈ ts, rD t = k ∧ t.toD.deep ≤ 18) ∧ (∀ t ∈ ts, ∀ u ∈ ts, oz t u = true) ∧
 ∀ p wo, H p = none → Ts K H (aU ts) wo → Q (.ref p) (upd H p (.lst wo))
theorem ly {h : Heap} : ∀ {vs fs : List Value}, vs.length = fs.length → (∀ i (h1 : i < vs.length) (h2 : i < fs.length), ∃ a o xs n, vs[i] = .ref a ∧ h.get? a = some o ∧ o.cls = .type "tuple" ∧ o.data = .seq xs n ∧ xs[0]? = some fs[i]) → KatTups h vs fs
 | [], [], _, _ => .nil
 | [], _ :: _, l, _ => by simp at l
 | _ :: _, [], l, _ => by simp at l
 | v :: vs, f :: fs, l, hh => by
  obtain ⟨a, o, xs, n, e, e1, e2, e3, e4⟩ := hh 0 (by simp) (by simp)
  have e : v = .ref a := e
  have e4 : xs[0]? = some f := e4
  subst e
  exact .cons e1 e2 e3 e4 (ly (by simpa using l) fun i h1 h2 => hh (i + 1) (by simpa using h1) (by simpa using h2))
theorem qi {ys : List V} {its : List Value} (r : Vals ys its) : ∀ (p : List Nat), Vals (p.map fun i => ys.getD i .bz) (p.map fun i => its.getD i Value.none)
 | [] => .nil
 | i :: p => by
  refine .cons ?_ (qi r p)
  cases e : ys[i]? with
  | none =>
   have e2 := r.none_of e
   simp only [Gd9, e, e2, Option.getD_none]
   rfl
  | some x =>
   obtain ⟨u, e2, q⟩ := r.get e
   simp only [Gd9, e, e2, Option.getD_some]
   exact q
section
variable {X : Cx}
theorem mT {k : Nat} (hk : k = 1 ∨ k = 2) {t : Tr} (ht : rD t = k) : ∃ a r, t = .tup (a :: r) ∧ ((k = 1 ∧ ∃ x, a = .str x) ∨ (k = 2 ∧ ∃ x, a = .int x)) := by
 rcases hk with rfl | rfl
 ·obtain ⟨x, r, rfl⟩ := Mx ht
  exact ⟨_, r, rfl, .inl ⟨rfl, x, rfl⟩⟩
 ·obtain ⟨x, r, rfl⟩ := My ht
  exact ⟨_, r, rfl, .inr ⟨rfl, x, rfl⟩⟩
theorem mU {pins : List (Addr × Obj)} {σ : St} {H : Hp} {s : Shared} (I : Inv X pins σ H s) {a : Tr} {r : List Tr} {x : V} {vx : Value} (h : cB X.K H (Tr.tup (a :: r)).toD x) (rx : RelV x vx) :
  ∃ (p : Addr) (y : V) (ys : List V) (v : Value) (vs : List Value), vx = .ref p ∧ IsTup s.heap p (v :: vs).toArray ∧ cB X.K H a.toD y ∧ RelV y v ∧ ys.length = r.length ∧ vs.length = r.length ∧ Vals ys vs ∧ ∀ j (h1 : j < r.length) (h2 : j < ys.length), cB X.K H (r[j]).toD ys[j] := by
 simp only [Tr.toD, Tr.toDs] at h
 cases h with
 | @tup ds xs p g l rr =>
  cases rx
  obtain ⟨its, r1, p1, _⟩ := I.tuple g
  have kl := toDs_length r
  match xs, its, l, r1, p1, rr with
  | y :: ys, v :: vs, l, .cons q1 q2, p1, rr =>
   have hl : ys.length = r.length := by simp only [List.length_cons] at l; omega
   refine ⟨p, y, ys, v, vs, rfl, p1, rr 0 (by simp) (by simp), q1, hl, by rw [← q2.length]; exact hl, q2, fun j h1 h2 => ?_⟩
   have z := rr (j + 1) (by simp only [List.length_cons]; omega) (by simp only [List.length_cons]; omega)
   simp only [List.getElem_cons_succ] at z
   rw [toDs_get r j h1] at z
   exact z
  | [], _, l, _, _, _ => simp at l
theorem AB {pins : List (Addr × Obj)} {σ : St} {H : Hp} {s : Shared} (I : Inv X pins σ H s) {A : Around} (hA : A.units + 45 < cLine) {k : Nat} (hk : k = 1 ∨ k = 2) {t u : Tr} {x y : V} {vx vy : Value} (ht : rD t = k) (hu : rD u = k) (dt : t.toD.deep ≤ 18) (hs : oz t u = true)
  (h1 : cB X.K H t.toD x) (h2 : cB X.K H u.toD y) (rx : RelV x vx) (ry : RelV y vy) {prog : Program} {w : World} {C : Bool → Shared → Prop} {E : Value → Shared → Prop} (hC : C (cI t u) s) : wpAny (model prog w) A (keyLt' (tuples' true) vx vy) C E s := by
 obtain ⟨a, r, rfl, ka⟩ := mT hk ht
 obtain ⟨b, q, rfl, kb⟩ := mT hk hu
 obtain ⟨p1, y1, Rj, v1, Rk, rfl, t1, d1, e1, l1, m1, w1, g1⟩ := mU I h1 rx
 obtain ⟨p2, y2, GS, v2, WK, rfl, t2, d2, e2, l2, m2, w2, g2⟩ := mU I h2 ry
 obtain ⟨o1, C6, _, n1, C8⟩ := t1
 obtain ⟨o2, xV, _, n2, hd2⟩ := t2
 simp only [oz] at hs
 simp only [cI] at hC
 have tw : a.toD.deep ≤ 17 ∧ Dt.bJ (Tr.toDs r) ≤ 17 := by
  simp only [Tr.toD, Tr.toDs, Dt.deep, Dt.bJ] at dt
  omega
 refine kat_lt C6 C8 xV hd2 ?_
 rw [List.toList_toArray, List.toList_toArray]
 refine yN (a := a) (b := b) (r := r) (q := q) m1 m2 hs ?_ (gY I rfl 17 A tw.1 (by omega) d1 d2 e1 e2) (fun j c1 c2 c3 c4 => ?_) (by simp) hC
 ·rcases ka with ⟨rfl, x0, rfl⟩ | ⟨rfl, x0, rfl⟩
  ·rcases kb with ⟨_, y0, rfl⟩ | ⟨z, _⟩
   ·simp only [Tr.toD] at d1 d2
    cases d1; cases d2
    obtain ⟨t1, rfl⟩ := e1
    obtain ⟨t2, rfl⟩ := e2
    exact .inl ⟨x0, y0, t1, t2, rfl, rfl, rfl, rfl⟩
   ·cases z
  ·rcases kb with ⟨z, _⟩ | ⟨_, y0, rfl⟩
   ·cases z
   ·simp only [Tr.toD] at d1 d2
    cases d1; cases d2
    obtain ⟨t1, rfl⟩ := e1
    obtain ⟨t2, rfl⟩ := e2
    exact .inr ⟨x0, y0, t1, t2, rfl, rfl, rfl, rfl⟩
 ·obtain ⟨u1, f1, q1⟩ := w1.get (i := j) (x := Rj[j]'(by omega)) (by simp)
  obtain ⟨u2, f2, q2⟩ := w2.get (i := j) (x := GS[j]'(by omega)) (by simp)
  have z1 : Rk[j] = u1 := (List.getElem?_eq_some_iff.mp f1).2
  have z2 : WK[j] = u2 := (List.getElem?_eq_some_iff.mp f2).2
  rw [z1, z2]
  have zz := cg (ds := Tr.toDs r) (i := j) (by rw [toDs_length]; exact c1)
  rw [toDs_get r j c1] at zz
  exact ⟨gY I rfl 17 A (by omega) (by omega) (g1 j c1 (by omega)) (g2 j c2 (by omega)) q1 q2, fun xW => I0 I rfl 17 A (by omega) (by omega) xW (g1 j c1 (by omega)) (g2 j c2 (by omega)) q1 q2⟩
theorem eV (hu : X.A.units + 64 < cLine) : cw X (.builtin "sorted") (I8 X.K) := by
 intro pins s σ H xs us Q I rx h
 obtain ⟨a, ys, ts, k, rfl, hq, ⟨hl, hT⟩, Cc, hk, hd, xW, q⟩ := h
 obtain ⟨u, rfl, ru⟩ := vals1 rx
 cases ru
 obtain ⟨its, r, pl, hz⟩ := I.list hq
 have hlen := r.length
 have at_ : ∀ i (hi : i < its.length), ∃ u, its[i] = u ∧ RelV (ys[i]'(by omega)) u := fun i hi => by
  obtain ⟨u1, f1, q1⟩ := r.get (i := i) (x := ys[i]'(by omega)) (by simp)
  exact ⟨u1, (List.getElem?_eq_some_iff.mp f1).2, q1⟩
 refine yK (κ := tuples' true) (lt := fun i j => cI (ts.getD i (.int 0)) (ts.getD j (.int 0))) (uQ _) pl.isList (by omega) (fun h2 h' kp Q' hQ => ?_) (fun h' kp i j C hi hj hC => ?_) fun p D h' c hp hr kp hD e => ?_
 ·have I' : Inv X pins σ H { s with heap := h' } := I.kept (t' := s.toks) kp
  have hf : ∀ i : _root_.Fin its.length, ∃ f : Value, (∃ a o xs n, its[i.1] = .ref a ∧ h'.get? a = some o ∧ o.cls = .type "tuple" ∧ o.data = .seq xs n ∧ xs[0]? = some f) ∧ ((k = 1 → typeOf f = pure (.type "str")) ∧ (k = 2 → typeOf f = pure (.type "int"))) := fun ⟨i, hi⟩ => by
   obtain ⟨u, eu, ru⟩ := at_ i hi
   have hm := (hd _ (List.getElem_mem (show i < ts.length by omega))).1
   obtain ⟨c, cs, ec, kc⟩ := mT hk hm
   have Mz := hT i (by omega) (by omega)
   rw [ec] at Mz
   obtain ⟨p1, y1, Rj, v1, Rk, e1, ⟨o1, C6, MA, n1, C8⟩, d1, rv, _⟩ := mU I' Mz ru
   refine ⟨v1, ⟨p1, o1, _, n1, by show its[i] = _; rw [eu, e1], C6, MA, C8, by simp⟩, ?_⟩
   rcases kc with ⟨rfl, x, rfl⟩ | ⟨rfl, x, rfl⟩
   ·simp only [Tr.toD] at d1
    cases d1
    obtain ⟨t1, rfl⟩ := rv
    exact ⟨fun _ => rfl, fun z => by cases z⟩
   ·simp only [Tr.toD] at d1
    cases d1
    obtain ⟨t1, rfl⟩ := rv
    exact ⟨(fun z => by cases z), fun _ => rfl⟩
  obtain ⟨f, hf⟩ := Classical.skolem.mp hf
  have kt : KatTups h' its (List.ofFn f) := ly (by simp) fun i h1 h2 => by
   rw [List.getElem_ofFn]
   exact (hf ⟨i, h1⟩).1
  rcases hk with rfl | rfl
  ·refine kat_kind (s := { s with heap := h' }) (T := .type "str") kt (by simp; omega) (fun v hv => ?_) (by decide) ?_
   ·obtain ⟨i, rfl⟩ := (List.mem_ofFn (f := f) (a := v)).mp hv
    exact Looks.of_pure ((hf i).2.1 rfl)
   ·exact hQ
  ·refine kat_kind (s := { s with heap := h' }) (T := .type "int") kt (by simp; omega) (fun v hv => ?_) (by decide) ?_
   ·obtain ⟨i, rfl⟩ := (List.mem_ofFn (f := f) (a := v)).mp hv
    exact Looks.of_pure ((hf i).2.2 rfl)
   ·exact hQ
 ·have I' : Inv X pins σ H { s with heap := h' } := I.kept (t' := s.toks) kp
  obtain ⟨u1, Rm, Rn⟩ := at_ i hi
  obtain ⟨u2, IE, Ro⟩ := at_ j hj
  have g1 : its.getD i Value.none = u1 := by rw [← Rm]; simp [hi]
  have g2 : its.getD j Value.none = u2 := by rw [← IE]; simp [hj]
  have i1 : i < ts.length := by omega
  have j1 : j < ts.length := by omega
  have t1 : ts.getD i (.int 0) = ts[i] := by simp [i1]
  have t2 : ts.getD j (.int 0) = ts[j] := by simp [j1]
  rw [g1, g2]
  have hC : C (cI (ts.getD i (.int 0)) (ts.getD j (.int 0))) _ := hC
  rw [t1, t2] at hC
  exact AB I' (A := X.A.in1.in1) (by show X.A.units + 1 + 1 + 45 < cLine; omega) hk (hd _ (List.getElem_mem i1)).1 (hd _ (List.getElem_mem j1)).1 (hd _ (List.getElem_mem i1)).2 (xW _ (List.getElem_mem i1) _ (List.getElem_mem j1)) (hT i i1 (by omega)) (hT j j1 (by omega)) Rn Ro hC
 ·have hpl : p.toList.Perm (List.range its.length) := hp.2
  have e1 : (List.range its.length).map (fun i => ts.getD i (.int 0)) = ts := by
   apply List.ext_getElem (by simp; omega)
   intro i a1 a2
   simp [a2]
  have C9 : p.toList.map (fun i => ts.getD i (.int 0)) = aU ts := by
   refine uS ?_ ?_
   ·have z := hpl.map (fun i => ts.getD i (.int 0))
    rw [e1] at z
    exact z
   ·rw [List.pairwise_map, List.pairwise_iff_getElem]
    intro i j hi hj x6
    have hi' : i < p.size := by simpa using hi
    have hj' : j < p.size := by simpa using hj
    have z := hr i j x6 (by rw [← hp.1]; exact hj')
    have g1 : p.getD i 0 = p.toList[i] := by simp [Array.getD, hi']
    have g2 : p.getD j 0 = p.toList[j] := by simp [Array.getD, hj']
    rw [g1, g2] at z
    exact z
  have hv := qi r p.toList
  refine ⟨.ref D, upd H D (.lst (p.toList.map fun i => ys.getD i .bz)), I.laid (t' := s.toks) kp hD ⟨?_, _, c, hv, e⟩, rfl, q D _ (I.hok.fresh hD) ?_⟩
  ·rw [Lm9, Array.length_toList, hp.1]; omega
  ·rw [← C9]
   refine ⟨by simp, fun i h1 h2 => ?_⟩
   rw [List.getElem_map, List.getElem_map]
   have hi : i < p.toList.length := by simpa using h1
   have hb : p.toList[i] < its.length := List.mem_range.mp (hpl.mem_iff.mp (List.getElem_mem hi))
   have b1 : p.toList[i] < ts.length := by omega
   have b2 : p.toList[i] < ys.length := by omega
   have g1 : ts.getD p.toList[i] (.int 0) = ts[p.toList[i]] := by rw [Gd9, Ge9 b1, Option.getD_some]
   have g2 : ys.getD p.toList[i] .bz = ys[p.toList[i]] := by rw [Gd9, Ge9 b2, Option.getD_some]
   rw [g1, g2]
   exact hT _ b1 b2
end
end L2
namespace L2
open PySem PySem.Spec PyProof.Rows
section
variable {X : Cx} {pins : List (Addr × Obj)} {σ : St} {H H' : Hp} {s : Shared}
theorem Inv.MB {h' : Heap} {t' : Nat} (I : Inv X pins σ H s) (k : ∀ b u, s.heap.get? b = some u → h'.get? b = some u) (hH : ∀ b, b < s.heap.objs.size → H' b = H b) (hok : jh X.prog X.w H' h') : Inv X pins σ H' { s with heap := h', toks := t' } :=
 I.un ⟨fun b o e _ _ _ => k b o e, fun b o e _ _ _ => ⟨o.slots, k b o e⟩, fun b o e n _ => (hH b (Heap.lt_size e)).trans n, fun b o e _ => ⟨o, k b o e⟩, fun b xs e => (hH b (I.hok.lt e)).trans e, fun b o u e => (hH b (I.hok.lt e)).trans e,
  fun b ps e => ⟨#[], by rw [hH b (I.hok.lt e), e, Array.append_empty]⟩⟩ hok
end
section
variable {X : Cx} {o e f : Expr} {td ty tx : TE} {apos cpos : Pos}
def MC (td ty tx : TE) : TE := fun σ H Q => td σ H fun x H1 => ∃ a, x = .ref a ∧ IA H1 a ∧ ty σ H1 fun y H2 => tx σ H2 fun z H3 => ∃ kvs k, H3 a = some (.dK kvs) ∧ y = kV k ∧ kvs.length < sizeLine ∧
 (∀ v, eI kvs k = some v → Q v H3) ∧ (eI kvs k = none → Q z (upd H3 a (.dK (putK kvs k z))))
theorem Ft (ho : PE X o td) (he : PE X e ty) (hf : PE X f tx) (m : M2 X o "setdefault" apos e f cpos) : PE X (.Call (.Attribute o "setdefault" apos) [e, f] [] cpos) (MC td ty tx) := by
 intro pins s σ H Q I h
 refine wpAny_Call_method m.base m.few m.line PySem.F.plainAttrs_dict PySem.F.slot_dict_setdefault PySem.F.type_dict_setdefault (bQ (ho pins s σ H _ I h) fun u s1 ⟨x, H1, I1, rx, a, ex, d, q1⟩ => ?_)
 subst ex
 obtain rfl : u = Value.ref a := rx
 obtain ⟨t1, t2, _⟩ := Ap I1 d
 refine ⟨t1, t2, ?_⟩
 rw [m.trees]
 refine Calls.callWith_builtin rfl (Calls.evalArgs_plain (Calls.spliced_cons (bQ (he pins s1 σ H1 _ I1 q1) fun iv s2 ⟨y, H2, I2, ry, q2⟩ =>
  Calls.spliced_cons (bQ (hf pins s2 σ H2 _ I2 q2) fun fv s3 ⟨z, H3, I3, rz, kvs, k, ek, ey, hl, h1, h2⟩ => Calls.spliced_nil ?_))))
 subst ey
 obtain ⟨hz, hd, vs, rel, dd⟩ := CM I3.hok ek
 have hz' : vs.length ≤ sizeLine := by rw [← rel.length]; exact hz
 have hv := rel.val k
 refine call_meetsIn PySem.F.slot_dict_setdefault dd.typeIs PySem.F.entry_dict_setdefault (PySem.F.args_dict_setdefault_3 _ _ _) (kt_meets_setdefault (aG X.prog X.w) a (qa ry) hd fv) ⟨vs, dd, hz', fun v e1 => ?_, fun e1 h' PB hs => ?_⟩
 ·rw [e1] at hv
  cases e2 : eI kvs k with
  | none => rw [e2] at hv; exact hv.elim
  | some w =>
   rw [e2] at hv
   exact ⟨w, H3, I3.tok _, hv, h1 w e2⟩
 ·rw [e1] at hv
  cases e2 : eI kvs k with
  | some w => rw [e2] at hv; exact hv.elim
  | none =>
   have hq : ∃ q, h'.get? a = some q := let ⟨q, _, _, hq, _⟩ := PB; ⟨q, hq⟩
   have hl' : (putK kvs k z).length ≤ sizeLine := by have := ou kvs k z; omega
   exact ⟨z, _, An I3 (by rw [ek]; exact True.intro) hs hq (Iy hl' hd (rel.put k rz) PB), rz, h2 e2⟩
def uT (a d : Addr) : HO := .ext fun h => h.get? a = some { cls := .type "dict_items", data := .fields #[.ref d] }
def I9 : V → List V → Hp → VK → Prop := fun x vs H Q => ∃ d kvs, x = .ref d ∧ vs = [] ∧ H d = some (.dK kvs) ∧ ∀ p, H p = none → Q (.ref p) (upd H p (uT p d))
theorem Dc : L3 X "dict.items" I9 := by
 intro pins s σ H x vs v us Q I rx rv h
 obtain ⟨d, kvs, rfl, rfl, hd, q⟩ := h
 cases rx
 cases rv
 obtain ⟨hz, lo, kv, rel, dd⟩ := CM I.hok hd
 refine call_meetsIn PySem.F.slot_dict_items dd.typeIs PySem.F.entry_dict_items (PySem.F.args_dict_items_1 _) (meets_dict_items (aG X.prog X.w) d lo) ⟨⟨kv, dd⟩, ?_⟩
 have e : (s.heap.push { cls := .type "dict_items", data := .fields #[.ref d] }).get? s.heap.objs.size = some { cls := .type "dict_items", data := .fields #[.ref d] } := Heap.get?_push_size _ rfl
 exact ⟨.ref s.heap.objs.size, _, I.laid (o := uT s.heap.objs.size d) (t' := s.toks) (fun b u z => Heap.get?_push_of_some _ z) (Nat.le_refl _) (show bg _ _ _ _ _ (.ext _) from ⟨e, ⟨_, e⟩, fun h1 h2 z k => k _ z⟩), rfl, q _ (I.hok.fresh (Nat.le_refl _))⟩
theorem Paired.at2 {α β : Type} {F : α → β → Prop} : ∀ {l₁ : List α} {l₂ : List β}, Paired F l₁ l₂ → ∀ (j : Nat) (h1 : j < l₁.length) (h2 : j < l₂.length), F l₁[j] l₂[j]
 | _, _, .nil, j, h1, _ => by simp at h1
 | _, _, .cons r t, 0, _, _ => r
 | _, _, .cons r t, j + 1, h1, h2 => Paired.at2 t j (by simpa using h1) (by simpa using h2)
open PySem.W in
theorem Bv {pins : List (Addr × Obj)} {σ : St} {H : Hp} {s : Shared} {ts : List Tr} {ys : List V} {its : List Value} {k : Nat} {prog : Program} {w : World} {A : Around} {E : Value → Shared → Prop} {Q' : SortKind → Shared → Prop} (I' : Inv X pins σ H s)
  (r : Vals ys its) (hT : Ts X.K H ts ys) (hd : ∀ t ∈ ts, rD t = k) (hk : k = 1 ∨ k = 2) (h2 : 2 ≤ its.length) (hQ : Q' (tuples' true) s) : wpAny (model prog w) A (keyKind' its.toArray) Q' E s := by
 have hlen := r.length
 have hl := hT.1
 have hf : ∀ i : _root_.Fin its.length, ∃ f : Value, (∃ a o xs n, its[i.1] = .ref a ∧ s.heap.get? a = some o ∧ o.cls = .type "tuple" ∧ o.data = .seq xs n ∧ xs[0]? = some f) ∧ ((k = 1 → typeOf f = pure (.type "str")) ∧ (k = 2 → typeOf f = pure (.type "int"))) := fun ⟨i, hi⟩ => by
  obtain ⟨u, f1, ru⟩ := r.get (i := i) (x := ys[i]'(by omega)) (by simp)
  have eu : its[i] = u := (List.getElem?_eq_some_iff.mp f1).2
  have hm := hd _ (List.getElem_mem (show i < ts.length by omega))
  obtain ⟨c, cs, ec, kc⟩ := mT hk hm
  have Mz := hT.2 i (by omega) (by omega)
  rw [ec] at Mz
  obtain ⟨p1, y1, Rj, v1, Rk, e1, ⟨o1, C6, MA, n1, C8⟩, d1, rv, _⟩ := mU I' Mz ru
  refine ⟨v1, ⟨p1, o1, _, n1, by show its[i] = _; rw [eu, e1], C6, MA, C8, by simp⟩, ?_⟩
  rcases kc with ⟨rfl, x, rfl⟩ | ⟨rfl, x, rfl⟩
  ·simp only [Tr.toD] at d1
   cases d1
   obtain ⟨t1, rfl⟩ := rv
   exact ⟨fun _ => rfl, fun z => by cases z⟩
  ·simp only [Tr.toD] at d1
   cases d1
   obtain ⟨t1, rfl⟩ := rv
   exact ⟨(fun z => by cases z), fun _ => rfl⟩
 obtain ⟨f, hf⟩ := Classical.skolem.mp hf
 have kt : KatTups s.heap its (List.ofFn f) := ly (by simp) fun i h1 h2 => by
  rw [List.getElem_ofFn]
  exact (hf ⟨i, h1⟩).1
 rcases hk with rfl | rfl
 ·refine kat_kind (T := .type "str") kt (by simp; omega) (fun v hv => ?_) (by decide) hQ
  obtain ⟨i, rfl⟩ := (List.mem_ofFn (f := f) (a := v)).mp hv
  exact Looks.of_pure ((hf i).2.1 rfl)
 ·refine kat_kind (T := .type "int") kt (by simp; omega) (fun v hv => ?_) (by decide) hQ
  obtain ⟨i, rfl⟩ := (List.mem_ofFn (f := f) (a := v)).mp hv
  exact Looks.of_pure ((hf i).2.2 rfl)
open PySem.W in
theorem Dd {K : PySem.W.Frag} {H : Hp} {ts : List Tr} {ys : List V} {p : Array Nat} (hT : Ts K H ts ys) (hp : Arr ts.length p) (hr : uN (fun i j => cI (ts.getD i (.int 0)) (ts.getD j (.int 0))) p ts.length) : Ts K H (aU ts) (p.toList.map fun i => ys.getD i .bz) := by
 have hpl : p.toList.Perm (List.range ts.length) := hp.2
 have hl := hT.1
 have e1 : (List.range ts.length).map (fun i => ts.getD i (.int 0)) = ts := by
  apply List.ext_getElem (by simp)
  intro i a1 a2
  simp [a2]
 have C9 : p.toList.map (fun i => ts.getD i (.int 0)) = aU ts := by
  refine uS ?_ ?_
  ·have z := hpl.map (fun i => ts.getD i (.int 0))
   rw [e1] at z
   exact z
  ·rw [List.pairwise_map, List.pairwise_iff_getElem]
   intro i j hi hj x6
   have hi' : i < p.size := by simpa using hi
   have hj' : j < p.size := by simpa using hj
   have z := hr i j x6 (by rw [← hp.1]; exact hj')
   have g1 : p.getD i 0 = p.toList[i] := by simp [Array.getD, hi']
   have g2 : p.getD j 0 = p.toList[j] := by simp [Array.getD, hj']
   rw [g1, g2] at z
   exact z
 rw [← C9]
 refine ⟨by simp, fun i h1 h2 => ?_⟩
 rw [List.getElem_map, List.getElem_map]
 have hi : i < p.toList.length := by simpa using h1
 have b1 : p.toList[i] < ts.length := List.mem_range.mp (hpl.mem_iff.mp (List.getElem_mem hi))
 have b2 : p.toList[i] < ys.length := by omega
 have g1 : ts.getD p.toList[i] (.int 0) = ts[p.toList[i]] := by rw [Gd9, Ge9 b1, Option.getD_some]
 have g2 : ys.getD p.toList[i] .bz = ys[p.toList[i]] := by rw [Gd9, Ge9 b2, Option.getD_some]
 rw [g1, g2]
 exact hT.2 _ b1 b2
open PySem.W in
theorem AD {pins : List (Addr × Obj)} {σ : St} {H : Hp} {s : Shared} {A : Around} {E : Value → Shared → Prop} {ts : List Tr} {ys : List V} {its : List Value} {k : Nat} {P : PySem.Fin → Shared → Prop} (hu : A.units + 45 < cLine) (I : Inv X pins σ H s) (r : Vals ys its) (hT : Ts X.K H ts ys) (Cc : its.length < 64) (hk : k = 1 ∨ k = 2)
  (hd : ∀ t ∈ ts, rD t = k ∧ t.toD.deep ≤ 18) (xW : ∀ t ∈ ts, ∀ u ∈ ts, oz t u = true)
  (fin : ∀ wo s', Inv X pins σ (upd H s.heap.objs.size (.lst wo)) s' → Ts X.K H (aU ts) wo → P (.done (.ret .none)) s') :
  wpAny (model X.prog X.w) A (Builtin.«list.sort» ⟨[.ref s.heap.objs.size], []⟩) P E { s with heap := s.heap.push (seqObj "list" its.toArray 0) } := by
 have hlen := r.length
 have hl := hT.1
 have nD : ∀ b o, s.heap.get? b = some o → b ≠ s.heap.objs.size := fun b o q => Nat.ne_of_lt (Heap.lt_size q)
 have Fl : ∀ b o, s.heap.get? b = some o → (s.heap.push (seqObj "list" its.toArray 0)).get? b = some o := fun b o q => Heap.get?_push_of_some _ q
 have at_ : ∀ i (hi : i < its.length), ∃ u, its[i] = u ∧ RelV (ys[i]'(by omega)) u := fun i hi => by
  obtain ⟨u1, f1, q1⟩ := r.get (i := i) (x := ys[i]'(by omega)) (by simp)
  exact ⟨u1, (List.getElem?_eq_some_iff.mp f1).2, q1⟩
 refine kJ (κ := tuples' true) (lt := fun i j => cI (ts.getD i (.int 0)) (ts.getD j (.int 0))) (uQ _) (Heap.get?_push_size _ rfl) Cc (fun h2 h' kp Q' hQ => ?_) (fun h' kp i j C hi hj hC => ?_) fun p h' c hp hr kp e => ?_
 ·exact Bv (I.kept (t' := s.toks) fun b o q => kp b o (nD b o q) (Fl b o q)) r hT (fun t ht => (hd t ht).1) hk h2 hQ
 ·have I' : Inv X pins σ H { s with heap := h' } := I.kept (t' := s.toks) fun b o q => kp b o (nD b o q) (Fl b o q)
  obtain ⟨u1, Rm, Rn⟩ := at_ i hi
  obtain ⟨u2, IE, Ro⟩ := at_ j hj
  have g1 : its.getD i Value.none = u1 := by rw [← Rm]; simp [hi]
  have g2 : its.getD j Value.none = u2 := by rw [← IE]; simp [hj]
  have i1 : i < ts.length := by omega
  have j1 : j < ts.length := by omega
  have t1 : ts.getD i (.int 0) = ts[i] := by simp [i1]
  have t2 : ts.getD j (.int 0) = ts[j] := by simp [j1]
  rw [g1, g2]
  have hC : C (cI (ts.getD i (.int 0)) (ts.getD j (.int 0))) _ := hC
  rw [t1, t2] at hC
  exact AB I' hu hk (hd _ (List.getElem_mem i1)).1 (hd _ (List.getElem_mem j1)).1 (hd _ (List.getElem_mem i1)).2 (xW _ (List.getElem_mem i1) _ (List.getElem_mem j1)) (hT.2 i i1 (by omega)) (hT.2 j j1 (by omega)) Rn Ro hC
 ·have el : its.length = ts.length := by omega
  rw [el] at hp hr
  refine fin (p.toList.map fun i => ys.getD i .bz) _ (I.laid (t' := s.toks) (fun b o q => kp b o (nD b o q) (Fl b o q)) (Nat.le_refl _) ⟨?_, _, c, qi r p.toList, e⟩) (Dd hT hp hr)
  rw [Lm9, Array.length_toList, hp.1, sizeLine_eq]
  omega
def wY (p : Str × Tr) : Tr := .tup [.str p.1, p.2]
def Ja (K : PySem.W.Frag) : List V → Hp → VK → Prop := fun xs H Q => ∃ r d kvs, ∃ ps : List (Str × Tr), xs = [.ref r] ∧ H r = some (uT r d) ∧ H d = some (.dK kvs) ∧ kvs.length < 64 ∧ kvs.length = ps.length ∧
 (∀ (i : Nat) (h1 : i < kvs.length) (h2 : i < ps.length), (kvs[i]).1 = .inr (ps[i]).1 ∧ cB K H (ps[i]).2.toD (kvs[i]).2 ∧ (ps[i]).2.toD.deep ≤ 17) ∧ (∀ p ∈ ps, ∀ q ∈ ps, oz p.2 q.2 = true) ∧
 ∀ p wo H', ai H H' → H' p = none → Ts K H' (aU (ps.map wY)) wo → Q (.ref p) (upd H' p (.lst wo))
theorem uU (hu : X.A.units + 64 < cLine) (hc : X.calm = true) : cw X (.builtin "sorted") (Ja X.K) := by
 intro pins s σ H xs us Q I rx h
 obtain ⟨r, d, kvs, ps, rfl, hr, hd, Cc, hl, hT, xW, q⟩ := h
 obtain ⟨u, rfl, ru⟩ := vals1 rx
 cases ru
 obtain ⟨hz, lo, vs, rel, dd⟩ := CM I.hok hd
 obtain ⟨od, es, ep, e1, e2, e3, e4⟩ := dd
 have hr' : s.heap.get? r = some { cls := .type "dict_items", data := .fields #[.ref d] } := (show bg X.prog X.w H s.heap r (.ext _) from I.hok r _ hr).1
 have Uy : vs.length = kvs.length := rel.length.symm
 refine Calls.call_function_entry kind_sorted plain_sorted entry_sorted (args_sorted1 _) ?_
 unfold Builtin.«sorted»
 refine wpAny_bind (m := checkCount "sorted" 1 1 _) (wpAny_pure ?_)
 refine wpAny_bind (PySem.W.kdx_collect (A := X.A.in1) (knd := aG X.prog X.w) (kvs := vs) (ep := ep) (d := d) (I.ok.hd hc) ⟨_, hr', rfl, rfl⟩ ⟨od, es, e1, e2, e3, e4⟩ (by rw [Uy]; exact hz) fun h' tk as kp K9 hG => ?_)
 have nd : as.Nodup := hG.rise.imp fun z => Nat.ne_of_lt z
 have hla' : as.length = kvs.length := by omega
 let H1 : Hp := fun b => if h : as.idxOf b < kvs.length then some (.tup [kV (kvs[as.idxOf b]).1, (kvs[as.idxOf b]).2]) else H b
 have yO : ∀ j (h1 : j < as.length) (h2 : j < kvs.length), H1 as[j] = some (.tup [kV (kvs[j]).1, (kvs[j]).2]) := fun j h1 h2 => by
  have e := nd.idxOf_getElem j h1
  show (if h : as.idxOf as[j] < kvs.length then some (HO.tup [kV (kvs[as.idxOf as[j]]).1, (kvs[as.idxOf as[j]]).2]) else H as[j]) = _
  have gQ : as.idxOf as[j] < kvs.length := by rw [e]; exact h2
  rw [dif_pos gQ]
  simp only [e]
 have yP : ∀ b, b < s.heap.objs.size → H1 b = H b := fun b hb => by
  have hn : b ∉ as := fun hm => Nat.lt_asymm (hG.above b hm) hb
  have e : as.idxOf b = as.length := List.idxOf_eq_length hn
  show (if h : as.idxOf b < kvs.length then _ else H b) = H b
  rw [dif_neg (by rw [e]; omega)]
 have same : ai H H1 := fun b o e => (yP b (I.hok.lt e)).trans e
 have MD : jh X.prog X.w H1 h' := fun b o e => by
  by_cases hb : as.idxOf b < kvs.length
  ·have Rp : as.idxOf b < as.length := by omega
   have eb : as[as.idxOf b] = b := List.getElem_idxOf Rp
   have e1 := yO _ Rp hb
   rw [eb, e] at e1
   have e1 := Option.some.inj e1
   subst e1
   obtain ⟨key, k, x, f1, f2, f3⟩ := hG.pairs (as.idxOf b) b (by rw [Ge9 Rp, eb])
   obtain ⟨f4, f5⟩ := List.getElem?_eq_some_iff.mp f1
   have z := Paired.at2 rel (as.idxOf b) hb f4
   rw [f5] at z
   refine ⟨by rw [sizeLine_eq]; simp, [key, x], .cons ?_ (.cons z.2 .nil), ⟨_, f3, rfl, 0, rfl⟩⟩
   rw [z.1]
   exact Ml f2
  ·have e1 : H1 b = H b := by
    show (if h : as.idxOf b < kvs.length then _ else H b) = H b
    rw [dif_neg hb]
   rw [e1] at e
   exact (I.hok b o e).wy (fun c u _ z => kp c u z) (fun c z => same c _ z) fun c xs z => same c _ z
 have I1 : Inv X pins σ H1 { s with heap := h', toks := tk } := I.MB kp yP MD
 have KZ : Ts X.K H1 (ps.map wY) (as.map V.ref) := ⟨by simp; omega, fun i h1 h2 => by
  rw [List.getElem_map, List.getElem_map]
  have i1 : i < ps.length := by simpa using h1
  have i2 : i < as.length := by simpa using h2
  obtain ⟨k1, k2, _⟩ := hT i (by omega) i1
  have e := yO i i2 (by omega)
  show cB X.K H1 (Tr.toD (.tup [.str (ps[i]).1, (ps[i]).2])) (.ref as[i])
  simp only [Tr.toD, Tr.toDs]
  refine .tup (.inl (.inl e)) rfl fun j j1 j2 => ?_
  match j, j1, j2 with
  | 0, _, _ =>
   show cB X.K H1 (.str (ps[i]).1) (kV (kvs[i]).1)
   rw [k1]
   exact .str _
  | 1, _, _ => exact k2.same same⟩
 have WL : Vals (as.map V.ref) (as.map Value.ref) := by
  clear KZ MD yO hla' K9 hG yP same I1 nd
  induction as with
  | nil => exact .nil
  | cons a r ih => exact .cons rfl ih
 refine wpAny_bind (wpAny_newList ?_ (by rw [Lm9, K9, Uy]; exact hz))
 have mr : ∀ E', wpAny (model X.prog X.w) X.A.in1.in1 (Builtin.«list.sort» ⟨[.ref h'.objs.size], []⟩) _ E' { s with heap := h'.push (seqObj "list" (as.map Value.ref).toArray 0), toks := tk } := fun E' =>
  AD (s := { s with heap := h', toks := tk }) (k := 1) (ts := ps.map wY) (P := fun fin s' => fin = .done (.ret .none) ∧ EP X pins σ Q (.ref h'.objs.size) s') (E := E') (by show X.A.units + 1 + 1 + 45 < cLine; omega) I1 WL KZ (by simp; omega) (.inl rfl)
   (fun t ht => by
    obtain ⟨q0, ME, rfl⟩ := List.mem_map.mp ht
    obtain ⟨i, hi, rfl⟩ := List.mem_iff_getElem.mp ME
    refine ⟨rfl, ?_⟩
    have z := (hT i (by omega) hi).2.2
    show (Tr.toD (.tup [.str (ps[i]).1, (ps[i]).2])).deep ≤ 18
    simp only [Tr.toD, Tr.toDs, Dt.deep, Dt.bJ]
    omega)
   (fun t ht u Jb => by
    obtain ⟨q0, ME, rfl⟩ := List.mem_map.mp ht
    obtain ⟨q1, Rq, rfl⟩ := List.mem_map.mp Jb
    have z := xW _ ME _ Rq
    simp only [wY, oz, mR, Bool.and_eq_true, Bool.and_true, Bool.true_and]
    exact z)
   fun wo s' I2 C9 => ⟨rfl, .ref h'.objs.size, _, I2, rfl, q _ _ H1 same (I1.hok.fresh (Nat.le_refl _)) C9⟩
 refine wpAny_bind (wpAny_holding (wpAny_call_entry slot_list_sort ⟨_, Heap.get?_push_size _ rfl, rfl⟩ entry_list_sort ?body (args_list_sort _)))
 case body =>
  refine wpAny_mono (mr _) (fun fin s' z => ?_) fun _ _ z => z
  obtain ⟨rfl, z⟩ := z
  exact ⟨_, rfl, wpAny_pure ⟨_, rfl, z⟩⟩
end
end L2
namespace dS
open PySem
def Ri (xs : Array Nat) : Prop := ∀ i j, i < j → j < xs.size → xs.getD i 0 < xs.getD j 0
theorem getD_in (xs : Array Nat) {i : Nat} (h : i < xs.size) (a b : Nat) : xs.getD i a = xs.getD i b := by simp [Array.getD, h]
theorem uV (xs : Array Nat) (hr : Ri xs) (j : Nat) : ∀ (fuel lo hi : Nat), lo ≤ hi → hi ≤ xs.size → hi - lo ≤ fuel → (∀ i, i < lo → xs.getD i 0 < j) → (∀ i, hi ≤ i → i < xs.size → j ≤ xs.getD i 0) →
  (SetTable.below.go xs j fuel lo hi ≤ xs.size ∧ (∀ i, i < SetTable.below.go xs j fuel lo hi → xs.getD i 0 < j) ∧ ∀ i, SetTable.below.go xs j fuel lo hi ≤ i → i < xs.size → j ≤ xs.getD i 0)
 | 0, lo, hi, h1, h2, h3, h4, h5 => by
  obtain rfl : lo = hi := by omega
  exact ⟨h2, h4, h5⟩
 | fuel + 1, lo, hi, h1, h2, h3, h4, h5 => by
  unfold SetTable.below.go
  by_cases hl : lo < hi
  ·rw [if_pos hl]
   have hm : (lo + hi) / 2 < xs.size := by omega
   have e : xs.getD ((lo + hi) / 2) j = xs.getD ((lo + hi) / 2) 0 := getD_in xs hm _ _
   dsimp only
   rw [e]
   by_cases hc : xs.getD ((lo + hi) / 2) 0 < j
   ·rw [if_pos hc]
    refine uV xs hr j fuel ((lo + hi) / 2 + 1) hi (by omega) h2 (by omega) (fun i hi' => ?_) h5
    by_cases ei : i = (lo + hi) / 2
    ·rw [ei]; exact hc
    ·exact Nat.lt_trans (hr i _ (by omega) hm) hc
   ·rw [if_neg hc]
    refine uV xs hr j fuel lo ((lo + hi) / 2) (by omega) (by omega) (by omega) h4 fun i K3 WM => ?_
    by_cases ei : i = (lo + hi) / 2
    ·rw [ei]; omega
    ·have := hr _ i (show (lo + hi) / 2 < i by omega) WM
     omega
  ·rw [if_neg hl]
   obtain rfl : lo = hi := by omega
   exact ⟨h2, h4, h5⟩
theorem g9 (xs : Array Nat) (hr : Ri xs) (j : Nat) : SetTable.below xs j ≤ xs.size ∧ (∀ i, i < SetTable.below xs j → xs.getD i 0 < j) ∧ ∀ i, SetTable.below xs j ≤ i → i < xs.size → j ≤ xs.getD i 0 :=
 uV xs hr j xs.size 0 xs.size (Nat.zero_le _) (Nat.le_refl _) (by omega) (fun i h => absurd h (by omega)) fun i h1 h2 => absurd h1 (by omega)
structure Tb (t : SetTable) : Prop where
 ri : Ri t.place
 nd : t.dummies = #[]
theorem gw {t : SetTable} (T : Tb t) {i : Nat} (hi : i < t.place.size) : t.slot (t.place.getD i 0) = .live i := by
 have b := g9 t.place T.ri (t.place.getD i 0)
 have e : SetTable.below t.place (t.place.getD i 0) = i := by
  rcases Nat.lt_trichotomy (SetTable.below t.place (t.place.getD i 0)) i with h | h | h
  ·have z := b.2.2 _ (Nat.le_refl _) (by omega)
   have y := T.ri _ i h hi
   omega
  ·exact h
  ·have z := b.2.1 i h
   omega
 unfold SetTable.slot
 rw [e]
 have e2 : t.place[i]? = some (t.place.getD i 0) := by simp [Array.getD, hi]
 dsimp only
 rw [e2]
 simp
theorem lC {t : SetTable} (T : Tb t) (j : Nat) : (∃ i, i < t.place.size ∧ t.place.getD i 0 = j ∧ t.slot j = .live i) ∨ ((∀ i, i < t.place.size → t.place.getD i 0 ≠ j) ∧ t.slot j = .empty) := by
 by_cases h : ∃ i, i < t.place.size ∧ t.place.getD i 0 = j
 ·obtain ⟨i, h1, h2⟩ := h
  exact .inl ⟨i, h1, h2, by rw [← h2]; exact gw T h1⟩
 ·refine .inr ⟨fun i h1 h2 => h ⟨i, h1, h2⟩, ?_⟩
  have hn : ∀ i, i < t.place.size → t.place.getD i 0 ≠ j := fun i h1 h2 => h ⟨i, h1, h2⟩
  unfold SetTable.slot
  dsimp only
  have e1 : (t.place[SetTable.below t.place j]? == some j) = false := by
   cases e : t.place[SetTable.below t.place j]? with
   | none => rfl
   | some y =>
    obtain ⟨h1, h2⟩ := Array.getElem?_eq_some_iff.mp e
    have z := hn _ h1
    have e3 : t.place.getD (SetTable.below t.place j) 0 = y := by simp [Array.getD, h1, h2]
    rw [e3] at z
    simpa using z
  rw [e1]
  have e2 : SetTable.has t.dummies j = false := by rw [T.nd]; simp [SetTable.has]
  rw [e2]
  rfl
end dS
namespace dS
def wq : Nat → Nat → Nat
 | 0, s => s
 | r + 1, s => 5 * wq r s + 1
def T5 : Nat → Nat
 | 0 => 0
 | r + 1 => 5 * T5 r + 1
theorem qj : ∀ r s, wq r s = 5 ^ r * s + T5 r
 | 0, s => by simp [wq, T5]
 | r + 1, s => by
  rw [wq, qj r s, T5, Nat.pow_succ, Nat.mul_add, ← Nat.mul_assoc, Nat.mul_comm 5 (5 ^ r), Nat.add_assoc]
theorem yQ : ∀ r, 4 * T5 r + 1 = 5 ^ r
 | 0 => rfl
 | r + 1 => by
  have := yQ r
  rw [T5, Nat.pow_succ, ← this]
  omega
theorem uW : ∀ a b s, wq (a + b) s = wq a (wq b s)
 | 0, b, s => by simp [wq]
 | a + 1, b, s => by
  rw [show a + 1 + b = (a + b) + 1 by omega, wq, wq, uW a b s]
theorem Jc (a b : Nat) : T5 (a + b) = 5 ^ a * T5 b + T5 a := by
 have h := uW a b 0
 rw [qj, qj a, qj b] at h
 simpa using h
theorem De : ∀ k, ∃ o, T5 (2 ^ k) = 2 ^ k * (2 * o + 1)
 | 0 => ⟨0, rfl⟩
 | k + 1 => by
  obtain ⟨o, h⟩ := De k
  have e : 2 ^ (k + 1) = 2 ^ k + 2 ^ k := by rw [Nat.pow_succ]; omega
  rw [e, Jc, ← yQ]
  refine ⟨2 * T5 (2 ^ k) * o + T5 (2 ^ k) + o, ?_⟩
  generalize T5 (2 ^ k) = T at *
  generalize 2 ^ k = M at *
  have h3 : (4 * T + 1) * T + T = (2 * (2 * T + 1)) * T := by grind
  rw [h3]
  have h4 : (2 * (2 * T + 1)) * T = (2 * (2 * T + 1)) * (M * (2 * o + 1)) := by rw [← h]
  rw [h4]
  grind
theorem cover : ∀ (k s j : Nat), j < 2 ^ k → ∃ r, r < 2 ^ k ∧ wq r s % 2 ^ k = j
 | 0, s, j, h => ⟨0, by simp, by simp at h; subst h; simp [Nat.mod_one]⟩
 | k + 1, s, j, h => by
  have e : 2 ^ (k + 1) = 2 * 2 ^ k := by rw [Nat.pow_succ]; omega
  have hM : 0 < 2 ^ k := Nat.two_pow_pos k
  obtain ⟨r, hr, hj⟩ := cover k s (j % 2 ^ k) (Nat.mod_lt _ hM)
  obtain ⟨o, ho⟩ := De k
  have hB : wq (2 ^ k + r) s = wq r s + 2 ^ k * ((2 * o + 1) * (4 * wq r s + 1)) := by
   rw [uW, qj (2 ^ k), ← yQ, ho]
   generalize wq r s = A
   generalize 2 ^ k = M
   grind
  rw [e] at h ⊢
  obtain ⟨A, hA⟩ : ∃ A, wq r s = A := ⟨_, rfl⟩
  rw [hA] at hB hj
  generalize 2 ^ k = M at *
  have a1 := Nat.div_add_mod A M
  have j1 := Nat.div_add_mod j M
  rw [hj] at a1
  generalize j % M = c at *
  have hc : c < M := by
   rw [← hj]; exact Nat.mod_lt _ hM
  have hp : j / M = 0 ∨ j / M = 1 := by
   have : j / M < 2 := Nat.div_lt_of_lt_mul (by rw [Nat.mul_comm]; exact h)
   revert this
   generalize j / M = p
   intro this
   omega
  have key : ∀ q x, x = 2 * M * q + j → x % (2 * M) = j := fun q x e => by
   rw [e, Nat.mul_add_mod]
   exact Nat.mod_eq_of_lt h
  obtain ⟨q, hq⟩ : ∃ q, A / M = 2 * q ∨ A / M = 2 * q + 1 := ⟨A / M / 2, by generalize A / M = z; omega⟩
  generalize A / M = a at *
  generalize j / M = p at *
  obtain ⟨u, hu⟩ : ∃ u, (2 * o + 1) * (4 * A + 1) = 2 * u + 1 := ⟨4 * A * o + o + 2 * A, by grind⟩
  rw [hu] at hB
  rcases hq with rfl | rfl <;> rcases hp with rfl | rfl
  ·exact ⟨r, by omega, key q _ (by grind)⟩
  ·exact ⟨M + r, by omega, key (q + u) _ (by grind)⟩
  ·exact ⟨M + r, by omega, key (q + u + 1) _ (by grind)⟩
  ·exact ⟨r, by omega, key q _ (by grind)⟩
end dS
namespace dS
open PySem
def bY (t : SetTable) : Nat → SetTable.Probe → SetTable.Probe
 | 0, p => p
 | n + 1, p => bY t n (t.advance p)
theorem hV (t : SetTable) : ∀ a b p, bY t (a + b) p = bY t b (bY t a p)
 | 0, b, p => by simp [bY]
 | a + 1, b, p => by rw [show a + 1 + b = (a + b) + 1 by omega, bY, bY, hV t a b]
def start (mask i pb : Nat) (d : Option Nat) : SetTable.Probe := { j := i, more := SetTable.runEnd mask i - i, i := i, perturb := pb, dummy := d }
theorem mV (t : SetTable) : ∀ (more j i pb : Nat) (d : Option Nat), bY t (more + 1) { j := j, more := more, i := i, perturb := pb, dummy := d } = start t.mask (SetTable.leap t.mask i pb).1 (SetTable.leap t.mask i pb).2 d
 | 0, j, i, pb, d => by
  simp only [bY, SetTable.advance]
  rfl
 | more + 1, j, i, pb, d => by
  rw [bY]
  have e : t.advance { j := j, more := more + 1, i := i, perturb := pb, dummy := d } = { j := j + 1, more := more, i := i, perturb := pb, dummy := d } := by
   simp [SetTable.advance]
  rw [e]
  exact mV t more (j + 1) i pb d
def lp (mask : Nat) : Nat → Nat × Nat → Nat × Nat
 | 0, x => x
 | q + 1, x => SetTable.leap mask (lp mask q x).1 (lp mask q x).2
theorem starts (t : SetTable) (d : Option Nat) (i pb : Nat) : ∀ q, ∃ n, n ≤ 10 * q ∧ bY t n (start t.mask i pb d) = start t.mask (lp t.mask q (i, pb)).1 (lp t.mask q (i, pb)).2 d
 | 0 => ⟨0, Nat.le_refl _, rfl⟩
 | q + 1 => by
  obtain ⟨n, h1, h2⟩ := starts t d i pb q
  have hr : SetTable.runEnd t.mask (lp t.mask q (i, pb)).1 - (lp t.mask q (i, pb)).1 ≤ 9 := by
   unfold SetTable.runEnd
   split <;> omega
  refine ⟨n + (SetTable.runEnd t.mask (lp t.mask q (i, pb)).1 - (lp t.mask q (i, pb)).1 + 1), by omega, ?_⟩
  rw [hV, h2, start, mV]
  rfl
theorem GU (mask : Nat) (x : Nat × Nat) : ∀ q, (lp mask q x).2 = x.2 / 32 ^ q
 | 0 => by simp [lp]
 | q + 1 => by
  rw [lp, SetTable.leap, GU mask x q, Nat.pow_succ, Nat.div_div_eq_div_mul]
theorem Fu {mask : Nat} {x : Nat × Nat} (h : x.2 < 2 ^ 64) {q : Nat} (hq : 13 ≤ q) : (lp mask q x).2 = 0 := by
 rw [GU]
 apply Nat.div_eq_of_lt
 calc x.2 < 2 ^ 64 := h
  _ ≤ 32 ^ 13 := by decide
  _ ≤ 32 ^ q := Nat.pow_le_pow_right (by decide) hq
theorem yR {mask : Nat} {x : Nat × Nat} (h : x.2 < 2 ^ 64) : ∀ r, (lp mask (13 + r) x).1 % (mask + 1) = wq r (lp mask 13 x).1 % (mask + 1)
 | 0 => rfl
 | r + 1 => by
  have e : lp mask (13 + (r + 1)) x = SetTable.leap mask (lp mask (13 + r) x).1 (lp mask (13 + r) x).2 := rfl
  rw [e, SetTable.leap, Fu h (by omega)]
  show ((lp mask (13 + r) x).1 * 5 + 1 + 0 / 32) % (mask + 1) % (mask + 1) = _
  rw [Nat.mod_mod, wq]
  simp only [Nat.zero_div, Nat.add_zero]
  rw [Nat.add_mod, Nat.mul_mod, yR h r, ← Nat.mul_mod, ← Nat.add_mod, Nat.mul_comm]
theorem Jd (t : SetTable) {k : Nat} (hk : t.mask + 1 = 2 ^ k) (h : Int) {j : Nat} (hj : j ≤ t.mask) : ∃ n, n ≤ 10 * (t.mask + 14) ∧ (bY t n (t.probeStart h)).j = j := by
 have e : t.probeStart h = start t.mask (SetTable.bits h % (t.mask + 1)) (SetTable.bits h) none := rfl
 have hb : SetTable.bits h < 2 ^ 64 := by
  unfold SetTable.bits
  have h1 := Int.emod_lt_of_pos h (show (0 : Int) < 2 ^ 64 by decide)
  have h2 := Int.emod_nonneg h (show (2 ^ 64 : Int) ≠ 0 by decide)
  omega
 let x : Nat × Nat := (SetTable.bits h % (t.mask + 1), SetTable.bits h)
 obtain ⟨r, hr, hx⟩ := cover k (lp t.mask 13 x).1 j (by omega)
 rw [← hk] at hx hr
 have h1 := yR (mask := t.mask) (x := x) hb r
 have h2 : (lp t.mask (13 + r) x).1 < t.mask + 1 := by
  rw [show 13 + r = (12 + r) + 1 by omega, lp, SetTable.leap]
  exact Nat.mod_lt _ (Nat.succ_pos _)
 rw [Nat.mod_eq_of_lt h2, hx] at h1
 obtain ⟨n, h3, h4⟩ := starts t none x.1 x.2 (13 + r)
 refine ⟨n, by omega, ?_⟩
 rw [e]
 show (bY t n (start t.mask x.1 x.2 none)).j = j
 rw [h4]
 exact h1
theorem yS {t : SetTable} (T : Tb t) (hf : t.place.size ≤ t.mask) : ∃ j, j ≤ t.mask ∧ t.slot j = .empty := by
 refine Classical.byContradiction fun ji => ?_
 have all : ∀ j, j ≤ t.mask → ∃ i, i < t.place.size ∧ t.place.getD i 0 = j := fun j hj => by
  rcases lC T j with ⟨i, h1, h2, _⟩ | ⟨_, h2⟩
  ·exact ⟨i, h1, h2⟩
  ·exact absurd ⟨j, hj, h2⟩ ji
 have up : ∀ j, j ≤ t.mask → ∀ i, i < t.place.size → t.place.getD i 0 = j → j ≤ i := by
  intro j
  induction j with
  | zero => intro _ i _ _; omega
  | succ j ih =>
   intro hj i hi e
   obtain ⟨i', hi', e'⟩ := all j (by omega)
   have := ih (by omega) i' hi' e'
   rcases Nat.lt_trichotomy i i' with q | q | q
   ·have := T.ri i i' q hi'; omega
   ·subst q; omega
   ·omega
 obtain ⟨i, hi, e⟩ := all t.mask (Nat.le_refl _)
 have := up _ (Nat.le_refl _) i hi e
 omega
theorem first (P : Nat → Prop) (n : Nat) (h : P n) : ∃ m, m ≤ n ∧ P m ∧ ∀ i, i < m → ¬ P i := by
 induction n using Nat.strongRecOn with
 | ind n ih =>
  by_cases q : ∃ i, i < n ∧ P i
  ·obtain ⟨i, h1, h2⟩ := q
   obtain ⟨m, a, b, c⟩ := ih i h1 h2
   exact ⟨m, by omega, b, c⟩
  ·exact ⟨n, Nat.le_refl _, h, fun i hi hp => q ⟨i, hi, hp⟩⟩
theorem way {t : SetTable} (T : Tb t) {k : Nat} (hk : t.mask + 1 = 2 ^ k) (hf : t.place.size ≤ t.mask) (h : Int) (hit : Nat → Prop) :
  ∃ n, n ≤ 10 * (t.mask + 14) ∧ (t.slot (bY t n (t.probeStart h)).j = .empty ∨ ∃ i, i < t.place.size ∧ t.slot (bY t n (t.probeStart h)).j = .live i ∧ hit i) ∧
   ∀ m, m < n → ∃ i, i < t.place.size ∧ t.slot (bY t m (t.probeStart h)).j = .live i ∧ ¬ hit i := by
 obtain ⟨j, hj, he⟩ := yS T hf
 obtain ⟨n, hn, e⟩ := Jd t hk h hj
 obtain ⟨m, hm, hp, hb⟩ := first (fun n => t.slot (bY t n (t.probeStart h)).j = .empty ∨ ∃ i, i < t.place.size ∧ t.slot (bY t n (t.probeStart h)).j = .live i ∧ hit i) n (.inl (by rw [e]; exact he))
 refine ⟨m, by omega, hp, fun i hi => ?_⟩
 have ji := hb i hi
 rcases lC T (bY t i (t.probeStart h)).j with ⟨a, h1, h2, h3⟩ | ⟨_, h2⟩
 ·exact ⟨a, h1, h3, fun z => ji (.inr ⟨a, h1, h3, z⟩)⟩
 ·exact absurd (.inl h2) ji
theorem Df (t : SetTable) (hashAt : Nat → Int) (h : Int) : ∀ (n fuel : Nat) (p : SetTable.Probe), (∀ m, m < n → ∃ i, t.slot (bY t m p).j = .live i ∧ (hashAt i == h) = false) → n ≤ fuel →
  SetTable.probe.go t hashAt h fuel p = SetTable.probe.go t hashAt h (fuel - n) (bY t n p)
 | 0, fuel, p, _, _ => rfl
 | n + 1, 0, p, _, hf => absurd hf (by omega)
 | n + 1, fuel + 1, p, hm, hf => by
  obtain ⟨i, h1, h2⟩ := hm 0 (by omega)
  have h1 : t.slot p.j = .live i := h1
  rw [SetTable.probe.go, h1]
  simp only [h2, Bool.false_eq_true, if_false]
  rw [Df t hashAt h n fuel (t.advance p) (fun m q => hm (m + 1) (by omega)) (by omega)]
  rw [show fuel + 1 - (n + 1) = fuel - n by omega]
  rfl
end dS
namespace dS
open PySem
def Je (t : SetTable) (h : Int) (j : Nat) : Prop := ∃ n, n < 10 * (t.mask + 15) ∧ (bY t n (t.probeStart h)).j = j ∧ ∀ m, m < n → t.slot (bY t m (t.probeStart h)).j ≠ .empty
structure wt (t : SetTable) (hs : Array Int) : Prop where
 tb : Tb t
 sz : t.place.size = hs.size
 le : ∀ i, i < t.place.size → t.place.getD i 0 ≤ t.mask
 fill : hs.size ≤ t.mask
 pw : ∃ k, t.mask + 1 = 2 ^ k
 yT : ∀ i, i < hs.size → Je t (hs.getD i 0) (t.place.getD i 0)
theorem gy {t t' : SetTable} (h : t'.mask = t.mask) : ∀ n p, bY t' n p = bY t n p
 | 0, p => rfl
 | n + 1, p => by
  have e : t'.advance p = t.advance p := by simp only [SetTable.advance, h]
  rw [bY, bY, e, gy h n]
theorem hW {t t' : SetTable} (hm : t'.mask = t.mask) (h : Int) : t'.probeStart h = t.probeStart h := by simp only [SetTable.probeStart, hm]
theorem cR {α : Type} (xs : Array α) {p : Nat} (hp : p ≤ xs.size) (x : α) : (SetTable.insertAt xs p x).size = xs.size + 1 := by
 unfold SetTable.insertAt
 simp
 omega
theorem ie {α : Type} (xs : Array α) {p : Nat} (hp : p ≤ xs.size) (x : α) (i : Nat) : (SetTable.insertAt xs p x)[i]? = if i < p then xs[i]? else if i = p then some x else xs[i - 1]? := by
 unfold SetTable.insertAt
 rw [Array.getElem?_append]
 have e : ((xs.extract 0 p).push x).size = p + 1 := by simp; omega
 rw [e]
 by_cases h1 : i < p
 ·rw [if_pos (by omega), if_pos h1, Array.getElem?_push]
  rw [if_neg (by simp; omega), Array.getElem?_extract]
  simp
  omega
 ·rw [if_neg h1]
  by_cases h2 : i = p
  ·rw [if_pos (by omega), if_pos h2, Array.getElem?_push]
   rw [if_pos (by simp; omega)]
  ·rw [if_neg (by omega), if_neg h2, Array.getElem?_extract]
   have e2 : p + (i - (p + 1)) = i - 1 := by omega
   rw [e2]
   by_cases h3 : i - 1 < xs.size
   ·rw [if_pos (by omega)]
   ·rw [if_neg (by omega)]
    simp
    omega
theorem kL {α : Type} (xs : Array α) {p : Nat} (hp : p ≤ xs.size) (x d : α) (i : Nat) : (SetTable.insertAt xs p x).getD i d = if i < p then xs.getD i d else if i = p then x else xs.getD (i - 1) d := by
 rw [Array.getD_eq_getD_getElem?, ie xs hp x i, Array.getD_eq_getD_getElem?, Array.getD_eq_getD_getElem?]
 split
 ·rfl
 ·split <;> rfl
theorem Jf {t : SetTable} {hs : Array Int} (I : wt t hs) {h : Int} {n : Nat} (hn : n < 10 * (t.mask + 15)) (he : t.slot (bY t n (t.probeStart h)).j = .empty) (hj : (bY t n (t.probeStart h)).j ≤ t.mask)
  (hw : ∀ m, m < n → t.slot (bY t m (t.probeStart h)).j ≠ .empty) (GV : hs.size + 1 ≤ t.mask) :
  wt (t.put (bY t n (t.probeStart h)).j).1 (SetTable.insertAt hs (t.put (bY t n (t.probeStart h)).j).2 h) ∧ (t.put (bY t n (t.probeStart h)).j).2 ≤ hs.size := by
 generalize WN : (bY t n (t.probeStart h)).j = j at *
 have MF : ∀ i, i < t.place.size → t.place.getD i 0 ≠ j := fun i hi e => by
  have z := gw I.tb hi
  rw [e, he] at z
  cases z
 have hb := g9 t.place I.tb.ri j
 have mI : (t.put j).2 = SetTable.below t.place j := rfl
 have hm : (t.put j).1.mask = t.mask := rfl
 have hpl : (t.put j).1.place = SetTable.insertAt t.place (SetTable.below t.place j) j := rfl
 have hd : (t.put j).1.dummies = #[] := by
  show (if SetTable.has t.dummies j then _ else t.dummies) = #[]
  rw [I.tb.nd]
  simp [SetTable.has]
 have gp := kL t.place hb.1 j 0
 have sp := cR t.place hb.1 j
 have ri : Ri (t.put j).1.place := fun a b hab WQ => by
  rw [hpl, sp] at WQ
  rw [hpl, gp, gp]
  have h1 := hb.2.1
  have h2 := hb.2.2
  by_cases b1 : b < SetTable.below t.place j
  ·rw [if_pos (by omega), if_pos b1]; exact I.tb.ri a b hab (by omega)
  ·rw [if_neg b1]
   by_cases b2 : b = SetTable.below t.place j
   ·rw [if_pos b2, if_pos (by omega)]; exact h1 a (by omega)
   ·rw [if_neg b2]
    by_cases a1 : a < SetTable.below t.place j
    ·rw [if_pos a1]; exact I.tb.ri a (b - 1) (by omega) (by omega)
    ·rw [if_neg a1]
     by_cases a2 : a = SetTable.below t.place j
     ·rw [if_pos a2]
      have z := h2 (b - 1) (by omega) (by omega)
      have y := MF (b - 1) (by omega)
      omega
     ·rw [if_neg a2]; exact I.tb.ri (a - 1) (b - 1) (by omega) (by omega)
 have tb : Tb (t.put j).1 := ⟨ri, hd⟩
 have mono : ∀ c, t.slot c ≠ .empty → (t.put j).1.slot c ≠ .empty := fun c hc z => by
  rcases lC I.tb c with ⟨i, h1, h2, _⟩ | ⟨_, h2⟩
  ·have key : ∃ i', i' < (t.put j).1.place.size ∧ (t.put j).1.place.getD i' 0 = c := by
    rw [hpl, sp]
    by_cases q : i < SetTable.below t.place j
    ·exact ⟨i, by omega, by rw [gp, if_pos q]; exact h2⟩
    ·exact ⟨i + 1, by omega, by rw [gp, if_neg (by omega), if_neg (by omega)]; exact h2⟩
   obtain ⟨i', k1, k2⟩ := key
   have y := gw tb k1
   rw [k2, z] at y
   cases y
  ·exact hc h2
 have hsz := I.sz
 refine ⟨⟨tb, ?_, ?_, ?_, ?_, ?_⟩, ?_⟩
 ·rw [mI, hpl, sp, cR hs (by omega), hsz]
 ·intro i hi
  rw [hpl, sp] at hi
  rw [hpl, gp, hm]
  split
  ·exact I.le i (by omega)
  ·split
   ·exact hj
   ·exact I.le (i - 1) (by omega)
 ·rw [mI, cR hs (by omega), hm]; exact GV
 ·rw [hm]; exact I.pw
 ·intro i hi
  rw [mI, cR hs (by omega)] at hi
  rw [mI, hpl, gp, kL hs (by omega)]
  have lift : ∀ h' c, Je t h' c → Je (t.put j).1 h' c := fun h' c ⟨n', k1, k2, k3⟩ =>
   ⟨n', by rw [hm]; exact k1, by rw [hW hm, gy hm]; exact k2, fun m q => by rw [hW hm, gy hm]; exact mono _ (k3 m q)⟩
  split
  ·exact lift _ _ (I.yT i (by omega))
  ·split
   ·exact lift _ _ ⟨n, hn, WN, hw⟩
   ·exact lift _ _ (I.yT (i - 1) (by omega))
 ·rw [mI]; omega
end dS
namespace dS
open PySem
theorem MG {mask k : Nat} (hk : mask + 1 = 2 ^ k) (h : Int) {j : Nat} (hj : j ≤ mask) : ∃ q, q ≤ 13 + mask ∧ (lp mask q (SetTable.bits h % (mask + 1), SetTable.bits h)).1 = j := by
 have hb : SetTable.bits h < 2 ^ 64 := by
  unfold SetTable.bits
  have h1 := Int.emod_lt_of_pos h (show (0 : Int) < 2 ^ 64 by decide)
  have h2 := Int.emod_nonneg h (show (2 ^ 64 : Int) ≠ 0 by decide)
  omega
 let x : Nat × Nat := (SetTable.bits h % (mask + 1), SetTable.bits h)
 obtain ⟨r, hr, hx⟩ := cover k (lp mask 13 x).1 j (by omega)
 rw [← hk] at hx hr
 have h1 := yR (mask := mask) (x := x) hb r
 have h2 : (lp mask (13 + r) x).1 < mask + 1 := by
  rw [show 13 + r = (12 + r) + 1 by omega, lp, SetTable.leap]
  exact Nat.mod_lt _ (Nat.succ_pos _)
 rw [Nat.mod_eq_of_lt h2, hx] at h1
 exact ⟨13 + r, by omega, h1⟩
theorem pq (t : SetTable) : ∀ (n more j i pb : Nat) (d : Option Nat), n ≤ more → bY t n { j := j, more := more, i := i, perturb := pb, dummy := d } = { j := j + n, more := more - n, i := i, perturb := pb, dummy := d }
 | 0, more, j, i, pb, d, _ => rfl
 | n + 1, 0, j, i, pb, d, h => absurd h (by omega)
 | n + 1, more + 1, j, i, pb, d, h => by
  rw [bY]
  have e : t.advance { j := j, more := more + 1, i := i, perturb := pb, dummy := d } = { j := j + 1, more := more, i := i, perturb := pb, dummy := d } := by simp [SetTable.advance]
  rw [e, pq t n more (j + 1) i pb d (by omega)]
  simp only [SetTable.Probe.mk.injEq, and_true]
  omega
def Fr (owner : Array (Option Nat)) (c : Nat) : Prop := (owner.getD c (some 0)).isNone = true
theorem wZ (mask : Nat) (x : Nat × Nat) : ∀ q, lp mask (q + 1) x = lp mask q (SetTable.leap mask x.1 x.2)
 | 0 => rfl
 | q + 1 => by rw [lp, wZ mask x q, lp]
theorem tD (t : SetTable) (owner : Array (Option Nat)) : ∀ (fuel i pb : Nat), (∃ q, q < fuel ∧ Fr owner (lp t.mask q (i, pb)).1) →
  ∃ j n, SetTable.layClean.free t.mask owner fuel i pb = some j ∧ n + 1 ≤ 10 * fuel ∧ (bY t n (start t.mask i pb none)).j = j ∧ Fr owner j ∧ ∀ m, m < n → ¬ Fr owner (bY t m (start t.mask i pb none)).j
 | 0, i, pb, ⟨q, hq, _⟩ => absurd hq (by omega)
 | fuel + 1, i, pb, ⟨q, hq, hf⟩ => by
  have hr : SetTable.runEnd t.mask i - i ≤ 9 ∧ i ≤ SetTable.runEnd t.mask i := by
   unfold SetTable.runEnd
   split <;> omega
  unfold SetTable.layClean.free
  cases e : (List.range (SetTable.runEnd t.mask i + 1 - i)).find? fun k => (owner.getD (i + k) (some 0)).isNone with
  | some k =>
   obtain ⟨h1, as, bs, h2, h3⟩ := List.find?_eq_some_iff_append.mp e
   have hk : k < SetTable.runEnd t.mask i + 1 - i := List.mem_range.mp (by rw [h2]; simp)
   have WR : ∀ m, m < k → (owner.getD (i + m) (some 0)).isNone = false := fun m hm => by
    have hmem : m ∈ as := by
     have GW : m ∈ List.range (SetTable.runEnd t.mask i + 1 - i) := List.mem_range.mpr (by omega)
     rw [h2] at GW
     rcases List.mem_append.mp GW with z | z
     ·exact z
     ·exfalso
      have hs : (List.range (SetTable.runEnd t.mask i + 1 - i)).Pairwise (· < ·) := List.pairwise_lt_range
      rw [h2] at hs
      have La := (List.pairwise_append.mp hs).2.1
      rcases List.mem_cons.mp z with rfl | z
      ·omega
      ·have := (List.pairwise_cons.mp La).1 m z
       omega
    simpa using h3 m hmem
   refine ⟨i + k, k, rfl, by omega, ?_, h1, fun m hm => ?_⟩
   ·rw [start, pq t k _ _ _ _ _ (by omega)]
   ·rw [start, pq t m _ _ _ _ _ (by omega)]
    show ¬ (owner.getD (i + m) (some 0)).isNone = true
    rw [WR m hm]
    simp
  | none =>
   have ji : ∀ k, k < SetTable.runEnd t.mask i + 1 - i → (owner.getD (i + k) (some 0)).isNone = false := fun k hk => by
    have := List.find?_eq_none.mp e k (List.mem_range.mpr hk)
    exact Bool.eq_false_iff.mpr this
   obtain ⟨q, rfl⟩ : ∃ q', q = q' + 1 := by
    cases q with
    | zero =>
     have z := ji 0 (by omega)
     have hf : (owner.getD i (some 0)).isNone = true := hf
     rw [Nat.add_zero, hf] at z
     cases z
    | succ q => exact ⟨q, rfl⟩
   rw [wZ] at hf
   obtain ⟨j, n, g1, g2, g3, g4, g5⟩ := tD t owner fuel (SetTable.leap t.mask i pb).1 (SetTable.leap t.mask i pb).2 ⟨q, by omega, hf⟩
   refine ⟨j, (SetTable.runEnd t.mask i - i + 1) + n, g1, by omega, ?_, g4, fun m hm => ?_⟩
   ·rw [hV, start, mV]; exact g3
   ·by_cases GW : m ≤ SetTable.runEnd t.mask i - i
    ·rw [start, pq t m _ _ _ _ _ GW]
     show ¬ (owner.getD (i + m) (some 0)).isNone = true
     rw [ji m (by omega)]
     simp
    ·have em : m = (SetTable.runEnd t.mask i - i + 1) + (m - (SetTable.runEnd t.mask i - i + 1)) := by omega
     rw [em, hV, start, mV]
     exact g5 _ (by omega)
end dS
namespace dS
open PySem
theorem tE : ∀ (n : Nat) (l : List Nat), l.Nodup → (∀ x ∈ l, x < n) → l.length ≤ n
 | 0, l, _, h => by
  cases l with
  | nil => simp
  | cons a r => exact absurd (h a (by simp)) (by omega)
 | n + 1, l, hn, h => by
  have h1 := tE n (l.erase n) (hn.erase n) fun x hx => by
   have a := h x (List.mem_of_mem_erase hx)
   have b : x ≠ n := fun e => by
    subst e
    exact (hn.not_mem_erase) hx
   omega
  have h2 : l.length ≤ (l.erase n).length + 1 := by
   by_cases hm : n ∈ l
   ·rw [List.length_erase_of_mem hm]; omega
   ·rw [List.erase_of_not_mem hm]; omega
  omega
structure Own (t : SetTable) (owner : Array (Option Nat)) (hs : List Int) (pos : Nat → Nat) : Prop where
 sz : owner.size = t.mask + 1
 at_ : ∀ c, c ≤ t.mask → ∀ i, owner.getD c none = some i ↔ (i < hs.length ∧ pos i = c)
 le : ∀ i, i < hs.length → pos i ≤ t.mask
 yT : ∀ i (hi : i < hs.length), ∃ n, n < 10 * (t.mask + 15) ∧ (bY t n (t.probeStart hs[i])).j = pos i ∧ ∀ m, m < n → ¬ Fr owner (bY t m (t.probeStart hs[i])).j
theorem Own.qk {t : SetTable} {owner : Array (Option Nat)} {hs : List Int} {pos : Nat → Nat} (O : Own t owner hs pos) (c : Nat) : Fr owner c ↔ (c ≤ t.mask ∧ ∀ i, i < hs.length → pos i ≠ c) := by
 unfold Fr
 constructor
 ·intro h
  have hc : c ≤ t.mask := by
   refine Classical.byContradiction fun hc => ?_
   have hs' := O.sz
   have : owner.getD c (some 0) = some 0 := by simp [Array.getD, show ¬ c < owner.size by omega]
   rw [this] at h
   cases h
  refine ⟨hc, fun i hi e => ?_⟩
  have z := (O.at_ c hc i).mpr ⟨hi, e⟩
  have gQ : c < owner.size := by rw [O.sz]; omega
  have e2 : owner.getD c (some 0) = owner.getD c none := by simp [Array.getD, gQ]
  rw [e2, z] at h
  cases h
 ·rintro ⟨hc, h⟩
  have gQ : c < owner.size := by rw [O.sz]; omega
  have e2 : owner.getD c (some 0) = owner.getD c none := by simp [Array.getD, gQ]
  rw [e2]
  cases e : owner.getD c none with
  | none => rfl
  | some i =>
   obtain ⟨h1, h2⟩ := (O.at_ c hc i).mp e
   exact absurd h2 (h i h1)
theorem Own.Bw {t : SetTable} {owner : Array (Option Nat)} {hs : List Int} {pos : Nat → Nat} (O : Own t owner hs pos) (hf : hs.length ≤ t.mask) : ∃ c, c ≤ t.mask ∧ Fr owner c := by
 refine Classical.byContradiction fun ji => ?_
 have all : ∀ c, c ≤ t.mask → ∃ i, i < hs.length ∧ pos i = c := fun c hc => Classical.byContradiction fun hn => ji ⟨c, hc, (O.qk c).mpr ⟨hc, fun i hi e => hn ⟨i, hi, e⟩⟩⟩
 have Rr : ∀ c, ∃ i, c ≤ t.mask → i < hs.length ∧ pos i = c := fun c => by
  by_cases hc : c ≤ t.mask
  ·obtain ⟨i, h⟩ := all c hc; exact ⟨i, fun _ => h⟩
  ·exact ⟨0, fun z => absurd z hc⟩
 obtain ⟨g, hg⟩ := Classical.skolem.mp Rr
 have h1 := tE hs.length ((List.range (t.mask + 1)).map g) (by
  unfold List.Nodup
  rw [List.pairwise_map]
  refine List.Pairwise.imp_of_mem (R := fun a b => a < b) (fun {a b} ha hb gQ e => ?_) List.pairwise_lt_range
  have ha' := (hg a (by have := List.mem_range.mp ha; omega)).2
  have hb' := (hg b (by have := List.mem_range.mp hb; omega)).2
  rw [e] at ha'
  omega) fun x hx => by
   obtain ⟨c, hc, rfl⟩ := List.mem_map.mp hx
   exact (hg c (by have := List.mem_range.mp hc; omega)).1
 simp at h1
 omega
def PD (mask : Nat) (acc : Option (Array (Option Nat) × Nat)) (h : Int) : Option (Array (Option Nat) × Nat) := do
 let (owner, k) ← acc
 let j ← SetTable.layClean.free mask owner (SetTable.turns mask) (SetTable.bits h % (mask + 1)) (SetTable.bits h)
 pure (owner.setIfInBounds j (some k), k + 1)
theorem w4 (mask : Nat) (hashes : Array Int) : SetTable.layClean mask hashes = (hashes.toList.foldl (PD mask) (some (Array.replicate (mask + 1) none, 0))).map (·.1) := by
 unfold SetTable.layClean
 rw [← Array.foldl_toList]
 rfl
theorem Own.step {t : SetTable} {k : Nat} (hk : t.mask + 1 = 2 ^ k) {owner : Array (Option Nat)} {hs : List Int} {pos : Nat → Nat} (O : Own t owner hs pos) (hf : hs.length ≤ t.mask) (h : Int) :
  ∃ qm pos', PD t.mask (some (owner, hs.length)) h = some (qm, hs.length + 1) ∧ Own t qm (hs ++ [h]) pos' := by
 obtain ⟨c, hc, xX⟩ := O.Bw hf
 obtain ⟨q, hq, e⟩ := MG hk h hc
 obtain ⟨j, n, g1, g2, g3, g4, g5⟩ := tD t owner (SetTable.turns t.mask) (SetTable.bits h % (t.mask + 1)) (SetTable.bits h) ⟨q, by unfold SetTable.turns; omega, by rw [e]; exact xX⟩
 have hj := (O.qk j).mp g4
 have gQ : j < owner.size := by rw [O.sz]; omega
 have gs : ∀ c d, (owner.setIfInBounds j (some hs.length)).getD c d = if c = j then some hs.length else owner.getD c d := fun c d => by
  rw [Array.getD_eq_getD_getElem?, Array.getD_eq_getD_getElem?, Array.getElem?_setIfInBounds]
  by_cases ec : j = c
  ·subst ec; simp [gQ]
  ·rw [if_neg ec, if_neg (Ne.symm ec)]
 refine ⟨owner.setIfInBounds j (some hs.length), fun i => if i = hs.length then j else pos i, ?_, ?_⟩
 ·unfold PD
  simp only [Option.bind_eq_bind, Option.bind_some, g1]
  rfl
 ·have eY : ∀ c, Fr (owner.setIfInBounds j (some hs.length)) c → Fr owner c := fun c hc => by
   unfold Fr at hc ⊢
   rw [gs] at hc
   by_cases ec : c = j
   ·rw [if_pos ec] at hc; cases hc
   ·rw [if_neg ec] at hc; exact hc
  refine ⟨by rw [Array.size_setIfInBounds]; exact O.sz, fun c hc i => ?_, fun i hi => ?_, fun i hi => ?_⟩
  ·rw [gs, List.length_append, List.length_singleton]
   by_cases ec : c = j
   ·subst ec
    rw [if_pos rfl]
    constructor
    ·intro e; cases e; exact ⟨by omega, by rw [if_pos rfl]⟩
    ·rintro ⟨h1, h2⟩
     by_cases ei : i = hs.length
     ·rw [ei]
     ·rw [if_neg ei] at h2
      exact absurd h2 (hj.2 i (by omega))
   ·rw [if_neg ec, O.at_ c hc i]
    constructor
    ·rintro ⟨h1, h2⟩; exact ⟨by omega, by rw [if_neg (by omega)]; exact h2⟩
    ·rintro ⟨h1, h2⟩
     by_cases ei : i = hs.length
     ·rw [if_pos ei] at h2; exact absurd h2.symm ec
     ·rw [if_neg ei] at h2; exact ⟨by omega, h2⟩
  ·rw [List.length_append, List.length_singleton] at hi
   by_cases ei : i = hs.length
   ·show (if i = hs.length then j else pos i) ≤ t.mask
    rw [if_pos ei]; exact hj.1
   ·show (if i = hs.length then j else pos i) ≤ t.mask
    rw [if_neg ei]; exact O.le i (by omega)
  ·rw [List.length_append, List.length_singleton] at hi
   by_cases ei : i = hs.length
   ·subst ei
    have e2 : (hs ++ [h])[hs.length] = h := by simp
    rw [e2]
    refine ⟨n, by unfold SetTable.turns at g2; omega, by rw [if_pos rfl]; exact g3, fun m hm z => g5 m hm (eY _ z)⟩
   ·obtain ⟨n', k1, k2, k3⟩ := O.yT i (by omega)
    have e2 : (hs ++ [h])[i] = hs[i]'(by omega) := List.getElem_append_left (by omega)
    rw [e2]
    exact ⟨n', k1, by rw [if_neg ei]; exact k2, fun m hm z => k3 m hm (eY _ z)⟩
theorem w5 {t : SetTable} {k : Nat} (hk : t.mask + 1 = 2 ^ k) : ∀ (l : List Int) (owner : Array (Option Nat)) (pre : List Int) (pos : Nat → Nat), Own t owner pre pos → pre.length + l.length ≤ t.mask + 1 →
  ∃ qm pos', l.foldl (PD t.mask) (some (owner, pre.length)) = some (qm, pre.length + l.length) ∧ Own t qm (pre ++ l) pos'
 | [], owner, pre, pos, O, _ => ⟨owner, pos, by simp, by simpa using O⟩
 | h :: l, owner, pre, pos, O, hf => by
  simp only [List.length_cons] at hf
  obtain ⟨o1, p1, e1, O1⟩ := O.step hk (by omega) h
  obtain ⟨o2, p2, e2, O2⟩ := w5 hk l o1 (pre ++ [h]) p1 O1 (by rw [List.length_append, List.length_singleton]; omega)
  refine ⟨o2, p2, ?_, by simpa using O2⟩
  rw [List.foldl_cons, e1]
  rw [List.length_append, List.length_singleton] at e2
  rw [e2]
  simp only [List.length_cons]
  congr 2
  omega
theorem Jg {t : SetTable} {k : Nat} (hk : t.mask + 1 = 2 ^ k) (hs : Array Int) (hf : hs.size ≤ t.mask) : ∃ owner pos, SetTable.layClean t.mask hs = some owner ∧ Own t owner hs.toList pos := by
 have O0 : Own t (Array.replicate (t.mask + 1) none) [] (fun _ => 0) := ⟨by simp, fun c hc i => by simp [Array.getD, hc], fun i hi => by simp at hi, fun i hi => by simp at hi⟩
 obtain ⟨o, p, e, O⟩ := w5 hk hs.toList _ [] _ O0 (by simp; omega)
 refine ⟨o, p, ?_, by simpa using O⟩
 rw [w4, show (0 : Nat) = ([] : List Int).length from rfl, e]
 rfl
end dS
namespace dS
open PySem
theorem tF {mask i : Nat} (h : i ≤ mask) : i ≤ SetTable.runEnd mask i ∧ SetTable.runEnd mask i ≤ mask := by
 unfold SetTable.runEnd
 split <;> omega
theorem yU (t : SetTable) (p : SetTable.Probe) (h : p.j + p.more ≤ t.mask) : (t.advance p).j + (t.advance p).more ≤ t.mask := by
 unfold SetTable.advance
 split
 ·show p.j + 1 + (p.more - 1) ≤ t.mask
  omega
 ·have hl : (SetTable.leap t.mask p.i p.perturb).1 ≤ t.mask := by
   unfold SetTable.leap
   exact Nat.le_of_lt_succ (Nat.mod_lt _ (Nat.succ_pos _))
  have hr := tF hl
  show (SetTable.leap t.mask p.i p.perturb).1 + (SetTable.runEnd t.mask (SetTable.leap t.mask p.i p.perturb).1 - (SetTable.leap t.mask p.i p.perturb).1) ≤ t.mask
  omega
theorem yV (t : SetTable) : ∀ (n : Nat) (p : SetTable.Probe), p.j + p.more ≤ t.mask → (bY t n p).j ≤ t.mask
 | 0, p, h => by show p.j ≤ t.mask; omega
 | n + 1, p, h => yV t n _ (yU t p h)
theorem w6 (t : SetTable) (h : Int) : (t.probeStart h).j + (t.probeStart h).more ≤ t.mask := by
 have hl : SetTable.bits h % (t.mask + 1) ≤ t.mask := Nat.le_of_lt_succ (Nat.mod_lt _ (Nat.succ_pos _))
 have hr := tF hl
 show SetTable.bits h % (t.mask + 1) + (SetTable.runEnd t.mask (SetTable.bits h % (t.mask + 1)) - SetTable.bits h % (t.mask + 1)) ≤ t.mask
 omega
theorem Fv {mask k : Nat} (hk : mask + 1 = 2 ^ k) (finger moves : Nat) (led plain : Bool) (hs : Array Int) (hf : hs.size ≤ mask) :
  ∃ t order, SetTable.laid mask finger moves led plain hs = some (t, order) ∧ t.mask = mask ∧ t.led = led ∧ t.plain = plain ∧ order.toList.Perm (List.range hs.size) ∧ wt t (order.map fun i => hs.getD i 0) := by
 let t0 : SetTable := { mask := mask, place := #[], dummies := #[], finger := finger, led := led, moves := moves, plain := plain }
 obtain ⟨owner, pos, e, O⟩ := Jg (t := t0) hk hs hf
 have e : SetTable.layClean mask hs = some owner := e
 let live : List (Nat × Nat) := (List.range (mask + 1)).filterMap fun j => (owner.getD j none).map (j, ·)
 let t : SetTable := { mask := mask, place := (live.map (·.1)).toArray, dummies := #[], finger := finger, led := led, moves := moves, plain := plain }
 have hlen : hs.toList.length = hs.size := by simp
 have mem : ∀ j i, (j, i) ∈ live ↔ (j ≤ mask ∧ i < hs.size ∧ pos i = j) := fun j i => by
  have z : (j, i) ∈ live ↔ ∃ a, a ∈ List.range (mask + 1) ∧ (owner.getD a none).map (a, ·) = some (j, i) := List.mem_filterMap
  rw [z]
  constructor
  ·rintro ⟨a, h1, h2⟩
   obtain ⟨b, h3, h4⟩ := Option.map_eq_some_iff.mp h2
   cases h4
   have ha : j ≤ mask := by have := List.mem_range.mp h1; omega
   have := (O.at_ j ha i).mp h3
   exact ⟨ha, by rw [← hlen]; exact this.1, this.2⟩
  ·rintro ⟨h1, h2, h3⟩
   exact ⟨j, List.mem_range.mpr (by omega), by rw [(O.at_ j h1 i).mpr ⟨by rw [hlen]; exact h2, h3⟩]; rfl⟩
 have rise : live.Pairwise fun a b => a.1 < b.1 := by
  refine List.Pairwise.filterMap (R := fun a b => a < b) _ (fun a a' WS b hb b' hb' => ?_) List.pairwise_lt_range
  obtain ⟨_, _, rfl⟩ := Option.map_eq_some_iff.mp hb
  obtain ⟨_, _, rfl⟩ := Option.map_eq_some_iff.mp hb'
  exact WS
 have WT : (live.map (·.2)).Nodup := by
  unfold List.Nodup
  rw [List.pairwise_map]
  refine List.Pairwise.imp_of_mem (fun {a b} ha hb gQ e2 => ?_) rise
  have h1 := ((mem a.1 a.2).mp ha).2.2
  have h2 := ((mem b.1 b.2).mp hb).2.2
  rw [e2] at h1
  omega
 have perm : (live.map (·.2)).Perm (List.range hs.size) := by
  refine (List.perm_ext_iff_of_nodup WT List.nodup_range).mpr fun i => ?_
  rw [List.mem_range]
  constructor
  ·intro hi
   obtain ⟨⟨j, i'⟩, h1, rfl⟩ := List.mem_map.mp hi
   exact ((mem j i').mp h1).2.1
  ·intro hi
   exact List.mem_map.mpr ⟨(pos i, i), (mem _ _).mpr ⟨O.le i (by rw [hlen]; exact hi), hi, rfl⟩, rfl⟩
 have ri : Ri t.place := fun a b hab hb => by
  show (live.map (·.1)).toArray.getD a 0 < (live.map (·.1)).toArray.getD b 0
  have hb' : b < live.length := by
   have : (live.map (·.1)).toArray.size = live.length := by simp
   show b < live.length
   rw [← this]; exact hb
  have z := List.pairwise_iff_getElem.mp rise a b (by omega) hb' hab
  simpa [Array.getD, show a < live.length by omega, hb'] using z
 have tb : Tb t := ⟨ri, rfl⟩
 have Rt : t.place.size = live.length := by show (live.map (·.1)).toArray.size = _; simp
 have Jh : ∀ i (hi : i < live.length), t.place.getD i 0 = (live[i]).1 := fun i hi => by
  show (live.map (·.1)).toArray.getD i 0 = _
  simp [Array.getD, hi]
 have full : ∀ c, ¬ Fr owner c → c ≤ mask → t.slot c ≠ .empty := fun c hc hle z => by
  have hex : ∃ i, i < hs.size ∧ pos i = c := Classical.byContradiction fun ji => hc ((O.qk c).mpr ⟨hle, fun i hi e2 => ji ⟨i, by rw [← hlen]; exact hi, e2⟩⟩)
  obtain ⟨i, h1, h2⟩ := hex
  obtain ⟨a, ha, ea⟩ := List.mem_iff_getElem.mp ((mem c i).mpr ⟨hle, h1, h2⟩)
  have y := gw tb (i := a) (by rw [Rt]; exact ha)
  rw [Jh a ha, ea, z] at y
  cases y
 have Ru : live.length = hs.size := by
  have := perm.length_eq
  simpa using this
 have MH : ∀ h m, (bY t m (t.probeStart h)).j ≤ mask := fun h m => yV t m _ (w6 t h)
 refine ⟨t, (live.map (·.2)).toArray, ?_, rfl, rfl, rfl, by simpa using perm, tb, ?_, ?_, ?_, ⟨k, hk⟩, ?_⟩
 ·unfold SetTable.laid
  rw [e]
  rfl
 ·rw [Rt]; simp
 ·intro i hi
  rw [Rt] at hi
  rw [Jh i hi]
  exact ((mem _ _).mp (List.getElem_mem hi)).1
 ·rw [Array.size_map, List.size_toArray, Lm9, Ru]; exact hf
 ·intro i hi
  have hi' : i < live.length := by simpa using hi
  have e1 : ((live.map (·.2)).toArray.map fun i => hs.getD i 0).getD i 0 = hs.getD (live[i]).2 0 := by simp [Array.getD, hi']
  rw [e1, Jh i hi']
  have mm : (live[i]).1 ≤ mask ∧ (live[i]).2 < hs.size ∧ pos (live[i]).2 = (live[i]).1 := (mem _ _).mp (List.getElem_mem hi')
  obtain ⟨m1, m2, m3⟩ := mm
  obtain ⟨n, k1, k2, k3⟩ := O.yT (live[i]).2 (by rw [hlen]; exact m2)
  have e2 : hs.toList[(live[i]).2]'(by rw [hlen]; exact m2) = hs.getD (live[i]).2 0 := by simp [Array.getD, m2]
  rw [e2] at k2 k3
  refine ⟨n, k1, ?_, fun m hm => ?_⟩
  ·rw [gy (t := t0) (t' := t) rfl, hW (t := t0) (t' := t) rfl, k2, m3]
  ·refine full _ ?_ (MH _ _)
   rw [gy (t := t0) (t' := t) rfl, hW (t := t0) (t' := t) rfl]
   exact k3 m hm
end dS
namespace dS
open PySem
theorem tG (t : SetTable) : ∀ (n : Nat) (p : SetTable.Probe), (bY t n p).dummy = p.dummy
 | 0, p => rfl
 | n + 1, p => by
  rw [bY, tG t n]
  unfold SetTable.advance
  split <;> rfl
theorem Dg (t : SetTable) (n : Nat) (p : SetTable.Probe) : t.advance (bY t n p) = bY t (n + 1) p := by
 rw [hV t n 1 p]
 rfl
theorem GX {t : SetTable} {H : Nat → Int} {h : Int} {m0 c : Nat} (hb : ∀ c', c' < c → ∃ i, t.slot (bY t (m0 + c') (t.probeStart h)).j = .live i ∧ (H i == h) = false) (hc : c < 10 * SetTable.turns t.mask) :
  ∃ f, t.probe H h (bY t m0 (t.probeStart h)) = SetTable.probe.go t H h (f + 1) (bY t (m0 + c) (t.probeStart h)) := by
 refine ⟨10 * SetTable.turns t.mask - c - 1, ?_⟩
 unfold SetTable.probe
 rw [Df t H h c _ _ (fun m hm => by rw [← hV]; exact hb m hm) (by omega), ← hV]
 congr 1
 omega
theorem Dh {t : SetTable} {H : Nat → Int} {h : Int} {m0 c : Nat} (hs : t.slot (bY t (m0 + c) (t.probeStart h)).j = .empty) (hc : c < 10 * SetTable.turns t.mask)
  (hb : ∀ c', c' < c → ∃ i, t.slot (bY t (m0 + c') (t.probeStart h)).j = .live i ∧ (H i == h) = false) : t.probe H h (bY t m0 (t.probeStart h)) = some (.empty (bY t (m0 + c) (t.probeStart h)).j none) := by
 obtain ⟨f, e⟩ := GX hb hc
 rw [e, SetTable.probe.go, hs]
 simp only [tG]
 rfl
theorem Fw {t : SetTable} {H : Nat → Int} {h : Int} {m0 c i : Nat} (hs : t.slot (bY t (m0 + c) (t.probeStart h)).j = .live i) (hc : c < 10 * SetTable.turns t.mask)
  (hb : ∀ c', c' < c → ∃ i, t.slot (bY t (m0 + c') (t.probeStart h)).j = .live i ∧ (H i == h) = false) (hi : (H i == h) = true) :
  t.probe H h (bY t m0 (t.probeStart h)) = some (.candidate (bY t (m0 + c) (t.probeStart h)).j i (bY t (m0 + c + 1) (t.probeStart h))) := by
 obtain ⟨f, e⟩ := GX hb hc
 rw [e, SetTable.probe.go, hs]
 simp only [hi, if_true, Dg]
section
variable {prog : Program} {w : World} {A : Around} {E : Value → Shared → Prop} {s : Shared} {a : Addr} {o : Obj} {es : Array (Int × Value)} {ep : Nat} {t : SetTable} {x : Value} {h : Int} {eqv : Nat → Bool} {Q : SetFound → Shared → Prop}
theorem Bx (ho : s.heap.get? a = some o) (hd : o.data = .set es ep t) (I : wt t (es.map (·.1))) (Fx : (t.mask % 2 == 0) = false)
  (hq : ∀ i (hi : i < es.size), (es[i]).1 = h → SeqAt.EqAt A s (es[i]).2 x (eqv i)) (MI : ∀ i (hi : i < es.size), ∃ b, (es[i]).2 = .ref b)
  (Di : t.led = false → ∀ Q' : Bool → Shared → Prop, Q' false s → wpAny (model prog w) A (searchCouldBeSeen x ((es.filter (·.1 == h)).toList.map (·.2))) Q' E s)
  {n : Nat} (hn : n ≤ 10 * (t.mask + 14))
  (By : ∀ m, m < n → ∃ i, i < t.place.size ∧ t.slot (bY t m (t.probeStart h)).j = .live i ∧ ¬ (∃ hi : i < es.size, (es[i]).1 = h ∧ eqv i = true))
  (hend : (t.slot (bY t n (t.probeStart h)).j = .empty ∧ Q (.free (bY t n (t.probeStart h)).j false) s) ∨ ((∃ i, t.slot (bY t n (t.probeStart h)).j = .live i ∧ ∃ hi : i < es.size, (es[i]).1 = h ∧ eqv i = true) ∧ Q (.there none) s)) :
  ∀ (d m0 fuel : Nat) (Dj : Option SetTable.Probe), m0 + d = n → d < fuel → Dj.getD (t.probeStart h) = bY t m0 (t.probeStart h) → wpAny (model prog w) A (setSearchFrom a x h true fuel Dj) Q E s := by
 intro d
 induction d using Nat.strongRecOn with
 | ind d ih =>
  intro m0 fuel Dj hm Zg hst
  obtain ⟨fuel, rfl⟩ : ∃ g, fuel = g + 1 := ⟨fuel - 1, by omega⟩
  have hfit : t.fits es.size = true := by
   have z := I.sz
   have f := I.fill
   rw [Array.size_map] at z f
   simp only [SetTable.fits, SetTable.fill, I.tb.nd, Bool.and_eq_true, beq_iff_eq, decide_eq_true_eq]
   exact ⟨z, by simp; omega⟩
  unfold setSearchFrom
  refine wpAny_bind (wpAny_setState_of ho hd hfit ?_)
  dsimp only
  have hg : t.gaveWay = false := Fx
  rw [hg]
  simp only [Bool.false_eq_true, if_false]
  rw [hst]
  have hsz : t.place.size = es.size := by have z := I.sz; rw [Array.size_map] at z; exact z
  have gH : ∀ i (hi : i < es.size), ((es[i]?.map (·.1)).getD 0) = (es[i]).1 := fun i hi => by simp [hi]
  obtain ⟨c, hcd, hP, Rv⟩ := first (fun c => m0 + c = n ∨ ∃ i, t.slot (bY t (m0 + c) (t.probeStart h)).j = .live i ∧ ∃ hi : i < es.size, (es[i]).1 = h) d (.inl hm)
  have IF : c < 10 * SetTable.turns t.mask := by unfold SetTable.turns; omega
  have hb : ∀ c', c' < c → ∃ i, t.slot (bY t (m0 + c') (t.probeStart h)).j = .live i ∧ (((es[i]?.map (·.1)).getD 0) == h) = false := fun c' hc' => by
   have ji := Rv c' hc'
   obtain ⟨i, h1, h2, _⟩ := By (m0 + c') (by omega)
   refine ⟨i, h2, ?_⟩
   rw [gH i (by omega)]
   exact beq_eq_false_iff_ne.mpr fun e => ji (.inr ⟨i, h2, by omega, e⟩)
  have MJ : (m0 + c = n ∧ t.slot (bY t (m0 + c) (t.probeStart h)).j = .empty) ∨ ∃ i, ∃ hi : i < es.size, t.slot (bY t (m0 + c) (t.probeStart h)).j = .live i ∧ (es[i]).1 = h := by
   rcases hP with e | ⟨i, h1, hi, h2⟩
   ·rcases hend with ⟨z, _⟩ | ⟨⟨i, z, hi, h1, _⟩, _⟩
    ·exact .inl ⟨e, by rw [e]; exact z⟩
    ·exact .inr ⟨i, hi, by rw [e]; exact z, h1⟩
   ·exact .inr ⟨i, hi, h1, h2⟩
  rcases MJ with ⟨e, hs⟩ | ⟨i, hi, hs, hh⟩
  ·rw [Dh hs IF]
   rotate_left
   ·exact hb
   dsimp only
   rcases hend with ⟨_, q⟩ | ⟨⟨i, z, _⟩, _⟩
   ·refine wpAny_pure ?_
    rw [e]; exact q
   ·rw [← e, hs] at z; cases z
  ·rw [Fw (i := i) hs IF]
   case hb => exact hb
   case hi =>
    show (((es[i]?.map (·.1)).getD 0) == h) = true
    rw [gH i hi, hh]
    simp
   dsimp only
   obtain ⟨b, Fy⟩ := MI i hi
   have ge : es[i]? = some (es[i]) := by simp [hi]
   have tail : wpAny (model prog w) A (do
     let some (_, y) := es[i]? | unsupported "internal:set-entry"
     let equal ← holding [y] (eqBool y x)
     let (mh, _, t') ← setState a
     if true && equal then return .there none
     let some same := t'.sameMemory t.moves t.mask | unsupported "set.changed-during-lookup:is-the-new-block-at-the-old-address"
     let MK ← match (if same then t'.slot (bY t (m0 + c) (t.probeStart h)).j else .empty) with
      | .live i' => match mh[i']? with
       | some (_, y') => do pure (if ← isSame y' y then some i' else none)
       | none => pure none
      | _ => pure none
     match MK with
     | none => rule "set.search.anew"; setSearchFrom a x h true fuel none
     | some i' => if equal then return .there (some i') else setSearchFrom a x h true fuel (some (bY t (m0 + c + 1) (t.probeStart h)))) Q E s := by
    rw [ge]
    dsimp only
    refine wpAny_bind (wpAny_holding (hq i hi hh prog w _ _ ?_))
    refine wpAny_bind (wpAny_setState_of ho hd hfit ?_)
    dsimp only
    cases ev : eqv i with
    | true =>
     simp only [Bool.and_self, if_true]
     refine wpAny_pure ?_
     rcases hend with ⟨z, _⟩ | ⟨_, q⟩
     ·exfalso
      by_cases en : m0 + c = n
      ·rw [← en, hs] at z; cases z
      ·obtain ⟨i', _, h2, h3⟩ := By (m0 + c) (by omega)
       rw [hs] at h2
       cases h2
       exact h3 ⟨hi, hh, ev⟩
     ·exact q
    | false =>
     simp only [Bool.and_false, Bool.false_eq_true, if_false]
     have hmem : t.sameMemory t.moves t.mask = some true := by simp [SetTable.sameMemory]
     rw [hmem]
     simp only [if_true]
     rw [hs]
     simp only [ge, Fy]
     refine wpAny_bind (wpAny_isSame_ref_self (wpAny_bind (wpAny_pure ?_)))
     simp only [if_true, Bool.false_eq_true, if_false]
     have gQ : m0 + c < n := by
      refine Nat.lt_of_le_of_ne (by omega) fun en => ?_
      rcases hend with ⟨z, _⟩ | ⟨⟨i', z, hi', h1, h2⟩, _⟩
      ·rw [← en, hs] at z; cases z
      ·rw [← en, hs] at z
       cases z
       rw [ev] at h2
       cases h2
     exact ih (n - (m0 + c + 1)) (by omega) (m0 + c + 1) fuel _ (by omega) (by omega) rfl
   cases hl : t.led with
   | true =>
    simp only [Bool.not_true, Bool.false_eq_true, if_false]
    exact tail
   | false =>
    simp only [Bool.not_false, if_true]
    refine wpAny_bind (Di hl _ ?_)
    simp only [Bool.false_eq_true, if_false]
    exact tail
end
end dS
namespace dS
open PySem
theorem w9 (n : Nat) : ∀ (fuel k : Nat), n < 2 ^ (k + fuel) → 2 ^ k ≤ 8 + 2 * n → ∃ k', SetTable.sizeAbove.go n fuel (2 ^ k) = 2 ^ k' ∧ n < 2 ^ k' ∧ 2 ^ k' ≤ 8 + 2 * n
 | 0, k, h1, h2 => ⟨k, rfl, h1, h2⟩
 | fuel + 1, k, h1, h2 => by
  unfold SetTable.sizeAbove.go
  by_cases h : 2 ^ k ≤ n
  ·rw [if_pos h, ← Nat.pow_succ]
   exact w9 n fuel (k + 1) (by rw [show k + 1 + fuel = k + (fuel + 1) by omega]; exact h1) (by rw [Nat.pow_succ]; omega)
  ·rw [if_neg h]
   exact ⟨k, rfl, by omega, h2⟩
theorem above {n : Nat} (h : n < 2 ^ 60) : ∃ k, SetTable.sizeAbove n = 2 ^ k ∧ n < 2 ^ k ∧ 2 ^ k ≤ 8 + 2 * n :=
 w9 n 64 3 (Nat.lt_of_lt_of_le h (Nat.pow_le_pow_right (by decide) (by decide))) (by omega)
theorem wt.plain {t : SetTable} {hs : Array Int} (I : wt t hs) (b : Bool) : wt { t with plain := b } hs :=
 ⟨⟨I.tb.ri, I.tb.nd⟩, I.sz, I.le, I.fill, I.pw, fun i hi => by
  obtain ⟨n, h1, h2, h3⟩ := I.yT i hi
  have e1 : ∀ m p, bY { t with plain := b } m p = bY t m p := fun m p => gy (t := t) (t' := { t with plain := b }) rfl m p
  exact ⟨n, h1, by rw [e1]; exact h2, fun m hm => by rw [e1]; exact h3 m hm⟩⟩
theorem uX {α β : Type} (f : α → β) (xs : Array α) {p : Nat} (hp : p ≤ xs.size) (x : α) : (SetTable.insertAt xs p x).map f = SetTable.insertAt (xs.map f) p (f x) := by
 apply Array.ext_getElem?
 intro i
 rw [Array.getElem?_map, ie xs hp, ie (xs.map f) (by rw [Array.size_map]; exact hp)]
 split
 ·simp
 ·split <;> simp
theorem rN {α : Type} (xs : Array α) {p : Nat} (hp : p ≤ xs.size) (x : α) : (SetTable.insertAt xs p x).toList.Perm (x :: xs.toList) := by
 unfold SetTable.insertAt
 rw [Array.toList_append, Array.toList_push, Array.toList_extract, Array.toList_extract]
 have e : xs.toList = xs.toList.take p ++ xs.toList.drop p := (List.take_append_drop p _).symm
 have e1 : xs.toList.extract 0 p = xs.toList.take p := by simp [List.extract_eq_drop_take]
 have e2 : xs.toList.extract p xs.size = xs.toList.drop p := by
  rw [List.extract_eq_drop_take]
  rw [List.take_of_length_le]
  simp
 rw [e1, e2]
 conv => rhs; rw [e]
 rw [List.append_assoc]
 exact List.perm_middle
def SI (l : Bool) (h : Heap) (a : Addr) (es : Array (Int × Value)) : Prop :=
 ∃ o ep t, h.get? a = some o ∧ o.ExactSet ∧ o.data = .set es ep t ∧ wt t (es.map (·.1)) ∧ es.size * 5 < t.mask * 3 ∧ t.mask ≤ 8 * es.size + 20 ∧ (t.mask % 2 == 0) = false ∧ (∀ i (hi : i < es.size), ∃ b, (es[i]).2 = .ref b) ∧ t.led = l ∧ (1 ≤ es.size → t.plain = false)
theorem wt.fits {t : SetTable} {es : Array (Int × Value)} (I : wt t (es.map (·.1))) : t.fits es.size = true := by
 have z := I.sz
 have f := I.fill
 rw [Array.size_map] at z f
 simp only [SetTable.fits, SetTable.fill, I.tb.nd, Bool.and_eq_true, beq_iff_eq, decide_eq_true_eq]
 exact ⟨z, by simp; omega⟩
theorem Ji {m k : Nat} (h : m + 1 = 2 ^ k) (hm : 1 ≤ m) : (m % 2 == 0) = false := by
 cases k with
 | zero => simp at h; omega
 | succ k =>
  rw [Nat.pow_succ] at h
  have : m % 2 = 1 := by omega
  rw [this]; rfl
theorem AE {h : Heap} {a : Addr} {o : Obj} {es : Array (Int × Value)} {ep : Nat} {t : SetTable} (ho : h.get? a = some o) (hd : o.data = .set es ep t) (mh : Array (Int × Value)) (t' : SetTable) :
  (h.update a (Obj.putSet mh t')).get? a = some { o with data := .set mh (ep + 1) t' } := by
 have := Heap.get?_update_self (Obj.putSet mh t') ho (by rw [putSet_of mh t' hd]; rfl)
 rw [putSet_of mh t' hd] at this; exact this
theorem ja {α : Type} : ∀ (l : List α), (List.range l.length).filterMap (fun i => l[i]?) = l
 | [] => rfl
 | a :: r => by
  rw [List.length_cons, List.range_succ_eq_map, List.filterMap_cons]
  simp only [List.getElem?_cons_zero, List.filterMap_map]
  have e : ((fun i => (a :: r)[i]?) ∘ Nat.succ) = fun i => r[i]? := by funext i; simp
  rw [e, ja r]
theorem qo (es : Array (Int × Value)) : ∀ (l : List Nat), (∀ i ∈ l, i < es.size) → (l.filterMap (fun i => es[i]?)).map (·.1) = l.map fun i => (es.map (·.1)).getD i 0
 | [], _ => rfl
 | i :: l, h => by
  have hi := h i (by simp)
  have e : es[i]? = some es[i] := by simp [hi]
  rw [List.filterMap_cons, e]
  simp only [List.map_cons]
  rw [qo es l fun j hj => h j (by simp [hj])]
  congr 1
  simp [Array.getD, hi]
section
variable {prog : Program} {w : World} {A : Around} {E : Value → Shared → Prop} {s : Shared} {a : Addr} {es : Array (Int × Value)} {x : Value} {h : Int} {eqv : Nat → Bool} {l : Bool}
theorem Dk {o : Obj} {ep : Nat} {t : SetTable} {Q : Unit → Shared → Prop} (ho : s.heap.get? a = some o) (hx : o.ExactSet) (hd : o.data = .set es ep t) (I : wt t (es.map (·.1))) (h1 : 1 ≤ es.size) (hs : es.size < 50000) (hr : ∀ i (hi : i < es.size), ∃ b, (es[i]).2 = .ref b) (hL : t.led = l) (hP : t.plain = false)
  (hQ : ∀ h' mh, Heap.SameBut a s.heap h' → SI l h' a mh → mh.toList.Perm es.toList → Q () { s with heap := h' }) : wpAny (model prog w) A (setRelay a (SetTable.grown es.size)) Q E s := by
 have hg : SetTable.grown es.size ≤ 4 * 100000 ∧ SetTable.grown es.size = 4 * es.size := by
  unfold SetTable.grown
  rw [if_neg (by omega)]
  omega
 obtain ⟨k, e1, e2, e3⟩ := above (n := SetTable.grown es.size) (Nat.lt_of_le_of_lt hg.1 (by decide))
 have hm : SetTable.sizeAbove (SetTable.grown es.size) - 1 + 1 = 2 ^ k := by rw [e1]; omega
 obtain ⟨t', order, f1, f2, f3, f4, f5, f6⟩ := Fv hm t.finger (t.movedTo (SetTable.sizeAbove (SetTable.grown es.size) - 1)) t.led t.plain (es.map (·.1)) (by rw [Array.size_map, e1]; omega)
 rw [Array.size_map] at f5
 unfold setRelay
 refine wpAny_bind (wpAny_setState_of ho hd I.fits ?_)
 dsimp only
 rw [if_neg (by rw [e1, sizeLine_eq]; omega)]
 have Rw : t.relaid (es.map (·.1)) (SetTable.grown es.size) = some (t', order) := f1
 rw [Rw]
 have Cd : (order.filterMap (es[·]?)).toList.Perm es.toList := by
  rw [Array.toList_filterMap]
  have z := f5.filterMap (fun i => es[i]?)
  refine z.trans (List.Perm.of_eq ?_)
  have y := ja es.toList
  simpa using y
 have hsz : (order.filterMap (es[·]?)).size = es.size := by
  rw [← Array.length_toList, Cd.length_eq, Array.length_toList]
 have Rx : (order.filterMap (es[·]?)).map (·.1) = order.map fun i => (es.map (·.1)).getD i 0 := by
  apply Array.toList_inj.mp
  rw [Array.toList_map, Array.toList_filterMap, Array.toList_map]
  exact qo es order.toList fun i hi => List.mem_range.mp (f5.mem_iff.mp hi)
 show wpAny (model prog w) A ((do
  let mh := order.filterMap (es[·]?)
  if mh.size != es.size then unsupported "internal:set-table-lost-an-element"
  pure (mh, t')) >>= fun (p : Array (Int × Value) × SetTable) => storeSet a p.1 p.2) Q E s
 refine wpAny_bind ?_
 dsimp only
 rw [hsz]
 simp only [bne_self_eq_false, Bool.false_eq_true, if_false]
 refine wpAny_pure (wpAny_storeSet_of ho hd ?_ (by rw [hsz, sizeLine_eq]; omega))
 have I' : wt t' ((order.filterMap (es[·]?)).map (·.1)) := by rw [Rx]; exact f6
 refine hQ _ (order.filterMap (es[·]?)) (Heap.SameBut.update _ _ _) ⟨_, _, t', AE ho hd _ _, hx, rfl, I', ?_, ?_, ?_, fun i hi => ?_, f3.trans hL, fun _ => f4.trans hP⟩ Cd
 ·rw [hsz, f2, e1]; omega
 ·rw [hsz, f2, e1]; omega
 ·rw [f2]; exact Ji hm (by rw [e1]; omega)
 ·have hm : (order.filterMap (es[·]?))[i] ∈ es.toList := Cd.mem_iff.mp (by rw [Array.mem_toList_iff]; exact Array.getElem_mem hi)
  obtain ⟨j, hj, e⟩ := List.mem_iff_getElem.mp hm
  have hj' : j < es.size := by simpa using hj
  obtain ⟨b, hb⟩ := hr j hj'
  refine ⟨b, ?_⟩
  rw [← e]
  simpa using hb
theorem Jj {Q : Bool → Shared → Prop} (hS : SI l s.heap a es) (hx : ∃ b, x = .ref b) (hs : es.size < 1000) (hq : ∀ i (hi : i < es.size), (es[i]).1 = h → SeqAt.EqAt A s (es[i]).2 x (eqv i))
  (Di : ∀ Q' : Bool → Shared → Prop, Q' false s → wpAny (model prog w) A (searchCouldBeSeen x ((es.filter (·.1 == h)).toList.map (·.2))) Q' E s)
  (WU : ∀ Q' : Bool → Shared → Prop, Q' false s → wpAny (model prog w) A (hashByValue 8 x) Q' E s)
  (h1 : (∃ i, ∃ hi : i < es.size, (es[i]).1 = h ∧ eqv i = true) → Q false s)
  (h2 : (¬ ∃ i, ∃ hi : i < es.size, (es[i]).1 = h ∧ eqv i = true) → ∀ h' mh, Heap.SameBut a s.heap h' → SI l h' a mh → mh.toList.Perm ((h, x) :: es.toList) → Q true { s with heap := h' }) :
  wpAny (model prog w) A (setAddHashed a x h) Q E s := by
 obtain ⟨o, ep, t, ho, hex, hd, I, GV, Zh, Fx, hr, hL, hP⟩ := hS
 obtain ⟨b, rfl⟩ := hx
 have hsz : t.place.size = es.size := by have z := I.sz; rw [Array.size_map] at z; exact z
 obtain ⟨k, hk⟩ := I.pw
 obtain ⟨n, hn, hend, By⟩ := way I.tb hk (by omega) h (fun i => ∃ hi : i < es.size, (es[i]).1 = h ∧ eqv i = true)
 have Jk : t.slot (bY t n (t.probeStart h)).j = .empty → ¬ ∃ i, ∃ hi : i < es.size, (es[i]).1 = h ∧ eqv i = true := by
  rintro he ⟨i, hi, e1, e2⟩
  obtain ⟨n', g1, g2, g3⟩ := I.yT i (by rw [Array.size_map]; exact hi)
  have eh : (es.map (·.1)).getD i 0 = h := by simp [Array.getD, hi, e1]
  rw [eh] at g2 g3
  have hl := gw I.tb (i := i) (by omega)
  rw [← g2] at hl
  rcases Nat.lt_trichotomy n n' with q | q | q
  ·exact g3 n q he
  ·subst q; rw [he] at hl; cases hl
  ·obtain ⟨i', _, w2, w3⟩ := By n' q
   rw [hl] at w2
   cases w2
   exact w3 ⟨hi, e1, e2⟩
 unfold setAddHashed
 refine wpAny_holding ?_
 unfold setAddHashedIn
 refine wpAny_bind (wpAny_setState_of ho hd I.fits ?_)
 dsimp only
 have hsc : byScan (.ref b) es = false := rfl
 rw [hsc]
 simp only [Bool.false_eq_true, if_false]
 unfold setSearch
 refine wpAny_bind (Bx (n := n) (eqv := eqv) ho hd I Fx hq hr (fun _ => Di) hn By ?_ n 0 100000 none (by omega) (by omega) rfl)
 rcases hend with he | ⟨i, _, hl, hi, e1, e2⟩
 ·refine .inl ⟨he, ?_⟩
  dsimp only
  refine wpAny_bind (wpAny_setState_of ho hd I.fits ?_)
  dsimp only
  have hj : (bY t n (t.probeStart h)).j ≤ t.mask := yV t n _ (w6 t h)
  obtain ⟨I1, hp⟩ := Jf I (h := h) (n := n) (by omega) he hj (fun m hm => by obtain ⟨i, _, z, _⟩ := By m hm; rw [z]; intro q; cases q) (by rw [Array.size_map]; omega)
  rw [Array.size_map] at hp
  rw [← uX (·.1) es hp (h, Value.ref b)] at I1
  have Dl := rN es hp (h, Value.ref b)
  have oK : (SetTable.insertAt es (t.put (bY t n (t.probeStart h)).j).2 (h, Value.ref b)).size = es.size + 1 := cR es hp _
  have Lb : ∀ i (hi : i < (SetTable.insertAt es (t.put (bY t n (t.probeStart h)).j).2 (h, Value.ref b)).size), ∃ b', ((SetTable.insertAt es (t.put (bY t n (t.probeStart h)).j).2 (h, Value.ref b))[i]).2 = .ref b' := fun i hi => by
   have hm : (SetTable.insertAt es (t.put (bY t n (t.probeStart h)).j).2 (h, Value.ref b))[i] ∈ (h, Value.ref b) :: es.toList := Dl.mem_iff.mp (by rw [Array.mem_toList_iff]; exact Array.getElem_mem hi)
   rcases List.mem_cons.mp hm with e | e
   ·exact ⟨b, by rw [e]⟩
   ·obtain ⟨j, hj, e⟩ := List.mem_iff_getElem.mp e
    have hj' : j < es.size := by simpa using hj
    obtain ⟨b', hb'⟩ := hr j hj'
    refine ⟨b', ?_⟩
    rw [← e]
    simpa using hb'
  have ji := Jk he
  generalize Fz : SetTable.insertAt es (t.put (bY t n (t.probeStart h)).j).2 (h, Value.ref b) = GY at *
  have tail : ∀ t2 : SetTable, wt t2 (GY.map (·.1)) → t2.mask = t.mask → t2.led = l → t2.plain = false → wpAny (model prog w) A (do
    storeSet a GY t2
    if (!false && t2.tooFull) = true then setRelay a (SetTable.grown (es.size + 1))
    return true) Q E s := fun t2 I2 GW mB mI => by
   refine wpAny_bind (wpAny_storeSet_of ho hd ?_ (by rw [oK, sizeLine_eq]; omega))
   have hg := AE ho hd GY t2
   by_cases hf : t2.tooFull = true
   ·simp only [hf, Bool.not_false, Bool.and_self, if_true]
    refine wpAny_bind ?_
    rw [← oK]
    refine Dk (s := { s with heap := s.heap.update a (Obj.putSet GY t2) }) hg hex rfl I2 (by omega) (by omega) Lb mB mI fun h' mh Al hS' hp' => wpAny_pure ?_
    exact h2 ji h' mh ((Heap.SameBut.update s.heap a (Obj.putSet GY t2)).trans Al) hS' (hp'.trans Dl)
   ·have hf' : t2.tooFull = false := by simpa using hf
    simp only [hf', Bool.not_false, Bool.and_false, Bool.false_eq_true, if_false]
    refine wpAny_pure ?_
    have hnf : GY.size * 5 < t2.mask * 3 := by
     have z : ¬ (t2.fill * 5 ≥ t2.mask * 3) := by simpa [SetTable.tooFull] using hf'
     have y : t2.fill = GY.size := by
      have q := I2.sz
      rw [Array.size_map] at q
      simp only [SetTable.fill, I2.tb.nd]
      simp [q]
     omega
    exact h2 ji _ GY (Heap.SameBut.update _ _ _) ⟨_, _, t2, hg, hex, rfl, I2, hnf, by omega, by rw [GW]; exact Fx, Lb, mB, fun _ => mI⟩ Dl
  cases hpl : (t.put (bY t n (t.probeStart h)).j).1.plain with
  | false =>
   simp only [Bool.false_eq_true, if_false]
   refine wpAny_bind (wpAny_pure ?_)
   simp only [if_true]
   exact tail _ I1 rfl hL hpl
  | true =>
   simp only [if_true]
   refine wpAny_bind (WU _ ?_)
   simp only [Bool.false_eq_true, if_false]
   exact tail _ (I1.plain false) rfl hL rfl
 ·refine .inr ⟨⟨i, hl, hi, e1, e2⟩, ?_⟩
  exact wpAny_pure (h1 ⟨i, hi, e1, e2⟩)
end
end dS
namespace L2
open PySem PySem.Spec PyProof.Rows
mutual
def mW (w : World) : Tr → Int
 | .int i => hashInt i
 | .str x => hashStr w x
 | .tup l => reduceHash (Builtin.Tuple.tupleHashOf (cN w l))
def cN (w : World) : List Tr → List Int
 | [] => []
 | a :: r => mW w a :: cN w r
end
theorem kO (w : World) : ∀ (a b : List Tr), cN w (a ++ b) = cN w a ++ cN w b
 | [], b => by simp [cN]
 | x :: a, b => by simp [cN, kO w a b]
theorem jq {X : Cx} {pins : List (Addr × Obj)} {σ : St} {H : Hp} {s : Shared} (I : Inv X pins σ H s) {l : List Tr} {x : V} {u : Value} (h : cB X.K H (Tr.tup l).toD x) (r : RelV x u) :
  ∃ (p : Addr) (ys : List V) (its : List Value), u = .ref p ∧ IsTup s.heap p its.toArray ∧ Vals ys its ∧ Ts X.K H l ys := by
 simp only [Tr.toD] at h
 cases h with
 | @tup ds xs p g e rr =>
  cases r
  obtain ⟨its, r1, p1, _⟩ := I.tuple g
  have kl := toDs_length l
  refine ⟨p, xs, its, rfl, p1, r1, by omega, fun i h1 h2 => ?_⟩
  have z := rr i (by omega) h2
  rw [toDs_get l i h1] at z
  exact z
theorem Dm {X : Cx} {pins : List (Addr × Obj)} {σ : St} {H : Hp} {s : Shared} (I : Inv X pins σ H s) :
  ∀ (n : Nat) (A : Around) {a : Tr} {x : V} {u : Value} (tk : Nat) (E : Value → Shared → Prop) (Q : Int → Shared → Prop), a.toD.deep ≤ n → A.units + n < cLine → cB X.K H a.toD x → RelV x u → (∀ tk', Q (mW X.w a) { s with toks := tk' }) →
   wpAny (model X.prog X.w) A (pyHash u) Q E { s with toks := tk } := by
 intro n
 induction n with
 | zero =>
  intro A a x u tk E Q hd hu h r q
  cases a with
  | int i =>
   simp only [Tr.toD] at h
   cases h
   obtain ⟨t, rfl⟩ := r
   simp only [mW] at q
   exact wpAny_pyHash_int (q _)
  | str i =>
   simp only [Tr.toD] at h
   cases h
   obtain ⟨t, rfl⟩ := r
   simp only [mW] at q
   exact wpAny_pyHash_str (q _)
  | tup l => simp only [Tr.toD, Dt.deep] at hd; omega
 | succ n ih =>
  intro A a x u tk E Q hd hu h r q
  cases a with
  | int i => exact ih A tk E Q (by simp [Tr.toD, Dt.deep]) (by omega) h r q
  | str i => exact ih A tk E Q (by simp [Tr.toD, Dt.deep]) (by omega) h r q
  | tup l =>
   obtain ⟨p, ys, its, rfl, ⟨o, ho, hc, n', CQ⟩, rv, hT⟩ := jq I h r
   have hl := hT.1
   have hlen := rv.length
   have GZ : Dt.bJ (Tr.toDs l) ≤ n := by
    simp only [Tr.toD, Dt.deep] at hd
    omega
   have Bz : (⟨s.heap, s.gens, s.drawn, tk, s.os⟩ : Shared).TypeIs (.ref p) "tuple" := ⟨o, ho, hc⟩
   unfold pyHash
   first | unfold pyHashByItsType | skip
   first | refine wpAny_bind (wpAny_cRoomFor_or (.inr (by omega)) ?_) | skip
   refine wpAny_bind (wpAny_specialOf Bz PySem.F.slot_tuple_hash.lookup ?_)
   show wpAny _ _ (if (some (Value.builtin "tuple.__hash__") == some Value.none) = true then _ else _) Q E _
   rw [if_neg (by rw [beq_builtin_none]; exact Bool.false_ne_true)]
   refine wpAny_bind (wpAny_specialOf Bz PySem.F.slot_tuple_hash.lookup ?_)
   show wpAny _ _ (callSpecialIfBoundUnlessNone? (.ref p) "__hash__" _ >>= _) Q E _
   refine wpAny_bind (wpAny_callSpecialIfBoundUnlessNone?_slot Bz PySem.F.slot_tuple_hash (wpAny_call_entry PySem.F.slot_tuple_hash Bz PySem.F.entry_tuple_hash ?_ (PySem.F.args_tuple_hash_1 _)))
   show wpAny _ _ (Builtin.Tuple.tupleItemsOf (.ref p) >>= _) _ _ _
   refine wpAny_bind (wpAny_tupleItemsOf ho CQ ?_)
   refine wpAny_bind ?_
   rw [← Array.forIn_toList]
   refine wpAny_forIn_list _
    (fun rest (b : Array Int) s' => ∃ j tk', j ≤ its.length ∧ rest = its.drop j ∧ b.toList = cN X.w (l.take j) ∧ s' = { s with toks := tk' })
    _ ?_ ?_ _ _ ⟨0, tk, Nat.zero_le _, by simp, by simp [cN], rfl⟩
   ·rintro v rest b s' ⟨j, tk', hj, hr, hb, rfl⟩
    have EA : j < its.length := by
     refine Nat.lt_of_le_of_ne hj fun e => ?_
     rw [e, List.drop_length] at hr
     cases hr
    have hdr : its.drop j = its[j] :: its.drop (j + 1) := List.drop_eq_getElem_cons EA
    rw [hdr] at hr
    injection hr with e1 e2
    subst e1 e2
    obtain ⟨u1, f1, q1⟩ := rv.get (i := j) (x := ys[j]'(by omega)) (by simp)
    have eu : its[j] = u1 := (List.getElem?_eq_some_iff.mp f1).2
    have zz := cg (ds := Tr.toDs l) (i := j) (by rw [toDs_length]; omega)
    rw [toDs_get l j (by omega)] at zz
    have ht : cN X.w (l.take (j + 1)) = cN X.w (l.take j) ++ [mW X.w (l[j]'(by omega))] := by
     rw [← List.take_append_getElem (by omega), kO]
     simp [cN]
    refine wpAny_bind (ih _ tk' _ _ (by omega) (by show A.units + 1 + n < cLine; omega) (hT.2 j (by omega) (by omega)) (by rw [eu]; exact q1) fun PF => ?_)
    first
     | exact wpAny_pure ⟨j + 1, PF, by omega, rfl, by rw [ht]; simp [hb], rfl⟩
     | exact wpAny_bind (wpAny_pure (wpAny_pure ⟨j + 1, PF, by omega, rfl, by rw [ht]; simp [hb], rfl⟩))
   ·rintro b s' ⟨j, tk', hj, hr, hb, rfl⟩
    have EA : j = its.length := by
     refine Classical.byContradiction fun hne => ?_
     have : (its.drop j).length = 0 := by rw [← hr]; rfl
     rw [List.length_drop] at this
     omega
    rw [EA, ← hlen, ← hl, List.take_length] at hb
    show wpAny _ _ (retInt (Builtin.Tuple.tupleHashOf b.toList)) _ _ _
    rw [hb]
    refine wpAny_ret_mkInt ?_
    simp only [mW] at q
    show wpAny _ _ (if (decide (-(2 : Int) ^ 63 ≤ Builtin.Tuple.tupleHashOf (cN X.w l)) && decide (Builtin.Tuple.tupleHashOf (cN X.w l) < 2 ^ 63)) = true then _ else _) Q E _
    unfold reduceHash at q
    by_cases G0 : (decide (-(2 : Int) ^ 63 ≤ Builtin.Tuple.tupleHashOf (cN X.w l)) && decide (Builtin.Tuple.tupleHashOf (cN X.w l) < 2 ^ 63)) = true
    ·rw [if_pos G0]
     rw [if_pos G0] at q
     exact wpAny_pure (q _)
    ·rw [if_neg G0]
     rw [if_neg G0] at q
     exact wpAny_bind (wpAny_rule (wpAny_pure (q _)))
end L2
namespace L2
open PySem PySem.Spec PyProof.Rows
theorem notRef {X : Cx} {H : Hp} {a : Tr} {x : V} {u : Value} (h : cB X.K H a.toD x) (r : RelV x u) (hd : a.toD.deep = 0) : (∃ i t, a = .int i ∧ u = .int i t) ∨ ∃ i t, a = .str i ∧ u = .str i t := by
 cases a with
 | int i => simp only [Tr.toD] at h; cases h; obtain ⟨t, rfl⟩ := r; exact .inl ⟨i, t, rfl, rfl⟩
 | str i => simp only [Tr.toD] at h; cases h; obtain ⟨t, rfl⟩ := r; exact .inr ⟨i, t, rfl, rfl⟩
 | tup l => simp only [Tr.toD, Dt.deep] at hd; omega
section
variable {X : Cx} {pins : List (Addr × Obj)} {σ : St} {H : Hp} {s : Shared}
theorem tH (I : Inv X pins σ H s) : ∀ (n depth : Nat) (A : Around) {a : Tr} {x : V} {u : Value} (E : Value → Shared → Prop) (Q : Bool → Shared → Prop), a.toD.deep ≤ n → n ≤ depth → cB X.K H a.toD x → RelV x u → Q true s → wpAny (model X.prog X.w) A (eqIsQuiet depth u) Q E s := by
 intro n
 induction n with
 | zero =>
  intro depth A a x u E Q hd hn h r q
  rcases notRef h r (by omega) with ⟨i, t, _, rfl⟩ | ⟨i, t, _, rfl⟩
  ·rw [eqIsQuiet_byValue depth rfl]; exact wpAny_pure q
  ·rw [eqIsQuiet_byValue depth rfl]; exact wpAny_pure q
 | succ n ih =>
  intro depth A a x u E Q hd hn h r q
  cases a with
  | int i => exact ih depth A E Q (by simp [Tr.toD, Dt.deep]) (by omega) h r q
  | str i => exact ih depth A E Q (by simp [Tr.toD, Dt.deep]) (by omega) h r q
  | tup l =>
   obtain ⟨p, ys, its, rfl, ⟨o, ho, hc, n', CQ⟩, rv, hT⟩ := jq I h r
   have hl := hT.1
   have hlen := rv.length
   have GZ : Dt.bJ (Tr.toDs l) ≤ n := by simp only [Tr.toD, Dt.deep] at hd; omega
   have Bz : s.TypeIs (.ref p) "tuple" := ⟨o, ho, hc⟩
   obtain ⟨depth, rfl⟩ : ∃ g, depth = g + 1 := ⟨depth - 1, by omega⟩
   unfold eqIsQuiet
   refine wpAny_bind (wpAny_specialOf Bz PySem.F.slot_tuple_eq.lookup ?_)
   show wpAny _ _ (isInstance (.ref p) (.type "tuple") >>= _) _ _ s
   refine wpAny_bind (wpAny_isInstance Bz isSubtype_tuple_tuple ?_)
   simp only [Bool.not_true, Bool.false_eq_true, if_false]
   refine wpAny_bind (wpAny_seqItems ho CQ ?_)
   refine wpAny_bind ?_
   show wpAny _ _ (forIn its.toArray _ _) _ _ s
   rw [← Array.forIn_toList]
   refine wpAny_forIn_list _ (fun rest rr s' => rr.1 = none ∧ s' = s ∧ ∃ j, j ≤ its.length ∧ rest = its.drop j) _ ?_ ?_ _ _ ⟨rfl, rfl, 0, Nat.zero_le _, by simp⟩
   ·rintro v rest rr s' ⟨hr, rfl, j, hj, he⟩
    have EA : j < its.length := by
     refine Nat.lt_of_le_of_ne hj fun e => ?_
     rw [e, List.drop_length] at he
     cases he
    rw [List.drop_eq_getElem_cons EA] at he
    injection he with e1 e2
    subst e1 e2
    obtain ⟨u1, f1, q1⟩ := rv.get (i := j) (x := ys[j]'(by omega)) (by simp)
    have eu : its[j] = u1 := (List.getElem?_eq_some_iff.mp f1).2
    have zz := cg (ds := Tr.toDs l) (i := j) (by rw [toDs_length]; omega)
    rw [toDs_get l j (by omega)] at zz
    refine wpAny_bind (ih depth _ _ _ (by omega) (by omega) (hT.2 j (by omega) (by omega)) (by rw [eu]; exact q1) ?_)
    simp only [Bool.not_true, Bool.false_eq_true, if_false]
    exact wpAny_pure ⟨rfl, rfl, j + 1, by omega, rfl⟩
   ·rintro ⟨r1, r2⟩ s' ⟨hr, rfl, _⟩
    simp only at hr
    subst hr
    exact wpAny_pure q
theorem tI (I : Inv X pins σ H s) : ∀ (n depth : Nat) (A : Around) {a : Tr} {x : V} {u : Value} (E : Value → Shared → Prop) (Q : Bool → Shared → Prop), a.toD.deep ≤ n → n ≤ depth → cB X.K H a.toD x → RelV x u → Q false s → wpAny (model X.prog X.w) A (ofAClassStatement depth u) Q E s := by
 intro n
 induction n with
 | zero =>
  intro depth A a x u E Q hd hn h r q
  rcases notRef h r (by omega) with ⟨i, t, _, rfl⟩ | ⟨i, t, _, rfl⟩
  ·cases depth <;> exact wpAny_pure q
  ·cases depth <;> exact wpAny_pure q
 | succ n ih =>
  intro depth A a x u E Q hd hn h r q
  cases a with
  | int i => exact ih depth A E Q (by simp [Tr.toD, Dt.deep]) (by omega) h r q
  | str i => exact ih depth A E Q (by simp [Tr.toD, Dt.deep]) (by omega) h r q
  | tup l =>
   obtain ⟨p, ys, its, rfl, ⟨o, ho, hc, n', CQ⟩, rv, hT⟩ := jq I h r
   have hl := hT.1
   have hlen := rv.length
   have GZ : Dt.bJ (Tr.toDs l) ≤ n := by simp only [Tr.toD, Dt.deep] at hd; omega
   have Bz : s.TypeIs (.ref p) "tuple" := ⟨o, ho, hc⟩
   obtain ⟨depth, rfl⟩ : ∃ g, depth = g + 1 := ⟨depth - 1, by omega⟩
   unfold ofAClassStatement
   refine wpAny_bind (wpAny_typeOf Bz ?_)
   dsimp only
   simp only [beq_self_eq_true, if_true]
   refine wpAny_bind (wpAny_pure ?_)
   simp only [Bool.not_true, Bool.false_eq_true, if_false]
   refine wpAny_bind (wpAny_seqItems ho CQ ?_)
   dsimp only
   refine wpAny_bind ?_
   show wpAny _ _ (forIn its.toArray _ _) _ _ s
   rw [← Array.forIn_toList]
   refine wpAny_forIn_list _ (fun rest rr s' => rr.1 = none ∧ s' = s ∧ ∃ j, j ≤ its.length ∧ rest = its.drop j) _ ?_ ?_ _ _ ⟨rfl, rfl, 0, Nat.zero_le _, by simp⟩
   ·rintro v rest rr s' ⟨hr, rfl, j, hj, he⟩
    have EA : j < its.length := by
     refine Nat.lt_of_le_of_ne hj fun e => ?_
     rw [e, List.drop_length] at he
     cases he
    rw [List.drop_eq_getElem_cons EA] at he
    injection he with e1 e2
    subst e1 e2
    obtain ⟨u1, f1, q1⟩ := rv.get (i := j) (x := ys[j]'(by omega)) (by simp)
    have eu : its[j] = u1 := (List.getElem?_eq_some_iff.mp f1).2
    have zz := cg (ds := Tr.toDs l) (i := j) (by rw [toDs_length]; omega)
    rw [toDs_get l j (by omega)] at zz
    refine wpAny_bind (ih depth _ _ _ (by omega) (by omega) (hT.2 j (by omega) (by omega)) (by rw [eu]; exact q1) ?_)
    simp only [Bool.false_eq_true, if_false]
    exact wpAny_pure ⟨rfl, rfl, j + 1, by omega, rfl⟩
   ·rintro ⟨r1, r2⟩ s' ⟨hr, rfl, _⟩
    simp only at hr
    subst hr
    exact wpAny_pure q
end
end L2
namespace L2
open PySem PySem.Spec PyProof.Rows
mutual
def jb : Tr → Bool
 | .int _ => true
 | .str _ => false
 | .tup l => fq l
def fq : List Tr → Bool
 | [] => true
 | a :: r => jb a && fq r
end
section
variable {X : Cx} {pins : List (Addr × Obj)} {σ : St} {H : Hp} {s : Shared}
theorem BA (I : Inv X pins σ H s) : ∀ (n depth : Nat) (A : Around) {a : Tr} {x : V} {u : Value} (E : Value → Shared → Prop) (Q : Bool → Shared → Prop), a.toD.deep ≤ n → n ≤ depth → cB X.K H a.toD x → RelV x u → Q (jb a) s → wpAny (model X.prog X.w) A (hashByValue depth u) Q E s := by
 intro n
 induction n with
 | zero =>
  intro depth A a x u E Q hd hn h r q
  rcases notRef h r (by omega) with ⟨i, t, rfl, rfl⟩ | ⟨i, t, rfl, rfl⟩
  ·simp only [jb] at q; cases depth <;> exact wpAny_pure q
  ·simp only [jb] at q; cases depth <;> exact wpAny_pure q
 | succ n ih =>
  intro depth A a x u E Q hd hn h r q
  cases a with
  | int i => exact ih depth A E Q (by simp [Tr.toD, Dt.deep]) (by omega) h r q
  | str i => exact ih depth A E Q (by simp [Tr.toD, Dt.deep]) (by omega) h r q
  | tup l =>
   obtain ⟨p, ys, its, rfl, ⟨o, ho, hc, n', CQ⟩, rv, hT⟩ := jq I h r
   have hl := hT.1
   have hlen := rv.length
   have GZ : Dt.bJ (Tr.toDs l) ≤ n := by simp only [Tr.toD, Dt.deep] at hd; omega
   have Bz : s.TypeIs (.ref p) "tuple" := ⟨o, ho, hc⟩
   simp only [jb] at q
   obtain ⟨depth, rfl⟩ : ∃ g, depth = g + 1 := ⟨depth - 1, by omega⟩
   unfold hashByValue
   refine wpAny_bind (wpAny_specialOf Bz PySem.F.slot_tuple_hash.lookup ?_)
   show wpAny _ _ (seqItems? (.ref p) >>= _) _ _ s
   refine wpAny_bind (wpAny_seqItems ho CQ ?_)
   refine wpAny_bind ?_
   show wpAny _ _ (forIn its.toArray _ _) _ _ s
   rw [← Array.forIn_toList]
   refine wpAny_forIn_list _ (fun rest rr s' => s' = s ∧ ((rr.1 = none ∧ ∃ j, j ≤ its.length ∧ rest = its.drop j ∧ fq (l.drop j) = fq l) ∨ (rr.1 = some false ∧ rest = [] ∧ fq l = false))) _ ?_ ?_ _ _ ⟨rfl, .inl ⟨rfl, 0, Nat.zero_le _, by simp, by simp⟩⟩
   ·rintro v rest rr s' ⟨rfl, hh⟩
    rcases hh with ⟨hr, j, hj, he, hb⟩ | ⟨_, he, _⟩
    ·have EA : j < its.length := by
      refine Nat.lt_of_le_of_ne hj fun e => ?_
      rw [e, List.drop_length] at he
      cases he
     rw [List.drop_eq_getElem_cons EA] at he
     injection he with e1 e2
     subst e1 e2
     obtain ⟨u1, f1, q1⟩ := rv.get (i := j) (x := ys[j]'(by omega)) (by simp)
     have eu : its[j] = u1 := (List.getElem?_eq_some_iff.mp f1).2
     have zz := cg (ds := Tr.toDs l) (i := j) (by rw [toDs_length]; omega)
     rw [toDs_get l j (by omega)] at zz
     have Fy : (jb (l[j]'(by omega)) && fq (l.drop (j + 1))) = fq l := by
      rw [← hb, List.drop_eq_getElem_cons (show j < l.length by omega)]
      simp [fq]
     refine wpAny_bind (ih depth _ _ _ (by omega) (by omega) (hT.2 j (by omega) (by omega)) (by rw [eu]; exact q1) ?_)
     cases e : jb (l[j]'(by omega)) with
     | true =>
      simp only [Bool.not_true, Bool.false_eq_true, if_false]
      rw [e] at Fy
      exact wpAny_pure ⟨rfl, .inl ⟨rfl, j + 1, by omega, rfl, by simpa using Fy⟩⟩
     | false =>
      simp only [Bool.not_false, if_true]
      rw [e] at Fy
      have z : fq l = false := by simpa using Fy.symm
      rw [z] at q
      exact wpAny_pure (wpAny_pure q)
    ·cases he
   ·rintro ⟨r1, r2⟩ s' ⟨rfl, hh⟩
    rcases hh with ⟨hr, j, hj, he, hb⟩ | ⟨hr, _, hb⟩
    ·simp only at hr
     subst hr
     have EA : its.length ≤ j := by
      have : (its.drop j).length = 0 := by rw [← he]; rfl
      rw [List.length_drop] at this
      omega
     rw [List.drop_of_length_le (by omega)] at hb
     simp only [fq] at hb
     rw [← hb] at q
     exact wpAny_pure q
    ·simp only at hr
     subst hr
     rw [hb] at q
     exact wpAny_pure q
theorem Dn (I : Inv X pins σ H s) {A : Around} {a : Tr} {x : V} {u : Value} {E : Value → Shared → Prop} {Q : Bool → Shared → Prop} (hd : a.toD.deep ≤ 8) (h : cB X.K H a.toD x) (r : RelV x u) :
  ∀ (stored : List Value), (∀ v ∈ stored, ∃ b y, Tr.toD b = Tr.toD b ∧ (Tr.toD b).deep ≤ 8 ∧ cB X.K H (Tr.toD b) y ∧ RelV y v) → Q false s → wpAny (model X.prog X.w) A (searchCouldBeSeen u stored) Q E s := by
 intro stored hst q
 unfold searchCouldBeSeen
 refine wpAny_bind ?_
 refine wpAny_forIn_list _ (fun rest rr s' => s' = s ∧ rr.1 = none ∧ ∀ v ∈ rest, v ∈ stored) _ ?_ ?_ _ _ ⟨rfl, rfl, fun v hv => hv⟩
 ·rintro v rest rr s' ⟨rfl, hr, hm⟩
  obtain ⟨b, y, _, hb, h2, r2⟩ := hst v (hm v (by simp))
  have fin : (⟨none, ()⟩ : Option Bool × Unit).1 = none := rfl
  dsimp only
  split
  all_goals split
  any_goals exact wpAny_pure ⟨rfl, rfl, fun z hz => hm z (by simp [hz])⟩
  all_goals
   refine wpAny_bind (tH I 8 8 _ _ _ hd (Nat.le_refl _) h r ?_)
   simp only [Bool.not_true, Bool.false_eq_true, if_false]
   refine wpAny_bind (tH I 8 8 _ _ _ hb (Nat.le_refl _) h2 r2 ?_)
   simp only [Bool.not_true, Bool.false_eq_true, if_false]
   refine wpAny_bind (tI I 8 8 _ _ _ hd (Nat.le_refl _) h r ?_)
   simp only [Bool.false_eq_true, if_false]
   refine wpAny_bind (tI I 8 8 _ _ _ hb (Nat.le_refl _) h2 r2 ?_)
   simp only [Bool.false_eq_true, if_false]
   exact wpAny_pure ⟨rfl, rfl, fun z hz => hm z (by simp [hz])⟩
 ·rintro ⟨r1, r2⟩ s' ⟨rfl, hr, _⟩
  simp only at hr
  subst hr
  exact wpAny_pure q
end
end L2
namespace L2
open PySem PySem.Spec PyProof.Rows dS
def nz (acc : List Tr) (t : Tr) : List Tr := if acc.any (fun a => eqT a t) = true then acc else acc ++ [t]
def dd (l : List Tr) : List Tr := l.foldl nz []
theorem AF (l : List Tr) {i : Nat} (h : i < l.length) : dd (l.take (i + 1)) = nz (dd (l.take i)) l[i] := by
 unfold dd
 rw [← List.take_append_getElem h, List.foldl_append]
 rfl
def G1 (w : World) (K : PySem.W.Frag) (H : Hp) (es : List (Int × Value)) (tr : List Tr) : Prop := Paired (fun (e : Int × Value) (t : Tr) => e.1 = mW w t ∧ t.toD.deep ≤ 8 ∧ ∃ y, cB K H t.toD y ∧ RelV y e.2) es tr
theorem oC {α β : Type} {F : α → β → Prop} {l l' : List α} (p : l'.Perm l) : ∀ {m : List β}, Paired F l m → ∃ m', m'.Perm m ∧ Paired F l' m' := by
 induction p with
 | nil => intro m h; exact ⟨m, .refl _, h⟩
 | cons x _ ih =>
  intro m h
  cases h with
  | cons r t => obtain ⟨m', h1, h2⟩ := ih t; exact ⟨_ :: m', h1.cons _, .cons r h2⟩
 | swap x y l =>
  intro m h
  cases h with
  | cons r t => cases t with
   | cons r2 t2 => exact ⟨_, .swap _ _ _, .cons r2 (.cons r t2)⟩
 | trans _ _ WV WW =>
  intro m h
  obtain ⟨m1, a1, a2⟩ := WW h
  obtain ⟨m2, b1, b2⟩ := WV a2
  exact ⟨m2, b1.trans a1, b2⟩
section
variable {X : Cx} {pins : List (Addr × Obj)} {σ : St} {H : Hp} {s : Shared} {a : Addr} {es : Array (Int × Value)} {tr : List Tr} {t : Tr} {x : V} {u : Value} {l : Bool}
theorem G1.Jl (h : G1 X.w X.K H es.toList tr) {v : Value} (hv : v ∈ es.toList.map (·.2)) : ∃ b y, Tr.toD b = Tr.toD b ∧ (Tr.toD b).deep ≤ 8 ∧ cB X.K H (Tr.toD b) y ∧ RelV y v := by
 obtain ⟨e, he, rfl⟩ := List.mem_map.mp hv
 obtain ⟨i, hi, rfl⟩ := List.mem_iff_getElem.mp he
 have hl := Paired.length h
 obtain ⟨_, h2, y, h3, h4⟩ := Paired.at2 h i hi (by omega)
 exact ⟨_, y, rfl, h2, h3, h4⟩
theorem Ry {A : Around} {E : Value → Shared → Prop} {Q : Bool → Shared → Prop} (I : Inv X pins σ H s) (hu : A.units + 40 < cLine) (hS : SI l s.heap a es) (hE : G1 X.w X.K H es.toList tr) (hs : es.size < 1000) (ht : ∃ l, t = .tup l) (hd : t.toD.deep ≤ 8) (hv : jb t = false) (h : cB X.K H t.toD x) (r : RelV x u)
  (hQ : ∀ b h' tk mh AG, Heap.SameBut a s.heap h' ∨ h' = s.heap → SI l h' a mh → G1 X.w X.K H mh.toList AG → AG.Perm (nz tr t) → Q b { s with heap := h', toks := tk }) : wpAny (model X.prog X.w) A (setAdd a u) Q E s := by
 have hl := Paired.length hE
 have hl' : es.size = tr.length := by simpa using hl
 unfold setAdd
 refine wpAny_holding (wpAny_bind ?_)
 have z := Dm I 8 A (E := E) s.toks (Q := fun hh s' => wpAny (model X.prog X.w) A (setAddHashed a u hh) Q E s') hd (by omega) h r fun tk => ?_
 ·exact z
 ·have I' : Inv X pins σ H { s with toks := tk } := I.tok tk
  have at_ : ∀ i (hi : i < es.size), (es[i]).1 = mW X.w (tr[i]'(by omega)) ∧ (tr[i]'(by omega)).toD.deep ≤ 8 ∧ ∃ y, cB X.K H (tr[i]'(by omega)).toD y ∧ RelV y (es[i]).2 := fun i hi => by
   have z := Paired.at2 hE i (by simpa using hi) (by omega)
   simpa using z
  refine Jj (s := { s with toks := tk }) (eqv := fun i => eqT (tr.getD i (.int 0)) t) hS ?_ hs (fun i hi _ => ?_) (fun Q' q => Dn I' hd h r _ (fun v hv => ?_) q) (fun Q' q => BA I' 8 8 _ _ _ hd (Nat.le_refl _) h r (by rw [hv]; exact q)) (fun hex => ?_) fun ji h' mh Al hS' hp => ?_
  ·obtain ⟨l, rfl⟩ := ht
   obtain ⟨p, _, _, e, _⟩ := jq I h r
   exact ⟨p, e⟩
  ·obtain ⟨_, h2, y, h3, h4⟩ := at_ i hi
   have e : tr.getD i (.int 0) = tr[i]'(by omega) := by simp [show i < tr.length by omega]
   show SeqAt.EqAt A _ _ _ (eqT (tr.getD i (.int 0)) t)
   rw [e]
   exact gY I' rfl 8 A h2 (by omega) h3 h h4 r
  ·refine hE.Jl ?_
   obtain ⟨e, he, rfl⟩ := List.mem_map.mp hv
   refine List.mem_map.mpr ⟨e, ?_, rfl⟩
   rw [Array.mem_toList_iff] at he ⊢
   exact (Array.mem_filter.mp he).1
  ·obtain ⟨i, hi, e1, e2⟩ := hex
   have e : tr.getD i (.int 0) = tr[i]'(by omega) := by simp [show i < tr.length by omega]
   have e2 : eqT (tr.getD i (.int 0)) t = true := e2
   rw [e] at e2
   refine hQ false s.heap tk es tr (.inr rfl) hS hE ?_
   unfold nz
   rw [if_pos (List.any_eq_true.mpr ⟨_, List.getElem_mem (by omega), e2⟩)]
  ·have hE' : G1 X.w X.K H ((mW X.w t, u) :: es.toList) (t :: tr) := .cons ⟨rfl, hd, x, h, r⟩ hE
   obtain ⟨AG, p1, p2⟩ := oC hp hE'
   refine hQ true h' tk mh AG (.inl Al) hS' p2 ?_
   unfold nz
   have hany : ¬ (tr.any fun b => eqT b t) = true := fun hz => by
    obtain ⟨b, hb, e⟩ := List.any_eq_true.mp hz
    obtain ⟨i, hi, rfl⟩ := List.mem_iff_getElem.mp hb
    have hi' : i < es.size := by omega
    refine ji ⟨i, hi', ?_, ?_⟩
    ·rw [(at_ i hi').1, jo e]
    ·have e3 : tr.getD i (.int 0) = tr[i] := by simp [hi]
     show eqT (tr.getD i (.int 0)) t = true
     rw [e3]; exact e
   rw [if_neg hany]
   exact p1.trans (List.perm_append_singleton t tr).symm
end
end L2
namespace L2
open PySem PySem.Spec PyProof.Rows dS
theorem FA (acc : List Tr) (t : Tr) : (nz acc t).length ≤ acc.length + 1 := by
 unfold nz
 split <;> simp
theorem lD (l : List Tr) : ∀ i, i ≤ l.length → (dd (l.take i)).length ≤ i
 | 0, _ => by simp [dd]
 | i + 1, h => by
  rw [AF l (by omega)]
  have := lD l i (by omega)
  have := FA (dd (l.take i)) (l[i]'(by omega))
  omega
theorem Dp {f : Tr → Bool} {a b : List Tr} (p : a.Perm b) : a.any f = b.any f := by
 rw [Bool.eq_iff_iff, List.any_eq_true, List.any_eq_true]
 exact ⟨fun ⟨x, h1, h2⟩ => ⟨x, p.mem_iff.mp h1, h2⟩, fun ⟨x, h1, h2⟩ => ⟨x, p.mem_iff.mpr h1, h2⟩⟩
theorem Dq {a b : List Tr} (p : a.Perm b) (t : Tr) : (nz a t).Perm (nz b t) := by
 unfold nz
 rw [Dp p]
 split
 ·exact p
 ·exact p.append_right _
theorem FC {l : Bool} {h h' : Heap} {a b : Addr} {es : Array (Int × Value)} (S : SI l h a es) (hs : Heap.SameBut b h h') (hab : a ≠ b) : SI l h' a es := by
 obtain ⟨o, ep, t, ho, r⟩ := S
 exact ⟨o, ep, t, (hs.2 a hab).trans ho, r⟩
theorem tJ : entryFor table "set.update.loop" = some Builtin.«set.update.loop» := entryFor_of_tree (by kernel_rfl)
theorem nN : plainId "set.update.loop" = true := by decide +kernel
section
variable {X : Cx} {pins : List (Addr × Obj)} {σ : St} {H : Hp} {s : Shared} {a it l : Addr} {ts : List Tr} {ys : List V} {its : List Value} {ld : Bool}
theorem Dr {A : Around} {R : Result → Shared → Prop} (I : Inv X pins σ H s) (hu : A.units + 60 < cLine) (hh : A.handled = none) (hl : s.heap.IsList l its.toArray) (rv : Vals ys its) (hT : Ts X.K H ts ys) (hlen : its.length < 900) (ML : ∀ t ∈ ts, (∃ q, t = .tup q) ∧ t.toD.deep ≤ 8 ∧ jb t = false)
  (ha : s.heap.objs.size ≤ a) (CO : s.heap.objs.size ≤ it) (hne : a ≠ it)
  (fin : ∀ h' tk es tr, (∀ b o, s.heap.get? b = some o → h'.get? b = some o) → SI ld h' a es → G1 X.w X.K H es.toList tr → tr.Perm (dd ts) → R (.ok (.ret .none)) { s with heap := h', toks := tk }) :
  ∀ (k i : Nat) (h' : Heap) (tk : Nat) (es : Array (Int × Value)) (tr : List Tr), its.length - i = k → i ≤ its.length → (∀ b o, s.heap.get? b = some o → h'.get? b = some o) → h'.IsListIter it l i → SI ld h' a es → G1 X.w X.K H es.toList tr → tr.Perm (dd (ts.take i)) →
   wpAny (model X.prog X.w) A.in1 (Builtin.«set.update.loop» ⟨[.ref a, .ref it], []⟩) (fun fin s' => match fin with | .done f => R (.ok f) s' | .again c' => c'.quiet = true ∧ codeAny (model X.prog X.w) A c' R s') (fun e s' => R (.error e) s') { s with heap := h', toks := tk } := by
 have tf := rv.length
 have mB := hT.1
 have lt : ∀ b o, s.heap.get? b = some o → b ≠ a ∧ b ≠ it := fun b o q => by
  exact ⟨Nat.ne_of_lt (Nat.lt_of_lt_of_le (Heap.lt_size q) ha), Nat.ne_of_lt (Nat.lt_of_lt_of_le (Heap.lt_size q) CO)⟩
 obtain ⟨ol, Aq, GP⟩ := id hl
 intro k
 induction k with
 | zero =>
  intro i h' tk es tr hk hi kp hit hS hE hp
  obtain rfl : i = its.length := by omega
  unfold Builtin.«set.update.loop»
  dsimp only
  refine wpAny_bind (wpAny_pyNext_list_end (s := { s with heap := h', toks := tk }) (A := A.in1) hh hit (show h'.IsList l its.toArray from ⟨ol, kp _ _ Aq, GP⟩) (by simp) fun h2 qb => ?_)
  dsimp only
  refine wpAny_pure ?_
  have WX : a ≠ it := hne
  refine fin h2 tk es tr (fun b o q => qb b o (lt b o q).2 (kp b o q)) ?_ hE (by rw [← tf, ← mB, List.take_length] at hp; exact hp)
  obtain ⟨o, ep, t, ho, r⟩ := hS
  exact ⟨o, ep, t, qb a o WX ho, r⟩
 | succ k ih =>
  intro i h' tk es tr hk hi kp hit hS hE hp
  have K3 : i < its.length := by omega
  have Jm : i < ts.length := by omega
  unfold Builtin.«set.update.loop»
  dsimp only
  refine wpAny_bind (wpAny_pyNext_list_item (s := { s with heap := h', toks := tk }) (x := its[i]) hit (show h'.IsList l its.toArray from ⟨ol, kp _ _ Aq, GP⟩) (by simp [K3]) fun h1 tm Al => ?_)
  dsimp only
  have Fh : ∀ b o, s.heap.get? b = some o → h1.get? b = some o := fun b o q => (Al.2 b (lt b o q).2).trans (kp b o q)
  have I1 : Inv X pins σ H { s with heap := h1, toks := tk } := I.kept Fh
  have hS1 : SI ld h1 a es := FC hS Al hne
  obtain ⟨u1, f1, q1⟩ := rv.get (i := i) (x := ys[i]'(by omega)) (by simp)
  have eu : its[i] = u1 := (List.getElem?_eq_some_iff.mp f1).2
  have ht := ML _ (List.getElem_mem Jm)
  have MM : es.size < 1000 := by
   have z1 := Paired.length hE
   have z2 := hp.length_eq
   have z3 := lD ts i (by omega)
   have z4 : es.toList.length = es.size := by simp
   omega
  refine wpAny_bind (wpAny_holding (Ry (s := { s with heap := h1, toks := tk }) I1 (by show A.units + 1 + 40 < cLine; omega) hS1 hE MM ht.1 ht.2.1 ht.2.2 (hT.2 i Jm (by omega)) (by rw [eu]; exact q1) fun bb h2 PF mh AG Uz hS2 Rz mI => ?_))
  have Fi : ∀ b o, s.heap.get? b = some o → h2.get? b = some o := fun b o q => by
   rcases Uz with uG | rfl
   ·exact (uG.2 b (lt b o q).1).trans (Fh b o q)
   ·exact Fh b o q
  have CS : h2.IsListIter it l (i + 1) := by
   rcases Uz with uG | rfl
   ·obtain ⟨o, ho, r⟩ := tm
    exact ⟨o, (uG.2 it (Ne.symm hne)).trans ho, r⟩
   ·exact tm
  refine wpAny_pure ?_
  refine ⟨plainId_quiet nN _, codeAny_builtin tJ ?_⟩
  rw [Around.under_plainId nN _]
  exact ih (i + 1) h2 PF mh AG (by omega) (by omega) Fi CS hS2 Rz (by rw [AF ts Jm]; exact mI.trans (Dq hp _))
end
end L2
namespace PySem
theorem typeCall_set_1 (v : Value) : checkTypeCall "set" ⟨[v], []⟩ = pure () := by kernel_rfl
theorem newCall_set_1 (v : Value) : checkBuiltinCall "set.__new__" ⟨[.type "set", v], []⟩ = pure () := by kernel_rfl
theorem sub_list_set : isSubtype (.type "list") (.type "set") = pure false := by rw [isSubtype_type]; kernel_rfl
theorem sub_list_frozenset : isSubtype (.type "list") (.type "frozenset") = pure false := by rw [isSubtype_type]; kernel_rfl
section
variable {prog : Program} {w : World} {A : Around} {E : Value → Shared → Prop} {s : Shared}
theorem rO {v : Value} {Q₁ : Value → Shared → Prop}
  (h : Q₁ (.ref s.heap.objs.size) { s with heap := s.heap.push { cls := .type "set", dict := none, data := .set #[] 0 (.fresh 0 0 (!w.params.followText "set-order")) } }) :
  codeAny (model prog w) A (.call (.builtin "set.__new__") ⟨[.type "set", v], []⟩) (wants Q₁ E) s := by
 refine codeAny_of_tree ?_
 show wpAny _ A.in1 (do checkBuiltinCall "set.__new__" ⟨[.type "set", v], []⟩; again (.builtin "set.__new__" ⟨[.type "set", v], []⟩)) _ _ s
 refine wpAny_bind (wpAny_of_eq (newCall_set_1 v) (wpAny_pure ⟨plainId_quiet F.plain_set_new _, codeAny_builtin F.entry_set_new ?_⟩))
 rw [Around.under_plainId F.plain_set_new _]
 unfold Builtin.«set.__new__» Builtin.Frozenset.newClass
 have BB := sub_set_self
 obtain ⟨hp, g, d, tk, os⟩ := s
 dsimp only
 wp_walk
 refine wpAny_askSetting (wpAny_pure ?_)
 dsimp only
 simp only [newObj]
 refine wpAny_bind (wpAny_alloc (wpAny_pure ?_))
 exact wpAny_pure h
theorem oN {M : Model} {self v : Value} {Q : Unit → Shared → Prop} (hT : s.TypeIs self "set") (hQ : Q () s) :
  wpAny M A (checkBuiltinCall "set.__init__" ⟨[self, v], []⟩) Q E s := by
 simp only [checkBuiltinCall, kind_set_init, split_set_init, sig_set_init]
 refine wpAny_bind (wpAny_isInstance hT sub_set_self ?_)
 simp only [Bool.not_true, Bool.false_eq_true, if_false]
 unfold Bind.checkArgs
 dsimp only
 refine wpAny_bind (m := Bind.printed "set" true _ _) (PyProof.Rows.printed_name (by decide) ?_)
 refine wpAny_bind (m := Bind.printed "*" false _ _) (PyProof.Rows.printed_star (self := self) rfl hT fun short => ?_)
 have WY : (Manifest.Receiver.self == Manifest.Receiver.none) = false := by decide
 have hn : (if (Manifest.Receiver.self == Manifest.Receiver.none) = true then [self, v].length else [self, v].length - 1) = 1 := by simp [WY]
 rw [hn]
 simp only [List.map_nil]
 have hc : Bind.check ⟨.positional, "set", "*", .self, [⟨"iterable", .posOnly, false⟩]⟩ "set" short 1 [] = pure () := by
  have hp : (Manifest.ParamKind.posOnly == Manifest.ParamKind.posOnly) = true := by decide
  simp [Bind.check, Bind.checkCount, Bind.isPositional, hp]
 rw [hc]
 exact wpAny_pure hQ
set_option maxHeartbeats 1000000 in
set_option maxRecDepth 100000 in
theorem yW {l : Addr} {items : Array Value} {Q : Value → Shared → Prop} (hl : s.heap.IsList l items)
  {led : Bool} (RA : led = !w.params.followText "set-order") (h : codeAny (model prog w) A.in1.in1 (.builtin "set.update.loop" ⟨[.ref s.heap.objs.size, .ref (s.heap.objs.size + 1)], []⟩) (wants (fun _ s' => Q (.ref s.heap.objs.size) s') E)
   { s with heap := (s.heap.push { cls := .type "set", dict := none, data := .set #[] 0 (.fresh 0 0 led) }).push { cls := .type "list_iterator", data := .fields #[.ref l, .int 0 0] } }) :
  wpAny (model prog w) A (call (.type "set") [.ref l]) Q E s := by
 obtain ⟨c, tl, WZ⟩ := F.called_set.mro
 have hmade := F.called_set.made
 have BB := F.called_set.sub
 refine wpAny_call (codeAny_of_tree ?_)
 show wpAny _ _ (callAny (.type "set") _) _ _ _
 refine wpAny_pure ⟨Code.quiet_builtin _ (by decide +kernel), codeAny_builtin F.entry_type_call ?_⟩
 rw [Around.under_plain (weight_type_call_type "set" [.ref l] []) rfl]
 have h1 := F.called_set.notType
 have h2 := F.called_set.canCreate
 have IF := typeCall_set_1 (.ref l)
 repeat (any_goals (first | assumption | wp_step))
 refine codeAny_mono (rO (E := E) (Q₁ := fun obj s₁ => obj = .ref s.heap.objs.size ∧ s₁ = { s with heap := s.heap.push { cls := .type "set", dict := none, data := .set #[] 0 (.fresh 0 0 led) } }) ⟨rfl, by rw [RA]⟩) fun r s₁ hr => ?_
 cases r with
 | error e => exact hr
 | ok fl =>
  cases fl with
  | ret obj =>
   obtain ⟨rfl, rfl⟩ := hr
   have hS : (s.heap.push { cls := .type "set", dict := none, data := .set #[] 0 (.fresh 0 0 led) }).get? s.heap.objs.size = some { cls := .type "set", dict := none, data := .set #[] 0 (.fresh 0 0 led) } := Heap.get?_push_size _ rfl
   have hT : Shared.TypeIs { s with heap := s.heap.push { cls := .type "set", dict := none, data := .set #[] 0 (.fresh 0 0 led) } } (.ref s.heap.objs.size) "set" := ⟨_, hS, rfl⟩
   have Zi := F.called_set.init.lookup
   have Zj := F.called_set.init.bind (.ref s.heap.objs.size)
   repeat (any_goals (first | assumption | wp_step))
   refine codeAny_mono (codeAny_call_builtin (R := wants (fun r s₂ => r = .none ∧ Q (.ref s.heap.objs.size) s₂) E) F.called_set.init.plain F.entry_set_init (oN hT ?_)) fun r₂ s₂ RB => ?_
   ·unfold Builtin.«set.__init__» noKeywords
    have hl' : (s.heap.push { cls := .type "set", dict := none, data := .set #[] 0 (.fresh 0 0 led) }).IsList l items := by obtain ⟨o, ho, r⟩ := hl; exact ⟨o, Heap.get?_push_of_some _ ho, r⟩
    have UA : Shared.TypeIs { s with heap := s.heap.push { cls := .type "set", dict := none, data := .set #[] 0 (.fresh 0 0 led) } } (.ref l) "list" := hl'.typeIs
    have MN := sub_list_set
    have La := sub_list_frozenset
    have IG : ∀ {A' : Around} {Q' : Value → Shared → Prop} {E' : Value → Shared → Prop}, Q' (.ref (s.heap.objs.size + 1)) { s with heap := (s.heap.push { cls := .type "set", dict := none, data := .set #[] 0 (.fresh 0 0 led) }).push { cls := .type "list_iterator", data := .fields #[.ref l, .int 0 0] } } →
      wpAny (model prog w) A' (pyIter (.ref l)) Q' E' { s with heap := s.heap.push { cls := .type "set", dict := none, data := .set #[] 0 (.fresh 0 0 led) } } := fun {A' Q' E'} hq => by
     have e : (s.heap.push { cls := .type "set", dict := none, data := .set #[] 0 (.fresh 0 0 led) }).objs.size = s.heap.objs.size + 1 := Heap.size_push _ _
     refine wpAny_pyIter_list (s := { s with heap := s.heap.push { cls := .type "set", dict := none, data := .set #[] 0 (.fresh 0 0 led) } }) hl' ?_
     show Q' (.ref (s.heap.push _).objs.size) _
     rw [e]
     exact hq
    wp_walk using IG
    refine codeAny_mono h fun r3 s3 RC => ?_
    cases r3 with
    | error e => exact RC
    | ok f3 =>
     cases f3 with
     | ret v3 => exact wpAny_pure (wpAny_pure ⟨rfl, RC⟩)
     | _ => exact RC.elim
   ·cases r₂ with
    | error e => exact RB
    | ok W0 =>
     cases W0 with
     | ret r =>
      obtain ⟨rfl, hq⟩ := RB
      repeat (any_goals (first | assumption | wp_step))
     | _ => exact RB.elim
  | _ => exact hr.elim
end
end PySem
namespace PySem.F
theorem bG : Slot "set_iterator" "__next__" "set_iterator.__next__" :=
 .of (owner := "set_iterator") (n := "__next__") (by rw [typeLookup_type, builtinLookup_eq_fast]; kernel_rfl) (by decide +kernel) (by decide +kernel) (by decide +kernel)
  (by first | exact .inl (by decide +kernel) | exact .inr (by decide +kernel)) (by rw [isSubtype_type]; kernel_rfl)
theorem jc : entryFor table "set_iterator.__next__" = some Builtin.«set_iterator.__next__» := entryFor_of_tree (by kernel_rfl)
theorem jr (a : Value) : argsOk "set_iterator.__next__" ⟨[a], []⟩ := by unfold argsOk; kernel_rfl
theorem js : Slot "set_iterator" "__iter__" "set_iterator.__iter__" :=
 .of (owner := "set_iterator") (n := "__iter__") (by rw [typeLookup_type, builtinLookup_eq_fast]; kernel_rfl) (by decide +kernel) (by decide +kernel) (by decide +kernel)
  (by first | exact .inl (by decide +kernel) | exact .inr (by decide +kernel)) (by rw [isSubtype_type]; kernel_rfl)
theorem oO : entryFor table "set_iterator.__iter__" = some Builtin.«dict_keyiterator.__iter__» :=
 entryFor_alias (id' := "dict_keyiterator.__iter__") (by kernel_rfl) rfl (by decide +kernel) (by kernel_rfl)
theorem qp (a : Value) : argsOk "set_iterator.__iter__" ⟨[a], []⟩ := by unfold argsOk; kernel_rfl
theorem oP : entryFor table "set.__iter__" = some Builtin.«frozenset.__iter__» :=
 entryFor_alias (id' := "frozenset.__iter__") (by kernel_rfl) rfl (by decide +kernel) (by kernel_rfl)
end PySem.F
namespace dS
open PySem
theorem qr {α : Type} {l : List α} {i : Nat} (h : i < l.length) : (l[i] :: l.eraseIdx i).Perm l := by
 rw [List.eraseIdx_eq_take_drop_succ]
 have e : l = l.take i ++ l[i] :: l.drop (i + 1) := by rw [List.getElem_cons_drop, List.take_append_drop]
 conv => rhs; rw [e]
 exact List.perm_middle.symm
theorem AH {α : Type} (next : Nat → Nat) : ∀ (n k : Nat) (left : List α) (out : Array α), left.length = n → (pickOrder.go next n k left out).toList.Perm (out.toList ++ left)
 | 0, k, left, out, h => by
  have : left = [] := List.length_eq_zero_iff.mp h
  subst this
  rw [List.append_nil]
  exact .refl _
 | n + 1, k, left, out, h => by
  have hi : next k % left.length < left.length := Nat.mod_lt _ (by omega)
  unfold pickOrder.go
  rw [Ge9 hi]
  dsimp only
  refine (AH next n (k + 1) _ _ (by rw [List.length_eraseIdx_of_lt hi]; omega)).trans ?_
  rw [Array.toList_push, List.append_assoc]
  exact (qr hi).append_left _
theorem tK {α : Type} (next : Nat → Nat) (xs : Array α) : (pickOrder next xs).toList.Perm xs.toList := by
 have z := AH next xs.size 0 xs.toList #[] (by simp)
 simpa [pickOrder] using z
section
variable {M : Model} {A : Around} {E : Value → Shared → Prop} {s : Shared}
theorem BC {src : Source} {n : Nat} {Q : Nat → Shared → Prop} (hn : n ≠ 0) (h : ∀ k dr, k < n → Q k { s with drawn := dr }) : wpAny M A (choose src n) Q E s :=
 fun _ _ _ => ⟨hn, h _ _ (Nat.mod_lt _ (Nat.pos_of_ne_zero hn))⟩
theorem AI {α : Type} : ∀ (n : Nat) (xs : List α) (s : Shared) (Q : List α → Shared → Prop), xs.length = n → (∀ l dr, l.Perm xs → Q l { s with drawn := dr }) → wpAny M A (drawOrder n xs) Q E s
 | 0, xs, s, Q, h, hQ => by
  have : xs = [] := List.length_eq_zero_iff.mp h
  subst this
  exact wpAny_pure (hQ [] s.drawn (.refl _))
 | n + 1, [], s, Q, h, hQ => by cases h
 | n + 1, x :: xs, s, Q, h, hQ => by
  unfold drawOrder
  refine wpAny_bind (BC (by simp) fun k dr hk => ?_)
  rw [Ge9 hk]
  dsimp only
  refine wpAny_bind (AI n _ _ _ (by rw [List.length_eraseIdx_of_lt hk]; omega) fun l W2 hp => wpAny_pure ?_)
  exact hQ _ W2 ((hp.cons _).trans (qr hk))
end
def ft (h : Heap) (I a : Addr) (first : Value) (i n ep : Nat) : Prop := ∃ o, h.get? I = some o ∧ o.cls = .type "set_iterator" ∧ o.data = .fields #[first, .int i 0, .ref a, .int n 0, .int ep 0]
def dv (h : Heap) (a : Addr) (es : Array (Int × Value)) (ep : Nat) (t : SetTable) : Prop := ∃ o, h.get? a = some o ∧ o.cls = .type "set" ∧ o.data = .set es ep t
def Way (w : World) (h : Heap) (a : Addr) (es : Array (Int × Value)) (ep : Nat) (t : SetTable) (pl : List Nat) (T : Addr) (ord : List Value) (i : Nat) (first : Value) : Prop :=
 (w.params.followText "set-order" = true ∧ first = .int 0 0 ∧ ord = (pickOrder (w.params.setOrder a ep) es).toList.map (·.2)) ∨
 (w.params.followText "set-order" = false ∧ first = .ref T ∧ h.IsTuple T (pl.map fun (j : Nat) => Value.int j 0).toArray ∧ pl.Perm (List.range es.size) ∧ ord = pl.map fun j => (es.getD j (0, .none)).2) ∨
 (w.params.followText "set-order" = false ∧ t.led = true ∧ es.size ≤ 1 ∧ ord = es.toList.map (·.2) ∧ ((i = 0 ∧ first = .int 0 0) ∨ (i = 1 ∧ ∃ k : Nat, first = .int k 0 ∧ ∀ j, j < t.place.size → t.place.getD j 0 < k)))
end dS
namespace dS
open PySem
section
variable {prog : Program} {w : World} {A : Around} {E : Value → Shared → Prop} {s : Shared} {I a T : Addr} {first : Value} {i ep : Nat} {es : Array (Int × Value)} {t : SetTable} {pl : List Nat} {ord : List Value}
theorem ft.typeIs {h : Heap} {n : Nat} (x : ft s.heap I a first i n ep) : s.TypeIs (.ref I) "set_iterator" := let ⟨o, ho, hc, _⟩ := x; ⟨o, ho, hc⟩
theorem lF {Q : Array (Int × Value) → Shared → Prop} (hS : dv s.heap a es ep t) (hf : t.fits es.size = true) (h : Q es s) : wpAny (model prog w) A (setEntries a) Q E s := by
 obtain ⟨o, ho, _, hd⟩ := hS
 unfold setEntries
 exact wpAny_bind (wpAny_setState_of ho hd hf (wpAny_pure h))
theorem dX {Q : Bool → Shared → Prop} (h : Q (w.params.followText "set-order") s) : wpAny (model prog w) A setsByText Q E s := by
 unfold setsByText
 exact wpAny_bind (wpAny_askSetting (wpAny_pure h))
theorem uY (W : Way w s.heap a es ep t pl T ord i first) : ord.length = es.size := by
 rcases W with ⟨_, _, e⟩ | ⟨_, _, _, p, e⟩ | ⟨_, _, _, e, _⟩
 ·rw [e, Lm9, (tK _ es).length_eq, Array.length_toList]
 ·rw [e, Lm9, p.length_eq, List.length_range]
 ·rw [e, Lm9, Array.length_toList]
theorem range_getD (es : Array (Int × Value)) : ∀ n, n ≤ es.size → (List.range n).map (fun j => (es.getD j (0, .none)).2) = (es.toList.take n).map (·.2) := fun n hn => by
 apply List.ext_getElem (by simp; omega)
 intro j h1 h2
 have hj : j < es.size := by simp at h1; omega
 simp [hj]
theorem Ds (W : Way w s.heap a es ep t pl T ord i first) : ord.Perm (es.toList.map (·.2)) := by
 rcases W with ⟨_, _, e⟩ | ⟨_, _, _, p, e⟩ | ⟨_, _, _, e, _⟩
 ·rw [e]; exact (tK _ es).map _
 ·rw [e]
  have z := p.map (fun j => (es.getD j (0, Value.none)).2)
  rw [range_getD es es.size (Nat.le_refl _), List.take_of_length_le (by simp)] at z
  exact z
 ·rw [e]
theorem Jn {h : Heap} {n : Nat} (x : ft h I a first i n ep) : ft (h.update I (Obj.mapFields (·.setIfInBounds 1 (rawInt ((i : Int) + 1))))) I a first (i + 1) n ep := by
 obtain ⟨o, ho, hc, hd⟩ := x
 exact ⟨_, Heap.get?_update_self _ ho (Obj.isFreed_of_fields (Obj.data_mapFields hd _)), (Obj.cls_mapFields ..).trans hc, by rw [Obj.data_mapFields hd]; simp [rawInt]⟩
theorem Jo {h : Heap} {n : Nat} {f : Value} (x : ft h I a first i n ep) : ft (h.update I (Obj.mapFields (·.setIfInBounds 0 f))) I a f i n ep := by
 obtain ⟨o, ho, hc, hd⟩ := x
 exact ⟨_, Heap.get?_update_self _ ho (Obj.isFreed_of_fields (Obj.data_mapFields hd _)), (Obj.cls_mapFields ..).trans hc, by rw [Obj.data_mapFields hd]; simp⟩
theorem Jp {n : Nat} {Q : Unit → Shared → Prop} (x : ft s.heap I a first i n ep) (h : Q () { s with heap := s.heap.update I (Obj.mapFields (·.setIfInBounds 1 (rawInt ((i : Int) + 1)))) }) : wpAny (model prog w) A (setField (.ref I) 1 (rawInt ((i : Int) + 1))) Q E s := by
 obtain ⟨o, ho, hc, hd⟩ := x
 exact wpAny_setField ho hd (by simp) h
theorem Jq {n : Nat} {f : Value} {Q : Unit → Shared → Prop} (x : ft s.heap I a first i n ep) (h : Q () { s with heap := s.heap.update I (Obj.mapFields (·.setIfInBounds 0 f)) }) : wpAny (model prog w) A (setField (.ref I) 0 f) Q E s := by
 obtain ⟨o, ho, hc, hd⟩ := x
 exact wpAny_setField ho hd (by simp) h
set_option maxHeartbeats 1000000 in
theorem next_item {Q : Option Value → Shared → Prop} (uZ : wt t (es.map (·.1))) (MO : I ≠ T) (hIa : I ≠ a) (hit : ft s.heap I a first i es.size ep) (hS : dv s.heap a es ep t) (W : Way w s.heap a es ep t pl T ord i first) (hi : i < es.size)
  (hQ : ∀ v h' Du, ord[i]? = some v → ft h' I a Du (i + 1) es.size ep → Way w h' a es ep t pl T ord (i + 1) Du → Heap.SameBut I s.heap h' → Q (some v) { s with heap := h' }) : wpAny (model prog w) A (pyNext (.ref I)) Q E s := by
 obtain ⟨o, ho, hc, hd⟩ := id hit
 have hf := uZ.fits
 have Aq := uY W
 unfold pyNext
 refine wpAny_bind (wpAny_attempt (wpAny_callSpecial?_slot (name := Str.ofString "__next__") (ft.typeIs (h := s.heap) hit) F.bG
  (wpAny_call_entry F.bG (ft.typeIs (h := s.heap) hit) F.jc ?_ (F.jr _))))
 unfold Builtin.«set_iterator.__next__»
 refine wpAny_bind (wpAny_of_eq (a := (Value.ref I, [])) rfl ?_)
 dsimp only
 refine wpAny_bind (wpAny_fieldsOf ho hd ?_)
 dsimp only
 refine wpAny_bind (lF hS hf ?_)
 rw [if_neg (by simp)]
 rcases id W with ⟨hT, rfl, e⟩ | ⟨hT, rfl, hp, pp, e⟩ | ⟨hT, hl, h1, e, hw⟩
 ·dsimp only
  unfold setNext
  obtain ⟨oa, x8, _, tw⟩ := id hS
  refine wpAny_bind (wpAny_bind (wpAny_setState_of x8 tw hf ?_))
  dsimp only
  refine wpAny_bind (dX ?_)
  rw [hT]
  simp only [if_true, Int.toNat_natCast, bne_self_eq_false, Bool.false_eq_true, if_false]
  unfold setWalk
  refine wpAny_bind (wpAny_bind (wpAny_setState_of x8 tw hf ?_))
  dsimp only
  refine wpAny_bind (dX ?_)
  rw [hT]
  simp only [if_true]
  refine wpAny_bind (wpAny_askSetting (wpAny_pure ?_))
  refine wpAny_pure ?_
  have UB : i < ord.length := by omega
  have hx : (pickOrder (w.params.setOrder a ep) es)[i]?.map (·.2) = some ord[i] := by
   rw [← Array.getElem?_toList, ← List.getElem?_map, ← e, Ge9 UB]
  obtain ⟨y, hy, W3⟩ := Option.map_eq_some_iff.mp hx
  have hy' : (pickOrder ({ program := (model prog w).prog, params := (model prog w).w.params : Setting }.params.setOrder a ep) es)[i]? = some y := hy
  rw [hy']
  dsimp only [Option.map]
  refine wpAny_bind (Jq hit ?_)
  have h0 := Jo (f := rawInt ((Int.toNat 0 : Nat) : Int)) hit
  refine wpAny_bind (Jp (s := { s with heap := _ }) h0 ?_)
  refine wpAny_pure ⟨_, rfl, wpAny_pure (hQ _ _ _ (by rw [Ge9 UB, W3]) (Jn h0) (.inl ⟨hT, rfl, e⟩) ((Heap.SameBut.update ..).trans (Heap.SameBut.update ..)))⟩
 ·dsimp only
  obtain ⟨oT, MP, _, nT, RD⟩ := id hp
  refine wpAny_bind (wpAny_seqItems MP RD ?_)
  dsimp only
  have hpl : i < pl.length := by rw [pp.length_eq, List.length_range]; exact hi
  have hj : pl[i] < es.size := List.mem_range.mp (pp.mem_iff.mp (List.getElem_mem hpl))
  have hx : (pl.map fun (j : Nat) => Value.int j 0).toArray[((i : Nat) : Int).toNat]? = some (Value.int (pl[i] : Nat) 0) := by simp [hpl]
  rw [hx]
  dsimp only
  refine wpAny_bind ?_
  unfold setNextDrawn
  obtain ⟨oa, x8, _, tw⟩ := id hS
  refine wpAny_bind (wpAny_setState_of x8 tw hf ?_)
  dsimp only
  simp only [Int.toNat_natCast, bne_self_eq_false, Bool.false_eq_true, if_false, Array.getElem?_eq_getElem hj]
  refine wpAny_pure ?_
  refine wpAny_bind (Jp hit ?_)
  refine wpAny_pure ⟨_, rfl, wpAny_pure (hQ _ _ _ ?_ (Jn hit) (.inr (.inl ⟨hT, rfl, ⟨oT, (Heap.get?_update_other _ _ MO).trans MP, ?_⟩, pp, e⟩)) (Heap.SameBut.update ..))⟩
  ·subst e
   simp [hpl, hj]
  ·obtain ⟨Zk, MQ, r⟩ := hp
   rw [MP] at MQ
   cases MQ
   exact r
 ·have W4 : i = 0 := by omega
  subst W4
  rcases hw with ⟨_, rfl⟩ | ⟨z, _⟩
  ·dsimp only
   unfold setNext
   obtain ⟨oa, x8, _, tw⟩ := id hS
   refine wpAny_bind (wpAny_bind (wpAny_setState_of x8 tw hf ?_))
   dsimp only
   refine wpAny_bind (dX ?_)
   rw [hT]
   have RE : t.place.size = es.size := by have z := uZ.sz; rw [Array.size_map] at z; exact z
   have hb : SetTable.below t.place (Int.toNat 0) = 0 := by
    have z := g9 t.place uZ.tb.ri (Int.toNat 0)
    rcases Nat.eq_zero_or_pos (SetTable.below t.place (Int.toNat 0)) with q | q
    ·exact q
    ·exact absurd (z.2.1 0 q) (Nat.not_lt_zero _)
   refine wpAny_ite_split (fun hab => absurd hab (by decide)) fun _ => ?_
   refine wpAny_ite_split (fun hab => absurd hab (show ¬ ((!t.plain && decide (es.size > 1)) = true) from by simp; omega)) fun _ => ?_
   refine wpAny_bind (show wpAny (model prog w) A.in1 (if (!t.led && !es.isEmpty) = true then unsupported "set:maker-not-led" else pure ()) _ _ s from ?_)
   rw [hl]
   refine wpAny_ite_split (fun hab => absurd hab (by simp)) fun _ => ?_
   refine wpAny_pure (wpAny_pure ?_)
   rw [hb, Array.getElem?_eq_getElem (by omega), Array.getElem?_eq_getElem (by omega)]
   dsimp only
   refine wpAny_bind (Jq hit ?_)
   have h0 := Jo (f := rawInt ((t.place[0]'(by omega) + 1 : Nat) : Int)) hit
   refine wpAny_bind (Jp (s := { s with heap := _ }) h0 ?_)
   refine wpAny_pure ⟨_, rfl, wpAny_pure (hQ _ _ _ ?_ (Jn h0) (.inr (.inr ⟨hT, hl, h1, e, .inr ⟨rfl, _, rfl, fun j hj => ?_⟩⟩)) ((Heap.SameBut.update ..).trans (Heap.SameBut.update ..)))⟩
   ·subst e
    simp [hi]
   ·have : j = 0 := by omega
    subst this
    simp [hj]
  ·cases z
set_option maxHeartbeats 1000000 in
theorem next_end {Q : Option Value → Shared → Prop} (hh : A.handled = none) (uZ : wt t (es.map (·.1))) (hit : ft s.heap I a first es.size es.size ep) (hS : dv s.heap a es ep t) (W : Way w s.heap a es ep t pl T ord es.size first)
  (hQ : ∀ h', Heap.ExtBut I s.heap h' → Q none { s with heap := h' }) : wpAny (model prog w) A (pyNext (.ref I)) Q E s := by
 obtain ⟨o, ho, hc, hd⟩ := id hit
 have hf := uZ.fits
 have Aq := uY W
 have fin : ∀ (h1 : Heap) (f : Value), ft h1 I a f es.size es.size ep → Heap.ExtBut I s.heap h1 → wpAny (model prog w) A.in1 (do
   setField (Value.ref I) 2 Value.none
   let e ← newExc (Value.type "StopIteration") []
   raiseNew e : Sem PySem.Fin) (fun fin s' => ∃ v, fin = PySem.Fin.done (Flow.ret v) ∧ wpAny (model prog w) A (pure (some v)) Q E s') (fun e s' => wpAny (model prog w) A (do
     let b ← isInstance e (Value.type "StopIteration")
     if b = true then pure none else throw e) Q E s') { s with heap := h1 } := fun h1 f W5 hex => by
  obtain ⟨o1, C6, MA, C8⟩ := W5
  refine wpAny_bind (wpAny_setField (s := { s with heap := h1 }) C6 C8 (by simp) ?_)
  refine wpAny_bind ?_
  simp only [newExc, newTuple]
  refine wpAny_bind (wpAny_newObj_type ?_ (by size_fits))
  refine wpAny_bind (m := firstArgMember _ _) (wpAny_of_eq (a := Value.none) (by first | rfl | (simp only [firstArgMember]; rfl)) ?_)
  refine wpAny_newObj_type ?_ (by size_fits)
  simp only [raiseNew]
  refine wpAny_bind (wpAny_handled ?_)
  rw [show A.in1.handled = none from hh]
  refine wpAny_bind (wpAny_pure (wpAny_throw ?_))
  refine wpAny_bind (wpAny_isInstance (T := "StopIteration") (b := true) ⟨_, Heap.get?_push_size _ rfl, rfl⟩ isSubtype_stop ?_)
  refine wpAny_pure (hQ _ fun b ob hb MR => ?_)
  exact Heap.get?_push_of_some _ (Heap.get?_push_of_some _ ((Heap.get?_update_other _ _ (Ne.symm hb)).trans (hex b ob hb MR)))
 unfold pyNext
 refine wpAny_bind (wpAny_attempt (wpAny_callSpecial?_slot (name := Str.ofString "__next__") (ft.typeIs (h := s.heap) hit) F.bG
  (wpAny_call_entry F.bG (ft.typeIs (h := s.heap) hit) F.jc ?_ (F.jr _))))
 unfold Builtin.«set_iterator.__next__»
 refine wpAny_bind (wpAny_of_eq (a := (Value.ref I, [])) rfl ?_)
 dsimp only
 refine wpAny_bind (wpAny_fieldsOf ho hd ?_)
 dsimp only
 refine wpAny_bind (lF hS hf ?_)
 rw [if_neg (by simp)]
 rcases id W with ⟨hT, rfl, e⟩ | ⟨hT, rfl, hp, pp, e⟩ | ⟨hT, hl, h1, e, hw⟩
 ·dsimp only
  unfold setNext
  obtain ⟨oa, x8, _, tw⟩ := id hS
  refine wpAny_bind (wpAny_bind (wpAny_setState_of x8 tw hf ?_))
  dsimp only
  refine wpAny_bind (dX ?_)
  rw [hT]
  simp only [if_true, Int.toNat_natCast, bne_self_eq_false, Bool.false_eq_true, if_false]
  unfold setWalk
  refine wpAny_bind (wpAny_bind (wpAny_setState_of x8 tw hf ?_))
  dsimp only
  refine wpAny_bind (dX ?_)
  rw [hT]
  simp only [if_true]
  refine wpAny_bind (wpAny_askSetting (wpAny_pure ?_))
  refine wpAny_pure ?_
  have hy : (pickOrder (w.params.setOrder a ep) es)[es.size]? = none := by
   rw [Array.getElem?_eq_none_iff]
   rw [e, Lm9, Array.length_toList] at Aq
   omega
  have hy' : (pickOrder ({ program := (model prog w).prog, params := (model prog w).w.params : Setting }.params.setOrder a ep) es)[es.size]? = none := hy
  rw [hy']
  exact fin s.heap _ hit fun _ _ _ z => z
 ·dsimp only
  obtain ⟨oT, MP, _, nT, RD⟩ := id hp
  refine wpAny_bind (wpAny_seqItems MP RD ?_)
  dsimp only
  have hpl : pl.length = es.size := by rw [pp.length_eq, List.length_range]
  have hx : (pl.map fun (j : Nat) => Value.int j 0).toArray[((es.size : Nat) : Int).toNat]? = none := by simp [hpl]
  rw [hx]
  dsimp only
  refine wpAny_bind (Jq hit ?_)
  exact fin _ _ (Jo hit) fun b ob hb MR => (Heap.get?_update_other _ _ (Ne.symm hb)).trans MR
 ·have RE : t.place.size = es.size := by have z := uZ.sz; rw [Array.size_map] at z; exact z
  have hk : ∃ k : Nat, first = .int k 0 ∧ es.size ≤ SetTable.below t.place k := by
   rcases hw with ⟨z, rfl⟩ | ⟨z, k, rfl, hk⟩
   ·exact ⟨0, rfl, by omega⟩
   ·refine ⟨k, rfl, ?_⟩
    have q := g9 t.place uZ.tb.ri k
    rcases Nat.lt_or_ge (SetTable.below t.place k) es.size with y | y
    ·have := q.2.2 (SetTable.below t.place k) (Nat.le_refl _) (by omega)
     have := hk (SetTable.below t.place k) (by omega)
     omega
    ·exact y
  obtain ⟨k, rfl, hb⟩ := hk
  dsimp only
  unfold setNext
  obtain ⟨oa, x8, _, tw⟩ := id hS
  refine wpAny_bind (wpAny_bind (wpAny_setState_of x8 tw hf ?_))
  dsimp only
  refine wpAny_bind (dX ?_)
  rw [hT]
  refine wpAny_ite_split (fun hab => absurd hab (by decide)) fun _ => ?_
  refine wpAny_ite_split (fun hab => absurd hab (show ¬ ((!t.plain && decide (es.size > 1)) = true) from by simp; omega)) fun _ => ?_
  refine wpAny_bind (show wpAny (model prog w) A.in1 (if (!t.led && !es.isEmpty) = true then unsupported "set:maker-not-led" else pure ()) _ _ s from ?_)
  rw [hl]
  refine wpAny_ite_split (fun hab => absurd hab (by simp)) fun _ => ?_
  refine wpAny_pure (wpAny_pure ?_)
  rw [Int.toNat_natCast, Array.getElem?_eq_none_iff.mpr hb]
  exact fin s.heap _ hit fun _ _ _ z => z
theorem FF {n : Nat} {Q : Value → Shared → Prop} (hit : ft s.heap I a first i n ep) (h : Q (.ref I) s) : wpAny (model prog w) A (pyIter (.ref I)) Q E s := by
 refine wpAny_pyIter_slot (ft.typeIs (h := s.heap) hit) F.js (wpAny_call_entry F.js (ft.typeIs (h := s.heap) hit) F.oO ?_ (F.qp _))
 show wpAny _ _ (ret (.ref I)) _ _ s
 exact wpAny_pure ⟨_, rfl, "set_iterator", _, ft.typeIs (h := s.heap) hit, F.bG.lookup, h⟩
theorem BD (hh : A.handled = none) (uZ : wt t (es.map (·.1))) (MO : I ≠ T) (hIa : I ≠ a) :
  Walks prog w A I [I, a, T] [I] es.size (fun i v => ord[i]? = some v) (fun i h => ∃ first, ft h I a first i es.size ep ∧ dv h a es ep t ∧ Way w h a es ep t pl T ord i first) where
 sub := fun b hb => by simp at hb; simp [hb]
 frame := fun i h h' ⟨first, ⟨o, ho, r⟩, ⟨o2, xV, r2⟩, W⟩ hk => ⟨first, ⟨o, hk I (by simp) o ho, r⟩, ⟨o2, hk a (by simp) o2 xV, r2⟩, by
  rcases W with z | ⟨z1, z2, ⟨o3, W6, r3⟩, z4⟩ | z
  ·exact .inl z
  ·exact .inr (.inl ⟨z1, z2, ⟨o3, hk T (by simp) o3 W6, r3⟩, z4⟩)
  ·exact .inr (.inr z)⟩
 item := fun i s Q E hi ⟨first, hit, hS, W⟩ hQ => next_item uZ MO hIa hit hS W hi fun v h' f' hv hit' W' sb => by
  obtain ⟨o2, xV, r2⟩ := hS
  exact hQ v h' s.toks hv ⟨f', hit', ⟨o2, (sb.2 a (Ne.symm hIa)).trans xV, r2⟩, W'⟩ fun b o hb ho => (sb.2 b (by simpa using hb)).trans ho
 done := fun s Q E ⟨first, hit, hS, W⟩ hQ => next_end hh uZ hit hS W fun h' hx => hQ h' s.toks fun b o hb ho => hx b o (by simpa using hb) ho
 self := fun i s Q E ⟨first, hit, hS, W⟩ h => FF hit h
end
end dS
namespace dS
open PySem
section
variable {prog : Program} {w : World} {A : Around} {E : Value → Shared → Prop} {s : Shared} {a : Addr} {ep : Nat} {es : Array (Int × Value)} {t : SetTable}
theorem dv.push {h : Heap} (x : dv h a es ep t) (o : Obj) : dv (h.push o) a es ep t := let ⟨o', ho, r⟩ := x; ⟨o', Heap.get?_push_of_some _ ho, r⟩
set_option maxHeartbeats 1000000 in
theorem FG {Q : Value → Shared → Prop} (uZ : wt t (es.map (·.1))) (hS : dv s.heap a es ep t) (hl : t.led = !w.params.followText "set-order") (hp : 1 ≤ es.size → t.plain = false) (hsz : es.size < 1000)
  (hQ : ∀ I T first pl ord h' dr, s.heap.objs.size ≤ I → s.heap.objs.size ≤ T → I ≠ T → (∀ b o, s.heap.get? b = some o → h'.get? b = some o) → ft h' I a first 0 es.size ep → dv h' a es ep t → Way w h' a es ep t pl T ord 0 first → Q (.ref I) { s with heap := h', drawn := dr }) :
  wpAny (model prog w) A (pyIter (.ref a)) Q E s := by
 obtain ⟨o, ho, hc, hd⟩ := id hS
 have hT : s.TypeIs (.ref a) "set" := ⟨o, ho, hc⟩
 have hf := uZ.fits
 refine wpAny_pyIter_slot hT F.slot_set_iter (wpAny_call_entry F.slot_set_iter hT F.oP ?_ (F.args_set_iter_1 _))
 unfold Builtin.«frozenset.__iter__»
 refine wpAny_bind (wpAny_of_eq (a := a) rfl ?_)
 dsimp only
 refine wpAny_bind (m := Builtin.Frozenset.sizeOf a) (show wpAny _ _ (setEntries a >>= fun es => pure es.size) _ _ _ from wpAny_bind (lF hS hf (wpAny_pure ?_)))
 refine wpAny_bind (m := setDrawn a) (show wpAny _ _ (setState a >>= fun q => setsByText >>= fun b => pure (!b && (!q.2.2.plain && decide (q.1.size > 1)))) _ _ _ from wpAny_bind (wpAny_setState_of ho hd hf (wpAny_bind (dX (wpAny_pure ?_)))))
 have UC : ∀ {A' : Around} {E' : Value → Shared → Prop} {s' : Shared} {Q' : Nat → Shared → Prop}, dv s'.heap a es ep t → Q' ep s' → wpAny (model prog w) A' (setEpoch a) Q' E' s' := fun {A' E' s' Q'} ⟨o', ho', _, hd'⟩ q => by
  unfold setEpoch
  exact wpAny_bind (wpAny_setState_of ho' hd' hf (wpAny_pure q))
 by_cases hdr : (!w.params.followText "set-order" && (!t.plain && decide (es.size > 1))) = true
 ·rw [if_pos hdr]
  have h1 : w.params.followText "set-order" = false := by simpa using (Bool.and_eq_true_iff.mp hdr).1
  refine wpAny_bind (AI _ _ _ _ (List.length_range) fun l dr hp => ?_)
  have mB : l.length = es.size := by rw [hp.length_eq, List.length_range]
  refine wpAny_bind (wpAny_newObj_type (T := "tuple") (data := .seq (l.map fun (i : Nat) => rawInt i).toArray) ?_ (by show (l.map fun (i : Nat) => rawInt i).toArray.size ≤ sizeLine; simp only [List.size_toArray, Lm9]; rw [sizeLine_eq]; omega))
  refine wpAny_bind (UC (dv.push hS _) ?_)
  refine wpAny_bind (wpAny_newObj_type ?_ (by size_fits))
  refine wpAny_pure ⟨_, rfl, "set_iterator", _, ⟨_, Heap.get?_push_size _ rfl, rfl⟩, F.bG.lookup, ?_⟩
  have e1 : ∀ o, (s.heap.push o).objs.size = s.heap.objs.size + 1 := fun o => Heap.size_push _ _
  refine hQ _ s.heap.objs.size (.ref s.heap.objs.size) l _ _ dr (by rw [e1]; omega) (Nat.le_refl _) (by rw [e1]; omega) (fun b o q => Heap.get?_push_of_some _ (Heap.get?_push_of_some _ q)) ⟨_, Heap.get?_push_size _ rfl, rfl, rfl⟩ (dv.push (dv.push hS _) _) (.inr (.inl ⟨h1, rfl, ⟨_, Heap.get?_push_of_some _ (Heap.get?_push_size _ rfl), rfl, 0, rfl⟩, hp, rfl⟩))
 ·rw [if_neg hdr]
  refine wpAny_bind (wpAny_pure ?_)
  refine wpAny_bind (UC hS ?_)
  refine wpAny_bind (wpAny_newObj_type ?_ (by size_fits))
  refine wpAny_pure ⟨_, rfl, "set_iterator", _, ⟨_, Heap.get?_push_size _ rfl, rfl⟩, F.bG.lookup, ?_⟩
  cases h1 : w.params.followText "set-order" with
  | true => exact hQ s.heap.objs.size (s.heap.objs.size + 1) (.int 0 0) [] _ _ s.drawn (Nat.le_refl _) (by omega) (by omega) (fun b o q => Heap.get?_push_of_some _ q) ⟨_, Heap.get?_push_size _ rfl, rfl, rfl⟩ (dv.push hS _) (.inl ⟨h1, rfl, rfl⟩)
  | false =>
   rw [h1] at hl hdr
   refine hQ s.heap.objs.size (s.heap.objs.size + 1) (.int 0 0) [] _ _ s.drawn (Nat.le_refl _) (by omega) (by omega) (fun b o q => Heap.get?_push_of_some _ q) ⟨_, Heap.get?_push_size _ rfl, rfl, rfl⟩ (dv.push hS _) (.inr (.inr ⟨h1, hl, ?_, rfl, .inl ⟨rfl, rfl⟩⟩))
   rcases Nat.lt_or_ge 1 es.size with q | q
   ·exfalso
    apply hdr
    rw [hp (by omega)]
    simp [q]
   ·exact q
end
end dS
namespace dS
open PySem PySem.W PyProof.Rows
section
variable {prog : Program} {w : World} {A : Around} {E : Value → Shared → Prop} {s : Shared} {a : Addr} {ep : Nat} {es : Array (Int × Value)} {t : SetTable}
theorem Dv {Q : Bool → Shared → Prop} (hT : s.TypeIs (.ref a) "set") (h : Q false s) : wpAny (model prog w) A (Builtin.List.listLengthHint (.ref a)) Q E s := by
 unfold Builtin.List.listLengthHint
 refine wpAny_bind (wpAny_specialOf hT PySem.F.slot_set_len.lookup ?_)
 generalize UD : ("set.__len__" : String) = W7
 wp_delta
 rw [show splitId W7 = some ("set", "__len__") from by subst UD; decide +kernel]
 subst UD
 refine wpAny_bind (wpAny_isInstance (T := "set") (b := true) hT (by rw [isSubtype_type]; kernel_rfl) ?_)
 refine wpAny_ite_split (fun hab => absurd hab (by decide)) (fun _ => ?_)
 refine wpAny_ite_split (fun _ => ?_) (fun hab => absurd (by decide +kernel) hab)
 refine wpAny_bind (wpAny_typeOf hT ?_)
 exact wpAny_pure h
theorem Dw {ord : List Value} {acc : Array Value} (h : ItemsOf (fun i v => ord[i]? = some v) acc ord.length) : acc.toList = ord := by
 apply List.ext_getElem? fun j => ?_
 rcases Nat.lt_or_ge j acc.size with hj | hj
 ·have e : acc[j]? = some acc[j] := Array.getElem?_eq_getElem hj
  rw [h.2 j _ e, Array.getElem?_toList, e]
 ·rw [List.getElem?_eq_none (by simpa using hj), List.getElem?_eq_none (by have := h.1; omega)]
theorem yX {R : Result → Shared → Prop} (hh : A.handled = none) (uZ : wt t (es.map (·.1))) (hA : dv s.heap a es ep t) (hl : t.led = !w.params.followText "set-order") (hp : 1 ≤ es.size → t.plain = false) (hsz : es.size < 1000)
  (S : Addr) (UE : S ≠ a) (res : Value) (c₀ : Nat) (hS : s.heap.get? S = some { cls := .type "list", data := .seq #[] c₀ })
  (hR : ∀ h' tk dr qt c', (∀ b o, b ≠ S → s.heap.get? b = some o → h'.get? b = some o) → h'.get? S = some { cls := .type "list", dict := none, data := .seq qt c', slots := #[] } → qt.toList.Perm (es.toList.map (·.2)) → R (.ok (.ret res)) { s with heap := h', toks := tk, drawn := dr }) :
  wpAny (model prog w) A.in1 (Builtin.List.listExtendWith (.ref S) (.ref a) res)
   (fun fin s' => match fin with | .done f => R (.ok f) s' | .again c' => c'.quiet = true ∧ codeAny (model prog w) A c' R s') (fun e s' => R (.error e) s') s := by
 have hn : es.size ≤ sizeLine := by rw [sizeLine_eq]; omega
 have Bz : s.TypeIs (.ref a) "set" := let ⟨o, ho, hc, _⟩ := hA; ⟨o, ho, hc⟩
 unfold Builtin.List.listExtendWith
 refine wpAny_bind (wpAny_typeOf (T := "set") Bz ?_)
 have h1 : Builtin.List.listSameRef (.ref S) (.ref a) = false := by simp [Builtin.List.listSameRef, UE]
 have h2 : (Value.type "set" == Value.type "list") = false := by decide
 have h3 : (Value.type "set" == Value.type "tuple") = false := by decide
 simp only [h1, h2, h3, Bool.or_false, Bool.false_eq_true, if_false]
 refine wpAny_bind (FG uZ hA hl hp hsz fun I T first pl ord h1 dr hI hT MO kp hit FH W => ?_)
 have UG := Heap.lt_size hS
 have W8 : S ≠ I := Nat.ne_of_lt (Nat.lt_of_lt_of_le UG hI)
 have W9 : S ≠ T := Nat.ne_of_lt (Nat.lt_of_lt_of_le UG hT)
 have hIa : I ≠ a := by
  obtain ⟨o, ho, _⟩ := hA
  exact Nat.ne_of_gt (Nat.lt_of_lt_of_le (Heap.lt_size ho) hI)
 have UH := BD (prog := prog) (A := A.in1) (w := w) (ep := ep) (pl := pl) (ord := ord) (T := T) hh uZ MO hIa
 have Aq := uY (s := { s with heap := h1 }) W
 have RF := Ds (s := { s with heap := h1 }) W
 have hS1 := kp S _ hS
 have UI : S ∉ [I, a, T] := by simp only [List.mem_cons, List.not_mem_nil, or_false, not_or]; exact ⟨W8, UE, W9⟩
 have key : ∀ (h : Heap) (c₁ tk : Nat), (∃ first, ft h I a first 0 es.size ep ∧ dv h a es ep t ∧ Way w h a es ep t pl T ord 0 first) → (∀ b o, b ≠ S → s.heap.get? b = some o → h.get? b = some o) →
   h.get? S = some { cls := .type "list", data := .seq #[] c₁ } → codeAny (model prog w) A (.builtin "list.extend.loop" ⟨[.ref S, .ref I, res], []⟩) R { s with heap := h, toks := tk, drawn := dr } := by
  intro h c₁ tk hst hk RG
  refine codeAny_extend_loopS UH.toS hn S UI res es.size 0 _ #[] c₁ rfl (Nat.zero_le _) hst RG (ItemsOf.nil _) fun s' qt c' hm hS' hacc => ?_
  rw [Moved.eq_with hm]
  refine hR s'.heap s'.toks dr qt c' (fun b o hb e => hm.heap b o (fun hmem => ?_) (hk b o hb e)) hS' ?_
  ·rcases List.mem_cons.mp hmem with e' | hmem
   ·exact hb e'
   ·exact absurd (Heap.lt_size e) (by rw [List.mem_singleton.mp hmem]; exact Nat.not_lt.mpr hI)
  ·rw [← Aq] at hacc
   rw [Dw hacc]
   exact RF
 refine wpAny_bind (wpAny_holding (Dv (s := { s with heap := h1, drawn := dr }) (let ⟨o, ho, hc, _⟩ := FH; ⟨o, ho, hc⟩) ?_))
 refine wpAny_ite_split (fun _ => ?_) (fun _ => wpAny_pure ⟨plainId_quiet PySem.F.plain_extend_loop _, key _ c₀ s.toks ⟨first, hit, FH, W⟩ (fun b o _ e => kp b o e) hS1⟩)
 refine wpAny_bind (wpAny_rule ?_)
 refine wpAny_bind ?_
 show wpAny _ _ (updateSeq S (·.push .none) >>= fun _ => updateSeq S (·.pop)) _ _ _
 refine wpAny_bind (wpAny_updateSeq (s := { s with heap := h1, drawn := dr }) hS1 rfl ?_)
 have UJ := Heap.get?_update_self (Obj.mapSeq (·.push Value.none)) hS1 rfl
 refine wpAny_updateSeq (s := { s with heap := h1.update S (Obj.mapSeq (·.push Value.none)), drawn := dr }) (hz := by seq_fits) UJ rfl ?_
 have Xa := Heap.get?_update_self (Obj.mapSeq (·.pop)) UJ rfl
 refine wpAny_pure ⟨plainId_quiet PySem.F.plain_extend_loop _, key _ _ s.toks ?_ (fun b o hb e => ?_) Xa⟩
 ·refine UH.frame 0 _ _ ⟨first, hit, FH, W⟩ fun b hb o e => ?_
  have UK : b ≠ S := fun h => UI (h ▸ hb)
  exact (Heap.get?_update_other _ _ (Ne.symm UK)).trans ((Heap.get?_update_other _ _ (Ne.symm UK)).trans e)
 ·exact (Heap.get?_update_other _ _ (Ne.symm hb)).trans ((Heap.get?_update_other _ _ (Ne.symm hb)).trans (kp b o e))
theorem xa {R : List Value → Shared → Prop} {ld : Bool} (hh : A.handled = none) (hS : SI ld s.heap a es) (hl : ld = !w.params.followText "set-order") (hsz : es.size < 1000)
  (h : ∀ h' tk dr acc, (∀ b o, s.heap.get? b = some o → h'.get? b = some o) → acc.Perm (es.toList.map (·.2)) → R acc { s with heap := h', toks := tk, drawn := dr }) : wpAny (model prog w) A (collect (.ref a)) R E s := by
 obtain ⟨oa, ep, t, x8, hex, tw, uZ, _, _, _, _, hL, hP⟩ := hS
 have hA : dv s.heap a es ep t := ⟨oa, x8, hex.1, tw⟩
 unfold collect
 refine wpAny_bind (wpAny_runValue (codeAny_builtin entry_proto_collect' ?_))
 rw [Around.under_plainId PySem.F.plain_proto_collect _]
 show wpAny _ A.in1 (newList [] >>= fun l => again (.builtin "list.__iadd__" ⟨[l, .ref a], []⟩)) _ _ s
 refine wpAny_bind (wpAny_newObj_type ?_)
 refine wpAny_pure ⟨plainId_quiet PySem.F.plain_list_iadd _, codeAny_builtin entry_list_iadd' ?_⟩
 rw [Around.under_plainId PySem.F.plain_list_iadd _]
 have RG : (s.heap.push { cls := .type "list", data := .seq ([] : List Value).toArray }).get? s.heap.objs.size = some { cls := .type "list", data := .seq #[] } := Heap.get?_push_size _ rfl
 show wpAny _ A.in1 (Builtin.List.listExtendWith (.ref s.heap.objs.size) (.ref a) (.ref s.heap.objs.size)) _ _ _
 have key := yX (A := A) (w := w) (prog := prog) (s := { s with heap := s.heap.push { cls := .type "list", data := .seq ([] : List Value).toArray } })
  (R := fun (q : Result) (s' : Shared) => ∃ (h' : Heap) (tk : Nat) (dr : _) (qt : Array Value) (c' : Nat), q = .ok (.ret (.ref s.heap.objs.size)) ∧ s' = { s with heap := h', toks := tk, drawn := dr } ∧
   (∀ b o, s.heap.get? b = some o → h'.get? b = some o) ∧ h'.get? s.heap.objs.size = some { cls := .type "list", dict := none, data := .seq qt c', slots := #[] } ∧ qt.toList.Perm (es.toList.map (·.2)))
  hh uZ (dv.push hA _) (hL.trans hl) hP hsz s.heap.objs.size (Nat.ne_of_gt (Heap.lt_size x8)) (.ref s.heap.objs.size) 0 RG
  (fun h' tk dr qt c' hk hS' hacc => ⟨h', tk, dr, qt, c', rfl, rfl, fun b o e => hk b o (Nat.ne_of_lt (Heap.lt_size e)) (Heap.get?_push_of_some _ e), hS', hacc⟩)
 refine wpAny_mono key (fun fin s' x => ?_) fun e s' x => ?_
 ·cases fin with
  | done f =>
   obtain ⟨h', tk, dr, qt, c', e, rfl, hk, hS', hacc⟩ := x
   cases e
   show wpAny _ A (load s.heap.objs.size >>= _) _ _ _
   refine wpAny_bind (wpAny_load hS' ?_)
   exact wpAny_pure (h h' tk dr _ hk hacc)
  | again c₁ =>
   refine ⟨x.1, codeAny_mono x.2 fun q s₂ y => ?_⟩
   obtain ⟨h', tk, dr, qt, c', rfl, rfl, hk, hS', hacc⟩ := y
   show wpAny _ A (load s.heap.objs.size >>= _) _ _ _
   refine wpAny_bind (wpAny_load hS' ?_)
   exact wpAny_pure (h h' tk dr _ hk hacc)
 ·obtain ⟨_, _, _, _, _, e', _⟩ := x
  cases e'
end
end dS
namespace L2
open PySem PySem.Spec PyProof.Rows dS
theorem Inv.Xb {X : Cx} {pins : List (Addr × Obj)} {σ : St} {H : Hp} {s : Shared} (I : Inv X pins σ H s) (dr : _) : Inv X pins σ H { s with drawn := dr } :=
 ⟨I.ok, I.os, I.bare, I.base, I.loc, I.cell, I.free, I.eQ, I.pin, I.hok, I.len⟩
def BE (ld : Bool) (a : Addr) (zs : List V) : HO := .ext fun h => ∃ es, SI ld h a es ∧ es.size < 1000 ∧ Vals zs (es.toList.map (·.2))
theorem tL {w : World} {K : PySem.W.Frag} {H : Hp} : ∀ {es : List (Int × Value)} {tr : List Tr}, G1 w K H es tr → ∃ zs, Vals zs (es.map (·.2)) ∧ Ts K H tr zs
 | _, _, .nil => ⟨[], .nil, rfl, fun i h => by simp at h⟩
 | _, _, .cons h t => by
  obtain ⟨_, _, y, hy, ry⟩ := h
  obtain ⟨zs, hv, hl, hT⟩ := tL t
  refine ⟨y :: zs, .cons ry hv, by simp [hl], fun i h1 h2 => ?_⟩
  match i with
  | 0 => exact hy
  | i + 1 => exact hT i (by simpa using h1) (by simpa using h2)
theorem AJ {K : PySem.W.Frag} {H : Hp} : ∀ {tr : List Tr} {zs : List V} {us : List Value}, Ts K H tr zs → Vals zs us → Paired (fun (u : Value) (t : Tr) => ∃ y, cB K H t.toD y ∧ RelV y u) us tr
 | [], [], _, _, .nil => .nil
 | [], _ :: _, _, h, _ => by have := h.1; simp at this
 | _ :: _, [], _, h, _ => by have := h.1; simp at this
 | t :: tr, z :: zs, _, h, .cons r q => .cons ⟨z, h.2 0 (by simp) (by simp), r⟩ (AJ (tr := tr) (zs := zs) ⟨by have := h.1; simpa using this, fun i h1 h2 => h.2 (i + 1) (by simpa using h1) (by simpa using h2)⟩ q)
theorem AK {K : PySem.W.Frag} {H : Hp} : ∀ {us : List Value} {tr : List Tr}, Paired (fun (u : Value) (t : Tr) => ∃ y, cB K H t.toD y ∧ RelV y u) us tr → ∃ zs, Vals zs us ∧ Ts K H tr zs
 | _, _, .nil => ⟨[], .nil, rfl, fun i h => by simp at h⟩
 | _, _, .cons h t => by
  obtain ⟨y, hy, ry⟩ := h
  obtain ⟨zs, hv, hl, hT⟩ := AK t
  refine ⟨y :: zs, .cons ry hv, by simp [hl], fun i h1 h2 => ?_⟩
  match i with
  | 0 => exact hy
  | i + 1 => exact hT i (by simpa using h1) (by simpa using h2)
theorem FI {K : PySem.W.Frag} {H : Hp} {tr : List Tr} {zs : List V} {us UL : List Value} (hT : Ts K H tr zs) (hv : Vals zs us) (p : UL.Perm us) : ∃ AG MS, AG.Perm tr ∧ Vals MS UL ∧ Ts K H AG MS := by
 obtain ⟨AG, p1, p2⟩ := oC p (AJ hT hv)
 obtain ⟨MS, h1, h2⟩ := AK p2
 exact ⟨AG, MS, p1, h1, h2⟩
theorem Dx {h : Heap} {a : Addr} {ld : Bool} (e : h.get? a = some { cls := .type "set", dict := none, data := .set #[] 0 (.fresh 0 0 ld) }) : SI ld h a #[] :=
 ⟨_, 0, .fresh 0 0 ld, e, ⟨rfl, rfl, rfl⟩, rfl, ⟨⟨fun i j _ hj => absurd hj (by simp [SetTable.fresh]), rfl⟩, by simp [SetTable.fresh], fun i hi => absurd hi (by simp [SetTable.fresh]), by simp, ⟨3, rfl⟩, fun i hi => absurd hi (by simp)⟩, by simp [SetTable.fresh], by simp [SetTable.fresh], by simp [SetTable.fresh], fun i hi => absurd hi (by simp), rfl, fun z => absurd z (by simp)⟩
section
variable {X : Cx}
def MT (K : PySem.W.Frag) (ld : Bool) : List V → Hp → VK → Prop := fun xs H Q => ∃ l ys ts, xs = [.ref l] ∧ aD K H l ys ∧ Ts K H ts ys ∧ ys.length < 900 ∧ (∀ t ∈ ts, (∃ q, t = .tup q) ∧ t.toD.deep ≤ 8 ∧ jb t = false) ∧
 ∀ p zs tr, H p = none → Ts K H tr zs → tr.Perm (dd ts) → Q (.ref p) (upd H p (BE ld p zs))
theorem BF {ld : Bool} (hu : X.A.units + 80 < cLine) (hc : X.calm = true) (G2 : ld = !X.w.params.followText "set-order") : cw X (.type "set") (MT X.K ld) := by
 subst G2
 intro pins s σ H xs us Q I rx h
 obtain ⟨l, ys, ts, rfl, hq, hT, h9, ML, q⟩ := h
 obtain ⟨u, rfl, ru⟩ := vals1 rx
 cases ru
 obtain ⟨its, r, pl, hz⟩ := I.list hq
 have hlen := r.length
 refine yW (led := !X.w.params.followText "set-order") pl.isList rfl ?_
 refine codeAny_builtin tJ ?_
 rw [Around.under_plainId nN _]
 have e1 : (s.heap.push { cls := .type "set", dict := none, data := .set #[] 0 (.fresh 0 0 (!X.w.params.followText "set-order")) }).get? s.heap.objs.size = some { cls := .type "set", dict := none, data := .set #[] 0 (.fresh 0 0 (!X.w.params.followText "set-order")) } := Heap.get?_push_size _ rfl
 have e2 : (s.heap.push { cls := .type "set", dict := none, data := .set #[] 0 (.fresh 0 0 (!X.w.params.followText "set-order")) }).objs.size = s.heap.objs.size + 1 := Heap.size_push _ _
 have e3 : ((s.heap.push { cls := .type "set", dict := none, data := .set #[] 0 (.fresh 0 0 (!X.w.params.followText "set-order")) }).push { cls := .type "list_iterator", data := .fields #[.ref l, .int 0 0] }).get? (s.heap.objs.size + 1) = some { cls := .type "list_iterator", data := .fields #[.ref l, .int 0 0] } := by
  rw [← e2]
  exact Heap.get?_push_size _ rfl
 refine Dr (ld := !X.w.params.followText "set-order") (l := l) (ts := ts) (ys := ys) (its := its) I (A := X.A.in1.in1) (by show X.A.units + 1 + 1 + 60 < cLine; omega) (I.ok.hd hc) pl.isList r hT (by omega) ML (Nat.le_refl _) (Nat.le_succ _) (Nat.ne_of_lt (Nat.lt_succ_self _)) ?_ its.length 0 _ s.toks #[] [] (by omega) (Nat.zero_le _) (fun b o z => Heap.get?_push_of_some _ (Heap.get?_push_of_some _ z)) ⟨_, e3, rfl, rfl⟩ (Dx (Heap.get?_push_of_some _ e1)) .nil (.refl _)
 intro h' tk es tr kp hS hE hp
 obtain ⟨zs, hv, hT'⟩ := tL hE
 have hsz : es.size < 1000 := by
  have z1 := Paired.length hE
  have z2 := hp.length_eq
  have z3 := lD ts ts.length (Nat.le_refl _)
  rw [List.take_length] at z3
  have z4 : es.toList.length = es.size := by simp
  have z5 := hT.1
  omega
 have hok : ∃ es, SI (!X.w.params.followText "set-order") h' s.heap.objs.size es ∧ es.size < 1000 ∧ Vals zs (es.toList.map (·.2)) := ⟨es, hS, hsz, hv⟩
 refine ⟨.ref s.heap.objs.size, _, I.laid (o := BE (!X.w.params.followText "set-order") s.heap.objs.size zs) (t' := tk) kp (Nat.le_refl _) (show bg _ _ _ _ _ (.ext _) from ⟨hok, ?_, fun h1 h2 z k => ?_⟩), rfl, q _ zs tr (I.hok.fresh (Nat.le_refl _)) hT' hp⟩
 ·obtain ⟨o, _, _, ho, _⟩ := hS
  exact ⟨o, ho⟩
 ·obtain ⟨PJ, ⟨o, ep, t, ho, r⟩, r2⟩ := z
  exact ⟨PJ, ⟨o, ep, t, k _ ho, r⟩, r2⟩
def Jr (K : PySem.W.Frag) (ld : Bool) : List V → Hp → VK → Prop := fun xs H Q => ∃ r zs tr k, xs = [.ref r] ∧ H r = some (BE ld r zs) ∧ Ts K H tr zs ∧ tr.length < 64 ∧ (k = 1 ∨ k = 2) ∧ (∀ t ∈ tr, rD t = k ∧ t.toD.deep ≤ 18) ∧ (∀ t ∈ tr, ∀ u ∈ tr, oz t u = true) ∧
 ∀ p wo, H p = none → Ts K H (aU tr) wo → Q (.ref p) (upd H p (.lst wo))
theorem u4 {ld : Bool} (hu : X.A.units + 64 < cLine) (hc : X.calm = true) (G2 : ld = !X.w.params.followText "set-order") : cw X (.builtin "sorted") (Jr X.K ld) := by
 subst G2
 intro pins s σ H xs us Q I rx h
 obtain ⟨r, zs, tr, k, rfl, hr, hT, Cc, hk, hd, xW, q⟩ := h
 obtain ⟨u, rfl, ru⟩ := vals1 rx
 cases ru
 obtain ⟨es, hS, hsz, hv⟩ := (show bg X.prog X.w H s.heap r (.ext _) from I.hok r _ hr).1
 refine Calls.call_function_entry kind_sorted plain_sorted entry_sorted (args_sorted1 _) ?_
 unfold Builtin.«sorted»
 refine wpAny_bind (m := checkCount "sorted" 1 1 _) (wpAny_pure ?_)
 refine wpAny_bind (xa (A := X.A.in1) (I.ok.hd hc) hS rfl hsz fun h' tk dr acc kp pa => ?_)
 have I1 : Inv X pins σ H { s with heap := h', toks := tk, drawn := dr } := (I.kept (t' := tk) kp).Xb dr
 obtain ⟨AG, MS, p1, hv', hT'⟩ := FI hT hv pa
 have hl' : acc.length = AG.length := by rw [← hv'.length]; exact hT'.1.symm
 have mB := p1.length_eq
 refine wpAny_bind (wpAny_newList ?_ (by rw [sizeLine_eq]; omega))
 have mr : ∀ E', wpAny (model X.prog X.w) X.A.in1.in1 (Builtin.«list.sort» ⟨[.ref h'.objs.size], []⟩) _ E' { s with heap := h'.push (seqObj "list" acc.toArray 0), toks := tk, drawn := dr } := fun E' =>
  AD (s := { s with heap := h', toks := tk, drawn := dr }) (k := k) (ts := AG) (P := fun fin s' => fin = .done (.ret .none) ∧ EP X pins σ Q (.ref h'.objs.size) s') (E := E') (by show X.A.units + 1 + 1 + 45 < cLine; omega) I1 hv' hT' (by omega) hk
   (fun t ht => hd t (p1.mem_iff.mp ht)) (fun t ht u Jb => xW t (p1.mem_iff.mp ht) u (p1.mem_iff.mp Jb))
   fun wo s' I2 C9 => ⟨rfl, .ref h'.objs.size, _, I2, rfl, q _ _ (I1.hok.fresh (Nat.le_refl _)) (by rw [← fo p1]; exact C9)⟩
 refine wpAny_bind (wpAny_holding (wpAny_call_entry slot_list_sort ⟨_, Heap.get?_push_size _ rfl, rfl⟩ entry_list_sort ?body (args_list_sort _)))
 case body =>
  refine wpAny_mono (mr _) (fun fin s' z => ?_) fun _ _ z => z
  obtain ⟨rfl, z⟩ := z
  exact ⟨_, rfl, wpAny_pure ⟨_, rfl, z⟩⟩
end
end L2
namespace L2
open PySem PySem.Spec PyProof.Rows
mutual
def toP : Tr → PyData
 | .int i => .int i
 | .str x => .str x
 | .tup l => .tuple (toPs l)
def toPs : List Tr → List PyData
 | [] => []
 | t :: r => toP t :: toPs r
end
mutual
theorem toP_depth : ∀ t : Tr, (toP t).depth = t.toD.deep
 | .int i => rfl
 | .str x => rfl
 | .tup l => by
  show PyData.depthAll (toPs l) + 1 = Dt.bJ (Tr.toDs l) + 1
  rw [toPs_depth l]
theorem toPs_depth : ∀ l : List Tr, PyData.depthAll (toPs l) = Dt.bJ (Tr.toDs l)
 | [] => rfl
 | t :: r => by
  show max (toP t).depth (PyData.depthAll (toPs r)) = max t.toD.deep (Dt.bJ (Tr.toDs r))
  rw [toP_depth t, toPs_depth r]
end
mutual
theorem toP_nodict : ∀ t : Tr, (toP t).hasDict = false
 | .int i => rfl
 | .str x => rfl
 | .tup l => by
  show PyData.hasDictAll (toPs l) = false
  exact toPs_nodict l
theorem toPs_nodict : ∀ l : List Tr, PyData.hasDictAll (toPs l) = false
 | [] => rfl
 | t :: r => by
  show ((toP t).hasDict || PyData.hasDictAll (toPs r)) = false
  rw [toP_nodict t, toPs_nodict r]
  rfl
end
section
variable {X : Cx} {pins : List (Addr × Obj)} {σ : St} {H : Hp} {s : Shared}
mutual
theorem xb (I : Inv X pins σ H s) : ∀ (t : Tr) {x : V} {u : Value}, cB X.K H t.toD x → RelV x u → ∃ as, Reads s.heap u (toP t) as
 | .int i, x, u, h, r => by
  simp only [Tr.toD] at h
  cases h
  obtain ⟨t, rfl⟩ := r
  exact ⟨_, .int i t⟩
 | .str i, x, u, h, r => by
  simp only [Tr.toD] at h
  cases h
  obtain ⟨t, rfl⟩ := r
  exact ⟨_, .str i t⟩
 | .tup l, x, u, h, r => by
  obtain ⟨p, ys, its, rfl, ⟨o, ho, hc, n, hd⟩, rv, hT⟩ := jq I h r
  obtain ⟨as, z⟩ := oD I l hT rv
  exact ⟨as, .tuple ho hc hd z⟩
theorem oD (I : Inv X pins σ H s) : ∀ (l : List Tr) {ys : List V} {its : List Value}, Ts X.K H l ys → Vals ys its → ∃ as, ReadsAll s.heap its (toPs l) as
 | [], [], _, _, .nil => ⟨_, .nil⟩
 | [], _ :: _, _, h, _ => by have := h.1; simp at this
 | _ :: _, [], _, h, _ => by have := h.1; simp at this
 | t :: l, y :: ys, _, h, .cons r q => by
  obtain ⟨as, z⟩ := xb I t (h.2 0 (by simp) (by simp)) r
  obtain ⟨bs, z2⟩ := oD I l (ys := ys) ⟨by have := h.1; simpa using this, fun i h1 h2 => h.2 (i + 1) (by simpa using h1) (by simpa using h2)⟩ q
  exact ⟨_, .cons z z2⟩
end
end
section
variable {X : Cx} {e : Expr} {te : TE} {pre : Str} {j : Nat} {p1 p2 p3 : Pos}
def MU (K : PySem.W.Frag) (te : TE) : TE := fun σ H Q => te σ H fun y H1 => ∃ l, cB K H1 (Tr.tup l).toD y ∧ (Tr.tup l).toD.deep ≤ 18 ∧ (toP (.tup l)).showable = true ∧ (toP (.tup l)).shown.length ≤ 1000000 ∧ ∀ x, Q (.str x) H1
theorem pz (hg : X.A.guards = some []) (hu : X.A.units + 64 < cLine) (he : PE X e te) (hp : pre.length ≤ 1000 := by decide) : PE X (.JoinedStr [.Constant (.str pre) j p1, .FormattedValue e 114 none p2] p3) (MU X.K te) := by
 intro pins s σ H Q I h
 refine wpAny_JoinedStr ?_
 refine Calls.Constant_str ⟨pre, _, rfl, ?_, ?_⟩
 ·show (Str.empty ++ pre).length ≤ sizeLine
  rw [strLen_append, sizeLine_eq]
  have : Str.empty.length = 0 := rfl
  omega
 refine wpAny_FormattedValue_repr (bQ (he pins _ σ H _ (I.tok _) h) fun u s1 ⟨y, H1, I1, r1, l, hd, EB, hs, hz, q⟩ => ?_)
 obtain ⟨as, rd⟩ := xb I1 (.tup l) hd r1
 obtain ⟨p, _, _, rfl, _⟩ := jq I1 hd r1
 have RH := toP_depth (.tup l)
 refine pyReprObj_of_reads rd hs (fun z => by rw [toP_nodict] at z; cases z) hg (by rw [RH]; omega) (fun _ _ z => z) (fun h' tk t' kp => ?_) (by rw [sizeLine_eq]; omega)
 have hlen : (Str.empty ++ pre ++ (toP (.tup l)).shown).length ≤ sizeLine := by
  rw [strLen_append, strLen_append, sizeLine_eq]
  have : Str.empty.length = 0 := rfl
  omega
 exact wpAny_formatField_str ⟨_, _, rfl, hlen, hlen, .str _, H1, I1.kept kp, ⟨_, rfl⟩, q _⟩ ⟨_, _, rfl, hlen, hlen, .str _, H1, I1.kept kp, ⟨_, rfl⟩, q _⟩ (by rw [sizeLine_eq]; omega)
end
def FJ (k : Str) (as : List Str) : Tr := .tup [.str k, .tup (as.map .str)]
def PK (x : Str) : Prop := x.length ≤ 100 ∧ ∀ c ∈ x.cps.toList, c < 16 ^ 8
theorem qv : ∀ (as : List Str), (∀ a ∈ as, PK a) → PyData.showableAll (toPs (as.map .str)) = true ∧ ((PyData.shownAll (toPs (as.map .str))).map (·.length)).sum ≤ 1002 * as.length ∧ (PyData.shownAll (toPs (as.map .str))).length = as.length
 | [], _ => ⟨rfl, Nat.le_refl _, rfl⟩
 | a :: r, h => by
  obtain ⟨z1, z2, z3⟩ := qv r fun b hb => h b (List.mem_cons_of_mem _ hb)
  have ha := h a (List.mem_cons_self ..)
  have y := StrLaws.reprText_len a ha.2
  refine ⟨z1, ?_, ?_⟩
  ·show (reprText a).length + ((PyData.shownAll (toPs (r.map .str))).map (·.length)).sum ≤ 1002 * (r.length + 1)
   have := ha.1
   omega
  ·show (PyData.shownAll (toPs (r.map .str))).length + 1 = r.length + 1
   omega
theorem yY {k : Str} {as : List Str} (hk : PK k) (ha : ∀ a ∈ as, PK a) (hl : as.length ≤ 100) : (toP (FJ k as)).showable = true ∧ (toP (FJ k as)).shown.length ≤ 1000000 := by
 obtain ⟨z1, z2, z3⟩ := qv as ha
 have y := StrLaws.reprText_len k hk.2
 constructor
 ·show (true && (PyData.showableAll (toPs (as.map .str)) && true)) = true
  rw [z1]
  rfl
 ·show (tupleText [reprText k, tupleText (PyData.shownAll (toPs (as.map .str)))]).length ≤ 1000000
  have a1 := tupleText_len_le [reprText k, tupleText (PyData.shownAll (toPs (as.map .str)))]
  have a2 := tupleText_len_le (PyData.shownAll (toPs (as.map .str)))
  simp only [List.map_cons, List.map_nil, List.sum_cons, List.sum_nil, List.length_cons, List.length_nil] at a1
  rw [z3] at a2
  have := hk.1
  omega
theorem tM : ∀ (as : List Str), Dt.bJ (Tr.toDs (as.map .str)) = 0
 | [] => rfl
 | a :: r => by
  show max 0 (Dt.bJ (Tr.toDs (r.map .str))) = 0
  rw [tM r]
  rfl
theorem bF (k : Str) (as : List Str) : (FJ k as).toD.deep = 2 := by
 show max 0 (max (Dt.bJ (Tr.toDs (as.map .str)) + 1) 0) + 1 = 2
 rw [tM]
 rfl
theorem mX {K : PySem.W.Frag} {H : Hp} {t : Addr} {as : List Str} (h : aO K H t (as.map .str)) : cB K H (Tr.tup (as.map .str)).toD (.ref t) := by
 simp only [Tr.toD]
 refine .tup h (by rw [toDs_length, Lm9, Lm9]) fun i h1 h2 => ?_
 rw [toDs_get _ i (by rw [toDs_length] at h1; exact h1)]
 simp only [List.getElem_map]
 simp only [Tr.toD]
 exact .str _
theorem Dy {K : PySem.W.Frag} {H : Hp} {t t2 : Addr} {k : Str} {as : List Str} (h1 : aO K H t [.str k, .ref t2]) (h2 : aO K H t2 (as.map .str)) : cB K H (FJ k as).toD (.ref t) := by
 show cB K H (.tup [.str k, (Tr.tup (as.map .str)).toD]) (.ref t)
 refine .tup h1 rfl fun i i1 i2 => ?_
 match i, i1, i2 with
 | 0, _, _ => exact .str _
 | 1, _, _ => exact mX h2
def nO (P : Program) (w : World) (K : PySem.W.Frag) (mg : Str → Option Value) (base : Heap) (x : Str) (k : Nat) (ps : List Str) (sp : Sp) : Prop :=
 ∃ f fd, bN P w K mg base (wF P w) k f fd ps sp ∧ Binds K fd ps [] ∧ PySem.W.keepIn K (.ref f) = true ∧ mg x = some (.ref f)
section
variable {P : Program} {w : World} {K : PySem.W.Frag} {mg : Str → Option Value} {base : Heap} {N : List Str} {qual : Str} {scope : Scope} {f : Addr} {cd : Value} {A : Around} {outer : List Env} {s₀ : Shared} {H₀ : Hp} {E : XK} {x : Str} {k : Nat} {ps : List Str} {sp : Sp} {p pos : Pos} {e : Expr} {es : List Expr} {t : TA}
theorem gz (c : nO P w K mg base x k ps sp) (hr : d9 k (gL P w K mg base N qual scope f cd A outer s₀ H₀ E).A) (hg : Gl (gL P w K mg base N qual scope f cd A outer s₀ H₀ E) x) (ha : PA (gL P w K mg base N qual scope f cd A outer s₀ H₀ E) (e :: es) t)
  (uw : (x == ("__debug__" : Str)) = false := by decide) (he : starEach (e :: es) (gL P w K mg base N qual scope f cd A outer s₀ H₀ E).env = (false, eval e (gL P w K mg base N qual scope f cd A outer s₀ H₀ E).env) :: starEach es (gL P w K mg base N qual scope f cd A outer s₀ H₀ E).env := by rfl)
  (hpl : (backTo pos (starEach es (gL P w K mg base N qual scope f cd A outer s₀ H₀ E).env)).any (·.1) = false := by rfl) : PE (gL P w K mg base N qual scope f cd A outer s₀ H₀ E) (.Call (.Name x p) (e :: es) [] pos) (Ct sp [] E t) := by
 obtain ⟨f', fd, F, b, kp, mg⟩ := c
 exact Ad F hr hg mg kp b .nil Mc ha uw he hpl
end
section
variable {X : Cx} {x : Str} {k : Nat} {ps : List Str} {sp : Sp} {p pos : Pos} {e : Expr} {es : List Expr} {t : TA} {pn : List (Addr × Obj)} {R : Value → St → Hp → Prop}
theorem Dz (c : nO X.prog X.w X.K X.mg X.base x k ps sp) (hr : d9 k X.A) (hg : Gl X x) (ha : PA (mG X pn R) (e :: es) t) (uw : (x == ("__debug__" : Str)) = false := by decide) (he : starEach (e :: es) X.env = (false, eval e X.env) :: starEach es X.env := by rfl) (hpl : (backTo pos (starEach es X.env)).any (·.1) = false := by rfl) :
  PE (mG X pn R) (.Call (.Name x p) (e :: es) [] pos) (CK sp [] R t) := by
 obtain ⟨f', fd, F, b, kp, mg⟩ := c
 exact CL F hr hg mg kp b .nil ha uw he hpl
end
end L2
namespace L2
open PySem PySem.Spec PyProof.Rows
theorem AL {prog : Program} {w : World} {A : Around} {E : Value → Shared → Prop} {s : Shared} {a : Addr} {xs : Array Value} {k : Nat} {sl : Array (Option Value)} {Q : Option Value → Shared → Prop}
  (hx : s.heap.get? a = some ⟨.type "tuple", none, .seq xs k, sl⟩) (hA : A.handled = none)
  (h : ∀ h' tk e, Heap.NewExcOf s.heap h' e "AttributeError" → Q none { s with heap := h', toks := tk }) :
  wpAny (model prog w) A (getAttr? (.ref a) "keys") Q E s := by
 obtain ⟨hp, g, d, tk, os⟩ := s
 have hT : ∀ tk', (⟨hp, g, d, tk', os⟩ : Shared).TypeIs (.ref a) "tuple" := fun _ => ⟨_, hx, rfl⟩
 have f1 := sub_AttributeError
 have f3 := PySem.F.slot_tuple_getattribute.lookup
 have f4 := PySem.F.slot_tuple_getattribute.bind (.ref a)
 have f5 := am_tuple_getattr_none
 have hmiss : typeLookup (.type "tuple") "keys" = pure none := by rw [typeLookup_type, builtinLookup_eq_fast]; kernel_rfl
 unfold getAttr? getAttrBy? getAttrBy
 repeat (any_goals (first | assumption | exact hT _ | ((with_reducible show wpAny _ _ (call (Value.builtin "tuple.__getattribute__") _ _) _ _ _); refine call_meets PySem.F.slot_tuple_getattribute (hT _) am_entry_tuple_getattribute (PySem.F.args_tuple_getattribute_2 _ _) (meets_getattribute_miss_tuple a xs k sl "keys" _ hmiss (by decide +kernel) (by decide)) ⟨hx, hA, fun h' tk' e hx' => ?_⟩) | wp_step))
 obtain ⟨t', u', he⟩ := hx'.there
 show wpAny _ _ (getattributeRaised _ _ _ _ _ _ _) _ _ _
 unfold getattributeRaised
 repeat (any_goals (first | assumption | wp_step))
 exact h _ _ _ hx'.of
section
variable {X : Cx}
def Nil0 (K : PySem.W.Frag) (a : Addr) : Prop := ∃ n sl, K.lookup a = some ⟨.type "tuple", none, .seq #[] n, sl⟩
theorem rP (hc : X.calm = true) : cw X (.type "dict") (fun xs H Q => ∃ a, xs = [.ref a] ∧ Nil0 X.K a ∧ ∀ d, H d = none → Q (.ref d) (upd H d (.dK []))) := by
 intro pins s σ H xs us Q I r h
 obtain ⟨l, rfl, ⟨n, sl, hl⟩, q⟩ := h
 obtain ⟨u, rfl, ru⟩ := vals1 r
 cases (show u = Value.ref l from ru)
 have hh := I.ok.hd hc
 have hg : s.heap.get? l = some ⟨.type "tuple", none, .seq #[] n, sl⟩ := I.pM l _ hl
 have hf : H s.heap.objs.size = none := I.hok.fresh (Nat.le_refl _)
 refine callType_codes (Q₁ := fun obj s₁ => obj = .ref s.heap.objs.size ∧ s₁ = { s with heap := s.heap.push { cls := .type "dict", data := .dict #[] } }) PySem.F.kt_called_dict (PySem.F.kt_typeCall_dict_1 _) PySem.F.entry_dict_init (kt_code_dict_new _ ⟨rfl, rfl⟩) ?_
 rintro obj s₁ ⟨rfl, rfl⟩
 have qc : (s.heap.push { cls := .type "dict", data := .dict #[] }).DictOf (aG X.prog X.w) s.heap.objs.size [] := Heap.DictOf.new s.heap
 refine ⟨qc.typeIs, PySem.F.args_dict_init_2 _ _, ?_⟩
 unfold Builtin.«dict.__init__»
 refine wpAny_bind ?_
 unfold Builtin.Dict.selfAndRest
 refine wpAny_bind (wpAny_notOrdered_dict qc.typeIs ?_)
 show wpAny _ _ (pure (s.heap.objs.size, [Value.ref l])) _ _ _
 refine wpAny_pure ?_
 show wpAny _ _ (Builtin.Dict.updateFrom "dict.__init__" s.heap.objs.size (.ref l) [] .none) _ _ _
 unfold Builtin.Dict.updateFrom
 have CT : (s.heap.push { cls := .type "dict", data := .dict #[] }).get? l = some ⟨.type "tuple", none, .seq #[] n, sl⟩ := Heap.get?_push_of_some _ hg
 refine wpAny_bind (wpAny_typeOf (T := "tuple") ⟨_, CT, rfl⟩ ?_)
 rw [if_pos (by decide)]
 refine wpAny_bind (AL CT hh fun h1 Fj e hx => ?_)
 rw [if_pos (show (none : Option Value).isNone = true from rfl)]
 refine wpAny_bind (wpAny_rule ?_)
 have K6 := hx.keeps _ _ CT
 have hd2 : h1.DictOf (aG X.prog X.w) s.heap.objs.size [] := by
  obtain ⟨o, es, ep, ho, r⟩ := qc
  exact ⟨o, es, ep, hx.keeps _ _ ho, r⟩
 have oK : s.heap.objs.size < h1.objs.size := by
  obtain ⟨o, es, ep, ho, r⟩ := hd2
  exact Heap.lt_size ho
 have IH : h1.IsTuple l #[] := ⟨_, K6, rfl, n, rfl⟩
 refine wpAny_bind (wpAny_pyIter_tuple (s := { s with heap := h1, toks := Fj }) IH ?_)
 refine wpAny_pure ⟨plainId_quiet plain_dul _, codeAny_builtin entry_dul ?_⟩
 rw [Around.under_plainId plain_dul _]
 have Fl : ∀ b o, s.heap.get? b = some o → (h1.push { cls := .type "tuple_iterator", data := .fields #[.ref l, .int 0 0] }).get? b = some o := fun b o q => Heap.get?_push_of_some _ (hx.keeps _ _ (Heap.get?_push_of_some _ q))
 unfold Builtin.«dict.update.loop»
 dsimp only [rawInt]
 refine wpAny_bind (wpAny_pyNext_tuple_end (s := { s with heap := h1.push { cls := .type "tuple_iterator", data := .fields #[.ref l, .int 0 0] }, toks := Fj }) (A := X.A.in1.in1) (i := 0) hh ⟨_, Heap.get?_push_size _ rfl, rfl, rfl⟩ (show (h1.push _).IsTuple l #[] from ⟨_, Heap.get?_push_of_some _ K6, rfl, n, rfl⟩) (by simp) fun h2 qb => ?_)
 dsimp only
 have ki : h2.DictOf (aG X.prog X.w) s.heap.objs.size [] := (hd2.push _).extBut qb (Nat.ne_of_lt oK)
 show wpAny _ _ (Builtin.Dict.addKeywords s.heap.objs.size [] >>= _) _ _ _
 refine wpAny_bind (wpAny_pure (wpAny_pure ?_))
 have kp : ∀ b o, s.heap.get? b = some o → h2.get? b = some o := fun b o q => qb b o (Nat.ne_of_lt (Nat.lt_trans (Heap.lt_size q) oK)) (Fl b o q)
 refine ⟨rfl, .ref s.heap.objs.size, upd H s.heap.objs.size (.dK []), I.laid (t' := Fj) kp (Nat.le_refl _) ?_, rfl, q _ hf⟩
 refine ⟨Nat.zero_le _, ?_, [], .nil, ki⟩
 exact beq_eq_false_iff_ne.mpr (Nat.ne_of_gt I.big)
end
end L2
namespace Bk
open PySem L2 eF
def Lc (p : Cs) : Prop := p ≠ [] ∧ p.length ≤ 100 ∧ ∀ c ∈ p, c < 16 ^ 8
theorem Lc.UM {p : Cs} (h : Lc p) : PK (S p) := ⟨by rw [dh]; exact h.2.1, by rw [du]; exact h.2.2⟩
structure FS (f : Fc) : Prop where
 k : Lc f.k
 as : ∀ a ∈ f.as, Lc a
 n : f.as.length ≤ 100
def fT (f : Fc) : Tr := FJ (S f.k) (f.as.map S)
def fault (ks : List Kd) (f : Fc) : Nat := match ks.find? (fun k => decide (k.n = f.k)) with
 | none => 1
 | some k => if k.c = f.as.length then 0 else 2
def aL (ks : List Kd) : List Fc → Nat
 | [] => 0
 | f :: r => if fault ks f = 0 then aL ks r else fault ks f
theorem Js (ks : List Kd) (p : Cs) : eI (ks.map mO) (Sum.inr (S p) : Key) = (ks.find? (fun k => decide (k.n = p))).map fun k => V.int k.c := by
 unfold eI
 induction ks with
 | nil => rfl
 | cons k r ih =>
  rw [List.map_cons, List.find?_cons, List.find?_cons]
  have e : (decide ((mO k).1 = (Sum.inr (S p) : Key))) = decide (k.n = p) := by
   show decide ((Sum.inr (S k.n) : Key) = Sum.inr (S p)) = decide (k.n = p)
   refine decide_eq_decide.mpr ⟨fun h => ?_, fun h => by rw [h]⟩
   have z := Sum.inr.inj h
   have z2 := congrArg (fun x : Str => x.cps.toList) z
   simpa using z2
  rw [e]
  cases decide (k.n = p) with
  | true => rfl
  | false => exact ih
theorem u5 (l : List Cs) : l.map tx = (l.map S).map V.str := by rw [List.map_map]; rfl
theorem Fact.BG {K : PySem.W.Frag} {H : Hp} {f : Fc} {v : V} (h : Fact K H f v) : cB K H (fT f).toD v := by
 obtain ⟨t, t2, rfl, h1, h2⟩ := h
 exact Dy h1 (by rw [← u5]; exact h2)
theorem FS.shown {f : Fc} (h : FS f) : (toP (fT f)).showable = true ∧ (toP (fT f)).shown.length ≤ 1000000 :=
 yY h.k.UM (fun a ha => by obtain ⟨b, hb, rfl⟩ := List.mem_map.mp ha; exact (h.as b hb).UM) (by rw [Lm9]; exact h.n)
structure KF (K : PySem.W.Frag) (H : Hp) (lk lf : Addr) (ks : List Kd) (fs : List Fc) : Prop where
 hk : ∃ kvs, H lk = some (.lst kvs) ∧ Paired (Kind K H) ks kvs
 nd : (ks.map (·.n)).Nodup
 few : ks.length ≤ 10000
 hf : ∃ fU, H lf = some (.lst fU) ∧ Paired (Fact K H) fs fU
 ok : ∀ f ∈ fs, FS f
theorem Kind.sm {K : PySem.W.Frag} {H H' : Hp} (s : ai H H') {k : Kd} {v : V} (h : Kind K H k v) : Kind K H' k v := by
 obtain ⟨t, e, q⟩ := h
 exact ⟨t, e, q.same s⟩
theorem Fact.sm {K : PySem.W.Frag} {H H' : Hp} (s : ai H H') {f : Fc} {v : V} (h : Fact K H f v) : Fact K H' f v := by
 obtain ⟨t, t2, e, q, q2⟩ := h
 exact ⟨t, t2, e, q.same s, q2.same s⟩
theorem KF.keep {K : PySem.W.Frag} {H H' : Hp} {lk lf : Addr} {ks : List Kd} {fs : List Fc} (s : ai H H') (h : KF K H lk lf ks fs) : KF K H' lk lf ks fs := by
 obtain ⟨⟨kvs, a1, a2⟩, a3, a4, ⟨fU, a5, a6⟩, a7⟩ := h
 exact ⟨⟨kvs, s _ _ a1, ak a2 (fun _ _ _ => Kind.sm s)⟩, a3, a4, ⟨fU, s _ _ a5, ak a6 (fun _ _ _ => Fact.sm s)⟩, a7⟩
def qw (C1 C2 : Addr) (n : Nat) (H : Hp) (E : XK) : Prop := (n = 1 → ∀ H', ai H H' → E (.ref C1) none H') ∧ (n = 2 → ∀ H', ai H H' → E (.ref C2) none H')
def qx (K : PySem.W.Frag) (C1 C2 : Addr) : Sp := fun vs H Q E => ∃ (lk lf : Addr) (ks : List Kd) (fs : List Fc), vs = [.ref lk, .ref lf] ∧ KF K H lk lf ks fs ∧ qw C1 C2 (aL ks fs) H E ∧ (aL ks fs = 0 → ∀ H', ai H H' → Q .bz H')
theorem DA (ks : List Kd) (f : Fc) : fault ks f = 0 ∨ fault ks f = 1 ∨ fault ks f = 2 := by
 unfold fault
 split
 ·exact .inr (.inl rfl)
 ·split
  ·exact .inl rfl
  ·exact .inr (.inr rfl)
theorem oE {ks : List Kd} {fs : List Fc} {i : Nat} (h : i < fs.length) : aL ks (fs.drop i) = if fault ks fs[i] = 0 then aL ks (fs.drop (i + 1)) else fault ks fs[i] := by
 rw [List.drop_eq_getElem_cons h]
 rfl
end Bk
namespace Bk
open PySem L2 eF
def ent (n : Cs) : Key × V := (Sum.inr (S n), tx n)
def tN (acc : List Cs) (n : Cs) : List Cs := if great n = true then (if n ∈ acc then acc else acc ++ [n]) else acc
def kn (acc ns : List Cs) : List Cs := ns.foldl tN acc
theorem pA (l : List Cs) (n : Cs) : eI (l.map ent) (Sum.inr (S n) : Key) = if n ∈ l then some (tx n) else none := by
 unfold eI
 induction l with
 | nil => rfl
 | cons a r ih =>
  rw [List.map_cons, List.find?_cons]
  have e : (decide ((ent a).1 = (Sum.inr (S n) : Key))) = decide (a = n) := by
   show decide ((Sum.inr (S a) : Key) = Sum.inr (S n)) = decide (a = n)
   exact decide_eq_decide.mpr ⟨fun h => mL (Sum.inr.inj h), fun h => by rw [h]⟩
  rw [e]
  by_cases h : a = n
  ·rw [decide_eq_true h, if_pos (by rw [h]; exact List.mem_cons_self ..)]
   subst h
   rfl
  ·rw [decide_eq_false h]
   dsimp only
   rw [ih]
   by_cases h2 : n ∈ r
   ·rw [if_pos h2, if_pos (List.mem_cons_of_mem _ h2)]
   ·rw [if_neg h2, if_neg (fun z => by rcases List.mem_cons.mp z with q | q; exact h q.symm; exact h2 q)]
theorem FN {l : List Cs} {n : Cs} (h : n ∉ l) : putK (l.map ent) (Sum.inr (S n) : Key) (tx n) = (l ++ [n]).map ent := by
 rw [wI _ (by rw [pA, if_neg h]), List.map_append]
 rfl
theorem nP : ∀ (ns acc : List Cs), (kn acc ns).length ≤ acc.length + ns.length
 | [], acc => by simp [kn]
 | n :: r, acc => by
  have z := nP r (tN acc n)
  have y : (tN acc n).length ≤ acc.length + 1 := by
   unfold tN
   split
   ·split
    ·omega
    ·simp
   ·omega
  show (kn (tN acc n) r).length ≤ _
  rw [List.length_cons]
  omega
theorem u6 {K : PySem.W.Frag} {H : Hp} {d t : Addr} {kvs : List (Key × V)} {o : HO} {xs : List V} (hd : H d = some (.dK kvs)) (h : aO K H t xs) : aO K (upd H d o) t xs := by
 rcases h with (h | ⟨ob, h⟩) | h
 ·refine .inl (.inl ?_)
  rw [az (fun e => by rw [e, hd] at h; cases h)]
  exact h
 ·refine .inl (.inr ⟨ob, ?_⟩)
  rw [az (fun e => by rw [e, hd] at h; cases h)]
  exact h
 ·exact .inr h
theorem DB {H : Hp} {a : Addr} {o : HO} (h : H a = some o) : upd H a o = H := by
 funext b
 unfold upd
 split
 ·rename_i e; rw [e, h]
 ·rfl
def yZ (K : PySem.W.Frag) : Sp := fun vs H Q _ => ∃ (d t : Addr) (acc ns : List Cs), vs = [.ref d, .ref t] ∧ H d = some (.dK (acc.map ent)) ∧ aO K H t (ns.map tx) ∧ (∀ n ∈ ns, Lc n) ∧ acc.length + ns.length ≤ 100000 ∧ Q .bz (upd H d (.dK ((kn acc ns).map ent)))
end Bk
namespace L2
open PySem PySem.Spec PyProof.Rows
theorem tO {te : TE} {aX : List Nat} {σ : St} {H1 : Hp} {Q : VK} {K : PySem.W.Frag} {a : Addr} {xs : List V} {D : Addr} (hn : xs.length < sizeLine) (Bl : H1 D = none) (ht : aO K H1 a xs) (f : V → V)
  (he : ∀ x H' R, x ∈ xs → ai H1 H' → (∀ xZ, ai H' xZ → R (f x) xZ) → te (dg σ (some x) aX) H' R)
  (hd : ∀ H', ai H1 H' → H' D = some (.lst (xs.map f)) → Q (.ref D) H') : pY CH te aX σ Q (HN K a) H1 D := by
 have hl : ∀ i ys H, (ai H1 H ∧ H D = some (.lst ys) ∧ ys = (xs.take i).map f) → aO K H a xs := fun i ys H p => ht.same p.1
 refine uC (J := HN K a) (Q := Q) (D := D) (H1 := H1) xs.length hn (fun i => xs.getD i .bz) (fun i ys H' => ai H1 H' ∧ H' D = some (.lst ys) ∧ ys = (xs.take i).map f) ⟨fun b o e => by rw [az (aY e Bl)]; exact e, ae, rfl⟩
  (fun ys H p => ⟨xs, hl _ ys H p, Nat.le_refl _⟩) (fun i ys H p h => ⟨xs, xs[i], hl i ys H p, by simp [h]⟩) (fun i ys H x H' p h y => ⟨y.1, by
   have z := y.2 xs (hl i ys H p)
   rw [Gd9, z] <;> rfl⟩) (fun i ys H' p => ⟨p.2.1, ?_⟩) (fun i ys H' hi p => ?_) (fun ys H' p => ?_)
 ·rw [p.2.2, Lm9, List.length_take]
  omega
 ·have hx : xs.getD i .bz = xs[i] := by rw [Gd9, Ge9 hi]; rfl
  rw [hx]
  unfold CH
  simp only [if_true]
  refine he _ _ _ (List.getElem_mem hi) p.1 fun H3 s3 => ?_
  refine ⟨s3 _ _ p.2.1, fun b o e => ?_, ae, ?_⟩
  ·rw [az (aY e Bl)]
   exact s3 _ _ (p.1 _ _ e)
  ·rw [p.2.2, List.take_succ_eq_append_getElem hi, List.map_append]
   rfl
 ·refine hd _ p.1 ?_
  rw [p.2.1, p.2.2, List.take_length]
end L2
namespace Bk
open PySem L2 eF
def dU (ks : List Kd) : List Cs := (ks.filter (·.l)).map (·.n)
def kz (ks : List Kd) (fs : List Fc) : List Fc := fs.filter fun f => !decide (f.k ∈ dU ks)
def jt (ks : List Kd) (fs : List Fc) : List Fc := fs.filter fun f => decide (f.k ∈ dU ks)
def pT (n : Cs) : Tr := .tup [.str (S n), .str (S n)]
def mY (K : PySem.W.Frag) (H : Hp) (v : V) (ps ls ns : List Tr) : Prop := ∃ p t0 t1 t2 y0 y1 y2, v = .ref p ∧ aO K H p [.ref t0, .ref t1, .ref t2, .bl false] ∧ aO K H t0 y0 ∧ Ts K H ps y0 ∧ aO K H t1 y1 ∧ Ts K H ls y1 ∧ aO K H t2 y2 ∧ Ts K H ns y2
theorem qw.mono {C1 C2 : Addr} {n : Nat} {H H' : Hp} {E : XK} (s : ai H H') (h : qw C1 C2 n H E) : qw C1 C2 n H' E := ⟨fun e H2 s2 => h.1 e H2 (ai.trans s s2), fun e H2 s2 => h.2 e H2 (ai.trans s s2)⟩
theorem gA {K : PySem.W.Frag} {H : Hp} : ∀ {fs : List Fc} {ys : List V}, Paired (Fact K H) fs ys → Ts K H (fs.map fT) ys := fun {fs ys} h => by
 have hl := Paired.length h
 refine ⟨by rw [Lm9]; exact hl, fun i h1 h2 => ?_⟩
 rw [List.getElem_map]
 exact Fact.BG (paired_at h i (by simpa using h1) h2)
theorem xc (f : Fc) : rD (fT f) = 1 ∧ (fT f).toD.deep ≤ 18 := ⟨rfl, by unfold fT; rw [bF]; decide⟩
theorem AM : ∀ (a b : List Str), mR (a.map Tr.str) (b.map Tr.str) = true
 | [], _ => by simp [mR]
 | _ :: _, [] => by simp [mR]
 | x :: a, y :: b => by simp [mR, oz, AM a b]
theorem AO (f g : Fc) : oz (fT f) (fT g) = true := by
 have z := AM (f.as.map S) (g.as.map S)
 unfold fT FJ
 simp only [oz, mR, Bool.true_and, Bool.and_true]
 exact z
theorem MV (f : Fc) : jb (fT f) = false := by
 unfold fT FJ
 simp [jb, fq]
theorem bj {K : PySem.W.Frag} {H H' : Hp} (s : ai H H') {ts : List Tr} {ys : List V} (h : Ts K H ts ys) : Ts K H' ts ys := ⟨h.1, fun i h1 h2 => (h.2 i h1 h2).same s⟩
end Bk
namespace L2
open PySem
theorem d9.RI {k : Nat} {A : Around} (r : d9 k A) : A.units + 80 < cLine := by have := r.un; omega
end L2
namespace Bk
open PySem L2 eF
theorem DC (acc a b : List Cs) : kn acc (a ++ b) = kn (kn acc a) b := by unfold kn; rw [List.foldl_append]
theorem tP {fs : List Fc} {i : Nat} (h : i < fs.length) : (fs.take (i + 1)).flatMap (·.as) = (fs.take i).flatMap (·.as) ++ fs[i].as := by
 rw [List.take_succ_eq_append_getElem h, List.flatMap_append]
 simp
theorem mZ : ∀ {fs : List Fc}, (∀ f ∈ fs, FS f) → (fs.flatMap (·.as)).length ≤ 100 * fs.length
 | [], _ => by simp
 | f :: r, h => by
  have z := mZ (fs := r) fun g hg => h g (List.mem_cons_of_mem _ hg)
  have y := (h f (List.mem_cons_self ..)).n
  rw [List.flatMap_cons, List.length_append, List.length_cons]
  omega
theorem qy {K : PySem.W.Frag} {H : Hp} {d : Addr} {kvs : List (Key × V)} {o : HO} {f : Fc} {v : V} (hd : H d = some (.dK kvs)) (h : Fact K H f v) : Fact K (upd H d o) f v := by
 obtain ⟨t, t2, e, h1, h2⟩ := h
 exact ⟨t, t2, e, u6 hd h1, u6 hd h2⟩
theorem xf {H : Hp} {d l : Addr} {kvs : List (Key × V)} {xs : List V} (hd : H d = some (.dK kvs)) (hl : H l = some (.lst xs)) : l ≠ d := fun e => by rw [e, hd] at hl; cases hl
end Bk
namespace L2
theorem AQ {acc : List Tr} {t u : Tr} (h : u ∈ nz acc t) : u ∈ acc ∨ u = t := by
 unfold nz at h
 split at h
 ·exact .inl h
 ·rcases List.mem_append.mp h with z | z
  ·exact .inl z
  ·exact .inr (List.mem_singleton.mp z)
theorem DD {l : List Tr} {t : Tr} (h : t ∈ dd l) : t ∈ l := by
 have key : ∀ (l acc : List Tr), t ∈ l.foldl nz acc → t ∈ acc ∨ t ∈ l := by
  intro l
  induction l with
  | nil => intro acc h; exact .inl h
  | cons x r ih =>
   intro acc h
   rcases ih (nz acc x) h with z | z
   ·rcases AQ z with y | y
    ·exact .inl y
    ·exact .inr (by rw [y]; exact List.mem_cons_self ..)
   ·exact .inr (List.mem_cons_of_mem _ z)
 rcases key l [] h with z | z
 ·cases z
 ·exact z
end L2
namespace L2
open PySem PySem.Spec PyProof.Rows
section
variable {X : Cx}
def FO (K : PySem.W.Frag) : R2 := fun x y H Q => ∃ p ys ts l, y = .ref p ∧ aD K H p ys ∧ Ts K H ts ys ∧ cB K H (Tr.tup l).toD x ∧ (Tr.tup l).toD.deep ≤ 8 ∧ (∀ t ∈ ts, (∃ q, t = .tup q) ∧ t.toD.deep ≤ 8) ∧ Q (.bl (!(ts.any fun a => eqT a (.tup l)))) H
theorem tQ (hu : X.A.units + 64 < cLine) : nC X (compareOp .NotIn) (FO X.K) := by
 intro pins s σ H x y v u Q I rx ry h
 obtain ⟨p, ys, ts, l, rfl, hq, ⟨hl, hT⟩, hd, EB, C9, q⟩ := h
 cases ry
 obtain ⟨its, r, pl, hz⟩ := I.list hq
 have hlen := r.length
 have at_ : ∀ i (hi : i < its.length), ∃ a, ys[i]'(by omega) = .ref a ∧ its[i] = .ref a := fun i hi => by
  obtain ⟨u1, f1, q1⟩ := r.get (i := i) (x := ys[i]'(by omega)) (by simp)
  have e1 : its[i] = u1 := (List.getElem?_eq_some_iff.mp f1).2
  obtain ⟨⟨qq, eq⟩, _⟩ := C9 _ (List.getElem_mem (show i < ts.length by omega))
  have z := hT i (by omega) (by omega)
  rw [eq] at z
  obtain ⟨a, _, _, ea, _⟩ := jq I z q1
  have hy : ys[i]'(by omega) = .ref a := by
   simp only [Tr.toD] at z
   cases UN : ys[i]'(by omega) with
   | ref b => rw [UN] at q1; cases q1; cases ea; rfl
   | _ => rw [UN] at z; cases z
  exact ⟨a, hy, by rw [e1, ea]⟩
 have RJ : ∀ i j (hi : i < its.length) (hj : j < its.length), its[i] = its[j] → ts[i]'(by omega) = ts[j]'(by omega) := fun i j hi hj e => by
  obtain ⟨a, ya, ia⟩ := at_ i hi
  obtain ⟨b, yb, ib⟩ := at_ j hj
  rw [ia, ib] at e
  have e : a = b := by injection e
  subst e
  have z1 := hT i (by omega) (by omega)
  have z2 := hT j (by omega) (by omega)
  rw [ya] at z1
  rw [yb] at z2
  exact jo (wD I rfl 8 (C9 _ (List.getElem_mem (show i < ts.length by omega))).2 z1 z2)
 classical
 let e : Value → Bool := fun w => decide (∃ i, ∃ hi : i < its.length, its[i] = w ∧ eqT (ts[i]'(by omega)) (.tup l) = true)
 have ee : ∀ i (hi : i < its.length), e its[i] = eqT (ts[i]'(by omega)) (.tup l) := fun i hi => by
  cases hb : eqT (ts[i]'(by omega)) (.tup l) with
  | true => exact decide_eq_true ⟨i, hi, rfl, hb⟩
  | false =>
   refine decide_eq_false ?_
   rintro ⟨j, hj, ej, tj⟩
   rw [RJ j i hj hi ej, hb] at tj
   cases tj
 refine SeqAt.notIn_listAt e pl.isList (fun w hw => ?_) ⟨.bl _, H, I, rfl, ?_⟩
 ·have hw : w ∈ its := by simpa using hw
  obtain ⟨i, hi, rfl⟩ := List.mem_iff_getElem.mp hw
  rw [ee i hi]
  obtain ⟨u1, f1, q1⟩ := r.get (i := i) (x := ys[i]'(by omega)) (by simp)
  have e1 : its[i] = u1 := (List.getElem?_eq_some_iff.mp f1).2
  rw [e1]
  exact gY I rfl 8 X.A.in1 (C9 _ (List.getElem_mem (show i < ts.length by omega))).2 (by show X.A.units + 1 + 8 < cLine; omega) (hT i (by omega) (by omega)) hd q1 rx
 ·have e2 : its.toArray.any e = ts.any fun a => eqT a (.tup l) := by
   rw [show its.toArray.any e = its.any e by simp]
   have e3 : its.map e = ts.map fun a => eqT a (.tup l) := by
    apply List.ext_getElem (by simp; omega)
    intro i h1 h2
    rw [List.getElem_map, List.getElem_map]
    exact ee i (by simpa using h1)
   have e4 : ∀ {α : Type} (l : List α) (f : α → Bool), l.any f = (l.map f).any id := fun l f => by rw [List.any_map]; rfl
   rw [e4, e3, ← e4]
  rw [e2]
  exact q
def MW (K : PySem.W.Frag) : R2 := fun x y H Q => ∃ a b xs ys, x = .ref a ∧ y = .ref b ∧ aO K H a xs ∧ aO K H b ys ∧ xs.length + ys.length ≤ sizeLine ∧
 (xs = [] → Q (.ref b) H) ∧ (xs ≠ [] → ys = [] → Q (.ref a) H) ∧ (xs ≠ [] → ys ≠ [] → ∀ p, H p = none → Q (.ref p) (upd H p (.tup (xs ++ ys))))
theorem FP : nC X (binaryOp .Add) (MW X.K) := by
 intro pins s σ H x y v u Q I rx ry h
 obtain ⟨a, b, xs, ys, rfl, rfl, ha, hb, hz, q0, q1, q2⟩ := h
 by_cases hx : xs = []
 ·cases rx
  cases ry
  obtain ⟨its, r1, p1, _⟩ := I.tuple ha
  obtain ⟨bw, r2, p2, _⟩ := I.tuple hb
  have hi : its = [] := r1.o8.mpr hx
  obtain ⟨⟨cls, dd, data, sl⟩, ho, hc, n, hd⟩ := id p1
  obtain ⟨⟨LV, GK, data2, yo⟩, xV, Cu, n2, hd2⟩ := id p2
  simp only at hc hd Cu hd2
  subst hc hd Cu hd2
  exact concat_meets ⟨_, ho, rfl⟩ ⟨_, xV, rfl⟩ noFill_tuple_add seq_tuple_add PySem.F.slot_tuple_add PySem.F.entry_tuple_add (PySem.F.args_tuple_add_2 _ _)
   (tuple_addW0 a b its.toArray bw.toArray n n2 dd GK sl yo (by simp [hi])) ⟨ho, xV, .ref b, H, I, rfl, q0 hx⟩
 ·exact EV pins s σ H _ _ v u Q I rx ry ⟨a, b, xs, ys, rfl, rfl, ha, hb, hx, hz, q1 hx, q2 hx⟩
end
end L2
namespace Bk
open PySem L2 eF
def qz (K : PySem.W.Frag) (H : Hp) (l : Addr) (ks : List Kd) : Prop := ∃ kvs, H l = some (.lst kvs) ∧ Paired (Kind K H) ks kvs
def jg (K : PySem.W.Frag) (H : Hp) (l : Addr) (fs : List Fc) : Prop := ∃ fU, H l = some (.lst fU) ∧ Paired (Fact K H) fs fU
theorem qz.sm {K : PySem.W.Frag} {H H' : Hp} {l : Addr} {ks : List Kd} (s : ai H H') (h : qz K H l ks) : qz K H' l ks := by
 obtain ⟨kvs, h1, h2⟩ := h
 exact ⟨kvs, s _ _ h1, ak h2 fun _ _ _ => Kind.sm s⟩
theorem jg.sm {K : PySem.W.Frag} {H H' : Hp} {l : Addr} {fs : List Fc} (s : ai H H') (h : jg K H l fs) : jg K H' l fs := by
 obtain ⟨kvs, h1, h2⟩ := h
 exact ⟨kvs, s _ _ h1, ak h2 fun _ _ _ => Fact.sm s⟩
structure K4 (ks : List Kd) : Prop where
 len : ks.length = 4
 nd : (ks.map (·.n)).Nodup
 ok : ∀ k ∈ ks, cA k.n = true ∧ k.c ≤ 4
def u7 (K : PySem.W.Frag) : Sp := fun vs H Q _ => ∃ (c : Int) (l : Addr) (ns : List Int), vs = [.int c, .ref l] ∧ aD K H l (ns.map V.int) ∧ 1 ≤ ns.length ∧ ns.length ≤ 100 ∧ (∀ n ∈ ns, 0 ≤ n ∧ n ≤ 4) ∧
 ∀ (p : Addr) (ks : List Kd) (H' : Hp), ai H H' → H p = none → qz K H' p ks → K4 ks → Q (.ref p) H'
def pB (K : PySem.W.Frag) : Sp := fun vs H Q _ => ∃ (lk ln : Addr) (c : Int) (ks : List Kd) (ns : List Cs), vs = [.ref lk, .ref ln, .int c] ∧ qz K H lk ks ∧ K4 ks ∧ H ln = some (.lst (ns.map tx)) ∧ 1 ≤ ns.length ∧ ns.length ≤ 100 ∧
 ∀ (v : V) (f : Fc) (H' : Hp), ai H H' → Fact K H' f v → (∃ k ∈ ks, f.k = k.n ∧ f.as.length = k.c) → (∀ a ∈ f.as, a ∈ ns) → Q v H'
def m4 (K : PySem.W.Frag) : Sp := fun vs H Q _ => ∃ (lk : Addr) (v : V) (ks : List Kd) (f : Fc), vs = [.ref lk, v] ∧ qz K H lk ks ∧ Fact K H f v ∧ f.k.length ≤ 1000 ∧ (∀ k ∈ ks, k.n.length ≤ 1000) ∧ Q (.int (fault ks f)) H
def DE (K : PySem.W.Frag) : Sp := fun vs H Q _ => ∃ (v : V) (f : Fc) (st : Cs) (n : Int), vs = [v, tx st, .int n] ∧ Fact K H f v ∧ f.as.length ≤ 100 ∧
 ∀ (v' : V) (f' : Fc) (H' : Hp), ai H H' → Fact K H' f' v' → (f'.k = f.k ∨ f'.k = st) → (∀ a ∈ f'.as, a ∈ f.as ∨ a = st) → f'.as.length ≤ f.as.length + 1 → Q v' H'
def qA (K : PySem.W.Frag) : Sp := fun vs H Q _ => ∃ (la t : Addr) (acc ns : List Cs), vs = [.ref la, .ref t] ∧ H la = some (.lst (acc.map tx)) ∧ aO K H t (ns.map tx) ∧ acc.length + ns.length ≤ 100000 ∧ (∀ n ∈ ns, cA n = true) ∧
 ∀ (l : Addr) (H' : Hp), ai H H' → H l = none → H' l = some (.lst ((kn acc ns).map tx)) → Q (.ref l) H'
def m5 (K : PySem.W.Frag) : Sp := fun vs H Q _ => ∃ (lk : Addr) (v : V) (ks : List Kd) (f : Fc), vs = [.ref lk, v] ∧ qz K H lk ks ∧ (ks.map (·.n)).Nodup ∧ Fact K H f v ∧ f.k.length ≤ 1000 ∧ (∀ k ∈ ks, k.n.length ≤ 1000) ∧ Q (.bl (decide (f.k ∈ dU ks))) H
structure FL (f : Fc) : Prop where
 k : cA f.k = true
 as : ∀ a ∈ f.as, cA a = true
 n : f.as.length ≤ 100
theorem cC {p : Cs} (h : cA p = true) : Lc p := by
 unfold cA at h
 rw [Bool.and_eq_true, Bool.and_eq_true] at h
 have h1 := of_decide_eq_true h.1
 have h2 := of_decide_eq_true h.2.1
 refine ⟨fun e => by rw [e] at h1; simp at h1, by omega, fun c hc => ?_⟩
 have z := List.all_eq_true.mp h.2.2 c hc
 have key : ∀ c : Nat, mK c = true → c < 200 := by
  intro c hc
  unfold mK at hc
  have a1 : ∀ d ∈ dW.cps.toList, d < 200 := by decide +kernel
  have a2 : ∀ d ∈ cZ.cps.toList, d < 200 := by decide +kernel
  have a3 : ∀ d ∈ II.cps.toList, d < 200 := by decide +kernel
  rw [Bool.or_eq_true, Bool.or_eq_true] at hc
  rcases hc with h | h | h
  ·exact a1 c (of_decide_eq_true h)
  ·exact a2 c (of_decide_eq_true h)
  ·exact a3 c (of_decide_eq_true h)
 have := key c z
 omega
theorem FQ {ks : List Kd} (nd : (ks.map (·.n)).Nodup) {i : Nat} (hi : i < ks.length) : decide (ks[i].n ∈ dU ks) = ks[i].l := by
 have RJ : ∀ j (hj : j < ks.length), ks[j].n = ks[i].n → j = i := fun j hj e => by
  have z := (List.getElem_inj (xs := ks.map (·.n)) (i := j) (j := i) (h₀ := by simpa using hj) (h₁ := by simpa using hi) nd).mp (by simpa using e)
  exact z
 cases hl : ks[i].l with
 | true =>
  refine decide_eq_true ?_
  unfold dU
  exact List.mem_map.mpr ⟨ks[i], List.mem_filter.mpr ⟨List.getElem_mem hi, hl⟩, rfl⟩
 | false =>
  refine decide_eq_false fun hm => ?_
  unfold dU at hm
  obtain ⟨k, uL, yd⟩ := List.mem_map.mp hm
  obtain ⟨EC, Ld⟩ := List.mem_filter.mp uL
  obtain ⟨j, hj, rfl⟩ := List.mem_iff_getElem.mp EC
  have e := RJ j hj yd
  subst e
  rw [hl] at Ld
  cases Ld
theorem FL.fs {f : Fc} (h : FL f) : FS f := ⟨cC h.k, fun a ha => cC (h.as a ha), h.n⟩
end Bk
namespace Bk
open PySem L2 eF
theorem ju {K : PySem.W.Frag} {H : Hp} {d t : Addr} {ys : List V} {o : HO} {xs : List V} (hd : H d = some (.lst ys)) (h : aO K H t xs) : aO K (upd H d o) t xs := by
 rcases h with (h | ⟨ob, h⟩) | h
 ·refine .inl (.inl ?_)
  rw [az (fun e => by rw [e, hd] at h; cases h)]
  exact h
 ·refine .inl (.inr ⟨ob, ?_⟩)
  rw [az (fun e => by rw [e, hd] at h; cases h)]
  exact h
 ·exact .inr h
theorem cJ {K : PySem.W.Frag} {H : Hp} {d : Addr} {ys : List V} {o : HO} {f : Fc} {v : V} (hd : H d = some (.lst ys)) (h : Fact K H f v) : Fact K (upd H d o) f v := by
 obtain ⟨t, t2, e, h1, h2⟩ := h
 exact ⟨t, t2, e, ju hd h1, ju hd h2⟩
theorem FT {K : PySem.W.Frag} {H : Hp} {d : Addr} {ys zs : List V} {ts : List Tr} {o : HO} (hd : H d = some (.lst ys)) (h : Ts K H ts zs) : Ts K (upd H d o) ts zs :=
 ⟨h.1, fun i h1 h2 => (h.2 i h1 h2).mono fun _ _ q => ju hd q⟩
theorem Jt {K : PySem.W.Frag} {H : Hp} {ts : List Tr} {zs : List V} {t : Tr} {z : V} (h : Ts K H ts zs) (hz : cB K H t.toD z) : Ts K H (ts ++ [t]) (zs ++ [z]) := by
 have hl := h.1
 refine ⟨by simp [hl], fun i h1 h2 => ?_⟩
 by_cases hi : i < ts.length
 ·rw [List.getElem_append_left hi, List.getElem_append_left (by omega)]
  exact h.2 i hi (by omega)
 ·have e : i = ts.length := by simp at h1; omega
  subst e
  rw [List.getElem_append_right (by omega), List.getElem_append_right (by omega)]
  simp [hl]
  exact hz
theorem Ju (l : List Tr) (t : Tr) : dd (l ++ [t]) = nz (dd l) t := by
 unfold dd
 rw [List.foldl_append]
 rfl
theorem tU {l : List Fc} {t : Tr} (h : t ∈ dd (l.map fT)) : ∃ g : Fc, t = fT g := by
 obtain ⟨g, _, e⟩ := List.mem_map.mp (DD h)
 exact ⟨g, e.symm⟩
end Bk
namespace Bk
open PySem L2 eF
theorem Jv (ns : List Cs) (lo hi : Option Int) : ∃ ms : List Cs, lj (ns.map tx) lo hi = ms.map tx ∧ ms.length ≤ ns.length ∧ ∀ m ∈ ms, m ∈ ns := by
 refine ⟨(ns.drop (HT.cy ns.length 0 lo)).take (HT.cy ns.length ns.length hi - HT.cy ns.length 0 lo), ?_, ?_, fun m hm => List.mem_of_mem_drop (List.mem_of_mem_take hm)⟩
 ·unfold lj
  rw [Lm9, List.map_take, List.map_drop]
 ·rw [List.length_take, List.length_drop]
  omega
end Bk
namespace L2
theorem pC {t1 t2 : TS} {D : Ends} {σ : St} {H : Hp} (Good : St → Hp → Prop) (h : (∀ σ' H', Good σ' H' → t2 D σ' H') → t1 { D with nx := t2 D } σ H) (fin : ∀ σ' H', Good σ' H' → t2 D σ' H') : LF t1 t2 D σ H := h fin
end L2
namespace Bk
open PySem L2 eF
theorem tV : ∀ (l m : List Cs), l.Nodup → (∀ x ∈ l, x ∈ m) → l.length ≤ m.length
 | [], _, _, _ => Nat.zero_le _
 | x :: r, m, nd, h => by
  have hx := h x (List.mem_cons_self ..)
  have nr := List.nodup_cons.mp nd
  have z := tV r (m.erase x) nr.2 fun y hy => (List.mem_erase_of_ne (fun e => nr.1 (by rw [← e]; exact hy))).mpr (h y (List.mem_cons_of_mem _ hy))
  rw [List.length_erase_of_mem hx] at z
  have : 1 ≤ m.length := List.length_pos_of_mem hx
  rw [List.length_cons]
  omega
theorem xg : ∀ (ns acc : List Cs), acc.Nodup → (kn acc ns).Nodup ∧ ∀ x ∈ kn acc ns, x ∈ acc ∨ (x ∈ ns ∧ great x = true)
 | [], acc, h => ⟨h, fun x hx => .inl hx⟩
 | n :: r, acc, h => by
  have hs : (tN acc n).Nodup ∧ ∀ x ∈ tN acc n, x ∈ acc ∨ (x = n ∧ great x = true) := by
   unfold tN
   split
   ·rename_i hg
    split
    ·exact ⟨h, fun x hx => .inl hx⟩
    ·rename_i hm
     refine ⟨List.nodup_append.mpr ⟨h, by simp, fun a ha b hb e => ?_⟩, fun x hx => ?_⟩
     ·rw [List.mem_singleton.mp hb] at e
      exact hm (by rw [← e]; exact ha)
     ·rcases List.mem_append.mp hx with z | z
      ·exact .inl z
      ·have e := List.mem_singleton.mp z
       exact .inr ⟨e, by rw [e]; exact hg⟩
   ·exact ⟨h, fun x hx => .inl hx⟩
  obtain ⟨z1, z2⟩ := xg r (tN acc n) hs.1
  refine ⟨z1, fun x hx => ?_⟩
  rcases z2 x hx with y | ⟨y, g⟩
  ·rcases hs.2 x y with q | ⟨q, g⟩
   ·exact .inl q
   ·exact .inr ⟨by rw [q]; exact List.mem_cons_self .., g⟩
  ·exact .inr ⟨List.mem_cons_of_mem _ y, g⟩
theorem qB {K : PySem.W.Frag} {H : Hp} {P : Fc → Prop} : ∀ {bs : List Unit} {ys : List V}, Paired (fun _ y => ∃ f, Fact K H f y ∧ P f) bs ys → ∃ fs, Paired (Fact K H) fs ys ∧ ∀ f ∈ fs, P f
 | _, _, .nil => ⟨[], .nil, fun f hf => nomatch hf⟩
 | _, _, .cons h t => by
  obtain ⟨f, h1, h2⟩ := h
  obtain ⟨fs, z1, z2⟩ := qB t
  refine ⟨f :: fs, .cons h1 z1, fun g hg => ?_⟩
  rcases List.mem_cons.mp hg with e | e
  ·rw [e]; exact h2
  ·exact z2 g e
end Bk
namespace Bk
open PySem L2 eF
structure GF (os : List Cs) (m : Nat) (f : Fc) : Prop where
 k : cA f.k = true
 as : ∀ a ∈ f.as, cA a = true ∧ (great a = true → a ∈ os)
 n : f.as.length ≤ m
theorem u9 {a : Cs} (h : Good GR.cps.toList a) : great a = false := by
 have key : ∀ c ∈ GR.cps.toList, decide (c ∈ cZ.cps.toList) = false := by decide +kernel
 exact key _ h.2
theorem va {a : Cs} (h : Good dW.cps.toList a) : great a = false := by
 have key : ∀ c ∈ dW.cps.toList, decide (c ∈ cZ.cps.toList) = false := by decide +kernel
 exact key _ h.2
end Bk
namespace L2
theorem m6 {i : Nat} {x : V} {σ : St} {H : Hp} {K : St → Hp → Prop} (h : K (σ.set i (some x)) H) : sO i x σ H K := h
end L2
namespace L2
end L2
namespace Bk
open PySem L2 eF
def DF (ps ls ns : List Tr) : Dt := .tup [(Tr.tup ps).toD, (Tr.tup ls).toD, (Tr.tup ns).toD, .bl false]
theorem y4 {K : PySem.W.Frag} {H : Hp} {t : Addr} {ts : List Tr} {ys : List V} (h : aO K H t ys) (hT : Ts K H ts ys) : cB K H (Tr.tup ts).toD (.ref t) := by
 simp only [Tr.toD]
 refine .tup h (by rw [toDs_length]; exact hT.1) fun i h1 h2 => ?_
 have h1' : i < ts.length := by rw [toDs_length] at h1; exact h1
 rw [toDs_get _ i h1']
 exact hT.2 i h1' h2
theorem mY.BG {K : PySem.W.Frag} {H : Hp} {v : V} {ps ls ns : List Tr} (h : mY K H v ps ls ns) : cB K H (DF ps ls ns) v := by
 obtain ⟨p, t0, t1, t2, y0, y1, y2, rfl, hp, h0, T0, h1, T1, h2, T2⟩ := h
 refine .tup hp rfl fun i i1 i2 => ?_
 match i, i1, i2 with
 | 0, _, _ => exact y4 h0 T0
 | 1, _, _ => exact y4 h1 T1
 | 2, _, _ => exact y4 h2 T2
 | 3, _, _ => exact .bl false
theorem pD {n : Nat} : ∀ {l : List Tr}, (∀ t ∈ l, t.toD.deep ≤ n) → Dt.bJ (Tr.toDs l) ≤ n
 | [], _ => Nat.zero_le _
 | t :: r, h => by
  have z := pD (l := r) fun u hu => h u (List.mem_cons_of_mem _ hu)
  have y := h t (List.mem_cons_self ..)
  show max t.toD.deep (Dt.bJ (Tr.toDs r)) ≤ n
  omega
end Bk
namespace PySem.W
open PySem PySem.Spec PySem.Calls PyProof.Rows Builtin Builtin.ObjectAttr Builtin.Getset_descriptor
theorem slot_ve_ga : Slot "ValueError" "__getattribute__" "BaseException.__getattribute__" :=
 .of (owner := "BaseException") (n := "__getattribute__") (by rw [typeLookup_type, builtinLookup_eq_fast]; kernel_rfl) (by decide +kernel) (by decide +kernel) (by decide +kernel)
  (by first | exact .inl (by decide +kernel) | exact .inr (by decide +kernel)) (by rw [isSubtype_type]; kernel_rfl)
structure ExcKit (K : Frag) (D : Addr) : Prop where
 ga : findIn K (.ref D) "__getattribute__" = some (some (.builtin "BaseException.__getattribute__"))
 gt : findIn K (.ref D) "__getattr__" = some none
 cl : findIn K (.ref D) "__class__" = some (some (.builtin "object.__class__"))
 hn : specialIn K (.builtin "object.__class__") "__get__" = some (some (.builtin "getset_descriptor.__get__"))
 hs : specialIn K (.builtin "object.__class__") "__set__" = some (some (.builtin "getset_descriptor.__set__"))
 mo : mroIn K D (.type "object") = some true
 mb : mroIn K D (.type "BaseException") = some true
 ic : isClsIn K D = true
section
variable {prog : Program} {w : World} {A : Around} {E : Value → Shared → Prop} {K : Frag} {x D : Addr} {ox : Obj}
theorem y6 {tp : Value} {s : Shared} {R : Result → Shared → Prop} (X : K.In s.heap) (hx : s.heap.get? x = some ox) (hc : ox.cls = .ref D) (hm : mroIn K D (.type "object") = some true)
  (h : R (.ok (.ret (.ref D))) s) : codeAny (model prog w) A (.call (.builtin "getset_descriptor.__get__") ⟨[.builtin "object.__class__", .ref x, tp], []⟩) R s := by
 obtain ⟨hh, g, dr, t, os⟩ := s
 have L0 : Looks (model prog w) hh (typeOf (.ref x)) (.ref D) := by rw [← hc]; exact (Looks.ld hx).andThen .now
 have L1 := looks_mroIn (M := model prog w) X hm
 refine codeAny_call_builtin KF.slot_gs.plain KF.entry_gs (KF.slot_gs.check _ _ _ _ _ _ _ _ KF.type_class (KF.args_gs _ _ _) ?_)
 unfold Builtin.«getset_descriptor.__get__» descrGet
 rw [dga_obj]
 refine wpAny_bind (wpAny_pure ?_)
 unfold descrGetter descrCheckInstance descrNameAndClass isInstance
 simp only [KF.owner_class]
 repeat lk
 refine ⟨Code.quiet_builtin _ (by decide +kernel), codeAny_builtin KF.entry_class ?_⟩
 unfold Builtin.«object.__class__» shownTypeOf
 repeat lk
 exact h
theorem exc_class_entry {tk : Tok} {s : Shared} {Q : Fin → Shared → Prop} (Z : ExcKit K D) (X : K.In s.heap) (hx : s.heap.get? x = some ox) (hc : ox.cls = .ref D) (hnc : notCls ox = true) (h : Q (.done (.ret (.ref D))) s) :
  wpAny (model prog w) A (Builtin.«object.__getattribute__» ⟨[.ref x, .str "__class__" tk], []⟩) Q E s := by
 obtain ⟨hh, g, d, t, os⟩ := s
 have L0 : Looks (model prog w) hh (typeOf (.ref x)) (.ref D) := by rw [← hc]; exact (Looks.ld hx).andThen .now
 have L1 := looks_findIn (M := model prog w) X Z.cl
 have f5 : typeOf (Value.builtin "object.__class__") = pure (.type "getset_descriptor") := KF.type_class
 have Zl : (⟨hh, g, d, t, os⟩ : Shared).TypeIs (.builtin "object.__class__") "getset_descriptor" := KF.type_class
 have f6 := F.slot_gs_get.lookup
 have f7 := F.slot_gs_set.lookup
 unfold Builtin.«object.__getattribute__»
 repeat (any_goals (first | assumption | with_reducible refine Looks.at (by assumption) ?_ | wp_step))
 refine y6 X hx hc Z.mo ?_
 exact wpAny_pure h
theorem exc_ga_check {M : Model} {G3 : Value} {s : Shared} {Q : Unit → Shared → Prop} (Z : ExcKit K D) (X : K.In s.heap) (hx : s.heap.get? x = some ox) (hc : ox.cls = .ref D) (hq : Q () s) : wpAny M A (checkBuiltinCall "BaseException.__getattribute__" ⟨[.ref x, G3], []⟩) Q E s := by
 obtain ⟨hh, g, d, t, os⟩ := s
 have hk : builtinKind "BaseException.__getattribute__" = some .slot := by decide +kernel
 have Jw : splitId "BaseException.__getattribute__" = some ("BaseException", "__getattribute__") := by decide +kernel
 have L0 : Looks M hh (typeOf (.ref x)) (.ref D) := by rw [← hc]; exact (Looks.ld hx).andThen .now
 have L1 : Looks M hh (isSubtype (.ref D) (.type "BaseException")) true := looks_mroIn X Z.mb
 have LI : Looks M hh (isInstance (.ref x) (.type "BaseException")) true := L0.andThen L1
 have ha := F.args_bexc_ga (.ref x) G3
 simp only [checkBuiltinCall, hk, Jw]
 refine wpAny_bind (LI.at ?_)
 refine wpAny_ite_split (fun hab => absurd hab (by decide)) fun _ => ?_
 exact wpAny_of_eq ha hq
theorem BH {s : Shared} {Q : Option Value → Shared → Prop} (Z : ExcKit K D) (X : K.In s.heap) (hx : s.heap.get? x = some ox) (hc : ox.cls = .ref D) (hnc : notCls ox = true) (h : Q (some (.ref D)) { s with toks := s.toks + 1 }) :
  wpAny (model prog w) A (getAttr? (.ref x) "__class__") Q E s := by
 obtain ⟨hh, g, d, t, os⟩ := s
 have L0 : Looks (model prog w) hh (typeOf (.ref x)) (.ref D) := by rw [← hc]; exact (Looks.ld hx).andThen .now
 have L1 := looks_findIn (M := model prog w) X Z.ga
 have L2 := looks_findIn (M := model prog w) X Z.gt
 have Xc : (Value.builtin "BaseException.__getattribute__" == Value.builtin "object.__getattribute__") = false := by decide +kernel
 have Xd : (onTheHeap (Value.ref D) && Value.builtin "BaseException.__getattribute__" == Value.builtin "object.__getattribute__") = false := by rw [Xc]; rfl
 unfold getAttr? getAttrBy? getAttrBy
 refine wpAny_bind (wpAny_mkText (wpAny_bind (wpAny_attempt (wpAny_holding (wpAny_bind (L0.at (wpAny_bind (L1.at ?_))))))))
 dsimp only
 rw [Xd]
 refine wpAny_ite_split (fun hab => absurd hab (by decide)) fun _ => ?_
 unfold getAttrByItsOwn hookBefore
 have f3 := slot_ve_ga.bind (.ref x)
 refine wpAny_bind (show wpAny (model prog w) A (typeLookup (Value.ref D) (Str.ofString "__getattr__")) _ _ _ from L2.at ?_)
 refine wpAny_bind (wpAny_attempt (wpAny_holding ?_))
 unfold callGetattribute
 refine wpAny_ite_split (fun hab => absurd hab (by decide)) fun _ => ?_
 repeat (any_goals (first | assumption | wp_step))
 refine codeAny_call_builtin slot_ve_ga.plain F.entry_bexc_ga (exc_ga_check Z X hx hc (exc_class_entry Z X hx hc hnc ?_))
 exact handed_on rfl (wpAny_pure h)
theorem kitx_exc (Z : ExcKit K D) : KitX K (.ref x) (.ref D) (fun h => h.get? x = some ox ∧ ox.cls = .ref D ∧ notCls ox = true) where
 ty := fun _ _ _ p => by rw [← p.2.1]; exact (Looks.ld p.1).andThen .now
 it := fun _ _ X _ => by
  have Jy : (clsIn K D).isSome = true := Z.ic
  unfold clsIn at Jy
  split at Jy
  ·rename_i c' d' Xe sl' ho
   intro A' Q' E' s' k q
   unfold isType loadHead
   exact wpAny_bind (wpAny_loadPart (k _ _ (X _ _ ho)) (wpAny_pure q))
  ·cases Jy
 ne := fun h tp dd its n sl X ML => by
  have Jy : (clsIn K D).isSome = true := Z.ic
  refine Bool.eq_false_iff.mpr fun q => ?_
  have e : D = tp := Value.ref.inj (beq_iff_eq.mp q)
  subst e
  unfold clsIn at Jy
  split at Jy
  ·rename_i c' d' Xe sl' ho
   have z := (X _ _ ho).symm.trans ML
   cases z
  ·cases Jy
 ca := fun X p k => BH Z X p.1 p.2.1 p.2.2 k
end
end PySem.W
namespace L2
open PySem PySem.Spec PyProof.Rows
section
variable {X : Cx} {x : Addr} {oe : Obj} {cls : Value}
def BI (K : PySem.W.Frag) (x : Addr) (cls : Value) : List V → Hp → VK → Prop := fun xs H Q => ∃ (y : V) (C : Value) (D : Addr) (b : Bool), xs = [.ref x, y] ∧ ((∃ c, y = .ref c ∧ C = .ref c) ∨ ∃ n, y = .ty n ∧ C = .type n) ∧ cls = .ref D ∧ PySem.W.ExcKit K D ∧ PySem.W.kitOne K (.ref D) C = some b ∧ Q (.bl b) H
theorem jv (hp : (x, oe) ∈ X.pn) (hc : oe.cls = cls) (hnc : PySem.W.notCls oe = true) : cw X (.builtin "isinstance") (BI X.K x cls) := by
 intro pins s σ H xs us Q I r h
 obtain ⟨y, C, D, b, rfl, hy, e, Z, hk, q⟩ := h
 obtain ⟨u, u2, rfl, rx, ru⟩ := vals2 r
 cases (show u = Value.ref x from rx)
 have e2 : u2 = C := by
  rcases hy with ⟨c, rfl, rfl⟩ | ⟨n, rfl, rfl⟩
  ·exact ru
  ·exact ru
 subst e2
 have hx := (I.pin (x, oe) (List.mem_append_left _ hp)).1
 exact PySem.W.kia_one (PySem.W.kitx_exc (ox := oe) Z) I.pM ⟨hx, hc.trans e, hnc⟩ hk (by intro z; cases z) fun tk => ⟨.bl b, H, I.tok _, rfl, q⟩
end
abbrev jw (X : Cx) (x : Addr) (oe : Obj) : Cx := { X with A := X.A.mark (some (.ref x)), calm := false, pn := X.pn ++ [(x, oe)], xe := fun _ _ => False }
def Xf (K : PySem.W.Frag) (C : Value) (i : Nat) (ts : Addr → Value → TS) (tr : Value → TS) : Value → TS := fun cls D σ H => ∃ b, PySem.W.exmOne K cls C = some b ∧
 (b = true → ∀ x, ts x cls { nx := fun σ H => D.nx (σ.set i none) H, rt := D.rt, bk := fun σ H => D.bk (σ.set i none) H, ct := fun σ H => D.ct (σ.set i none) H } (σ.set i (some (.ref x))) H) ∧ (b = false → tr cls D σ H)
theorem Jz {X : Cx} {pins : List (Addr × Obj)} {σ : St} {H : Hp} {s : Shared} {M : Model} {A : Around} {E : Value → Shared → Prop} {i : Nat} {n : Str} {Q : Bool → Shared → Prop} (I : Inv X pins σ H s) (hN : X.N.Nodup) (hi : X.N[i]? = some n) (hk : X.env.scope.names.lookup n = some .local)
  (hv : ∃ v, σ[i]? = some (some v)) (h : ∀ s', Inv X pins (σ.set i none) H s' → Q true s') : wpAny M A (nsDel X.env.locals n) Q E s := by
 obtain ⟨m, hn, hl⟩ := id I.loc
 have A7 := I.A7
 obtain ⟨v0, hv0⟩ := hv
 have Xg : (m n).isSome = true := by
  obtain ⟨u, r, q⟩ := hl i n v0 hi hv0 (.inl hk)
  rcases q with ⟨_, e⟩ | ⟨k, c, e, z⟩
  ·rw [e]; rfl
  ·have hk' : X.env.kindOf n = some .local := hk
   rcases k with k | k <;> rw [hk'] at k <;> cases k
 refine wpAny_nsDel_keeps hn fun h' v hn' hs => ?_
 rw [Xg]
 have tracked : jh X.prog X.w H h' := fun b ob e => by
  refine (I.hok b ob e).wy (fun c w' hc q => (hs.2 c ?_).trans q) (fun _ q => q) fun _ _ q => q
  rintro rfl
  rcases hc with rfl | hc
  ·rw [I.free] at e; cases e
  ·rw [I.free] at hc; cases hc
 refine h _ ⟨I.ok, I.os, I.bare, ⟨fun b o e nn hb hx => ?_, fun b o e nn hb hx => ?_, I.base.free, fun b o e hx => ?_, I.base.jd, I.base.gM, I.base.je⟩, ⟨_, hn', fun j y v' e1 e2 e3 => ?_⟩, fun y c e => ?_, I.free, I.eQ, fun p hp => ?_, tracked, by rw [List.length_set]; exact I.len⟩
 ·exact (hs.2 b (Nat.ne_of_lt (Nat.lt_of_lt_of_le (Heap.lt_size e) I.ok.above))).trans (I.base.keep b o e nn hb hx)
 ·obtain ⟨sl, e1⟩ := I.base.slot b o e nn hb hx
  exact ⟨sl, (hs.2 b (Nat.ne_of_lt (Nat.lt_of_lt_of_le (Heap.lt_size e) I.ok.above))).trans e1⟩
 ·obtain ⟨o', e1⟩ := I.base.there b o e hx
  exact ⟨o', (hs.2 b (Nat.ne_of_lt (Nat.lt_of_lt_of_le (Heap.lt_size e) I.ok.above))).trans e1⟩
 ·by_cases hj : j = i
  ·subst hj
   rw [List.getElem?_set_self (List.getElem?_eq_some_iff.mp hv0).1] at e2
   cases e2
  ·rw [List.getElem?_set_ne (Ne.symm hj)] at e2
   obtain ⟨u', r', q⟩ := hl j y v' e1 e2 e3
   refine ⟨u', r', ?_⟩
   rcases q with ⟨k, e⟩ | ⟨k, c, e, z⟩
   ·refine .inl ⟨k, ?_⟩
    have : y ≠ n := fun e => hj (pN hN e1 (e ▸ hi))
    simp [this, e]
   ·exact .inr ⟨k, c, e, z.sameBut hs (A7 y c e)⟩
 ·obtain ⟨w', z⟩ := I.cell y c e
  exact ⟨w', z.sameBut hs (A7 y c e)⟩
 ·obtain ⟨e, nn, ne, nf, d⟩ := I.pin p hp
  exact ⟨(hs.2 p.1 ne).trans e, nn, ne, nf, d⟩
theorem pF {X : Cx} {pins : List (Addr × Obj)} {σ : St} {H : Hp} {s : Shared} {M : Model} {A : Around} {E : Value → Shared → Prop} {i : Nat} {n : Str} {pos : Pos} {Q : Unit → Shared → Prop} (I : Inv X pins σ H s) (hN : X.N.Nodup) (hi : X.N[i]? = some n) (hk : X.env.scope.names.lookup n = some .local)
  (h : ∀ s', Inv X pins (σ.set i none) H s' → Q () s') : wpAny M A (do bindName X.env n .none; unbindBehindTheSuite X.env n pos) Q E s := by
 have hp : (X.env.scope.kind == .class || (X.env.scope.kind == .module && X.env.locals != X.env.globals)) = false := by rw [I.ok.kind]; rfl
 have hl : X.env.kindOf n = some .local := hk
 have Pe : i < σ.length := by rw [I.len]; exact (List.getElem?_eq_some_iff.mp hi).1
 refine wpAny_bind (wpAny_bindName (mi (v := .bz) I hN hi (.inl hk) rfl (fun s1 I1 => ?_) (.inr hk)))
 unfold unbindBehindTheSuite
 refine wpAny_onRaise ?_
 unfold unbindName
 refine wpAny_bind (wpAny_point (wpAny_bind ?_))
 unfold deleteName
 simp only [hl, hp]
 rw [if_neg (by decide)]
 refine wpAny_bind (Jz I1 hN hi hk ⟨.bz, List.getElem?_set_self Pe⟩ fun s2 I2 => ?_)
 simp only [Bool.not_true, Bool.false_eq_true, if_false]
 rw [List.set_set] at I2
 exact wpAny_pure (wpAny_point (h _ I2))
theorem MX {X : Cx} {C : Value} {nm n : Str} {i : Nat} {np pos : Pos} {b₀ : Stmt} {body : List Stmt} {rest : List ExceptHandler} {ts : Addr → Value → TS} {tr : Value → TS} (hN : X.N.Nodup) (hi : X.N[i]? = some n) (hx : X.env.scope.names.lookup n = some .local)
  (hg : Gl X nm) (hm : X.mg nm = some C) (hs : ∀ a oe cls, oe.cls = cls → PySem.W.notCls oe = true → xT (jw X a oe) (b₀ :: body) (ts a cls)) (hr : PH X rest tr)
  (uw : (nm == ("__debug__" : Str)) = false := by decide) : PH X (.ExceptHandler (some (.Name nm np)) (some n) (b₀ :: body) pos :: rest) (Xf X.K C i ts tr) := by
 intro pins s σ H D x cls B a0 L h
 obtain ⟨b, eb, ht, hf⟩ := h
 have I : Inv X pins σ H s := L.land s.heap (Heap.UpToSlots.of_keeps fun _ _ q => q) L.fl.1
 have Is : Inv (Am X x) pins σ H s := I.cx rfl (fun z => nomatch z) fun _ q => q
 obtain ⟨oe, he, hc⟩ := L.fl.there
 have lt : PySem.W.Looks (model X.prog X.w) s.heap (typeOf (.ref x)) cls := by
  subst hc
  exact (PySem.W.Looks.ld he).andThen .now
 refine wpAny_handleBy_cons (codeAny_handlers_test (mj (X := Am X x) Is hg hm ((PySem.W.exm_one I.pM lt eb).here ?_) uw)) (by intro q; cases q)
 cases b with
 | false => exact hr pins s σ H D x cls B a0 L (hf rfl)
 | true =>
  refine codeAny_handlers_suite_as (lands_againW L.fl fun h' RK sm => ?_)
  have I' : Inv X pins σ H { s with heap := h' } := L.land h' sm RK.1
  obtain ⟨Le, vs', he', hc', hd', _⟩ := RK.first
  have RL : PySem.W.notCls Le = true := by
   unfold PySem.W.notCls
   rw [hd']
  have RM : ∀ b ∈ eY X.stack, b ≠ x := fun b hb e => by
   obtain ⟨_, o2, e2, hd2⟩ := RK.2.2.1.mem hb
   rw [e, he'] at e2
   cases e2
   exact absurd hd' (hd2 _)
  have UO : x ∉ eY X.stack := fun hm => RM x hm rfl
  have RN : x ≠ X.env.locals := fun e => by
   obtain ⟨m, ⟨o, es, ep, ho, ye, _⟩, _⟩ := I'.loc
   have ho : h'.get? X.env.locals = some o := ho
   rw [← e, he'] at ho
   cases ho
   rw [hd'] at ye
   cases ye
  have Ak : x ∉ X.fs := fun hm => by
   rcases I.ok.KS with z | ⟨z, _⟩
   ·exact UO (by rw [z]; exact hm)
   ·refine UO ?_
    rw [z]
    unfold eY
    rw [List.filterMap_cons]
    split
    ·exact hm
    ·exact List.mem_cons_of_mem _ hm
  have I2 : Inv (jw X x Le) pins σ H { s with heap := h' } :=
   ⟨I'.ok.cx rfl (fun z => nomatch z), I'.os, I'.bare, I'.base, I'.loc, I'.cell, I'.free, I'.eQ, (fun p hp => by
    rcases List.mem_append.mp hp with q | q
    ·rcases List.mem_append.mp q with q | q
     ·exact I'.pin p (List.mem_append_left _ q)
     ·have e := List.mem_singleton.mp q
      subst e
      exact ⟨he', L.fr, RN, Ak, fun v z => by rw [hd'] at z; cases z⟩
    ·exact I'.pin p (List.mem_append_right _ q)), I'.hok, I'.len⟩
  refine mi (X := jw X x Le) (v := .ref x) I2 hN hi (.inl hx) rfl (fun s1 I3 => ?_) (.inr hx)
  refine wpAny_mono (hs x Le cls hc' RL pins _ _ H _ I3 (ht rfl x)) (fun fw s2 q => ?_) fun _ _ z => False.elim z
  have back : ∀ {σ' : St} {H' : Hp}, Inv (jw X x Le) pins σ' H' s2 → Inv X pins σ' H' s2 := fun {σ' H'} J => J.cx (X := jw X x Le) (A' := X.A) rfl I.ok.hd fun p z => by
   rcases List.mem_append.mp z with q | q
   ·exact List.mem_append_left _ (List.mem_append_left _ q)
   ·exact List.mem_append_right _ q
  dsimp only
  cases fw with
  | next =>
   obtain ⟨σ', H', J, q⟩ := q
   exact pF (back J) hN hi hx fun s' J' => ⟨_, H', J', q⟩
  | brk =>
   obtain ⟨σ', H', J, q⟩ := q
   exact pF (back J) hN hi hx fun s' J' => ⟨_, H', J', q⟩
  | cont =>
   obtain ⟨σ', H', J, q⟩ := q
   exact pF (back J) hN hi hx fun s' J' => ⟨_, H', J', q⟩
  | ret u =>
   obtain ⟨v, σ', H', J, r, q⟩ := q
   exact pF (back J) hN hi hx fun s' J' => ⟨v, _, H', J', r, q⟩
end L2
namespace L2
open PySem PySem.Spec PyProof.Rows
section
variable {X : Cx} {e : Expr} {te : TE} {pre : Str} {j : Nat} {p1 p2 p3 : Pos}
end
end L2
namespace Bk
open PySem L2 eF
structure UP (ps : List Cs) : Prop where
 n : ps.length ≤ 20000
 sum : (ps.map List.length).sum ≤ 20000
 Zm : ∀ p ∈ ps, ∀ c ∈ p, c < 16 ^ 8
def Ref (C : Addr) (H : Hp) (E : XK) : Prop := ∀ H', ai H H' → E (.ref C) none H'
end Bk
namespace L2
open PySem PySem.Spec PyProof.Rows
mutual
theorem m7 : ∀ d : Dt, nH d d = true
 | .bz => by unfold nH; rfl
 | .bl b => by unfold nH; exact beq_self_eq_true b
 | .int i => by unfold nH; exact beq_self_eq_true i
 | .str x => by unfold nH; exact beq_self_eq_true x
 | .tup ds => by unfold nH; exact tW ds
theorem tW : ∀ ds : List Dt, ky ds ds = true
 | [] => by unfold ky; rfl
 | d :: r => by unfold ky; rw [m7 d, tW r]; rfl
end
section
variable {X : Cx}
def Alike (K : PySem.W.Frag) (H : Hp) (x y : V) : Prop := ∃ (a b : Addr) (xs ys : List V) (ds : List Dt), x = .ref a ∧ y = .ref b ∧ aD K H a xs ∧ aD K H b ys ∧ ds.length = xs.length ∧ ds.length = ys.length ∧ (∀ d ∈ ds, d.deep ≤ 20) ∧
 (∀ (i : Nat) (h0 : i < ds.length) (h1 : i < xs.length), cB K H ds[i] xs[i]) ∧ (∀ (i : Nat) (h0 : i < ds.length) (h1 : i < ys.length), cB K H ds[i] ys[i])
def RO (K : PySem.W.Frag) : R2 := fun x y H Q => Alike K H x y ∧ Q (.bl true) H
def RP (K : PySem.W.Frag) : R2 := fun x y H Q => Alike K H x y ∧ Q (.bl false) H
theorem xh {pins : List (Addr × Obj)} {σ : St} {H : Hp} {s : Shared} (I : Inv X pins σ H s) (hu : X.A.units + 64 < cLine) {a b : Addr} {xs ys : List V} {ds : List Dt} {its bw : List Value} (sW : Vals xs its) (sX : Vals ys bw) (e1 : ds.length = xs.length) (e2 : ds.length = ys.length) (hd : ∀ d ∈ ds, d.deep ≤ 20)
  (h1 : ∀ (i : Nat) (h0 : i < ds.length) (h1 : i < xs.length), cB X.K H ds[i] xs[i]) (h2 : ∀ (i : Nat) (h0 : i < ds.length) (h1 : i < ys.length), cB X.K H ds[i] ys[i]) (j : Nat) (j1 : j < its.toArray.size) (j2 : j < bw.toArray.size) : SeqAt.EqAt X.A.in1 s its.toArray[j] bw.toArray[j] true := by
 have rL := sW.length
 have rM := sX.length
 have Pq : j < its.length := by simpa using j1
 have Pu : j < bw.length := by simpa using j2
 obtain ⟨u1, f1, q1⟩ := sW.get (i := j) (x := xs[j]'(by omega)) (by simp)
 obtain ⟨u2, f2, q2⟩ := sX.get (i := j) (x := ys[j]'(by omega)) (by simp)
 have c1 : its.toArray[j] = u1 := by
  have z := List.getElem?_eq_some_iff.mp f1
  simpa using z.2
 have c2 : bw.toArray[j] = u2 := by
  have z := List.getElem?_eq_some_iff.mp f2
  simpa using z.2
 rw [c1, c2]
 have z := gY I rfl 20 X.A.in1 (hd _ (List.getElem_mem (show j < ds.length by omega))) (by show X.A.units + 1 + 20 < cLine; omega) (h1 j (by omega) (by omega)) (h2 j (by omega) (by omega)) q1 q2
 rw [m7] at z
 exact z
theorem RQ (hu : X.A.units + 64 < cLine) : nC X (compareOp .Eq) (RO X.K) := by
 intro pins s σ H x y v u Q I rx ry h
 obtain ⟨⟨a, b, xs, ys, ds, rfl, rfl, g1, g2, l1, l2, hd, h1, h2⟩, q⟩ := h
 cases rx
 cases ry
 obtain ⟨its, sW, ⟨o1, n1, p1, c1, d1, f1⟩, _⟩ := I.list g1
 obtain ⟨bw, sX, ⟨o2, n2, p2, c2, d2, f2⟩, _⟩ := I.list g2
 have i1 : s.heap.IsList a its.toArray := ⟨o1, p1, c1, n1, by assumption⟩
 have i2 : s.heap.IsList b bw.toArray := ⟨o2, p2, c2, n2, by assumption⟩
 have rL := sW.length
 have rM := sX.length
 refine SeqAt.RcAt.lists (e := fun _ => true) i1 i2 (by simp; omega) (by omega) (fun j j1 j2 => xh (a := a) (b := b) I hu sW sX l1 l2 hd h1 h2 j j1 j2) _ _ _ _ ?_
 refine ⟨.bl _, H, I, rfl, ?_⟩
 have e : (List.range its.toArray.size).all (fun _ => true) = true := by simp
 rw [e]
 exact q
theorem DG (hu : X.A.units + 64 < cLine) : nC X (compareOp .NotEq) (RP X.K) := by
 intro pins s σ H x y v u Q I rx ry h
 obtain ⟨⟨a, b, xs, ys, ds, rfl, rfl, g1, g2, l1, l2, hd, h1, h2⟩, q⟩ := h
 cases rx
 cases ry
 obtain ⟨its, sW, ⟨o1, n1, p1, c1, d1, f1⟩, _⟩ := I.list g1
 obtain ⟨bw, sX, ⟨o2, n2, p2, c2, d2, f2⟩, _⟩ := I.list g2
 have i1 : s.heap.IsList a its.toArray := ⟨o1, p1, c1, n1, by assumption⟩
 have i2 : s.heap.IsList b bw.toArray := ⟨o2, p2, c2, n2, by assumption⟩
 have rL := sW.length
 have rM := sX.length
 refine SeqAt.RcNeAt.lists (e := fun _ => true) i1 i2 (by simp; omega) (by omega) (fun j j1 j2 => xh (a := a) (b := b) I hu sW sX l1 l2 hd h1 h2 j j1 j2) _ _ _ _ ?_
 refine ⟨.bl _, H, I, rfl, ?_⟩
 have e : (List.range its.toArray.size).all (fun _ => true) = true := by simp
 rw [e]
 exact q
theorem Alike.plain {K : PySem.W.Frag} {H : Hp} {a b : Addr} {ds : List Dt} {xs : List V} (h1 : aD K H a xs) (h2 : aD K H b xs) (hl : ds.length = xs.length) (hd : ∀ d ∈ ds, d.deep ≤ 20) (h : ∀ (i : Nat) (h0 : i < ds.length) (h1 : i < xs.length), cB K H ds[i] xs[i]) : Alike K H (.ref a) (.ref b) :=
 ⟨a, b, xs, xs, ds, rfl, rfl, h1, h2, hl, hl, hd, h, h⟩
theorem Alike.bools {K : PySem.W.Frag} {H : Hp} {a b : Addr} {bs : List Bool} (h1 : aD K H a (bs.map V.bl)) (h2 : aD K H b (bs.map V.bl)) : Alike K H (.ref a) (.ref b) := by
 refine .plain (ds := bs.map Dt.bl) h1 h2 (by simp) (fun d hd => ?_) fun i h0 h1 => ?_
 ·obtain ⟨b, _, rfl⟩ := List.mem_map.mp hd
  simp [Dt.deep]
 ·rw [List.getElem_map, List.getElem_map]
  exact .bl _
theorem Alike.texts {K : PySem.W.Frag} {H : Hp} {a b : Addr} {bs : List Str} (h1 : aD K H a (bs.map V.str)) (h2 : aD K H b (bs.map V.str)) : Alike K H (.ref a) (.ref b) := by
 refine .plain (ds := bs.map Dt.str) h1 h2 (by simp) (fun d hd => ?_) fun i h0 h1 => ?_
 ·obtain ⟨b, _, rfl⟩ := List.mem_map.mp hd
  simp [Dt.deep]
 ·rw [List.getElem_map, List.getElem_map]
  exact .str _
end
end L2
namespace L2
open PySem PySem.Spec PyProof.Rows
section
variable {X : Cx}
theorem BJ {pins : List (Addr × Obj)} {σ : St} {H : Hp} {s : Shared} {A : Around} (I : Inv X pins σ H s) (hu : A.units + 30 < cLine) {xs ys : List V} {ds : List Dt} {its bw : List Value} (sW : Vals xs its) (sX : Vals ys bw) (e1 : ds.length = xs.length) (e2 : ds.length = ys.length) (hd : ∀ d ∈ ds, d.deep ≤ 20)
  (h1 : ∀ (i : Nat) (h0 : i < ds.length) (h1 : i < xs.length), cB X.K H ds[i] xs[i]) (h2 : ∀ (i : Nat) (h0 : i < ds.length) (h1 : i < ys.length), cB X.K H ds[i] ys[i]) (j : Nat) (j1 : j < its.toArray.size) (j2 : j < bw.toArray.size) : SeqAt.EqAt A s its.toArray[j] bw.toArray[j] true := by
 have rL := sW.length
 have rM := sX.length
 have Pq : j < its.length := by simpa using j1
 have Pu : j < bw.length := by simpa using j2
 obtain ⟨u1, f1, q1⟩ := sW.get (i := j) (x := xs[j]'(by omega)) (by simp)
 obtain ⟨u2, f2, q2⟩ := sX.get (i := j) (x := ys[j]'(by omega)) (by simp)
 have c1 : its.toArray[j] = u1 := by
  have z := List.getElem?_eq_some_iff.mp f1
  simpa using z.2
 have c2 : bw.toArray[j] = u2 := by
  have z := List.getElem?_eq_some_iff.mp f2
  simpa using z.2
 rw [c1, c2]
 have z := gY I rfl 20 A (hd _ (List.getElem_mem (show j < ds.length by omega))) (by omega) (h1 j (by omega) (by omega)) (h2 j (by omega) (by omega)) q1 q2
 rw [m7] at z
 exact z
theorem y7 {pins : List (Addr × Obj)} {σ : St} {H : Hp} {s : Shared} {A : Around} (I : Inv X pins σ H s) (hu : A.units + 40 < cLine) {x y : V} {u v : Value} (h : Alike X.K H x y) (rx : RelV x u) (ry : RelV y v) : SeqAt.EqAt A s u v true := by
 obtain ⟨a, b, xs, ys, ds, rfl, rfl, g1, g2, l1, l2, hd, h1, h2⟩ := h
 cases rx
 cases ry
 obtain ⟨its, sW, ⟨o1, n1, p1, c1, d1, f1⟩, _⟩ := I.list g1
 obtain ⟨bw, sX, ⟨o2, n2, p2, c2, d2, f2⟩, _⟩ := I.list g2
 have i1 : s.heap.IsList a its.toArray := ⟨o1, p1, c1, n1, by assumption⟩
 have i2 : s.heap.IsList b bw.toArray := ⟨o2, p2, c2, n2, by assumption⟩
 have rL := sW.length
 have rM := sX.length
 by_cases hab : a = b
 ·subst hab
  exact SeqAt.EqAt.same _
 ·refine SeqAt.EqAt.of_refs hab ?_
  have z := SeqAt.RcAt.lists (A := A) (e := fun _ => true) i1 i2 (by simp; omega) (by omega) (fun j j1 j2 => BJ (A := A.in1) I (by show A.units + 1 + 30 < cLine; omega) sW sX l1 l2 hd h1 h2 j j1 j2)
  have e : (List.range its.toArray.size).all (fun _ => true) = true := by simp
  rw [e] at z
  exact z
def MY (K : PySem.W.Frag) : R2 := fun x y H Q => ∃ (a b : Addr) (xs ys : List V), x = .ref a ∧ y = .ref b ∧ aD K H a xs ∧ aD K H b ys ∧ xs.length = ys.length ∧ (∀ (i : Nat) (h1 : i < xs.length) (h2 : i < ys.length), Alike K H xs[i] ys[i]) ∧ Q (.bl false) H
theorem FU (hu : X.A.units + 64 < cLine) : nC X (compareOp .NotEq) (MY X.K) := by
 intro pins s σ H x y v u Q I rx ry h
 obtain ⟨a, b, xs, ys, rfl, rfl, g1, g2, hl, hA, q⟩ := h
 cases rx
 cases ry
 obtain ⟨its, sW, ⟨o1, n1, p1, c1, d1, f1⟩, _⟩ := I.list g1
 obtain ⟨bw, sX, ⟨o2, n2, p2, c2, d2, f2⟩, _⟩ := I.list g2
 have i1 : s.heap.IsList a its.toArray := ⟨o1, p1, c1, n1, by assumption⟩
 have i2 : s.heap.IsList b bw.toArray := ⟨o2, p2, c2, n2, by assumption⟩
 have rL := sW.length
 have rM := sX.length
 refine SeqAt.RcNeAt.lists (e := fun _ => true) i1 i2 (by simp; omega) (by omega) (fun j j1 j2 => ?_) _ _ _ _ ?_
 ·have Pq : j < its.length := by simpa using j1
  have Pu : j < bw.length := by simpa using j2
  obtain ⟨u1, f1, q1⟩ := sW.get (i := j) (x := xs[j]'(by omega)) (by simp)
  obtain ⟨u2, f2, q2⟩ := sX.get (i := j) (x := ys[j]'(by omega)) (by simp)
  have c1 : its.toArray[j] = u1 := by
   have z := List.getElem?_eq_some_iff.mp f1
   simpa using z.2
  have c2 : bw.toArray[j] = u2 := by
   have z := List.getElem?_eq_some_iff.mp f2
   simpa using z.2
  rw [c1, c2]
  exact y7 I (by show X.A.units + 1 + 40 < cLine; omega) (hA j (by omega) (by omega)) q1 q2
 refine ⟨.bl _, H, I, rfl, ?_⟩
 have e : (List.range its.toArray.size).all (fun _ => true) = true := by simp
 rw [e]
 exact q
end
end L2
namespace PySem
open Sem (wp)
abbrev FK := Str × List Str
section
variable {prog : Program} {w : World}
def bh (prog : Program) (w : World) (h : Heap) (x : FK) (a : Addr) : Prop := ∃ o n t b, h.get? a = some o ∧ o.cls = .type "tuple" ∧ o.data = .seq #[.str x.1 t, .ref b] n ∧ IsTupleKey (strKind prog w) h x.2 b
theorem bh.typeIs {s : Shared} {x : FK} {a : Addr} (h : bh prog w s.heap x a) : s.TypeIs (.ref a) "tuple" := let ⟨o, _, _, _, ho, hc, _⟩ := h; ⟨o, ho, hc⟩
theorem bh.inj {h : Heap} {a : Addr} {x y : FK} (hx : bh prog w h x a) (hy : bh prog w h y a) : x = y := by
 obtain ⟨o, n, t, b, ho, _, hd, hb⟩ := hx
 obtain ⟨o', n', t', b', ho', _, hd', hb'⟩ := hy
 obtain rfl : o = o' := Option.some.inj (ho.symm.trans ho')
 rw [hd] at hd'
 injection hd' with h1 _
 have h2 := congrArg Array.toList h1
 simp only [List.cons.injEq, Value.str.injEq, Value.ref.injEq] at h2
 obtain ⟨⟨e1, _⟩, e2, _⟩ := h2
 subst e2
 exact Prod.ext e1 (hb.inj hb')
theorem bh.keeps {h h' : Heap} {x : FK} {a d : Addr} {o : Obj} {es ep} (k : bh prog w h x a) (ho : h.get? d = some o) (hd : o.data = .dict es ep) (hs : Heap.SameBut d h h') : bh prog w h' x a := by
 obtain ⟨o', n, t, b, ho', hc, hd', hb⟩ := k
 have hne : a ≠ d := by
  rintro rfl
  obtain rfl : o' = o := Option.some.inj (ho'.symm.trans ho)
  rw [hd] at hd'; exact nomatch hd'
 exact ⟨o', n, t, b, (hs.2 a hne).trans ho', hc, hd', hb.keeps ho hd hs⟩
def qC (prog : Program) (w : World) (x : FK) : Int := reduceHash (Builtin.Tuple.tupleHashOf [hashStr w x.1, tupleKeyHash (strKind prog w) x.2])
variable {A : Around} {E : Value → Shared → Prop} {s : Shared}
theorem BK {x : FK} {a : Addr} {Q : Int → Shared → Prop} (hu : A.units + 1 < cLine) (hk : bh prog w s.heap x a) (h : Q (qC prog w x) { s with toks := s.toks + (x.2.length + 3) }) : wpAny (model prog w) A (pyHash (.ref a)) Q E s := by
 have hT := hk.typeIs
 obtain ⟨o, n, t, b0, ho, _, hd, hb0⟩ := hk
 unfold pyHash
 first | unfold pyHashByItsType | skip
 first | refine wpAny_bind (wpAny_cRoomFor_or (.inr (by omega)) ?_) | skip
 refine wpAny_bind (wpAny_specialOf hT F.slot_tuple_hash.lookup ?_)
 show wpAny _ _ (if (some (Value.builtin "tuple.__hash__") == some Value.none) = true then _ else _) Q E s
 rw [if_neg (by rw [beq_builtin_none]; exact Bool.false_ne_true)]
 refine wpAny_bind (wpAny_specialOf hT F.slot_tuple_hash.lookup ?_)
 show wpAny _ _ (callSpecialIfBoundUnlessNone? (.ref a) "__hash__" _ >>= _) Q E s
 refine wpAny_bind (wpAny_callSpecialIfBoundUnlessNone?_slot hT F.slot_tuple_hash (wpAny_call_entry F.slot_tuple_hash hT F.entry_tuple_hash ?_ (F.args_tuple_hash_1 _)))
 show wpAny _ _ (Builtin.Tuple.tupleItemsOf (.ref a) >>= _) _ _ s
 refine wpAny_bind (wpAny_tupleItemsOf ho hd ?_)
 refine wpAny_bind ?_
 rw [← Array.forIn_toList]
 refine wpAny_forIn_list _
  (fun rest (b : Array Int) s' => (rest = [.str x.1 t, .ref b0] ∧ b = #[] ∧ s' = s) ∨ (rest = [.ref b0] ∧ b.toList = [hashStr w x.1] ∧ s' = { s with toks := s.toks + 1 }) ∨
   (rest = [] ∧ b.toList = [hashStr w x.1, tupleKeyHash (strKind prog w) x.2] ∧ s' = { s with toks := s.toks + 1 + (x.2.length + 1) }))
  _ ?_ ?_ _ _ (.inl ⟨rfl, rfl, rfl⟩)
 ·rintro v rest b s' (⟨hr, rfl, rfl⟩ | ⟨hr, hb, rfl⟩ | ⟨hr, _⟩)
  ·injection hr with e1 e2
   subst e1 e2
   refine wpAny_bind (wpAny_pyHash_str ?_)
   first
    | exact wpAny_pure (.inr (.inl ⟨rfl, by simp, rfl⟩))
    | exact wpAny_bind (wpAny_pure (wpAny_pure (.inr (.inl ⟨rfl, by simp, rfl⟩))))
  ·injection hr with e1 e2
   subst e1 e2
   refine wpAny_bind (wpAny_pyHash_tuple (knd := strKind prog w) (ks := x.2) (s := { s with toks := s.toks + 1 }) (by show A.units + 1 < cLine; exact hu) hb0 ?_)
   first
    | exact wpAny_pure (.inr (.inr ⟨rfl, by simp [hb], rfl⟩))
    | exact wpAny_bind (wpAny_pure (wpAny_pure (.inr (.inr ⟨rfl, by simp [hb], rfl⟩))))
  ·cases hr
 ·rintro b s' (⟨hr, _⟩ | ⟨hr, _⟩ | ⟨hr, hb, rfl⟩)
  ·cases hr
  ·cases hr
  ·show wpAny _ _ (retInt (Builtin.Tuple.tupleHashOf b.toList)) _ _ _
   rw [hb]
   refine wpAny_ret_mkInt ?_
   generalize hg : Builtin.Tuple.tupleHashOf [hashStr w x.1, tupleKeyHash (strKind prog w) x.2] = g
   show wpAny _ _ (if (decide (-(2 : Int) ^ 63 ≤ g) && decide (g < 2 ^ 63)) = true then _ else _) Q E _
   unfold qC reduceHash at h
   rw [hg] at h
   have ht : s.toks + 1 + (x.2.length + 1) + 1 = s.toks + (x.2.length + 3) := by omega
   by_cases hr : (decide (-(2 : Int) ^ 63 ≤ g) && decide (g < 2 ^ 63)) = true
   ·rw [if_pos hr]
    rw [if_pos hr] at h
    exact wpAny_pure (by simpa [ht] using h)
   ·rw [if_neg hr]
    rw [if_neg hr] at h
    exact wpAny_bind (wpAny_rule (wpAny_pure (by simpa [ht] using h)))
theorem vb {x y : FK} {a b : Addr} {P : Fin → Shared → Prop} (hu : A.units < cLine) (hx : bh prog w s.heap x a) (hy : bh prog w s.heap y b) (h : P (.done (.ret (.bool (decide (x = y))))) s) :
  wpAny (model prog w) A (Builtin.«tuple.__eq__» ⟨[.ref a, .ref b], []⟩) P E s := by
 have uZ := hy.typeIs
 obtain ⟨oa, na, ta, a1, x8, _, tw, Xh⟩ := hx
 obtain ⟨ob, nb, tb, b1, MR, _, uw, eU⟩ := hy
 show wpAny _ _ (isInstance (.ref b) (.type "tuple") >>= _) _ _ s
 refine wpAny_bind (wpAny_isInstance uZ isSubtype_tuple_tuple ?_)
 simp only [Bool.not_true, Bool.false_eq_true, if_false]
 refine wpAny_bind (wpAny_tupleItemsOf x8 tw ?_)
 refine wpAny_bind (wpAny_tupleItemsOf MR uw ?_)
 refine wpAny_bind ?_
 refine wpAny_forIn_list _
  (fun rest r s' => r.1 = none ∧ s' = s ∧ ((rest = [(.str x.1 ta, .str y.1 tb), (.ref a1, .ref b1)]) ∨ (rest = [(.ref a1, .ref b1)] ∧ x.1 = y.1) ∨ (rest = [] ∧ x = y)))
  _ ?_ ?_ _ _ ⟨rfl, rfl, .inl rfl⟩
 ·rintro ⟨u, v⟩ rest r s' ⟨hr, rfl, hz | ⟨hz, e1⟩ | ⟨hz, _⟩⟩
  ·injection hz with z1 z2
   injection z1 with z3 z4
   subst z2 z3 z4
   refine wpAny_bind (wpAny_eqBool_str ?_)
   by_cases hk : x.1 = y.1
   ·rw [decide_eq_true hk]
    simp only [Bool.not_true, Bool.false_eq_true, if_false]
    exact wpAny_pure (by simp [hk])
   ·rw [decide_eq_false hk]
    simp only [Bool.not_false, if_true]
    have hf : decide (x = y) = false := decide_eq_false fun e => hk (congrArg Prod.fst e)
    rw [hf] at h
    exact wpAny_bind (wpAny_pure (wpAny_pure (wpAny_pure h)))
  ·injection hz with z1 z2
   injection z1 with z3 z4
   subst z2 z3 z4
   refine wpAny_bind (wpAny_eqBool_tuple (knd := strKind prog w) (x := x.2) (y := y.2) hu Xh eU ?_)
   by_cases hk : x.2 = y.2
   ·rw [decide_eq_true hk]
    simp only [Bool.not_true, Bool.false_eq_true, if_false]
    have Xi : x = y := Prod.ext e1 hk
    exact wpAny_pure (by simp [Xi])
   ·rw [decide_eq_false hk]
    simp only [Bool.not_false, if_true]
    have hf : decide (x = y) = false := decide_eq_false fun e => hk (congrArg Prod.snd e)
    rw [hf] at h
    exact wpAny_bind (wpAny_pure (wpAny_pure (wpAny_pure h)))
  ·cases hz
 ·rintro ⟨r1, r2⟩ s' ⟨hr, rfl, hz | ⟨hz, _⟩ | ⟨_, e⟩⟩
  ·cases hz
  ·cases hz
  ·simp only at hr
   subst hr
   refine wpAny_pure ?_
   rw [decide_eq_true e] at h
   exact h
theorem FW {x y : FK} {a b : Addr} {Q : Bool → Shared → Prop} (hu : A.units + 1 < cLine) (hx : bh prog w s.heap x a) (hy : bh prog w s.heap y b) (h : Q (decide (x = y)) s) : wpAny (model prog w) A (eqBool (.ref a) (.ref b)) Q E s := by
 unfold eqBool
 try with_reducible refine wpAny_holding ?_
 show wpAny _ _ (if (Value.ref a == Value.ref b) = true then _ else _) Q E s
 by_cases hab : (Value.ref a == Value.ref b) = true
 ·rw [if_pos hab]
  have e : a = b := by have := eq_of_beq hab; injection this
  subst e
  obtain rfl := hx.inj hy
  exact wpAny_bind (wpAny_rule (wpAny_pure (by simpa using h)))
 ·rw [if_neg hab]
  exact wpAny_bind (wpAny_richCompare_same_room (op := .Eq) hx.typeIs hy.typeIs F.slot_tuple_eq
   (wpAny_call_entry F.slot_tuple_eq hx.typeIs F.entry_tuple_eq (vb (by show A.units + 1 < cLine; exact hu) hx hy ⟨_, rfl, (fun e => nomatch e), wpAny_truthy_bool h⟩) (F.args_tuple_eq_2 _ _)) (by omega))
theorem xi {K : Type} [DecidableEq K] {knd : KeyKind prog w K} {m : Nat} {ks : List K} {a : Addr} {Q : Bool → Shared → Prop} (hk : IsTupleKey knd s.heap ks a) (h : Q true s) : wpAny (model prog w) A (eqIsQuiet (m + 1) (.ref a)) Q E s := by
 have hT := hk.typeIs
 obtain ⟨o, items, n, ho, _, hd, hi⟩ := hk
 unfold eqIsQuiet
 refine wpAny_bind (wpAny_specialOf hT F.slot_tuple_eq.lookup ?_)
 show wpAny _ _ (isInstance (.ref a) (.type "tuple") >>= _) _ _ s
 refine wpAny_bind (wpAny_isInstance hT isSubtype_tuple_tuple ?_)
 simp only [Bool.not_true, Bool.false_eq_true, if_false]
 refine wpAny_bind (wpAny_seqItems ho hd ?_)
 refine wpAny_bind ?_
 show wpAny _ _ (forIn items _ _) _ _ s
 rw [← Array.forIn_toList]
 refine wpAny_forIn_list _ (fun rest r s' => r.1 = none ∧ s' = s ∧ ∀ v ∈ rest, carriedByValue v = true) _ ?_ ?_ _ _ ⟨rfl, rfl, hi.byValue⟩
 ·rintro v rest r s' ⟨hr, rfl, hall⟩
  rw [eqIsQuiet_byValue _ (hall v List.mem_cons_self)]
  refine wpAny_bind (wpAny_pure ?_)
  simp only [Bool.not_true, Bool.false_eq_true, if_false]
  exact wpAny_pure ⟨rfl, rfl, fun u Jb => hall u (List.mem_cons_of_mem _ Jb)⟩
 ·rintro ⟨r1, r2⟩ s' ⟨hr, rfl, _⟩
  simp only at hr
  subst hr
  exact wpAny_pure h
theorem y8 {x : FK} {a : Addr} {Q : Bool → Shared → Prop} (hk : bh prog w s.heap x a) (h : Q true s) : wpAny (model prog w) A (eqIsQuiet 8 (.ref a)) Q E s := by
 have hT := hk.typeIs
 obtain ⟨o, n, t, b0, ho, _, hd, hb0⟩ := hk
 unfold eqIsQuiet
 refine wpAny_bind (wpAny_specialOf hT F.slot_tuple_eq.lookup ?_)
 show wpAny _ _ (isInstance (.ref a) (.type "tuple") >>= _) _ _ s
 refine wpAny_bind (wpAny_isInstance hT isSubtype_tuple_tuple ?_)
 simp only [Bool.not_true, Bool.false_eq_true, if_false]
 refine wpAny_bind (wpAny_seqItems ho hd ?_)
 refine wpAny_bind ?_
 show wpAny _ _ (forIn _ _ _) _ _ s
 rw [← Array.forIn_toList]
 refine wpAny_forIn_list _ (fun rest r s' => r.1 = none ∧ s' = s ∧ ∀ v ∈ rest, v = .ref b0 ∨ carriedByValue v = true) _ ?_ ?_ _ _ ⟨rfl, rfl, fun v hv => ?_⟩
 ·rintro v rest r s' ⟨hr, rfl, hall⟩
  refine wpAny_bind ?_
  have fin : wpAny (model prog w) A (eqIsQuiet 7 v) (fun b s'' => b = true ∧ s'' = s') E s' := by
   rcases hall v List.mem_cons_self with rfl | e
   ·exact xi (m := 6) hb0 ⟨rfl, rfl⟩
   ·rw [eqIsQuiet_byValue _ e]
    exact wpAny_pure ⟨rfl, rfl⟩
  refine wpAny_mono fin (fun b s'' hb => ?_) fun _ _ e => e
  obtain ⟨rfl, rfl⟩ := hb
  simp only [Bool.not_true, Bool.false_eq_true, if_false]
  exact wpAny_pure ⟨rfl, rfl, fun u Jb => hall u (List.mem_cons_of_mem _ Jb)⟩
 ·rintro ⟨r1, r2⟩ s' ⟨hr, rfl, _⟩
  simp only at hr
  subst hr
  exact wpAny_pure h
 ·rcases List.mem_cons.mp hv with rfl | hv
  ·exact .inr rfl
  ·rcases List.mem_cons.mp hv with rfl | hv
   ·exact .inl rfl
   ·cases hv
def fu (prog : Program) (w : World) : HeapKind prog w FK where
 is := bh prog w
 hash := qC prog w
 draws := fun x => x.2.length + 3
 room := fun A => A.units + 1 < cLine
 inj := fun hx hy => hx.inj hy
 keeps := fun x ho hd hs => x.keeps ho hd hs
 pyHash := fun hu hk h => BK hu hk h
 eqBool := fun hu hx hy h => FW hu hx hy h
 quiet := fun hk h => y8 hk h
end
end PySem
namespace L2
open PySem PySem.Spec PyProof.Rows
abbrev FE := FK × Addr × Int
abbrev kC : List FE → List (FK × Addr × Value) → Prop := Paired fun p q => p.1 = q.1 ∧ p.2.1 = q.2.1 ∧ RelV (.int p.2.2) q.2.2
def BL (P : Program) (w : World) (a : Addr) (xs : List FE) : Heap → Prop := fun h => xs.length ≤ sizeLine ∧ (a == sysModules) = false ∧ ∃ vs, kC xs vs ∧ ∃ o es ep, h.get? a = some o ∧ o.ExactDict ∧ o.data = .dict es ep ∧ es.toList = vs.map (entryOfKey (fu P w)) ∧ (vs.map (·.1)).Nodup
def jy (H : Hp) (x : FK) (b : Addr) : Prop := ∃ c, H b = some (.tup [.str x.1, .ref c]) ∧ H c = some (.tup (x.2.map V.str))
def oQ (P : Program) (w : World) (H : Hp) (a : Addr) (xs : List FE) : Prop := H a = some (.ext (BL P w a xs)) ∧ ∀ e ∈ xs, jy H e.1 e.2.1
def m8 (K : PySem.W.Frag) (H : Hp) (x : FK) (y : V) : Prop := ∃ b c, y = .ref b ∧ aO K H b [.str x.1, .ref c] ∧ aO K H c (x.2.map V.str)
def cnt (xs : List FE) (x : FK) : Option Int := (xs.find? fun e => decide (e.1 = x)).map (·.2.2)
def oR (xs : List FE) (x : FK) (b : Addr) (n : Int) : List FE := if (cnt xs x).isSome then xs.map (fun e => if e.1 = x then (e.1, e.2.1, n) else e) else xs ++ [(x, b, n)]
theorem jy.key {K : PySem.W.Frag} {H : Hp} {x : FK} {b : Addr} (h : jy H x b) : m8 K H x (.ref b) := by
 obtain ⟨c, h1, h2⟩ := h
 exact ⟨b, c, rfl, aO.of h1, aO.of h2⟩
theorem jy.sm {H H' : Hp} {x : FK} {b : Addr} (s : ∀ c xs, H c = some (.tup xs) → H' c = some (.tup xs)) (h : jy H x b) : jy H' x b := by
 obtain ⟨c, h1, h2⟩ := h
 exact ⟨c, s _ _ h1, s _ _ h2⟩
theorem pG (xs : List FE) (x y : FK) (b : Addr) (n : Int) : cnt (oR xs x b n) y = if y = x then some n else cnt xs y := by
 unfold oR
 cases hc : cnt xs x with
 | none =>
  rw [if_neg (by simp)]
  unfold cnt at hc ⊢
  rw [List.find?_append]
  by_cases hy : y = x
  ·subst hy
   rw [Option.map_eq_none_iff] at hc
   rw [hc, if_pos rfl]
   simp
  ·rw [if_neg hy]
   have : ¬ x = y := fun e => hy e.symm
   cases hf : xs.find? fun e => decide (e.1 = y) <;> simp [this]
 | some m =>
  rw [if_pos (by simp)]
  unfold cnt at hc ⊢
  by_cases hy : y = x
  ·subst hy
   rw [if_pos rfl]
   induction xs with
   | nil => cases hc
   | cons e r ih =>
    by_cases he : e.1 = y
    ·simp [he]
    ·simp only [List.find?_cons, he, decide_false] at hc
     simp only [List.map_cons, he, if_false, List.find?_cons, decide_false]
     exact ih hc
  ·rw [if_neg hy]
   clear hc
   induction xs with
   | nil => rfl
   | cons e r ih =>
    by_cases he : e.1 = y
    ·have hx : ¬ e.1 = x := fun z => hy (he.symm.trans z)
     rw [List.map_cons, if_neg hx, List.find?_cons, List.find?_cons, decide_eq_true he]
    ·by_cases hx : e.1 = x
     ·simp only [List.map_cons, hx, if_true, List.find?_cons]
      have : ¬ x = y := fun z => hy z.symm
      simp only [this, decide_false]
      exact ih
     ·simp only [List.map_cons, hx, if_false, List.find?_cons, he, decide_false]
      exact ih
theorem xj (xs : List FE) (x : FK) (b : Addr) (n : Int) : (oR xs x b n).length ≤ xs.length + 1 := by
 unfold oR
 split
 ·rw [Lm9]; omega
 ·rw [List.length_append]; exact Nat.le_refl _
theorem tX {Pd : FK → Addr → Prop} {xs : List FE} {x : FK} {b : Addr} {n : Int} (h : ∀ e ∈ xs, Pd e.1 e.2.1) (hb : (cnt xs x).isSome = false → Pd x b) : ∀ e ∈ oR xs x b n, Pd e.1 e.2.1 := by
 intro e he
 unfold oR at he
 split at he
 ·obtain ⟨e', h1, h2⟩ := List.mem_map.mp he
  have z := h e' h1
  subst h2
  split
  ·exact z
  ·exact z
 ·rename_i hn
  rcases List.mem_append.mp he with he | he
  ·exact h e he
  ·rw [List.mem_singleton] at he
   subst he
   exact hb (by simpa using hn)
theorem kC.at {xs : List FE} {vs : List (FK × Addr × Value)} (r : kC xs vs) (x : FK) : jj ((cnt xs x).map V.int) ((atKey vs x).map (·.2)) := by
 induction r with
 | nil => exact True.intro
 | @cons p q ps qs h t ih =>
  obtain ⟨h1, h2, h3⟩ := h
  unfold cnt atKey at ih ⊢
  by_cases hx : p.1 = x
  ·have hq : q.1 = x := h1 ▸ hx
   simp only [List.find?_cons, hx, hq, decide_true, Option.map_some]
   exact h3
  ·have hq : ¬ q.1 = x := h1 ▸ hx
   simp only [List.find?_cons, hx, hq, decide_false]
   exact ih
theorem kC.isSome {xs : List FE} {vs : List (FK × Addr × Value)} (r : kC xs vs) (x : FK) : (cnt xs x).isSome = (atKey vs x).isSome := by
 have z := (r.at x).nI
 rw [Option.isSome_map, Option.isSome_map] at z
 exact z
theorem kC.RS {xs : List FE} {vs : List (FK × Addr × Value)} (r : kC xs vs) (x : FK) {n : Int} {v : Value} (rv : RelV (.int n) v) : kC (xs.map (fun e => if e.1 = x then (e.1, e.2.1, n) else e)) (vs.map (putAt x v)) := by
 induction r with
 | nil => exact .nil
 | @cons p q ps qs h t ih =>
  refine .cons ?_ ih
  obtain ⟨h1, h2, h3⟩ := h
  unfold putAt
  dsimp only
  by_cases hx : p.1 = x
  ·have hq : q.1 = x := h1 ▸ hx
   rw [if_pos hx, if_pos hq]
   exact ⟨h1, h2, rv⟩
  ·have hq : ¬ q.1 = x := h1 ▸ hx
   rw [if_neg hx, if_neg hq]
   exact ⟨h1, h2, h3⟩
theorem kC.RT {xs : List FE} {vs : List (FK × Addr × Value)} (r : kC xs vs) (x : FK) (b : Addr) {n : Int} {v : Value} (rv : RelV (.int n) v) : kC (xs ++ [(x, b, n)]) (vs ++ [(x, b, v)]) := by
 induction r with
 | nil => exact .cons ⟨rfl, rfl, rv⟩ .nil
 | cons h t ih => exact .cons h ih
theorem kC.put {xs : List FE} {vs : List (FK × Addr × Value)} (r : kC xs vs) (x : FK) (b : Addr) {n : Int} {v : Value} (rv : RelV (.int n) v) : kC (oR xs x b n) (storedH vs x b v) := by
 unfold oR storedH
 rw [r.isSome x]
 split
 ·exact r.RS x rv
 ·exact r.RT x b rv
theorem xk {P : Program} {w : World} : ∀ {ks : List Str} {us : List Value}, Vals (ks.map V.str) us → ItemsAre (strKind P w) ks us
 | [], _, h => by cases h; exact .nil
 | k :: ks, _, h => by
  cases h with
  | cons h t =>
   obtain ⟨tk, rfl⟩ := h
   exact .cons (by show Value.isStrOf k (Value.str k tk) = true; simp [Value.isStrOf]) (xk t)
theorem G4 {P : Program} {w : World} {H : Hp} {h : Heap} {a : Addr} {xs : List FE} (x : BL P w a xs h) : bg P w H h a (.ext (BL P w a xs)) :=
 ⟨x, let ⟨_, _, _, _, o, _, _, e, _⟩ := x; ⟨o, e⟩, fun h1 h2 y k => by
  obtain ⟨z, y1, vs, r, o, es, ep, e, c⟩ := y
  exact ⟨z, y1, vs, r, o, es, ep, k _ e, c⟩⟩
section
variable {X : Cx} {pins : List (Addr × Obj)} {σ : St} {H : Hp} {s : Shared} {a : Addr} {xs : List FE} {k : FK} {y : V} {u r : Value} {A : Around} {E : Value → Shared → Prop}
theorem pH (I : Inv X pins σ H s) (h : m8 X.K H k y) (ry : RelV y u) : ∃ b, y = .ref b ∧ u = .ref b ∧ (fu X.prog X.w).is s.heap k b := by
 obtain ⟨b, c, rfl, h1, h2⟩ := h
 cases (show u = Value.ref b from ry)
 obtain ⟨its, r1, ⟨o, e1, c1, n1, d1⟩, _⟩ := I.tuple h1
 obtain ⟨bw, r2, ⟨o2, e2, c2, n2, d2⟩, _⟩ := I.tuple h2
 cases r1 with
 | cons q1 t1 =>
  cases t1 with
  | cons q2 t2 =>
   cases t2
   obtain ⟨tk, rfl⟩ := q1
   cases q2
   exact ⟨b, rfl, rfl, o, n1, tk, c, e1, c1, d1, o2, bw.toArray, n2, e2, c2, d2, by simpa using xk r2⟩
theorem AR (I : Inv X pins σ H s) (d : oQ X.prog X.w H a xs) : xs.length ≤ sizeLine ∧ (a == sysModules) = false ∧ ∃ vs, kC xs vs ∧ s.heap.DictOfH (fu X.prog X.w) a vs := by
 obtain ⟨⟨z, y, vs, r, o, es, ep, h1, h2, h3, h4, h5⟩, _⟩ := (show bg X.prog X.w H s.heap a (.ext (BL X.prog X.w a xs)) from I.hok a _ d.1)
 refine ⟨z, y, vs, r, o, es, ep, h1, h2, h3, h4, fun x hx => ?_, h5⟩
 have all : ∀ {l : List FE} {m : List (FK × Addr × Value)}, kC l m → (∀ e ∈ l, jy H e.1 e.2.1) → ∀ x ∈ m, (fu X.prog X.w).is s.heap x.1 x.2.1 := by
  intro l m q
  induction q with
  | nil => intro _ x hx; exact nomatch hx
  | @cons p q ps qs hq t ih =>
   intro hk x hx
   rcases List.mem_cons.mp hx with e | hx
   ·subst e
    obtain ⟨b, e1, e2, e3⟩ := pH (u := .ref p.2.1) I ((hk p (List.mem_cons_self ..)).key (K := X.K)) rfl
    cases e1
    rw [← hq.1, ← hq.2.1]
    exact e3
   ·exact ih (fun e he => hk e (List.mem_cons_of_mem _ he)) x hx
 exact all r d.2 x hx
theorem tY (I : Inv X pins σ H s) (d : oQ X.prog X.w H a xs) : s.TypeIs (.ref a) "dict" ∧ ∀ b, Value.ref a = .ref b → ∃ ob, s.heap.get? b = some ob ∧ ob.dict = none := by
 obtain ⟨_, _, vs, _, dd⟩ := AR I d
 refine ⟨dd.typeIs, fun b q => ?_⟩
 cases q
 obtain ⟨ob, _, _, h1, h2, _⟩ := dd
 exact ⟨ob, h1, h2.2.1⟩
theorem tZ {n : Int} {Q : Value → Shared → Prop} (hu : A.units + 2 < cLine) (I : Inv X pins σ H s) (d : oQ X.prog X.w H a xs) (hk : m8 X.K H k y) (hc : cnt xs k = some n) (ry : RelV y u) (h : ∀ w' s', Inv X pins σ H s' → RelV (.int n) w' → Q w' s') :
  wpAny (model X.prog X.w) A (getItem (.ref a) u) Q E s := by
 obtain ⟨_, hd, vs, rel, dd⟩ := AR I d
 obtain ⟨b, _, rfl, ik⟩ := pH I hk ry
 obtain ⟨w', hw, rJ⟩ := jj.some_of (v := .int n) (o := (atKey vs k).map (·.2)) (by have z := rel.at k; rw [hc] at z; exact z)
 obtain ⟨p, hp, mI⟩ := Option.map_eq_some_iff.mp hw
 refine wpAny_getItem_heap (knd := fu X.prog X.w) (show A.units + 1 + 1 < cLine by omega) ik dd hp ?_
 rw [mI]
 exact h w' _ (I.tok _) rJ
theorem JA {m : Int} {Q : Value → Shared → Prop} (hu : A.units + 2 < cLine) (I : Inv X pins σ H s) (d : oQ X.prog X.w H a xs) (hk : m8 X.K H k y) (ry : RelV y u) (rd : RelV (.int m) r) (h : ∀ w' s', Inv X pins σ H s' → RelV (.int ((cnt xs k).getD m)) w' → Q w' s') :
  wpAny (model X.prog X.w) A (call (.builtin "dict.get") [.ref a, u, r]) Q E s := by
 obtain ⟨_, hd, vs, rel, dd⟩ := AR I d
 obtain ⟨b, _, rfl, ik⟩ := pH I hk ry
 refine call_meetsIn PySem.F.slot_dict_get dd.typeIs PySem.F.entry_dict_get (PySem.F.args_dict_get_3 _ _ _) (meetsH_dict_get_default (fu X.prog X.w) a b hd r) ⟨(show A.units + 1 + 1 < cLine by omega), k, vs, ik, dd, h _ _ (I.tok _) ?_⟩
 have z := (rel.at k).getD rd
 cases hc : cnt xs k with
 | none => rw [hc] at z; exact z
 | some n => rw [hc] at z; exact z
theorem t5 {b : Addr} {n : Int} {Q : Unit → Shared → Prop} (hu : A.units + 2 < cLine) (I : Inv X pins σ H s) (d : oQ X.prog X.w H a xs) (hk : m8 X.K H k (.ref b)) (hl : xs.length < sizeLine) (rv : RelV (.int n) r)
  (h : ∀ s', Inv X pins σ (upd H a (.ext (BL X.prog X.w a (oR xs k b n)))) s' → Q () s') : wpAny (model X.prog X.w) A (setItem (.ref a) (.ref b) r) Q E s := by
 obtain ⟨z, hd, vs, rel, dd⟩ := AR I d
 obtain ⟨b', e1, e2, ik⟩ := pH (u := .ref b) I hk rfl
 cases e1
 have hz : vs.length ≤ sizeLine := by rw [← Paired.length rel]; exact z
 refine wpAny_setItem_heap (knd := fu X.prog X.w) (hsz := hz) (show A.units + 1 + 1 < cLine by omega) ik dd fun h' PB hs => h _ ?_
 obtain ⟨q, es, ep, hq, h2, h3, h4, _, h5⟩ := PB
 have hlen := xj xs k b n
 exact An I (by rw [d.1]; exact True.intro) hs ⟨q, hq⟩ (G4 ⟨by omega, hd, _, rel.put k b rv, q, es, ep, hq, h2, h3, h4, h5⟩)
end
def MZ (P : Program) (w : World) : TE := fun _ H Q => ∀ p, H p = none → Q (.ref p) (upd H p (.ext (BL P w p [])))
def M0 (P : Program) (w : World) (K : PySem.W.Frag) (td ty : TE) : TE := fun σ H Q => td σ H fun x H1 => ty σ H1 fun y H2 => ∃ a xs k n, x = .ref a ∧ oQ P w H2 a xs ∧ m8 K H2 k y ∧ cnt xs k = some n ∧ Q (.int n) H2
def JB (P : Program) (w : World) (K : PySem.W.Frag) (td ty tz : TE) : TE := fun σ H Q => td σ H fun x H1 => ∃ a xs, x = .ref a ∧ oQ P w H1 a xs ∧ ty σ H1 fun y H2 => tz σ H2 fun z H3 => ∃ xs k m, z = .int m ∧ oQ P w H3 a xs ∧ m8 K H3 k y ∧ Q (.int ((cnt xs k).getD m)) H3
def M3 (P : Program) (w : World) (K : PySem.W.Frag) (td ty tv : TE) : TS := fun D σ H => tv σ H fun v H1 => td σ H1 fun x H2 => ty σ H2 fun y H3 => ∃ a xs k b n, v = .int n ∧ x = .ref a ∧ y = .ref b ∧ oQ P w H3 a xs ∧ m8 K H3 k (.ref b) ∧ xs.length < sizeLine ∧ D.nx σ (upd H3 a (.ext (BL P w a (oR xs k b n))))
def M4 (P : Program) (w : World) (K : PySem.W.Frag) (td ty tv : TE) (rd : V → V → Hp → VK → Prop) : TS := fun D σ H => td σ H fun x H1 => ty σ H1 fun y H2 => ∃ a xs k b m, x = .ref a ∧ y = .ref b ∧ oQ P w H2 a xs ∧ m8 K H2 k (.ref b) ∧ cnt xs k = some m ∧
 tv σ H2 fun y2 H3 => rd (.int m) y2 H3 fun z H4 => ∃ M5 n, z = .int n ∧ oQ P w H4 a M5 ∧ m8 K H4 k (.ref b) ∧ M5.length < sizeLine ∧ D.nx σ (upd H4 a (.ext (BL P w a (oR M5 k b n))))
section
variable {X : Cx} {o i e f value : Expr} {pos pos' HW apos cpos : Pos} {td ty tv tz : TE}
theorem FX : PE X (.Dict [] [] pos) (MZ X.prog X.w) := fun pins s σ H Q I h =>
 wpAny_Dict_empty ⟨.ref s.heap.objs.size, _, I.laid (a := s.heap.objs.size) (o := .ext (BL X.prog X.w s.heap.objs.size [])) (t' := s.toks) (fun _ _ q => Heap.get?_push_of_some _ q) (Nat.le_refl _)
  (G4 ⟨Nat.zero_le _, beq_eq_false_iff_ne.mpr (Ne.symm (Nat.ne_of_lt I.big)), [], .nil, _, #[], 0, Heap.get?_push_size _ rfl, ⟨rfl, rfl, rfl⟩, rfl, rfl, List.nodup_nil⟩), rfl, h _ (I.hok.fresh (Nat.le_refl _))⟩
theorem FY (hu : X.A.units + 64 < cLine) (ho : PE X o td) (hi : PE X i ty) (hs : Iz i) : PE X (.Subscript o i pos) (M0 X.prog X.w X.K td ty) := by
 intro pins s σ H Q I h
 refine Ao PySem.F.slot_dict_getitem.lookup hs (bQ (ho pins s σ H _ I h) fun u s1 ⟨x, H1, I1, rx, q1⟩ => bQ (hi pins s1 σ H1 _ I1 q1) fun iv s2 ⟨y, H2, I2, ry, a, xs, k, n, ex, d, hk, hc, q2⟩ => ?_)
 subst ex
 obtain rfl : u = Value.ref a := rx
 exact ⟨(tY I2 d).1, tZ (by omega) I2 d hk hc ry fun w' s3 I3 rJ => ⟨.int n, H2, I3, rJ, q2⟩⟩
theorem xl (hu : X.A.units + 64 < cLine) (ho : PE X o td) (he : PE X e ty) (hf : PE X f tz) (m : M2 X o "get" apos e f cpos) : PE X (.Call (.Attribute o "get" apos) [e, f] [] cpos) (JB X.prog X.w X.K td ty tz) := by
 intro pins s σ H Q I h
 refine wpAny_Call_method m.base m.few m.line PySem.F.plainAttrs_dict PySem.F.slot_dict_get PySem.F.type_dict_get (bQ (ho pins s σ H _ I h) fun u s1 ⟨x, H1, I1, rx, a, xs, ex, d, q1⟩ => ?_)
 subst ex
 obtain rfl : u = Value.ref a := rx
 obtain ⟨t1, t2⟩ := tY I1 d
 refine ⟨t1, t2, ?_⟩
 rw [m.trees]
 refine Calls.callWith_builtin rfl (Calls.evalArgs_plain (Calls.spliced_cons (bQ (he pins s1 σ H1 _ I1 q1) fun iv s2 ⟨y, H2, I2, ry, q2⟩ =>
  Calls.spliced_cons (bQ (hf pins s2 σ H2 _ I2 q2) fun fv s3 ⟨z, H3, I3, rz, M5, k, m', ez, d3, hk, q3⟩ => Calls.spliced_nil ?_))))
 subst ez
 exact JA (by omega) I3 d3 hk ry rz fun w' s4 I4 rJ => ⟨_, H3, I4, rJ, q3⟩
theorem FZ (hu : X.A.units + 64 < cLine) (ho : PE X o td) (hi : PE X i ty) (hv : PE X value tv) (hs : swapsWith value (some (.Subscript o i pos')) pos.line X.env = pure false) :
  PS X (.Assign [.Subscript o i pos'] value pos) (M3 X.prog X.w X.K td ty tv) := by
 intro pins s σ H D I h
 refine wpAny_Assign_Subscript (bQ (hv pins s σ H _ I h) fun r s1 ⟨v, H1, I1, rv, q1⟩ => bQ (ho pins s1 σ H1 _ I1 q1) fun u s2 ⟨x, H2, I2, rx, q2⟩ => bQ (hi pins s2 σ H2 _ I2 q2) fun iv s3 ⟨y, H3, I3, ry, a, xs, k, b, n, ev, ex, ey, d, hk, hl, q3⟩ => ?_) hs
 subst ev ex ey
 obtain rfl : u = Value.ref a := rx
 cases (show iv = Value.ref b from ry)
 exact t5 (by omega) I3 d hk hl rv fun s4 I4 => ⟨σ, _, I4, q3⟩
theorem F0 {op : Operator} {rd : V → V → Hp → VK → Prop} (hu : X.A.units + 64 < cLine) (ho : PE X o td) (hi : PE X i ty) (hv : PE X value tv) (RF : LQ X op rd)
  (ha : ∀ ov iv new, augStore i ov iv new = (do holding [new, ov, iv] (setItem ov iv new); release [new, ov, iv] []; pure .next)) : PS X (.AugAssign (.Subscript o i HW) op value pos) (M4 X.prog X.w X.K td ty tv rd) := by
 intro pins s σ H D I h
 refine wpAny_AugAssign_SubscriptAny (bQ (ho pins s σ H _ I h) fun u s1 ⟨x, H1, I1, rx, q1⟩ => bQ (hi pins s1 σ H1 _ I1 q1) fun iv s2 ⟨y, H2, I2, ry, a, xs, k, b, m, ex, ey, d, hk, hc, q2⟩ => ?_) ha
 subst ex ey
 obtain rfl : u = Value.ref a := rx
 cases (show iv = Value.ref b from ry)
 refine tZ (by omega) I2 d hk hc rfl fun w' s3 I3 rJ => bQ (hv pins s3 σ H2 _ I3 q2) fun w2 s4 ⟨y2, H3, I4, Xj, q3⟩ => bQ (RF pins s4 σ H3 _ y2 w' w2 _ I4 rJ Xj q3) fun w3 s5 ⟨z, H4, I5, rz, M5, n, ez, d5, Xk, hl, q4⟩ => ?_
 subst ez
 exact t5 (by omega) I5 d5 Xk hl rz fun s6 I6 => ⟨σ, _, I6, q4⟩
end
end L2
namespace L2
open PySem PySem.Spec PyProof.Rows
def xm (H : Hp) (l : Addr) (ys : List V) : Prop := ∃ its n sl, H l = some (.ku ⟨.type "tuple", none, .seq its n, sl⟩ (.tup ys))
theorem xm.sq {K : PySem.W.Frag} {H : Hp} {l : Addr} {ys : List V} (h : xm H l ys) : aO K H l ys := by
 obtain ⟨its, n, sl, h⟩ := h
 exact .inl (.inr ⟨_, h⟩)
theorem xm.sm {H H' : Hp} {l : Addr} {ys : List V} (s : ai H H') (h : xm H l ys) : xm H' l ys := by
 obtain ⟨its, n, sl, h⟩ := h
 exact ⟨its, n, sl, s _ _ h⟩
section
variable {X : Cx} {pins : List (Addr × Obj)} {σ : St} {H : Hp} {s : Shared} {a it l : Addr} {ys : List V} {its : List Value} {ps : List (Key × V)}
theorem DH {A : Around} {R : Result → Shared → Prop} (I : Inv X pins σ H s) (hh : A.handled = none) (hl : s.heap.IsTuple l its.toArray) (rv : Vals ys its) (hP : mJ X.K H ps ys) (hlen : ps.length ≤ 100000)
  (ha : s.heap.objs.size ≤ a) (CO : s.heap.objs.size ≤ it) (hne : a ≠ it)
  (fin : ∀ h' tk vs, (∀ b o, s.heap.get? b = some o → h'.get? b = some o) → h'.DictOf (aG X.prog X.w) a vs → KV (cY [] ps) vs → R (.ok (.ret .none)) { s with heap := h', toks := tk }) :
  ∀ (k i : Nat) (h' : Heap) (tk : Nat) (vs : List (Key × Value)), its.length - i = k → i ≤ its.length → (∀ b o, s.heap.get? b = some o → h'.get? b = some o) → h'.IsTupleIter it l i → h'.DictOf (aG X.prog X.w) a vs → KV (cY [] (ps.take i)) vs →
   wpAny (model X.prog X.w) A.in1 (Builtin.«dict.update.loop» ⟨[.ref a, .ref it, rawInt (i : Int), .none], []⟩) (fun fin s' => match fin with | .done f => R (.ok f) s' | .again c' => c'.quiet = true ∧ codeAny (model X.prog X.w) A c' R s') (fun e s' => R (.error e) s') { s with heap := h', toks := tk } := by
 have tf := rv.length
 have mB := Paired.length hP
 have lt : ∀ b o, s.heap.get? b = some o → b ≠ a ∧ b ≠ it := fun b o q => by
  exact ⟨Nat.ne_of_lt (Nat.lt_of_lt_of_le (Heap.lt_size q) ha), Nat.ne_of_lt (Nat.lt_of_lt_of_le (Heap.lt_size q) CO)⟩
 obtain ⟨ol, Aq, GP⟩ := id hl
 intro k
 induction k with
 | zero =>
  intro i h' tk vs hk hi kp hit hD hK
  obtain rfl : i = its.length := by omega
  unfold Builtin.«dict.update.loop»
  dsimp only [rawInt]
  refine wpAny_bind (wpAny_pyNext_tuple_end (s := { s with heap := h', toks := tk }) (A := A.in1) hh hit (show h'.IsTuple l its.toArray from ⟨ol, kp _ _ Aq, GP⟩) (by simp) fun h2 qb => ?_)
  dsimp only
  have ki : h2.DictOf (aG X.prog X.w) a vs := hD.extBut qb hne
  show wpAny _ _ (Builtin.Dict.addKeywords a [] >>= _) _ _ _
  refine wpAny_bind (wpAny_pure (wpAny_pure ?_))
  exact fin h2 tk vs (fun b o q => qb b o (lt b o q).2 (kp b o q)) ki (by rw [← tf, ← mB, List.take_length] at hK; exact hK)
 | succ k ih =>
  intro i h' tk vs hk hi kp hit hD hK
  have K3 : i < its.length := by omega
  have Mi : i < ps.length := by omega
  unfold Builtin.«dict.update.loop»
  dsimp only [rawInt]
  refine wpAny_bind (wpAny_pyNext_tuple_item (s := { s with heap := h', toks := tk }) (x := its[i]) hit (show h'.IsTuple l its.toArray from ⟨ol, kp _ _ Aq, GP⟩) (by simp [K3]) fun h1 tm Al => ?_)
  dsimp only
  have Fh : ∀ b o, s.heap.get? b = some o → h1.get? b = some o := fun b o q => (Al.2 b (lt b o q).2).trans (kp b o q)
  have I1 : Inv X pins σ H { s with heap := h1, toks := tk } := I.kept Fh
  have K5 : h1.DictOf (aG X.prog X.w) a vs := hD.sameBut Al hne
  obtain ⟨u1, f1, q1⟩ := rv.get (i := i) (x := ys[i]'(by omega)) (by simp)
  have eu : its[i] = u1 := (List.getElem?_eq_some_iff.mp f1).2
  obtain ⟨t, et, hq⟩ : ∃ t, ys[i]'(by omega) = .ref t ∧ aO X.K H t [kV (ps[i]).1, (ps[i]).2] := by
   have z := hP
   unfold mJ at z
   exact paired_at z i Mi (by omega)
  rw [et] at q1
  have IE : its[i] = .ref t := by rw [eu]; exact q1
  rw [IE]
  obtain ⟨Wz, rt, pl, _⟩ := I1.tuple hq
  obtain ⟨uk, uv, rfl, rk, Q4⟩ := vals2 rt
  obtain ⟨ot, Mj, IF, n, CQ⟩ := id pl
  have Q5 : Shared.TypeIs { s with heap := h1, toks := tk } (.ref t) "tuple" := ⟨ot, Mj, IF⟩
  refine wpAny_bind (wpAny_holding (wpAny_bind ?_))
  have IG : ∀ {E' : Value → Shared → Prop} {Q' : List Value → Shared → Prop}, Q' [uk, uv] { s with heap := h1, toks := tk } → wpAny (model X.prog X.w) A.in1 (Builtin.Dict.pairItems (.ref t)) Q' E' { s with heap := h1, toks := tk } := fun {E' Q'} hq' => by
   unfold Builtin.Dict.pairItems
   refine wpAny_bind (wpAny_typeOf Q5 ?_)
   rw [if_pos (by decide)]
   refine wpAny_bind (wpAny_seqItems Mj CQ (wpAny_pure ?_))
   exact hq'
  refine wpAny_tryCatch (IG ?_)
  dsimp only
  have hsz : vs.length ≤ sizeLine := by
   have z := hK.length
   have z2 := gZ (ps.take i)
   rw [List.length_take] at z2
   exact Nat.le_trans (show vs.length ≤ 100000 by omega) (show 100000 ≤ sizeLine by rw [sizeLine_eq]; decide)
  refine wpAny_holding (wpAny_dictSet_pairs (hsz := hsz) (qa rk) K5 fun h2 ki uG => ?_)
  have Fi : ∀ b o, s.heap.get? b = some o → h2.get? b = some o := fun b o q => (uG.2 b (lt b o q).1).trans (Fh b o q)
  have CS : h2.IsTupleIter it l (i + 1) := by
   obtain ⟨o, ho, r⟩ := tm
   exact ⟨o, (uG.2 it (Ne.symm hne)).trans ho, r⟩
  refine wpAny_pure ?_
  refine ⟨plainId_quiet plain_dul _, codeAny_builtin entry_dul ?_⟩
  rw [Around.under_plainId plain_dul _]
  refine ih (i + 1) h2 (tk + 1) _ (by omega) (by omega) Fi CS ki ?_
  rw [List.take_succ_eq_append_getElem Mi]
  unfold cY
  rw [List.foldl_append]
  exact hK.put _ Q4
theorem nQ (hc : X.calm = true) : cw X (.type "dict") (fun xs H Q => ∃ (l : Addr) (ys : List V) (ps : List (Key × V)), xs = [.ref l] ∧ xm H l ys ∧ mJ X.K H ps ys ∧ ps.length ≤ 100000 ∧ ∀ d, H d = none → Q (.ref d) (upd H d (.dK (cY [] ps)))) := by
 intro pins s σ H xs us Q I r h
 obtain ⟨l, ys, ps, rfl, hl, hP, hlen, q⟩ := h
 obtain ⟨u, rfl, ru⟩ := vals1 r
 cases (show u = Value.ref l from ru)
 have hh := I.ok.hd hc
 obtain ⟨M6, n, sl, G5⟩ := id hl
 obtain ⟨hg, hz, its, rv, o', hg', hc', n', hd'⟩ := (show bg X.prog X.w H s.heap l (.ku ⟨.type "tuple", none, .seq M6 n, sl⟩ (.tup ys)) from I.hok l _ G5)
 obtain rfl : o' = _ := (Option.some.inj (hg.symm.trans hg')).symm
 obtain ⟨rfl, rfl⟩ : M6 = its.toArray ∧ n = n' := by injection hd' with e1 e2; exact ⟨e1, e2⟩
 have hf : H s.heap.objs.size = none := I.hok.fresh (Nat.le_refl _)
 refine callType_codes (Q₁ := fun obj s₁ => obj = .ref s.heap.objs.size ∧ s₁ = { s with heap := s.heap.push { cls := .type "dict", data := .dict #[] } }) PySem.F.kt_called_dict (PySem.F.kt_typeCall_dict_1 _) PySem.F.entry_dict_init (kt_code_dict_new _ ⟨rfl, rfl⟩) ?_
 rintro obj s₁ ⟨rfl, rfl⟩
 have qc : (s.heap.push { cls := .type "dict", data := .dict #[] }).DictOf (aG X.prog X.w) s.heap.objs.size [] := Heap.DictOf.new s.heap
 refine ⟨qc.typeIs, PySem.F.args_dict_init_2 _ _, ?_⟩
 unfold Builtin.«dict.__init__»
 refine wpAny_bind ?_
 unfold Builtin.Dict.selfAndRest
 refine wpAny_bind (wpAny_notOrdered_dict qc.typeIs ?_)
 show wpAny _ _ (pure (s.heap.objs.size, [Value.ref l])) _ _ _
 refine wpAny_pure ?_
 show wpAny _ _ (Builtin.Dict.updateFrom "dict.__init__" s.heap.objs.size (.ref l) [] .none) _ _ _
 unfold Builtin.Dict.updateFrom
 have CT : (s.heap.push { cls := .type "dict", data := .dict #[] }).get? l = some ⟨.type "tuple", none, .seq its.toArray n, sl⟩ := Heap.get?_push_of_some _ hg
 refine wpAny_bind (wpAny_typeOf (T := "tuple") ⟨_, CT, rfl⟩ ?_)
 rw [if_pos (by decide)]
 refine wpAny_bind (AL CT hh fun h1 Fj e hx => ?_)
 rw [if_pos (show (none : Option Value).isNone = true from rfl)]
 refine wpAny_bind (wpAny_rule ?_)
 have K6 := hx.keeps _ _ CT
 have hd2 : h1.DictOf (aG X.prog X.w) s.heap.objs.size [] := by
  obtain ⟨o, es, ep, ho, r⟩ := qc
  exact ⟨o, es, ep, hx.keeps _ _ ho, r⟩
 have oK : s.heap.objs.size < h1.objs.size := by
  obtain ⟨o, es, ep, ho, r⟩ := hd2
  exact Heap.lt_size ho
 have IH : h1.IsTuple l its.toArray := ⟨_, K6, rfl, n, rfl⟩
 refine wpAny_bind (wpAny_pyIter_tuple (s := { s with heap := h1, toks := Fj }) IH ?_)
 refine wpAny_pure ⟨plainId_quiet plain_dul _, codeAny_builtin entry_dul ?_⟩
 rw [Around.under_plainId plain_dul _]
 have Fl : ∀ b o, s.heap.get? b = some o → (h1.push { cls := .type "tuple_iterator", data := .fields #[.ref l, .int 0 0] }).get? b = some o := fun b o q => Heap.get?_push_of_some _ (hx.keeps _ _ (Heap.get?_push_of_some _ q))
 refine DH (A := X.A.in1) (its := its) (a := s.heap.objs.size) (it := h1.objs.size) I hh ⟨_, hg, rfl, n, rfl⟩ rv hP hlen (Nat.le_refl _) (Nat.le_of_lt oK) (Nat.ne_of_lt oK) (fun h' tk vs kp hD hK => ?_)
  its.length 0 (h1.push { cls := .type "tuple_iterator", data := .fields #[.ref l, .int 0 0] }) Fj [] (by omega) (Nat.zero_le _) Fl ⟨_, Heap.get?_push_size _ rfl, rfl, rfl⟩ (hd2.push _) .nil
 refine ⟨rfl, .ref s.heap.objs.size, upd H s.heap.objs.size (.dK (cY [] ps)), I.laid (t' := tk) kp (Nat.le_refl _) ?_, rfl, q _ hf⟩
 refine ⟨Nat.le_trans (gZ ps) (Nat.le_trans hlen (by rw [sizeLine_eq]; decide)), ?_, vs, hK, hD⟩
 exact beq_eq_false_iff_ne.mpr (Nat.ne_of_gt I.big)
theorem qD : cw X (.type "tuple") (fun xs H Q => ∃ p ys, xs = [.ref p] ∧ aD X.K H p ys ∧ ∀ l its n sl, H l = none → Q (.ref l) (upd H l (.ku ⟨.type "tuple", none, .seq its n, sl⟩ (.tup ys)))) := by
 intro pins s σ H xs us Q I r h
 obtain ⟨p, ys, rfl, hq, q⟩ := h
 obtain ⟨u, rfl, rx⟩ := vals1 r
 cases rx
 obtain ⟨its, r', pl, hz⟩ := I.list hq
 have hlen := r'.length
 refine call_tuple_list pl.isList (fun h' kp => ?_) (by simp only [List.size_toArray] <;> omega)
 have I1 : Inv X pins σ H { s with heap := h' } := I.kept (t' := s.toks) kp
 have I2 := I1.laid (a := h'.objs.size) (o := .ku { cls := .type "tuple", data := .seq its.toArray } (.tup ys)) (h' := h'.push { cls := .type "tuple", data := .seq its.toArray }) (t' := s.toks) (fun b o e => Heap.get?_push_of_some _ e) (Nat.le_refl _) ⟨Heap.get?_push_size _ rfl, hz, its, r', IsTup.new _ _⟩
 exact ⟨.ref h'.objs.size, _, I2, rfl, q _ _ _ _ (I1.hok.fresh (Nat.le_refl _))⟩
end
end L2
namespace L2
open PySem PySem.Spec PyProof.Rows
theorem F3 {prog : Program} {w : World} {A : Around} {R : Result → Shared → Prop} {s : Shared} {l : Addr} {items : Array Value} {n : Nat} {x : Value} (hl : s.heap.get? l = some { cls := .type "list", dict := none, data := .seq items n, slots := #[] }) (MN : items.size ≤ sizeLine) {e : Nat → Bool}
  (he : ∀ i (hi : i < items.size), SeqAt.EqAt A.in1 s items[i] x (e i)) {j : Nat} (hj : j < items.size) (hit : e j = true) (ji : ∀ m, m < j → e m = false) (h : R (.ok (.ret .none)) { s with heap := s.heap.update l (Obj.mapSeq fun xs => xs.eraseIdxIfInBounds j) }) :
  ∀ k i : Nat, j - i = k → i ≤ j → wpAny (model prog w) A.in1 (Builtin.«list.remove.loop» ⟨[.ref l, x, rawInt (i : Int)], []⟩) (fun fin s' => match fin with | .done f => R (.ok f) s' | .again c' => c'.quiet = true ∧ codeAny (model prog w) A c' R s') (fun e s' => R (.error e) s') s := by
 intro k
 induction k with
 | zero =>
  intro i hk x6
  obtain ⟨hp, g, d, tk, os⟩ := s
  obtain rfl : i = j := by omega
  wp_walk using wpAny_loadPart' hl
  have hi : items[((i : Nat) : Int).toNat]? = some items[i] := by simp [hj]
  rw [hi]
  refine wpAny_bind (he i hj prog w _ _ ?_)
  rw [hit]
  have hz' : (items.eraseIdxIfInBounds i).size ≤ sizeLine + 1 := Nat.le_trans (MeetsSeq.size_erased items _) (Nat.le_succ_of_le MN)
  wp_walk using (wpAny_updateSeq hl rfl (hz := MN) (_hz' := hz')), wpAny_loadPart' hl
  simpa using h
 | succ k ih =>
  intro i hk x6
  have ih := ih (i + 1) (by omega) (by omega)
  obtain ⟨hp, g, d, tk, os⟩ := s
  have gQ : i < items.size := by omega
  wp_walk using wpAny_loadPart' hl
  have hi : items[((i : Nat) : Int).toNat]? = some items[i] := by simp [gQ]
  have hc : ((i : Int) + 1) = ((i + 1 : Nat) : Int) := by push_cast; rfl
  rw [hi]
  refine wpAny_bind (he i gQ prog w _ _ ?_)
  rw [ji i (by omega)]
  wp_walk
  rw [hc]
  exact ⟨plainId_quiet MeetsSeq.plain_remove_loop _, codeAny_builtin MeetsSeq.entry_remove_loop (by
   rw [Around.under_plainId MeetsSeq.plain_remove_loop _]
   exact ih)⟩
theorem vc {prog : Program} {w : World} (l : Addr) (items : Array Value) (n : Nat) (x : Value) : MeetsIn prog w (Builtin.«list.remove» ⟨[.ref l, x], []⟩) (fun A R s => ∃ (e : Nat → Bool) (j : Nat), s.heap.get? l = some { cls := .type "list", dict := none, data := .seq items n, slots := #[] } ∧ items.size ≤ sizeLine ∧
  (∀ i (hi : i < items.size), SeqAt.EqAt A.in1 s items[i] x (e i)) ∧ j < items.size ∧ e j = true ∧ (∀ m, m < j → e m = false) ∧ R (.ok (.ret .none)) { s with heap := s.heap.update l (Obj.mapSeq fun xs => xs.eraseIdxIfInBounds j) }) :=
 fun A R s ⟨e, j, hl, MN, he, hj, hit, ji, h⟩ => by
  have z := F3 (prog := prog) (w := w) (A := A) (R := R) hl MN he hj hit ji h _ 0 rfl (Nat.zero_le _)
  obtain ⟨hp, g, d, tk, os⟩ := s
  wp_walk using wpAny_loadPart' hl
  exact ⟨plainId_quiet MeetsSeq.plain_remove_loop _, codeAny_builtin MeetsSeq.entry_remove_loop (by
   rw [Around.under_plainId MeetsSeq.plain_remove_loop _]
   exact z)⟩
section
variable {X : Cx}
def M7 (K : PySem.W.Frag) : V → List V → Hp → VK → Prop := fun x vs H Q => ∃ l ys ts y t j, x = .ref l ∧ vs = [y] ∧ H l = some (.lst ys) ∧ Ts K H ts ys ∧ cB K H (Tr.toD t) y ∧ (∀ t ∈ ts, t.toD.deep ≤ 8) ∧ ∃ hj : j < ts.length, eqT ts[j] t = true ∧ (∀ m (hm : m < j), eqT (ts[m]'(Nat.lt_trans hm hj)) t = false) ∧ Q .bz (upd H l (.lst (ys.eraseIdx j)))
theorem qE (hu : X.A.units + 64 < cLine) : Pn X "list.remove" (M7 X.K) := by
 intro pins s σ H x vs v us Q I rx rv h
 obtain ⟨l, ys, ts, y, t, j, rfl, rfl, hH, ⟨hl, hT⟩, hd, EB, hj, hit, ji, q⟩ := h
 cases rx
 obtain ⟨u, rfl, ru⟩ := rv.one
 obtain ⟨z, its, n, r, hlen, e⟩ := I.yx hH
 refine call_meetsIn F.slot_list_remove ⟨_, e, rfl⟩ F.entry_list_remove (F.args_list_remove_2 _ _) (vc l its.toArray n u)
  ⟨fun i => if h : i < ts.length then eqT ts[i] t else false, j, e, by rw [List.size_toArray]; omega, fun i hi => ?_, by rw [List.size_toArray]; omega, ?_, fun m hm => ?_, ?_⟩
 ·have hi' : i < its.length := by simpa using hi
  obtain ⟨u1, f1, q1⟩ := r.get (i := i) (x := ys[i]'(by omega)) (by simp)
  have e1 : its[i] = u1 := (List.getElem?_eq_some_iff.mp f1).2
  have RU : i < ts.length := by omega
  show SeqAt.EqAt X.A.in1 s its.toArray[i] u (if h : i < ts.length then eqT ts[i] t else false)
  rw [dif_pos RU]
  have e2 : its.toArray[i] = u1 := by simpa using e1
  rw [e2]
  exact gY I rfl 8 X.A.in1 (EB _ (List.getElem_mem RU)) (by show X.A.units + 1 + 8 < cLine; omega) (hT i RU (by omega)) hd q1 ru
 ·show (if h : j < ts.length then eqT ts[j] t else false) = true
  rw [dif_pos hj]
  exact hit
 ·show (if h : m < ts.length then eqT ts[m] t else false) = false
  rw [dif_pos (by omega)]
  exact ji m hm
 ·refine ⟨.bz, _, I.EZ (its' := its.eraseIdx j) hH e ?_ (r.eraseIdx j) ?_, rfl, q⟩
  ·show its.toArray.eraseIdxIfInBounds j = (its.eraseIdx j).toArray
   rw [List.eraseIdxIfInBounds_toArray]
  ·have := kd ys j
   omega
end
end L2
namespace Bk
section
variable {α : Type} [DecidableEq α]
def cD : List α → List α → Option (List α)
 | b, [] => some b
 | b, f :: r => if f ∈ b then cD (b.erase f) r else none
theorem jz : ∀ (ts b r : List α), cD b ts = some r → ∀ f, r.count f = b.count f - ts.count f ∧ ts.count f ≤ b.count f
 | [], b, r, h, f => by cases h; simp
 | t :: ts, b, r, h, f => by
  unfold cD at h
  by_cases hm : t ∈ b
  ·rw [if_pos hm] at h
   have z := jz ts _ _ h f
   have hp := List.count_pos_iff.mpr hm
   rw [List.count_erase] at z
   rw [List.count_cons]
   by_cases he : t = f
   ·subst he
    simp only [beq_self_eq_true, if_true] at z ⊢
    omega
   ·have e1 : (t == f) = false := by simpa using he
    simp only [e1] at z ⊢
    simp only [Bool.false_eq_true, if_false] at z ⊢
    omega
  ·rw [if_neg hm] at h
   cases h
theorem oF : ∀ (ts b : List α), cD b ts = none → ∃ f, b.count f < ts.count f
 | [], b, h => by cases h
 | t :: ts, b, h => by
  unfold cD at h
  by_cases hm : t ∈ b
  ·rw [if_pos hm] at h
   obtain ⟨f, hf⟩ := oF ts _ h
   have hp := List.count_pos_iff.mpr hm
   refine ⟨f, ?_⟩
   rw [List.count_erase] at hf
   rw [List.count_cons]
   by_cases he : t = f
   ·subst he
    simp only [beq_self_eq_true, if_true] at hf ⊢
    omega
   ·have e1 : (t == f) = false := by simpa using he
    simp only [e1] at hf ⊢
    simp only [Bool.false_eq_true, if_false] at hf ⊢
    omega
  ·refine ⟨t, ?_⟩
   rw [List.count_eq_zero.mpr hm, List.count_cons]
   simp
theorem DI {T c : Nat} : (0 < T - c → T - (c + 1) = T - c - 1 ∧ c + 1 - T = c - T) ∧ (¬ 0 < T - c → T - (c + 1) = T - c ∧ c + 1 - T = c - T + 1) := by omega
end
end Bk
namespace Bk
open PySem L2 eF
deriving instance DecidableEq for Fc
def fk (f : Fc) : FK := (S f.k, f.as.map S)
theorem t6 : ∀ {a b : List Cs}, a.map S = b.map S → a = b
 | [], [], _ => rfl
 | [], _ :: _, h => by cases h
 | _ :: _, [], h => by cases h
 | x :: a, y :: b, h => by
  rw [List.map_cons, List.map_cons] at h
  injection h with h1 h2
  rw [mL h1, t6 h2]
theorem qF {f g : Fc} (h : fk f = fk g) : f = g := by
 unfold fk at h
 injection h with h1 h2
 cases f
 cases g
 cases mL h1
 cases t6 h2
 rfl
def fV (H : Hp) (f : Fc) (v : V) : Prop := ∃ t t2, v = .ref t ∧ H t = some (.tup [tx f.k, .ref t2]) ∧ H t2 = some (.tup (f.as.map tx))
theorem fV.fact {K : PySem.W.Frag} {H : Hp} {f : Fc} {v : V} (h : fV H f v) : Fact K H f v := by
 obtain ⟨t, t2, e, h1, h2⟩ := h
 exact ⟨t, t2, e, aO.of h1, aO.of h2⟩
theorem fV.sm {H H' : Hp} {f : Fc} {v : V} (s : ai H H') (h : fV H f v) : fV H' f v := by
 obtain ⟨t, t2, e, h1, h2⟩ := h
 exact ⟨t, t2, e, s _ _ h1, s _ _ h2⟩
theorem fV.keep {H0 H H' : Hp} {f : Fc} {v : V} (k : Kp H0 H H') (h : fV H f v) : fV H' f v := by
 obtain ⟨t, t2, e, h1, h2⟩ := h
 exact ⟨t, t2, e, k.tup _ _ h1, k.tup _ _ h2⟩
theorem fV.key {H : Hp} {f : Fc} {t : Addr} (h : fV H f (.ref t)) : jy H (fk f) t := by
 obtain ⟨t', t2, e, h1, h2⟩ := h
 cases e
 exact ⟨t2, h1, by rw [u5] at h2; exact h2⟩
theorem Fact.key {K : PySem.W.Frag} {H : Hp} {f : Fc} {v : V} (h : Fact K H f v) : m8 K H (fk f) v := by
 obtain ⟨t, t2, e, h1, h2⟩ := h
 rw [u5] at h2
 exact ⟨t, t2, e, h1, h2⟩
def t7 (ks : List Kd) (f : Fc) : Bool := decide (f.k ∈ dU ks)
def short (bp ts : List Fc) : Bool := ts.any fun f => decide (bp.count f < ts.count f)
def aA (ks : List Kd) (br : Bool) (bp ts fs : List Fc) : Nat := if aL ks ts ≠ 0 then aL ks ts else if aL ks fs ≠ 0 then aL ks fs else if ts.any (t7 ks) = true then 3 else if br = false ∧ short bp ts = true then 4 else 0
def Refs (Cs : Nat → Addr) (n : Nat) (H : Hp) (E : XK) : Prop := n ≠ 0 → ∀ H', ai H H' → E (.ref (Cs n)) none H'
def nS (K : PySem.W.Frag) (C : Addr) : Sp := fun vs H Q E => ∃ (ll lf : Addr) (ls : List Cs) (ts : List Fc), vs = [.ref ll, .ref lf] ∧ H ll = some (.lst (ls.map tx)) ∧ (∃ fU, H lf = some (.lst fU) ∧ Paired (Fact K H) ts fU) ∧ (∀ f ∈ ts, FS f) ∧
 (ts.any (fun f => decide (f.k ∈ ls)) = true → Ref C H E) ∧ (ts.any (fun f => decide (f.k ∈ ls)) = false → Q .bz H)
def lG (K : PySem.W.Frag) : Sp := fun vs H Q _ => ∃ (d : Addr) (v : V) (acc : List Cs) (f : Fc), vs = [.ref d, v] ∧ H d = some (.dK (acc.map ent)) ∧ Fact K H f v ∧ FS f ∧ ∀ v' H', ai H H' → fV H' f v' → Q v' H'
def lH (K : PySem.W.Frag) (C : Addr) : Sp := fun vs H Q E => ∃ (t l : Addr) (xs us : List V) (bp ts : List Fc), vs = [.ref t, .ref l] ∧ aO K H t xs ∧ Paired (Fact K H) bp xs ∧ H l = some (.lst us) ∧ Paired (fV H) ts us ∧ (∀ f ∈ ts, FS f) ∧ bp.length ≤ 1000 ∧ ts.length ≤ 1000 ∧ (short bp ts = true → Ref C H E) ∧
 (short bp ts = false → ∀ (p : Addr) (ys : List V) (left : List Fc) (H' : Hp), ai H H' → H' p = some (.lst ys) → Paired (Fact K H') left ys → (∀ f, left.count f = bp.count f - ts.count f) → Q (.ref p) H')
def BM (K : PySem.W.Frag) (H : Hp) (t2 : Addr) (nm : List Cs) : Prop := (∃ y2, xm H t2 y2 ∧ mJ K H (nm.map ent) y2) ∨ (Nil0 K t2 ∧ nm = [])
theorem BM.sm {K : PySem.W.Frag} {H H' : Hp} (s : ai H H') {t2 : Addr} {nm : List Cs} (h : BM K H t2 nm) : BM K H' t2 nm := by
 rcases h with ⟨y2, h1, h2⟩ | h
 ·exact .inl ⟨y2, h1.sm s, ak h2 fun _ _ _ ⟨t, e, z⟩ => ⟨t, e, z.same s⟩⟩
 ·exact .inr h
def gb (K : PySem.W.Frag) (H : Hp) (v : V) (bp bl : List Fc) (nm : List Cs) : Prop := ∃ p t0 t1 t2 y0 y1, v = .ref p ∧ aO K H p [.ref t0, .ref t1, .ref t2, .bl false] ∧ aO K H t0 y0 ∧ Paired (Fact K H) bp y0 ∧ aO K H t1 y1 ∧ Paired (Fact K H) bl y1 ∧ nm.Nodup ∧ BM K H t2 nm
def JC (K : PySem.W.Frag) (H : Hp) (v : V) : Prop := ∃ p z0 z1 z2, v = .ref p ∧ aO K H p [z0, z1, z2, .bl true]
def fW (K : PySem.W.Frag) (H : Hp) (v : V) (ps ls ns : List Tr) : Prop := ∃ p t0 t1 t2 y0 y1 y2, v = .ref p ∧ aO K H p [.ref t0, .ref t1, .ref t2, .bl false] ∧ aO K H t0 y0 ∧ Ts K H ps y0 ∧ aO K H t1 y1 ∧ Ts K H ls y1 ∧ xm H t2 y2 ∧ Ts K H ns y2
def m9 (K : PySem.W.Frag) (Cs : Nat → Addr) (b1 : Addr) : Sp := fun vs H Q E => ∃ (lk lf lt lo : Addr) (pv : V) (ks : List Kd) (fs ts : List Fc) (br : Bool) (bp bl : List Fc) (nm : List Bk.Cs), vs = [.ref lk, pv, .ref lt, .ref lf, .ref lo] ∧ KF K H lk lf ks fs ∧ KF K H lk lt ks ts ∧ H lo = some (.lst []) ∧ ((br = true ∧ JC K H pv) ∨ (br = false ∧ gb K H pv bp bl nm)) ∧
 (bp.length + fs.length < 64 ∧ ts.length < 64 ∧ bl.length + fs.length < 64) ∧ nm.length ≤ 100 ∧ (kn nm (fs.flatMap (·.as))).length < 64 ∧ Refs Cs (aA ks br bp ts fs) H E ∧
 (aA ks br bp ts fs = 0 → (br = true → ∀ H', ai H H' → Q (.ref b1) H') ∧ (br = false → ∀ (left : List Fc) (v : V) (H' : Hp), (∀ f, left.count f = bp.count f - ts.count f) → ai H H' →
  fW K H' v (aU ((left ++ kz ks fs).map fT)) (aU (dd ((bl ++ jt ks fs).map fT))) (aU ((kn nm (fs.flatMap (·.as))).map pT)) → Q v H'))
theorem M8 {Cs : Nat → Addr} {n m : Nat} {H : Hp} {E : XK} (h : Refs Cs n H E) (e : m ≠ 0 → n = m) : qw (Cs 1) (Cs 2) m H E := by
 refine ⟨fun z H' s => ?_, fun z H' s => ?_⟩
 ·subst z
  have z := e (by decide)
  subst z
  exact h (by decide) H' s
 ·subst z
  have z := e (by decide)
  subst z
  exact h (by decide) H' s
theorem nU {α : Type} [DecidableEq α] : ∀ (l b : List α), (∀ f, l.count f ≤ b.count f) → l.length ≤ b.length
 | [], _, _ => Nat.zero_le _
 | x :: l, b, h => by
  have hx : x ∈ b := by
   have z := h x
   rw [List.count_cons_self] at z
   exact List.count_pos_iff.mp (by omega)
  have ih := nU l (b.erase x) fun f => by
   have z := h f
   rw [List.count_cons] at z
   rw [List.count_erase]
   by_cases e : x = f
   ·subst e
    simp only [beq_self_eq_true, if_true] at z ⊢
    omega
   ·have e1 : (x == f) = false := by simpa using e
    simp only [e1, Bool.false_eq_true, if_false] at z ⊢
    omega
  have hp := List.length_pos_of_mem hx
  rw [List.length_erase_of_mem hx] at ih
  rw [List.length_cons]
  omega
theorem t8 {left bp ts : List Fc} (h : ∀ f, left.count f = bp.count f - ts.count f) : left.length ≤ bp.length := nU _ _ fun f => by have := h f; omega
theorem t9 : ∀ {nm : List Bk.Cs}, nm.Nodup → ((nm.map ent).map (·.1)).Nodup
 | [], _ => List.nodup_nil
 | n :: r, h => by
  rw [List.nodup_cons] at h
  rw [List.map_cons, List.map_cons, List.nodup_cons]
  refine ⟨fun hm => h.1 ?_, t9 h.2⟩
  obtain ⟨e, he, z⟩ := List.mem_map.mp hm
  obtain ⟨m, GW, rfl⟩ := List.mem_map.mp he
  have z : S m = S n := Sum.inr.inj z
  rw [← mL z]
  exact GW
end Bk
namespace L2
open PySem PySem.Spec PyProof.Rows Bk
theorem rQ {X : Cx} (hc : X.calm = true) : cw X (.type "dict") (fun xs H Q => ∃ (t2 : Addr) (nm : List Bk.Cs), xs = [.ref t2] ∧ nm.Nodup ∧ BM X.K H t2 nm ∧ nm.length ≤ 100 ∧ ∀ d, H d = none → Q (.ref d) (upd H d (.dK (nm.map ent)))) := by
 intro pins s σ H xs us Q I r h
 obtain ⟨t2, nm, e, hnd, hs, hn, q⟩ := h
 rcases hs with ⟨y2, h1, h2⟩ | ⟨h1, h2⟩
 ·refine nQ hc pins s σ H xs us Q I r ⟨t2, y2, nm.map ent, e, h1, h2, by rw [Lm9]; omega, fun d hd => ?_⟩
  rw [g6 _ _ (t9 hnd), List.nil_append]
  exact q d hd
 ·subst h2
  exact rP hc pins s σ H xs us Q I r ⟨t2, e, h1, q⟩
end L2
namespace Bk
open PySem L2 eF
theorem gb.sm {K : PySem.W.Frag} {H H' : Hp} (s : ai H H') {v : V} {bp bl : List Fc} {nm : List Cs} (h : gb K H v bp bl nm) : gb K H' v bp bl nm := by
 obtain ⟨p, t0, t1, t2, y0, y1, e, h1, h2, h3, h4, h5, h6, h7⟩ := h
 exact ⟨p, t0, t1, t2, y0, y1, e, h1.same s, h2.same s, ak h3 fun _ _ _ => Fact.sm s, h4.same s, ak h5 fun _ _ _ => Fact.sm s, h6, h7.sm s⟩
theorem fW.sm {K : PySem.W.Frag} {H H' : Hp} (s : ai H H') {v : V} {ps ls ns : List Tr} (h : fW K H v ps ls ns) : fW K H' v ps ls ns := by
 obtain ⟨p, t0, t1, t2, y0, y1, y2, e, h1, h2, h3, h4, h5, h6, h7⟩ := h
 exact ⟨p, t0, t1, t2, y0, y1, y2, e, h1.same s, h2.same s, bj s h3, h4.same s, bj s h5, h6.sm s, bj s h7⟩
def vd : Sp := fun vs H Q _ => ∃ lc, vs = [.ref lc] ∧ H lc = some (.lst []) ∧ Q (.bl false) H
def ng : Sp := fun vs H Q _ => ∃ lc n, vs = [.ref lc, tx n] ∧ H lc = some (.lst []) ∧ Q (tx n) H
def y9 (K : PySem.W.Frag) : Sp := fun vs H Q _ => ∃ (lc : Addr) (v : V) (f : Fc), vs = [.ref lc, v] ∧ H lc = some (.lst []) ∧ Fact K H f v ∧ f.as.length ≤ 1000 ∧ ∀ v' H', ai H H' → Fact K H' f v' → Q v' H'
def ve (K : PySem.W.Frag) : Sp := fun vs H Q _ => ∃ (lb lo lc ln : Addr) (cc once : List Fc) (nm : List Cs), vs = [.ref lb, .ref lo, .ref lc, .ref ln] ∧ jg K H lb cc ∧ jg K H lo once ∧ H lc = some (.lst []) ∧ H ln = some (.lst (nm.map tx)) ∧ (∀ f ∈ cc ++ once, f.as.length ≤ 1000) ∧ cc.length < 64 ∧ once.length < 64 ∧ nm.length < 64 ∧
 ∀ (v : V) (H' : Hp), ai H H' → mY K H' v (aU (cc.map fT)) (aU (dd (once.map fT))) (aU (nm.map pT)) → Q v H'
def qG (K : PySem.W.Frag) : Sp := fun vs H Q _ => ∃ (p : Addr) (u z0 z1 z2 : V) (b : Bool) (ds : List Dt), vs = [.ref p, u] ∧ aO K H p [z0, z1, z2, .bl b] ∧ cB K H (.tup ds) (.ref p) ∧ cB K H (.tup ds) u ∧ (Dt.tup ds).deep ≤ 20 ∧ Q (.bl true) H
def ua (n : Nat) : List Bool := [n == 1, n == 2, n == 3, n == 4, true]
def vf (K : PySem.W.Frag) (b1 : Addr) : Sp := fun vs H Q _ => ∃ (lk lf lt : Addr) (pv : V) (ks : List Kd) (fs ts : List Fc) (br : Bool) (bp bl : List Fc) (nm : List Cs), vs = [.ref lk, pv, .ref lt, .ref lf] ∧ KF K H lk lf ks fs ∧ KF K H lk lt ks ts ∧ ((br = true ∧ JC K H pv) ∨ (br = false ∧ gb K H pv bp bl nm)) ∧
 (bp.length + fs.length < 64 ∧ ts.length < 64 ∧ bl.length + fs.length < 64) ∧ nm.length ≤ 100 ∧ (kn nm (fs.flatMap (·.as))).length < 64 ∧
 (aA ks br bp ts fs ≠ 0 → ∀ (t l : Addr) (v : V) (H' : Hp), ai H H' → H' t = some (.tup [v, .ref l]) → H' l = some (.lst ((ua (aA ks br bp ts fs)).map V.bl)) → Q (.ref t) H') ∧
 (aA ks br bp ts fs = 0 → ∀ (t l : Addr) (v : V) (H' : Hp), ai H H' → H' t = some (.tup [v, .ref l]) → H' l = some (.lst []) →
  (br = true → v = .ref b1) → (br = false → ∃ left : List Fc, (∀ f, left.count f = bp.count f - ts.count f) ∧ fW K H' v (aU ((left ++ kz ks fs).map fT)) (aU (dd ((bl ++ jt ks fs).map fT))) (aU ((kn nm (fs.flatMap (·.as))).map pT))) → Q (.ref t) H')
def nV (K : PySem.W.Frag) : Sp := fun vs H Q _ => ∃ (lk lb lt lf : Addr) (br : Bool) (ks : List Kd) (cc ts fs : List Fc), vs = [.ref lk, .bl br, .ref lb, .ref lt, .ref lf] ∧ qz K H lk ks ∧ K4 ks ∧ jg K H lb cc ∧ jg K H lt ts ∧ jg K H lf fs ∧ (∀ f ∈ ts ++ fs, FL f) ∧ cc.length ≤ 1000 ∧ ts.length ≤ 1000 ∧ fs.length ≤ 1000 ∧ ∀ H', ai H H' → Q (.int (aA ks br cc ts fs)) H'
def zc (K : PySem.W.Frag) (H : Hp) (v : V) (cc once : List Fc) (nm : List Cs) : Prop := ∃ t lb lo ln, v = .ref t ∧ aO K H t [.ref lb, .ref lo, .ref ln] ∧ jg K H lb cc ∧ jg K H lo once ∧ H ln = some (.lst (nm.map tx))
theorem zc.sm {K : PySem.W.Frag} {H H' : Hp} (s : ai H H') {v : V} {cc once : List Fc} {nm : List Cs} (h : zc K H v cc once nm) : zc K H' v cc once nm := by
 obtain ⟨t, lb, lo, ln, e, h1, h2, h3, h4⟩ := h
 exact ⟨t, lb, lo, ln, e, h1.same s, h2.sm s, h3.sm s, s _ _ h4⟩
def zd (K : PySem.W.Frag) : Sp := fun vs H Q _ => ∃ (lk lf : Addr) (v : V) (ks : List Kd) (cc once fs : List Fc) (nm : List Cs), vs = [.ref lk, v, .ref lf] ∧ qz K H lk ks ∧ K4 ks ∧ zc K H v cc once nm ∧ jg K H lf fs ∧ (∀ f ∈ fs, FL f) ∧ cc.length ≤ 1000 ∧ once.length ≤ 1000 ∧ fs.length ≤ 64 ∧ nm.length ≤ 1000 ∧
 ∀ (v' : V) (H' : Hp), ai H H' → zc K H' v' (cc ++ kz ks fs) (once ++ jt ks fs) (kn nm (fs.flatMap (·.as))) → Q v' H'
def nW (K : PySem.W.Frag) : Sp := fun vs H Q _ => ∃ (lk ln lb lc : Addr) (ks : List Kd) (ns : List Cs) (st : Cs) (way : Int) (cc : List Fc) (cs : List Int), vs = [.ref lk, .ref ln, tx st, .int way, .ref lb, .ref lc] ∧ qz K H lk ks ∧ K4 ks ∧ H ln = some (.lst (ns.map tx)) ∧ 1 ≤ ns.length ∧ ns.length ≤ 100 ∧ jg K H lb cc ∧ cc.length ≤ 64 ∧ H lc = some (.lst (cs.map V.int)) ∧ cs.length ≤ 64 ∧
 ∀ (t l1 l2 : Addr) (ts fs : List Fc) (H' : Hp), ai H H' → H' t = some (.tup [.ref l1, .ref l2]) → jg K H' l1 ts → jg K H' l2 fs → ts.length + fs.length ≤ cs.length →
  (∀ f ∈ ts ++ fs, f ∈ cc ∨ ((∃ k ∈ ks, f.k = k.n) ∨ f.k = st) ∧ (∀ a ∈ f.as, a ∈ ns ∨ a = st) ∧ f.as.length ≤ 5) → Q (.ref t) H'
end Bk
namespace Bk
open PySem L2 eF
def qH (K : PySem.W.Frag) : Sp := fun vs H Q _ => ∃ (lk lf : Addr) (ks : List Kd) (fs : List Fc), vs = [.ref lk, .ref lf] ∧ KF K H lk lf ks fs ∧ fs.length < 64 ∧ (kn [] (fs.flatMap (·.as))).length < 64 ∧ aL ks fs = 0 ∧
 ∀ (v : V) (H' : Hp), ai H H' → fW K H' v (aU ((kz ks fs).map fT)) (aU (dd ((jt ks fs).map fT))) (aU ((kn [] (fs.flatMap (·.as))).map pT)) → Q v H'
end Bk
namespace Bk
open PySem L2 eF
theorem qI {cc ts : List Fc} (h : cD cc ts = none) : short cc ts = true := by
 obtain ⟨f, hf⟩ := oF ts cc h
 have hm : f ∈ ts := List.count_pos_iff.mp (by omega)
 exact List.any_eq_true.mpr ⟨f, hm, decide_eq_true hf⟩
theorem zi {cc ts r : List Fc} (h : cD cc ts = some r) : short cc ts = false := by
 cases e : short cc ts with
 | false => rfl
 | true =>
  obtain ⟨f, _, hf⟩ := List.any_eq_true.mp e
  have := (jz ts cc r h f).2
  have := of_decide_eq_true hf
  omega
theorem qJ (ks : List Kd) (ts fs : List Fc) : aL ks (ts ++ fs) = if aL ks ts ≠ 0 then aL ks ts else aL ks fs := by
 induction ts with
 | nil => rw [if_neg (by simp [aL])]; rfl
 | cons g r ih =>
  show (if fault ks g = 0 then aL ks (r ++ fs) else fault ks g) = if (if fault ks g = 0 then aL ks r else fault ks g) ≠ 0 then (if fault ks g = 0 then aL ks r else fault ks g) else aL ks fs
  by_cases h : fault ks g = 0
  ·rw [if_pos h, if_pos h, ih]
  ·rw [if_neg h, if_neg h, if_pos h]
theorem vg {ks : List Kd} {br : Bool} {bp ts fs : List Fc} (h : aL ks (ts ++ fs) ≠ 0) : aA ks br bp ts fs = aL ks (ts ++ fs) := by
 rw [qJ] at h ⊢
 unfold aA
 by_cases h1 : aL ks ts ≠ 0
 ·rw [if_pos h1, if_pos h1]
 ·rw [if_neg h1] at h ⊢
  rw [if_neg h1, if_pos h]
theorem xn {ks : List Kd} {br : Bool} {bp ts fs : List Fc} (h : aL ks (ts ++ fs) = 0) : aA ks br bp ts fs = if ts.any (t7 ks) = true then 3 else if br = false ∧ short bp ts = true then 4 else 0 := by
 rw [qJ] at h
 by_cases h1 : aL ks ts ≠ 0
 ·rw [if_pos h1] at h; exact absurd h h1
 ·rw [if_neg h1] at h
  unfold aA
  rw [if_neg h1, if_neg (by omega)]
theorem vh {f g : Fc} (h : fT f = fT g) : f = g := by
 unfold fT FJ at h
 injection h with h
 injection h with h1 h2
 injection h1 with h1
 injection h2 with h2
 injection h2 with h2
 refine qF ?_
 unfold fk
 rw [h1]
 congr 1
 have key : ∀ {a b : List Str}, a.map Tr.str = b.map Tr.str → a = b := by
  intro a
  induction a with
  | nil => intro b e; cases b with | nil => rfl | cons _ _ => cases e
  | cons x a ih =>
   intro b e
   cases b with
   | nil => cases e
   | cons y b =>
    rw [List.map_cons, List.map_cons] at e
    injection e with e1 e2
    injection e1 with e1
    rw [e1, ih e2]
 exact key h2
theorem JD (l : List Fc) (f : Fc) : ((l.map fT).any fun a => eqT a (fT f)) = decide (f ∈ l) := by
 cases e : (l.map fT).any fun a => eqT a (fT f) with
 | true =>
  obtain ⟨t, ht, h2⟩ := List.any_eq_true.mp e
  obtain ⟨g, hg, rfl⟩ := List.mem_map.mp ht
  rw [← vh (jo h2)]
  exact (decide_eq_true hg).symm
 | false =>
  refine (decide_eq_false fun hm => ?_).symm
  have z := List.any_eq_false.mp e (fT f) (List.mem_map_of_mem hm)
  rw [er] at z
  exact z rfl
theorem qK : ∀ (l : List Fc) (f : Fc), f ∈ l → ∃ (j : Nat) (hj : j < l.length), l[j] = f ∧ (∀ m (hm : m < j), l[m]'(Nat.lt_trans hm hj) ≠ f) ∧ l.erase f = l.eraseIdx j
 | [], _, h => by cases h
 | g :: l, f, h => by
  by_cases e : g = f
  ·subst e
   exact ⟨0, by simp, rfl, (fun m hm => absurd hm (Nat.not_lt_zero _)), by simp⟩
  ·have hm : f ∈ l := by
    rcases List.mem_cons.mp h with z | z
    ·exact absurd z.symm e
    ·exact z
   obtain ⟨j, hj, h1, h2, h3⟩ := qK l f hm
   refine ⟨j + 1, by simpa using hj, by simpa using h1, fun m hm => ?_, ?_⟩
   ·cases m with
    | zero => simpa using e
    | succ m => simpa using h2 m (by omega)
   ·rw [List.erase_cons_tail (by simpa using e), h3]
    rfl
theorem eW {α β : Type} {F : α → β → Prop} : ∀ {a : List α} {b : List β} (j : Nat), Paired F a b → Paired F (a.eraseIdx j) (b.eraseIdx j)
 | _, _, _, .nil => .nil
 | _, _, 0, .cons _ t => t
 | _, _, j + 1, .cons h t => .cons h (eW j t)
end Bk
namespace Bk
open PySem L2 eF
noncomputable def G6 (t : Tr) : Fc := @dite _ (∃ g, fT g = t) (Classical.propDecidable _) (fun h => Classical.choose h) (fun _ => ⟨[], []⟩)
theorem DJ (g : Fc) : G6 (fT g) = g := by
 unfold G6
 have h : ∃ g', fT g' = fT g := ⟨g, rfl⟩
 rw [dif_pos h]
 exact vh (Classical.choose_spec h)
theorem JE {a b : Cs} (h : pT a = pT b) : a = b := by
 unfold pT at h
 injection h with h
 injection h with h1 h2
 injection h1 with h1
 exact mL h1
noncomputable def JF (t : Tr) : Cs := @dite _ (∃ g, pT g = t) (Classical.propDecidable _) (fun h => Classical.choose h) (fun _ => [])
theorem DK (g : Cs) : JF (pT g) = g := by
 unfold JF
 have h : ∃ g', pT g' = pT g := ⟨g, rfl⟩
 rw [dif_pos h]
 exact JE (Classical.choose_spec h)
theorem pI {l : List Tr} (h : ∀ t ∈ l, ∃ g, t = fT g) : (l.map G6).map fT = l := by
 induction l with
 | nil => rfl
 | cons t r ih =>
  obtain ⟨g, rfl⟩ := h t (List.mem_cons_self ..)
  rw [List.map_cons, List.map_cons, DJ, ih fun t ht => h t (List.mem_cons_of_mem _ ht)]
theorem F4 {l : List Tr} (h : ∀ t ∈ l, ∃ g, t = pT g) : (l.map JF).map pT = l := by
 induction l with
 | nil => rfl
 | cons t r ih =>
  obtain ⟨g, rfl⟩ := h t (List.mem_cons_self ..)
  rw [List.map_cons, List.map_cons, DK, ih fun t ht => h t (List.mem_cons_of_mem _ ht)]
theorem DL (l : List Fc) : ((aU (l.map fT)).map G6).Perm l := by
 have z := (bK (l.map fT)).map G6
 rw [List.map_map] at z
 have e : (G6 ∘ fT) = id := by funext g; exact DJ g
 rw [e, List.map_id] at z
 exact z
theorem xo (l : List Cs) : ((aU (l.map pT)).map JF).Perm l := by
 have z := (bK (l.map pT)).map JF
 rw [List.map_map] at z
 have e : (JF ∘ pT) = id := by funext g; exact DK g
 rw [e, List.map_id] at z
 exact z
theorem JG (l : List Fc) : ∀ t ∈ aU (l.map fT), ∃ g, t = fT g := fun t ht => by
 obtain ⟨g, _, e⟩ := List.mem_map.mp ((bK _).mem_iff.mp ht)
 exact ⟨g, e.symm⟩
theorem JH (l : List Cs) : ∀ t ∈ aU (l.map pT), ∃ g, t = pT g := fun t ht => by
 obtain ⟨g, _, e⟩ := List.mem_map.mp ((bK _).mem_iff.mp ht)
 exact ⟨g, e.symm⟩
theorem zj (l : List Fc) : ∀ t ∈ aU (dd (l.map fT)), ∃ g, t = fT g := fun t ht => tU ((bK _).mem_iff.mp ht)
theorem mX {K : PySem.W.Frag} {H : Hp} : ∀ {as : List Str} {ys : List V}, as.length = ys.length → (∀ i (h0 : i < (Tr.toDs (as.map Tr.str)).length) (h1 : i < ys.length), cB K H (Tr.toDs (as.map Tr.str))[i] ys[i]) → ys = as.map V.str
 | [], [], _, _ => rfl
 | [], _ :: _, h, _ => by cases h
 | _ :: _, [], h, _ => by cases h
 | a :: as, y :: ys, h, hd => by
  have h0 : cB K H (Dt.str a) y := by
   have z := hd 0 (by simp [Tr.toDs]) (by simp)
   simpa [Tr.toDs, Tr.toD] using z
  have e : y = .str a := by cases h0; rfl
  have ih := mX (K := K) (H := H) (as := as) (ys := ys) (by simpa using h) fun i h0 h1 => by
   have z := hd (i + 1) (by simpa [Tr.toDs] using h0) (by simpa using h1)
   simpa [Tr.toDs] using z
  rw [e, ih]
  rfl
theorem DM {K : PySem.W.Frag} {H : Hp} {g : Fc} {v : V} (h : cB K H (fT g).toD v) : Fact K H g v := by
 have e : (fT g).toD = .tup [.str (S g.k), .tup (Tr.toDs ((g.as.map S).map Tr.str))] := by simp [fT, FJ, Tr.toD, Tr.toDs]
 rw [e] at h
 cases h with
 | @tup ds xs p hp hl hd =>
  match xs, hl with
  | [x0, x1], _ =>
   have h0 : cB K H (.str (S g.k)) x0 := hd 0 (by simp) (by simp)
   have h1 : cB K H (.tup (Tr.toDs ((g.as.map S).map Tr.str))) x1 := hd 1 (by simp) (by simp)
   cases h0
   cases h1 with
   | @tup Zn ys q hq mB hd2 =>
    have z := mX (as := g.as.map S) (ys := ys) (by rw [toDs_length] at mB; simpa using mB) hd2
    rw [z, ← u5] at hq
    exact ⟨p, q, rfl, hp, hq⟩
theorem DN {K : PySem.W.Frag} {H : Hp} {n : Cs} {v : V} (h : cB K H (pT n).toD v) : ∃ t, v = .ref t ∧ aO K H t [tx n, tx n] := by
 have e : (pT n).toD = .tup [.str (S n), .str (S n)] := by simp [pT, Tr.toD, Tr.toDs]
 rw [e] at h
 cases h with
 | @tup ds xs p hp hl hd =>
  match xs, hl with
  | [x0, x1], _ =>
   have h0 : cB K H (.str (S n)) x0 := hd 0 (by simp) (by simp)
   have h1 : cB K H (.str (S n)) x1 := hd 1 (by simp) (by simp)
   cases h0
   cases h1
   exact ⟨p, rfl, hp⟩
theorem nY {K : PySem.W.Frag} {H : Hp} : ∀ {gs : List Fc} {ys : List V}, Ts K H (gs.map fT) ys → Paired (Fact K H) gs ys
 | [], [], _ => .nil
 | [], _ :: _, h => by have := h.1; simp at this
 | _ :: _, [], h => by have := h.1; simp at this
 | g :: gs, y :: ys, h => .cons (DM (by have z := h.2 0 (by simp) (by simp); simpa using z)) (nY ⟨by have := h.1; simpa using this, fun i h1 h2 => by
   have z := h.2 (i + 1) (by simpa using h1) (by simpa using h2)
   simpa using z⟩)
theorem DO {K : PySem.W.Frag} {H : Hp} : ∀ {nm : List Cs} {ys : List V}, Ts K H (nm.map pT) ys → mJ K H (nm.map ent) ys
 | [], [], _ => .nil
 | [], _ :: _, h => by have := h.1; simp at this
 | _ :: _, [], h => by have := h.1; simp at this
 | n :: nm, y :: ys, h => .cons (DN (by have z := h.2 0 (by simp) (by simp); simpa using z)) (DO ⟨by have := h.1; simpa using this, fun i h1 h2 => by
   have z := h.2 (i + 1) (by simpa using h1) (by simpa using h2)
   simpa using z⟩)
theorem fW.Xl {K : PySem.W.Frag} {H : Hp} {v : V} {l m : List Fc} {nm : List Cs} (hn : nm.Nodup) (h : fW K H v (aU (l.map fT)) (aU (dd (m.map fT))) (aU (nm.map pT))) :
  ∃ bp bl nm', gb K H v bp bl nm' ∧ bp.Perm l ∧ bl.map fT = aU (dd (m.map fT)) ∧ nm'.Perm nm := by
 obtain ⟨p, t0, t1, t2, y0, y1, y2, e, h1, h2, h3, h4, h5, h6, h7⟩ := h
 refine ⟨(aU (l.map fT)).map G6, (aU (dd (m.map fT))).map G6, (aU (nm.map pT)).map JF, ⟨p, t0, t1, t2, y0, y1, e, h1, h2, nY ?_, h4, nY ?_, (xo nm).nodup_iff.mpr hn, .inl ⟨y2, h6, DO ?_⟩⟩, DL l, pI (zj m), xo nm⟩
 ·rw [pI (JG l)]; exact h3
 ·rw [pI (zj m)]; exact h5
 ·rw [F4 (JH nm)]; exact h7
theorem qL {α : Type} : ∀ (a b : List α), a.Nodup → b.Nodup → (∀ x, x ∈ a ↔ x ∈ b) → a.Perm b
 | [], b, _, _, h => by
  cases b with
  | nil => exact .refl _
  | cons y r => exact absurd ((h y).mpr (List.mem_cons_self ..)) (by simp)
 | x :: a, b, ha, hb, h => by
  obtain ⟨b1, b2, rfl⟩ := List.append_of_mem ((h x).mp (List.mem_cons_self ..))
  have hp : (b1 ++ x :: b2).Perm (x :: (b1 ++ b2)) := List.perm_middle
  have hb' := hp.nodup_iff.mp hb
  rw [List.nodup_cons] at ha hb'
  refine (List.Perm.cons x (qL a (b1 ++ b2) ha.2 hb'.2 fun y => ?_)).trans hp.symm
  have hy := h y
  rw [hp.mem_iff, List.mem_cons, List.mem_cons] at hy
  constructor
  ·intro UQ
   rcases hy.mp (.inr UQ) with e | e
   ·subst e; exact absurd UQ ha.1
   ·exact e
  ·intro UR
   rcases hy.mpr (.inr UR) with e | e
   ·subst e; exact absurd UR hb'.1
   ·exact e
theorem F5 {acc : List Tr} {t u : Tr} : u ∈ nz acc t ↔ u ∈ acc ∨ u = t := by
 refine ⟨AQ, fun h => ?_⟩
 unfold nz
 split
 ·rename_i ha
  rcases h with h | h
  ·exact h
  ·obtain ⟨a, Lf, Lg⟩ := List.any_eq_true.mp ha
   rw [h, ← jo Lg]
   exact Lf
 ·rcases h with h | h
  ·exact List.mem_append.mpr (.inl h)
  ·exact List.mem_append.mpr (.inr (by rw [h]; exact List.mem_singleton.mpr rfl))
theorem BN {acc : List Tr} {t : Tr} (h : acc.Nodup) : (nz acc t).Nodup := by
 unfold nz
 split
 ·exact h
 ·rename_i ha
  have hm : t ∉ acc := fun hm => ha (List.any_eq_true.mpr ⟨t, hm, er t⟩)
  rw [List.nodup_append]
  exact ⟨h, by simp, fun a h1 b h2 e => by rw [List.mem_singleton.mp h2] at e; subst e; exact hm h1⟩
theorem qM (l : List Tr) : (dd l).Nodup ∧ ∀ u, u ∈ dd l ↔ u ∈ l := by
 have key : ∀ (l acc : List Tr), acc.Nodup → (l.foldl nz acc).Nodup ∧ ∀ u, u ∈ l.foldl nz acc ↔ u ∈ acc ∨ u ∈ l := by
  intro l
  induction l with
  | nil => intro acc h; exact ⟨h, fun u => by simp⟩
  | cons t r ih =>
   intro acc h
   have z := ih (nz acc t) (BN h)
   refine ⟨z.1, fun u => ?_⟩
   show u ∈ r.foldl nz (nz acc t) ↔ _
   rw [z.2 u, F5, List.mem_cons]
   constructor
   ·rintro ((h | h) | h)
    ·exact .inl h
    ·exact .inr (.inl h)
    ·exact .inr (.inr h)
   ·rintro (h | h | h)
    ·exact .inl (.inl h)
    ·exact .inl (.inr h)
    ·exact .inr h
 have z := key l [] List.nodup_nil
 exact ⟨z.1, fun u => by rw [show dd l = l.foldl nz [] from rfl, z.2 u]; simp⟩
theorem F6 {a b : List Tr} (h : ∀ u, u ∈ a ↔ u ∈ b) : aU (dd a) = aU (dd b) :=
 fo (qL _ _ (qM a).1 (qM b).1 fun u => by rw [(qM a).2, (qM b).2]; exact h u)
theorem BO {bl once gs : List Fc} (h : bl.map fT = aU (dd (once.map fT))) : aU (dd ((bl ++ gs).map fT)) = aU (dd ((once ++ gs).map fT)) := by
 refine F6 fun u => ?_
 rw [List.map_append, List.map_append, List.mem_append, List.mem_append, h, (bK _).mem_iff, (qM _).2]
theorem DP {a b : List Cs} (h : a.Perm b) (n : Cs) : (tN a n).Perm (tN b n) := by
 unfold tN
 by_cases hg : great n = true
 ·rw [if_pos hg, if_pos hg]
  by_cases hm : n ∈ a
  ·rw [if_pos hm, if_pos (h.mem_iff.mp hm)]
   exact h
  ·rw [if_neg hm, if_neg fun z => hm (h.mem_iff.mpr z)]
   exact h.append_right [n]
 ·rw [if_neg hg, if_neg hg]
  exact h
theorem vi : ∀ (ns : List Cs) {a b : List Cs}, a.Perm b → (kn a ns).Perm (kn b ns)
 | [], _, _, h => h
 | n :: ns, _, _, h => vi ns (DP h n)
theorem F7 {nm nm' : List Cs} (h : nm'.Perm nm) (ns : List Cs) : aU ((kn nm' ns).map pT) = aU ((kn nm ns).map pT) := fo ((vi ns h).map pT)
theorem DQ {left M9 gs : List Fc} (h : ∀ f, left.count f = M9.count f) : aU ((left ++ gs).map fT) = aU ((M9 ++ gs).map fT) :=
 fo (((List.perm_iff_count.mpr h).append_right gs).map fT)
theorem xp {ks : List Kd} {br : Bool} {bp cc ts fs : List Fc} (h : br = false → bp.Perm cc) : aA ks br bp ts fs = aA ks br cc ts fs := by
 cases br with
 | true => unfold aA; simp
 | false =>
  have e : short bp ts = short cc ts := by
   unfold short
   congr 1
   funext f
   rw [(List.perm_iff_count.mp (h rfl)) f]
  unfold aA
  rw [e]
end Bk
namespace Bk
open PySem L2 eF
theorem RV (ns : List Int) {c : Nat} (hc : 4 ≤ c) : ∃ ms JI : List Int, lj (ns.map V.int) (some 4) (some (c : Int)) = ms.map V.int ∧ lj (ns.map V.int) (some (c : Int)) (some 204) = JI.map V.int ∧ ms.length + JI.length + 4 ≤ max 4 ns.length := by
 refine ⟨(ns.drop (HT.cy ns.length 0 (some 4))).take (HT.cy ns.length ns.length (some (c : Int)) - HT.cy ns.length 0 (some 4)), (ns.drop (HT.cy ns.length 0 (some (c : Int)))).take (HT.cy ns.length ns.length (some 204) - HT.cy ns.length 0 (some (c : Int))), ?_, ?_, ?_⟩
 ·unfold lj
  rw [Lm9, List.map_take, List.map_drop]
 ·unfold lj
  rw [Lm9, List.map_take, List.map_drop]
 ·have e : HT.cy ns.length 0 (some 4) = min 4 ns.length := HT.ux ns.length 0 4
  have e2 : HT.cy ns.length 0 (some (c : Int)) = min c ns.length := HT.ux ns.length 0 c
  have e3 : HT.cy ns.length ns.length (some (c : Int)) = min c ns.length := HT.ux ns.length ns.length c
  rw [List.length_take, List.length_drop, List.length_take, List.length_drop, e, e2, e3]
  omega
end Bk
namespace Bk
open PySem L2 eF
theorem DR {ks : List Kd} (nd : (ks.map (·.n)).Nodup) {f : Fc} {k : Kd} (hk : k ∈ ks) (h1 : f.k = k.n) (h2 : f.as.length = k.c) : fault ks f = 0 := by
 have hf : ks.find? (fun k => decide (k.n = f.k)) = some k := by
  induction ks with
  | nil => cases hk
  | cons g r ih =>
   rw [List.map_cons, List.nodup_cons] at nd
   rw [List.find?_cons]
   rcases List.mem_cons.mp hk with e | e
   ·subst e
    rw [decide_eq_true h1.symm]
   ·have hne : ¬ g.n = f.k := fun z => nd.1 (List.mem_map.mpr ⟨k, e, by rw [z, h1]⟩)
    rw [decide_eq_false hne]
    exact ih nd.2 e
 unfold fault
 rw [hf]
 exact if_pos h2.symm
theorem ub {ks : List Kd} (nd : (ks.map (·.n)).Nodup) : ∀ {fs : List Fc}, (∀ f ∈ fs, ∃ k ∈ ks, f.k = k.n ∧ f.as.length = k.c) → aL ks fs = 0
 | [], _ => rfl
 | f :: r, h => by
  obtain ⟨k, hk, h1, h2⟩ := h f (List.mem_cons_self ..)
  show (if fault ks f = 0 then aL ks r else fault ks f) = 0
  rw [if_pos (DR nd hk h1 h2)]
  exact ub nd fun g hg => h g (List.mem_cons_of_mem _ hg)
theorem gc (ks : List Kd) : ∀ (fs : List Fc), aL ks (fs.filter fun f => decide (fault ks f = 0)) = 0
 | [] => rfl
 | f :: r => by
  rw [List.filter_cons]
  split
  ·rename_i h
   show (if fault ks f = 0 then aL ks _ else fault ks f) = 0
   rw [if_pos (of_decide_eq_true h)]
   exact gc ks r
  ·exact gc ks r
theorem xq {os acc ns : List Cs} (ho : os.length < 64) (ha : acc.Nodup) (h1 : ∀ x ∈ acc, x ∈ os) (h2 : ∀ x ∈ ns, great x = true → x ∈ os) : (kn acc ns).length < 64 ∧ (kn acc ns).Nodup ∧ ∀ x ∈ kn acc ns, x ∈ os := by
 obtain ⟨z1, z2⟩ := xg ns acc ha
 have z3 : ∀ x ∈ kn acc ns, x ∈ os := fun x hx => by
  rcases z2 x hx with h | ⟨h, g⟩
  ·exact h1 x h
  ·exact h2 x h g
 have z4 := tV _ os z1 z3
 exact ⟨by omega, z1, z3⟩
end Bk
namespace Bk
open PySem L2 eF
def DS (K : PySem.W.Frag) (b1 : Addr) (H : Hp) (ks : List Kd) (br : Bool) (bp bl : List Fc) (nm : List Cs) (ts fs : List Fc) (t : Addr) : Prop := ∃ l v, H t = some (.tup [v, .ref l]) ∧ H l = some (.lst (if aA ks br bp ts fs = 0 then [] else (ua (aA ks br bp ts fs)).map V.bl)) ∧
 (aA ks br bp ts fs = 0 → (br = true → v = .ref b1) ∧ (br = false → ∃ left : List Fc, (∀ f, left.count f = bp.count f - ts.count f) ∧ fW K H v (aU ((left ++ kz ks fs).map fT)) (aU (dd ((bl ++ jt ks fs).map fT))) (aU ((kn nm (fs.flatMap (·.as))).map pT))))
theorem DS.sm {K : PySem.W.Frag} {b1 : Addr} {H H' : Hp} (s : ai H H') {ks : List Kd} {br : Bool} {bp bl : List Fc} {nm : List Cs} {ts fs : List Fc} {t : Addr} (h : DS K b1 H ks br bp bl nm ts fs t) : DS K b1 H' ks br bp bl nm ts fs t := by
 obtain ⟨l, v, h1, h2, h3⟩ := h
 refine ⟨l, v, s _ _ h1, s _ _ h2, fun e => ⟨(h3 e).1, fun b => ?_⟩⟩
 obtain ⟨left, a1, a2⟩ := (h3 e).2 b
 exact ⟨left, a1, a2.sm s⟩
end Bk
namespace Bk
open PySem L2 eF
theorem qN {K : PySem.W.Frag} {H : Hp} {a b : Addr} {fs : List Fc} {us : List V} (h1 : aD K H a us) (h2 : aD K H b us) (p1 : Paired (Fact K H) fs us) : Alike K H (.ref a) (.ref b) := by
 have z1 := Paired.length p1
 refine Alike.plain (ds := fs.map fun g => (fT g).toD) h1 h2 (by simpa using z1) (fun d hd => ?_) fun i h0 h1 => ?_
 ·obtain ⟨g, _, rfl⟩ := List.mem_map.mp hd
  exact Nat.le_trans (xc g).2 (by decide)
 ·rw [List.getElem_map]
  exact Fact.BG (paired_at p1 i (by simpa using h0) h1)
theorem zm {K : PySem.W.Frag} {H : Hp} {a b : Addr} {ks : List Kd} {us : List V} (h1 : aD K H a us) (h2 : aD K H b us) (p1 : Paired (Kind K H) ks us) : Alike K H (.ref a) (.ref b) := by
 have z1 := Paired.length p1
 refine Alike.plain (ds := ks.map fun k => .tup [.str (S k.n), .int k.c, .bl k.l]) h1 h2 (by simpa using z1) (fun d hd => ?_) fun i h0 h1 => ?_
 ·obtain ⟨g, _, rfl⟩ := List.mem_map.mp hd
  show 1 ≤ 20
  decide
 ·rw [List.getElem_map]
  obtain ⟨t, e, ht⟩ := paired_at p1 i (by simpa using h0) h1
  rw [e]
  refine .tup ht rfl fun j j1 j2 => ?_
  match j, j1, j2 with
  | 0, _, _ => exact .str _
  | 1, _, _ => exact .int _
  | 2, _, _ => exact .bl _
end Bk
namespace Bk
open PySem L2 eF
theorem BP {n : Nat} (h1 : 1 ≤ n) (h4 : n ≤ 4) : [V.bl false, V.bl false, V.bl false, V.bl false, V.bl true].set (n - 1) (.bl true) = (ua n).map V.bl := by
 have h : n = 1 ∨ n = 2 ∨ n = 3 ∨ n = 4 := by omega
 rcases h with rfl | rfl | rfl | rfl <;> rfl
theorem F8 {n i : Nat} (h : i < n) : EW n (i : Int) = some i := by
 unfold EW
 rw [if_pos (by omega), if_pos (by omega)]
 simp
end Bk
namespace Bk
open PySem L2 eF
theorem BQ (l m : List Fc) (nm : List Cs) : (DF (aU (l.map fT)) (aU (dd (m.map fT))) (aU (nm.map pT))).deep ≤ 20 := by
 have a1 : Dt.bJ (Tr.toDs (aU (l.map fT))) ≤ 2 := pD fun t ht => by
  obtain ⟨g, _, rfl⟩ := List.mem_map.mp ((bK _).mem_iff.mp ht)
  unfold fT; rw [bF]; decide
 have a2 : Dt.bJ (Tr.toDs (aU (dd (m.map fT)))) ≤ 2 := pD fun t ht => by
  obtain ⟨g, rfl⟩ := tU ((bK _).mem_iff.mp ht)
  unfold fT; rw [bF]; decide
 have a3 : Dt.bJ (Tr.toDs (aU (nm.map pT))) ≤ 2 := pD fun t ht => by
  obtain ⟨g, _, rfl⟩ := List.mem_map.mp ((bK _).mem_iff.mp ht)
  show 1 ≤ 2
  decide
 unfold DF
 show max (Dt.bJ _ + 1) (max (Dt.bJ _ + 1) (max (Dt.bJ _ + 1) (max 0 0))) + 1 ≤ 20
 omega
theorem fW.toV {K : PySem.W.Frag} {H : Hp} {v : V} {ps ls ns : List Tr} (h : fW K H v ps ls ns) : mY K H v ps ls ns := by
 obtain ⟨p, t0, t1, t2, y0, y1, y2, e, h1, h2, h3, h4, h5, h6, h7⟩ := h
 exact ⟨p, t0, t1, t2, y0, y1, y2, e, h1, h2, h3, h4, h5, h6.sq, h7⟩
theorem mY.sm {K : PySem.W.Frag} {H H' : Hp} (s : ai H H') {v : V} {ps ls ns : List Tr} (h : mY K H v ps ls ns) : mY K H' v ps ls ns := by
 obtain ⟨p, t0, t1, t2, y0, y1, y2, e, h1, h2, h3, h4, h5, h6, h7⟩ := h
 exact ⟨p, t0, t1, t2, y0, y1, y2, e, h1.same s, h2.same s, bj s h3, h4.same s, bj s h5, h6.same s, bj s h7⟩
def Na : List Dt := [.tup [], .tup [], .tup [], .bl true]
theorem AS {K : PySem.W.Frag} {H : Hp} {p d0 d1 d2 : Addr} (h : aO K H p [.ref d0, .ref d1, .ref d2, .bl true]) (h0 : aO K H d0 []) (h1 : aO K H d1 []) (h2 : aO K H d2 []) : cB K H (.tup Na) (.ref p) := by
 refine .tup h rfl fun j j1 j2 => ?_
 match j, j1, j2 with
 | 0, _, _ => exact .tup h0 rfl fun i i1 => absurd i1 (Nat.not_lt_zero _)
 | 1, _, _ => exact .tup h1 rfl fun i i1 => absurd i1 (Nat.not_lt_zero _)
 | 2, _, _ => exact .tup h2 rfl fun i i1 => absurd i1 (Nat.not_lt_zero _)
 | 3, _, _ => exact .bl _
theorem DT {ks : List Kd} {bp ts fs : List Fc} (h : aA ks false bp ts fs = 0) : short bp ts = false := by
 cases e : short bp ts with
 | false => rfl
 | true =>
  exfalso
  unfold aA at h
  rw [e] at h
  split at h
  ·contradiction
  ·split at h
   ·contradiction
   ·split at h
    ·cases h
    ·rw [if_pos ⟨rfl, rfl⟩] at h
     cases h
theorem zp {bp cc ts : List Fc} (h : bp.Perm cc) : short bp ts = short cc ts := by
 unfold short
 congr 1
 funext f
 rw [(List.perm_iff_count.mp h) f]
end Bk
namespace jA
open PySem L2 eF Bk
set_option maxHeartbeats 4000000
def top (i : Nat) : Stmt := PySem.Challenge.pw_poolrules_k05_facts_taken_and_put.main.body.getD i (.Pass ⟨0, 0, 0, 0⟩)
abbrev lI : Stmt := top 8
abbrev ig : Stmt := top 12
abbrev vj : Stmt := top 13
abbrev gf : Stmt := top 14
abbrev gg : Stmt := top 15
abbrev nZ : Stmt := top 16
abbrev jB : Stmt := top 17
abbrev zq : Stmt := top 18
abbrev G7 : Stmt := top 19
abbrev Nb : Stmt := top 20
abbrev fA : Stmt := top 22
abbrev lJ : Stmt := top 23
abbrev ij : Stmt := top 24
abbrev gh : Stmt := top 25
abbrev il : Stmt := top 26
abbrev ip : Stmt := top 27
abbrev ir : Stmt := top 28
abbrev jC : Stmt := top 29
abbrev iu : Stmt := top 30
abbrev lK : Stmt := top 31
abbrev iw : Stmt := top 32
abbrev ix : Stmt := top 33
abbrev iy : Stmt := top 34
abbrev ED : Stmt := top 35
abbrev jD : Stmt := top 36
abbrev lL : Stmt := top 37
abbrev jE : Stmt := top 38
abbrev fB : Stmt := top 39
abbrev iz : Stmt := top 40
abbrev eL : Stmt := top 41
abbrev lM : Stmt := top 42
abbrev fC : Stmt := top 43
abbrev nh : Stmt := top 44
section
variable {P : Program} {w : World} {K : PySem.W.Frag} {mg : Str → Option Value} {base : Heap} {f : Addr} {fd : FuncData} {C1 C2 : Addr}
theorem ay {α : Type} {l : List α} {i : Nat} {x : α} (h : l[i]? = some x) : ∃ hi : i < l.length, l[i] = x := List.getElem?_eq_some_iff.mp h
theorem fD : aF ["kinds", "facts", "counts", "fact"] ["kinds", "facts"] (au gf) := ⟨rfl, rfl, rfl, by decide +kernel, rfl, by decide +kernel, by decide +kernel⟩
theorem qO (F : cP K "check_facts" "check_facts" gf f fd) (zr : mg "dict" = none) (bV : mg "len" = none) (jF : PySem.W.excIn K C1 E6 uE = true) (qP : mg "NoKind" = some (.ref C1)) (gB : PySem.W.excIn K C2 E6 uE = true) (n0 : mg "BadArgs" = some (.ref C2)) :
  bN P w K mg base (wF P w) 1 f fd ["kinds", "facts"] (qx K C1 C2) := by
 refine F.K2 fD (fun vs H Q E h => ?_) (fun dn A outer s H vs Q E hr h => ?_)
 ·obtain ⟨lk, lf, ks, fs, rfl, _⟩ := h
  rfl
 obtain ⟨lk, lf, ks, fs, rfl, ⟨⟨kvs, hk, pk⟩, nd, fk, ⟨fU, hf, pf⟩, Ak⟩, ⟨Xm, Rz⟩, q⟩ := h
 have hu := CF hr
 refine ⟨_, (aj (ar (i := 2) fD.nd rfl (Or.inl rfl) (aH (oJ rfl) rfl zr PyProof.Rows.Boot.«dict» (aa (bR [] rfl (by kernel_rfl) (aM (pv 0)) (fun _ _ _ _ _ => cz) (fun _ _ _ _ _ => (aZ (aa (aw (r := yr K) av (pv 0) ah (fun _ _ => rfl)) (aa (aw (r := yr K) av (pv 0) ah (fun _ _ => rfl)) af))))) af)))
 (ao (bM ef rfl (aM (pv 1)) (bf (i := 3) fD.nd rfl (Or.inl rfl))
 (aj (bq (HG (Bp hu (aw av (pv 3) ah (fun _ _ => rfl)) (pv 2)))
 (ao (mF jF qP rfl (aa (pz hr.gd hr.units (pv 3)) af)))
 aI)
 (ao (bq (aC GI (aE aN rfl bV PySem.boot_len (aa (aw av (pv 3) ah (fun _ _ => rfl)) af)) (Fe hu (pv 2) (aw av (pv 3) ah (fun _ _ => rfl)) (fun _ _ => rfl)) (aR _))
 (ao (mF gB n0 rfl (aa (pz hr.gd hr.units (pv 3)) af)))
 aI)))))), ?_⟩
 have zl := Paired.length pk
 have zf := Paired.length pf
 refine ⟨_, rfl, lk, rfl, ⟨_, aD.of hk⟩, fun D hD => ?_⟩
 refine gv (K := K) (xs := kvs) ks (fun _ H k y => ∃ t, y = .ref t ∧ aO K H t [tx k.n, .int k.c]) (fun _ _ _ _ _ k ⟨t, e, h⟩ => ⟨t, e, aO.keep k h⟩) (fun _ _ _ _ _ _ h => h) (uH (by omega)) hD (aD.of hk) zl (fun i x b H' R hx hb sm hQ => ?_) (fun H1 ys s1 hL po => ?_)
 ·obtain ⟨hi, ex⟩ := ay hx
  obtain ⟨eU, eb⟩ := ay hb
  obtain ⟨t, et, ht⟩ := paired_at pk i eU hi
  rw [ex] at et
  rw [eb] at ht
  subst et
  have ht' := ht.same sm
  exact ⟨_, rfl, t, _, 0, _, rfl, rfl, ht', rfl, _, rfl, t, _, 1, _, rfl, rfl, ht', rfl, (by show 2 ≤ sizeLine; decide), fun t2 JJ => hQ _ _ (ag JJ _) ⟨t2, rfl, aO.of ae⟩⟩
 refine ⟨D, ys, ks.map mO, rfl, hL, ow po, (by rw [Lm9]; omega), fun d hd => ?_⟩
 rw [g6 _ _ (wN nd), List.nil_append]
 have s2 : ai H (upd H1 d (.dK (ks.map mO))) := ai.trans s1 (ag hd _)
 have ye := ae (H := H1) (a := d) (o := .dK (ks.map mO))
 generalize upd H1 d (.dK (ks.map mO)) = H2 at s2 ye ⊢
 refine ⟨_, rfl, lf, rfl, ⟨_, aD.of (s2 _ _ hf)⟩, bt (K := K) (a := lf) (xs := fU) (fun i σ H' => H' = H2 ∧ aL ks fs = aL ks (fs.drop i) ∧ ∃ o, σ = [some (.ref lk), some (.ref lf), some (.ref d), o]) ⟨rfl, rfl, none, rfl⟩ (fun i σ H' _ ⟨e, _⟩ => by rw [e]; exact aD.of (s2 _ _ hf)) ?_ ?_⟩
 ·rintro i y σ H' hi ⟨rfl, kj, o, rfl⟩
  obtain ⟨pJ, ey⟩ := ay hi
  have jG : i < fs.length := by omega
  have hFa := paired_at pf i jG pJ
  rw [ey] at hFa
  have BR := Fact.BG (Fact.sm s2 hFa)
  obtain ⟨t, t2, et, h1, h2⟩ := hFa
  subst et
  have h1' := h1.same s2
  have h2' := h2.same s2
  have hS := FS.shown (Ak _ (List.getElem_mem jG))
  rw [oE jG] at kj
  refine ⟨_, rfl, t, _, 0, _, rfl, rfl, h1', rfl, _, rfl, d, _, rfl, oI.k (k := (Sum.inr (S fs[i].k) : Key)) ye, _, rfl, ?_⟩
  have DU := Js ks fs[i].k
  cases Nc : ks.find? (fun k => decide (k.n = fs[i].k)) with
  | none =>
   rw [Nc] at DU
   rw [DU]
   have rR : fault ks fs[i] = 1 := by unfold fault; rw [Nc]
   refine gS ⟨_, rfl, [.str (S fs[i].k), .tup ((fs[i].as.map S).map .str)], BR, ?_, hS.1, hS.2, fun x => ⟨(by show 1 ≤ sizeLine; decide), Xm ?_ _ s2⟩⟩
   ·show (fT fs[i]).toD.deep ≤ 18
    unfold fT
    rw [bF]
    decide
   ·rw [kj, rR]
    rfl
  | some k =>
   rw [Nc] at DU
   rw [DU]
   refine dm ?_
   refine ⟨_, rfl, t, _, 1, _, rfl, rfl, h1', rfl, t2, _, rfl, .inr h2', _, rfl, _, rfl, t, _, 0, _, rfl, rfl, h1', rfl, d, _, rfl, (by have z := oI.k (k := (Sum.inr (S fs[i].k) : Key)) ye; rw [DU] at z; exact z), rfl, _, rfl, ?_⟩
   rw [Lm9]
   by_cases hc : k.c = fs[i].as.length
   ·have rR : fault ks fs[i] = 0 := by unfold fault; rw [Nc]; exact if_pos hc
    rw [decide_eq_true (show V.int (fs[i].as.length : Nat) = V.int (k.c : Nat) by rw [hc])]
    refine dm ⟨rfl, ?_, _, rfl⟩
    rw [kj, rR]
    rfl
   ·have rR : fault ks fs[i] = 2 := by unfold fault; rw [Nc]; exact if_neg hc
    rw [decide_eq_false (fun z : V.int (fs[i].as.length : Nat) = V.int (k.c : Nat) => hc (by have := V.int.inj z; omega))]
    refine gS ⟨_, rfl, [.str (S fs[i].k), .tup ((fs[i].as.map S).map .str)], BR, ?_, hS.1, hS.2, fun x => ⟨(by show 1 ≤ sizeLine; decide), Rz ?_ _ s2⟩⟩
    ·show (fT fs[i]).toD.deep ≤ 18
     unfold fT
     rw [bF]
     decide
    ·rw [kj, rR]
     rfl
 ·rintro σ H' ⟨rfl, kj, o, rfl⟩
  rw [List.drop_of_length_le (by omega)] at kj
  exact q kj _ s2
end
end jA
namespace jA
open PySem L2 eF Bk
set_option maxHeartbeats 4000000
section
variable {P : Program} {w : World} {K : PySem.W.Frag} {mg : Str → Option Value} {base : Heap} {f : Addr} {fd : FuncData} {C3 C4 : Addr}
theorem xr : aF ["name"] ["name"] (au lI) := ⟨rfl, rfl, rfl, by decide +kernel, rfl, by decide +kernel, by decide +kernel⟩
theorem xt {u1 : Value} (F : cP K "is_great" "is_great" lI f fd) (F9 : mg "GREAT" = some u1) (Ga : RelV (.str cZ) u1) : bN P w K mg base ny 1 f fd ["name"] uI := by
 refine F.ok xr (fun vs H Q E h => ?_) (fun dn A outer s H vs Q E hr h => ?_)
 ·obtain ⟨p, rfl, _⟩ := h
  rfl
 obtain ⟨p, rfl, h1, hx, q⟩ := h
 refine ⟨_, (ao (aB (uu Bc (aw lu (pv 0) ah (fun _ _ => rfl)) (gO rfl F9 Ga) (by with_unfolding_all rfl)))), ?_⟩
 have hl : 1 ≤ (S p).length := by
  rw [dh]
  cases p with
  | nil => exact absurd rfl h1
  | cons a r => simp
 refine ⟨_, rfl, S p, 0, _, rfl, rfl, (by rw [dh]; exact sz (by omega)), Av hl, _, _, rfl, rfl, ?_⟩
 rw [StrLaws.found_one, du]
 exact q
theorem jH : aF ["lasts", "taken", "fact"] ["lasts", "taken"] (au gg) := ⟨rfl, rfl, rfl, by decide +kernel, rfl, by decide +kernel, by decide +kernel⟩
theorem qQ (F : cP K "check_taken" "check_taken" gg f fd) (gD : PySem.W.excIn K C3 E6 uE = true) (og : mg "BadTake" = some (.ref C3)) : bN P w K mg base (wF P w) 1 f fd ["lasts", "taken"] (nS K C3) := by
 refine F.K2 jH (fun vs H Q E h => ?_) (fun dn A outer s H vs Q E hr h => ?_)
 ·obtain ⟨ll, lf, ls, fs, rfl, _⟩ := h
  rfl
 obtain ⟨ll, lf, ls, fs, rfl, hl, ⟨fU, hf, pf⟩, Ak, ji, q⟩ := h
 refine ⟨_, (ao (bM ef rfl (aM (pv 1)) (bf (i := 2) jH.nd rfl (Or.inl rfl))
 (ao (bq (aC sT (aw av (pv 2) ah (fun _ _ => rfl)) (pv 0) (by with_unfolding_all rfl))
 (ao (mF gD og rfl (aa (pz hr.gd hr.units (pv 2)) af)))
 aI)))), ?_⟩
 have zf := Paired.length pf
 refine ⟨_, rfl, lf, rfl, ⟨_, aD.of hf⟩, bt (K := K) (a := lf) (xs := fU) (fun i σ H' => H' = H ∧ (fs.take i).any (fun f => decide (f.k ∈ ls)) = false ∧ ∃ o, σ = [some (.ref ll), some (.ref lf), o]) ⟨rfl, by simp, none, rfl⟩ (fun i σ H' _ ⟨e, _⟩ => by rw [e]; exact aD.of hf) ?_ ?_⟩
 ·rintro i y σ H' hi ⟨rfl, ha, o, rfl⟩
  obtain ⟨pJ, ey⟩ := ay hi
  have jG : i < fs.length := by omega
  have hFa := paired_at pf i jG pJ
  rw [ey] at hFa
  have BR := Fact.BG hFa
  obtain ⟨t, t2, et, h1, h2⟩ := hFa
  subst et
  have hS := FS.shown (Ak _ (List.getElem_mem jG))
  refine ⟨_, rfl, t, _, 0, _, rfl, rfl, h1, rfl, _, rfl, ll, _, rfl, .inl (aD.of hl), rfl, mM _, _, rfl, ?_⟩
  rw [ph]
  cases hk : decide (fs[i].k ∈ ls) with
  | true =>
   refine gS ⟨_, rfl, [.str (S fs[i].k), .tup ((fs[i].as.map S).map .str)], BR, ?_, hS.1, hS.2, fun x => ⟨(by show 1 ≤ sizeLine; decide), ji ?_ _ (ai.refl _)⟩⟩
   ·show (fT fs[i]).toD.deep ≤ 18
    unfold fT
    rw [bF]
    decide
   ·exact List.any_eq_true.mpr ⟨_, List.getElem_mem jG, hk⟩
  | false =>
   refine dm ⟨rfl, ?_, _, rfl⟩
   rw [List.take_succ_eq_append_getElem jG, List.any_append, ha]
   simp [hk]
 ·rintro σ H' ⟨rfl, ha, o, rfl⟩
  rw [← zf, List.take_length] at ha
  exact q ha
theorem cK : aF ["passing", "taken", "wanted", "fact", "left"] ["passing", "taken"] (au jB) := ⟨rfl, rfl, rfl, by decide +kernel, rfl, by decide +kernel, by decide +kernel⟩
theorem vk (F : cP K "taken_out" "taken_out" jB f fd) (cO : mg "list" = none) (bV : mg "len" = none) (jI : PySem.W.excIn K C4 E6 uE = true) (qR : mg "NoFact" = some (.ref C4)) : bN P w K mg base (wF P w) 1 f fd ["passing", "taken"] (lH K C4) := by
 refine F.K2 cK (fun vs H Q E h => ?_) (fun dn A outer s H vs Q E hr h => ?_)
 ·obtain ⟨t, l, xs, us, bp, ts, rfl, _⟩ := h
  rfl
 obtain ⟨t, l, xs, us, bp, ts, rfl, ht, pb, hl, pt, Ak, hb1, Nd, ji, q⟩ := h
 have zb := Paired.length pb
 have zt := Paired.length pt
 refine ⟨_, (aj (bq (aC eR (aE aN rfl bV PySem.boot_len (aa (pv 1) af)) ah (aR _))
 (ao (aB (aH a8 rfl cO PyProof.Rows.Boot.«list» (aa (pv 0) af))))
 aI)
 (aj (ar (i := 2) cK.nd rfl (Or.inl rfl) FX)
 (aj (bM ef rfl (aM (pv 1)) (bf (i := 3) cK.nd rfl (Or.inl rfl))
 (ao (FZ hr.units (pv 2) (pv 3) (ax fY (xl hr.units (pv 2) (pv 3) ah ⟨rfl, rfl, rfl, rfl⟩) ah) rfl)))
 (aj (ar (i := 4) cK.nd rfl (Or.inl rfl) (bc af))
 (aj (bM ef rfl (pR (pv 0)) (bf (i := 3) cK.nd rfl (Or.inl rfl))
 (ao (bq (aC mq (xl hr.units (pv 2) (pv 3) ah ⟨rfl, rfl, rfl, rfl⟩) ah (aR _))
 (ao (F0 hr.units (pv 2) (pv 3) ah HX (fun _ _ _ => rfl)))
 (ao (cv (jm PySem.F.plainAttrs_list PySem.F.slot_list_append PySem.F.type_list_append df (pv 4) (aa (pv 3) af)))))))
 (aj (bM ef rfl (aM (pv 1)) (bf (i := 3) cK.nd rfl (Or.inl rfl))
 (ao (bq (aC mq (FY hr.units (pv 2) (pv 3) (fun _ _ => rfl)) ah (aR _))
 (ao (mF jI qR rfl (aa (pz hr.gd hr.units (pv 3)) af)))
 aI)))
 (ao (aB (pv 4))))))))), ?_⟩
 refine ⟨_, rfl, l, _, rfl, .inl (aD.of hl), rfl, _, rfl, ?_⟩
 by_cases h0 : ts = []
 ·subst h0
  have Lh : us = [] := List.eq_nil_of_length_eq_zero (by rw [← zt]; rfl)
  subst Lh
  exact gS ⟨_, rfl, t, _, rfl, .inr ht, fun p hp => q rfl p xs bp _ (ag hp _) ae (ak pb fun _ _ _ => Fact.sm (ag hp _)) fun f => by simp⟩
 have RW : 0 < ts.length := by
  cases ts with
  | nil => exact absurd rfl h0
  | cons _ _ => simp
 rw [decide_eq_false (fun z : V.int (us.length : Int) = V.int 0 => by have := V.int.inj z; omega)]
 refine dm fun d hd => ?_
 have DV : ∀ (xs : List FE) (H' : Hp), ai H H' → H' d = some (.ext (BL P w d xs)) → (∀ e ∈ xs, jy H e.1 e.2.1) → oQ P w H' d xs := fun xs H' sm h1 h2 => ⟨h1, fun e he => (h2 e he).sm fun c ys hc => sm _ _ hc⟩
 refine ⟨_, rfl, l, rfl, ⟨_, aD.of (ag hd _ _ _ hl)⟩, bt (K := K) (a := l) (xs := us) (fun i σ H' => ai H H' ∧ ∃ (xs : List FE) (o : Option V), H' d = some (.ext (BL P w d xs)) ∧ (∀ e ∈ xs, jy H e.1 e.2.1) ∧ xs.length ≤ i ∧ (∀ g, (cnt xs (fk g)).getD 0 = ((ts.take i).count g : Int)) ∧ (∀ g ∈ ts.take i, (cnt xs (fk g)).isSome = true) ∧ σ = [some (.ref t), some (.ref l), some (.ref d), o, none])
  ⟨ag hd _, [], none, ae, (fun e he => nomatch he), Nat.zero_le _, (fun g => by simp [cnt]), (fun g hg => by simp at hg), rfl⟩ (fun i σ H' _ ⟨sm, _⟩ => aD.of (sm _ _ hl)) ?_ ?_⟩
 ·rintro i y σ H' hi ⟨sm, es, o, Cd, hkey, hlen, hc, hs, rfl⟩
  obtain ⟨RX, ey⟩ := ay hi
  have Gb : i < ts.length := by omega
  have hFa := paired_at pt i Gb RX
  rw [ey] at hFa
  obtain ⟨tt, t2, et, h1, h2⟩ := id hFa
  subst et
  have FD := DV es H' sm Cd hkey
  have G8 : m8 K H' (fk ts[i]) (.ref tt) := ((hFa.sm sm).key).key
  refine ⟨_, rfl, d, es, rfl, FD, _, rfl, es, fk ts[i], 0, rfl, FD, G8, _, _, rfl, rfl, _, rfl, _, rfl, d, es, fk ts[i], tt, _, rfl, rfl, rfl, FD, G8, (by rw [sizeLine_eq]; omega), ?_⟩
  refine ⟨ai.aT sm hd _, _, _, ae, tX hkey fun _ => hFa.key, by have := xj es (fk ts[i]) tt ((cnt es (fk ts[i])).getD 0 + 1); omega, fun g => ?_, fun g hg => ?_, rfl⟩
  ·rw [pG, List.take_succ_eq_append_getElem Gb, List.count_append]
   by_cases e : g = ts[i]
   ·subst e
    rw [if_pos rfl, Option.getD_some, hc]
    simp
   ·rw [if_neg (fun z => e (qF z)), hc]
    have e1 : ¬ ts[i] = g := fun z => e z.symm
    simp [e1]
  ·rw [pG]
   by_cases e : g = ts[i]
   ·rw [e, if_pos rfl]
    rfl
   ·rw [if_neg (fun z => e (qF z))]
    refine hs g ?_
    rw [List.take_succ_eq_append_getElem Gb] at hg
    rcases List.mem_append.mp hg with z | z
    ·exact z
    ·exact absurd (List.mem_singleton.mp z) e
 rintro σ H' ⟨sm, es, o, Cd, hkey, hlen, hc, hs, rfl⟩
 rw [← zt, List.take_length] at hc hs
 have hlen : es.length ≤ us.length := hlen
 refine ⟨(by show 0 ≤ sizeLine; decide), fun l0 AU => ?_⟩
 have DW : H l0 = none := sm.free AU
 have GZ : l0 ≠ d := fun e => by rw [e, Cd] at AU; cases AU
 have GN : ai H (upd H' l0 (.lst [])) := ai.trans sm (ag AU _)
 have Fz : upd H' l0 (.lst []) d = some (.ext (BL P w d es)) := ag AU _ _ _ Cd
 have zu := ae (H := H') (a := l0) (o := .lst [])
 generalize upd H' l0 (.lst []) = H1 at GN Fz zu ⊢
 refine ⟨_, rfl, t, rfl, ⟨_, ht.same GN⟩, ur (K := K) (a := t) (xs := xs) (fun i σ H' => ai H H' ∧ ∃ (es : List FE) (left : List Fc) (ys : List V) (o : Option V), H' d = some (.ext (BL P w d es)) ∧ (∀ e ∈ es, jy H e.1 e.2.1) ∧ es.length ≤ us.length ∧ (∀ g, (cnt es (fk g)).getD 0 = ((ts.count g - (bp.take i).count g : Nat) : Int)) ∧ (∀ g ∈ ts, (cnt es (fk g)).isSome = true) ∧
   H' l0 = some (.lst ys) ∧ Paired (Fact K H) left ys ∧ left.length ≤ i ∧ (∀ g, left.count g = (bp.take i).count g - ts.count g) ∧ σ = [some (.ref t), some (.ref l), some (.ref d), o, some (.ref l0)])
  ⟨GN, es, [], [], o, Fz, hkey, hlen, (fun g => by rw [hc g]; simp), hs, zu, .nil, Nat.le_refl _, (fun g => by simp), rfl⟩ (fun i σ H' _ ⟨sm, _⟩ => ht.same sm) ?_ ?_⟩
 ·clear Cd hkey hlen hc hs Fz zu GN sm
  rintro i y σ H' hi ⟨sm, es, left, ys, o, Cd, hkey, hlen, hc, hs, JK, pl, US, JL, rfl⟩
  obtain ⟨Xn, ey⟩ := ay hi
  have UT : i < bp.length := by omega
  have hFa := paired_at pb i UT Xn
  rw [ey] at hFa
  obtain ⟨tt, t2, et, h1, h2⟩ := id hFa
  subst et
  have FD := DV es H' sm Cd hkey
  have G8 : m8 K H' (fk bp[i]) (.ref tt) := (Fact.sm sm hFa).key
  have st := DI (T := ts.count bp[i]) (c := (bp.take i).count bp[i])
  refine ⟨_, rfl, d, es, rfl, FD, _, rfl, es, fk bp[i], 0, rfl, FD, G8, _, _, rfl, rfl, _, rfl, ?_⟩
  rw [hc bp[i]]
  have EN : ∀ g, (bp.take (i + 1)).count g = (bp.take i).count g + if bp[i] = g then 1 else 0 := fun g => by
   rw [List.take_succ_eq_append_getElem UT, List.count_append]
   by_cases e : bp[i] = g <;> simp [e]
  refine jf (fun hw => ?_) (fun hw => ?_)
  ·have hw : 0 < ts.count bp[i] - (bp.take i).count bp[i] := by simpa using hw
   obtain ⟨Xo, KU⟩ := st.1 hw
   have hmem : bp[i] ∈ ts := List.count_pos_iff.mp (by omega)
   obtain ⟨m, hm⟩ := Option.isSome_iff_exists.mp (hs _ hmem)
   have Xp : m = ((ts.count bp[i] - (bp.take i).count bp[i] : Nat) : Int) := by have z := hc bp[i]; rw [hm] at z; exact z
   refine ⟨_, rfl, _, rfl, d, es, fk bp[i], tt, m, rfl, rfl, FD, G8, hm, ?_⟩
   refine ⟨_, _, rfl, rfl, es, _, rfl, FD, G8, (by rw [sizeLine_eq]; omega), ?_⟩
   refine ⟨ai.aT sm hd _, _, left, ys, _, ae, tX hkey (fun z => by rw [hm] at z; cases z), ?_, fun g => ?_, fun g hg => ?_, (by rw [az GZ]; exact JK), pl, (by omega), fun g => ?_, rfl⟩
   ·unfold oR
    rw [hm, if_pos (show (some m).isSome = true from rfl), Lm9]
    exact hlen
   ·rw [pG, EN]
    by_cases e : g = bp[i]
    ·subst e
     rw [if_pos rfl, Option.getD_some, if_pos rfl]
     omega
    ·rw [if_neg (fun z => e (qF z)), hc, if_neg (fun z => e z.symm)]
     rfl
   ·rw [pG]
    by_cases e : g = bp[i]
    ·rw [e, if_pos rfl]; rfl
    ·rw [if_neg (fun z => e (qF z))]; exact hs g hg
   ·rw [JL g, EN]
    by_cases e : bp[i] = g
    ·subst e
     rw [if_pos rfl]
     omega
    ·rw [if_neg e]
     rfl
  ·have hw : ¬ 0 < ts.count bp[i] - (bp.take i).count bp[i] := by simpa using hw
   obtain ⟨Xo, KU⟩ := st.2 hw
   have zy := Paired.length pl
   refine ⟨_, rfl, .inl ⟨rfl, _, aD.of JK⟩, _, rfl, l0, _, _, rfl, rfl, JK, (by rw [sizeLine_eq]; omega), ?_⟩
   refine ⟨ai.aT sm DW _, es, left ++ [bp[i]], _, _, (by rw [az (Ne.symm GZ)]; exact Cd), hkey, hlen, fun g => ?_, hs, ae, bO pl (.cons hFa .nil), (by rw [List.length_append]; simp; omega), fun g => ?_, rfl⟩
   ·rw [hc g, EN]
    by_cases e : bp[i] = g
    ·subst e
     rw [if_pos rfl]
     omega
    ·rw [if_neg e]
     rfl
   ·rw [List.count_append, JL g, EN]
    by_cases e : bp[i] = g
    ·subst e
     rw [if_pos rfl]
     simp
     omega
    ·rw [if_neg e]
     simp [e]
 rintro σ H2 ⟨yC, PJ, left, ys, o2, RY, Nf, Ng, Cu, La, RZ, pl, US, JL, rfl⟩
 rw [← zb, List.take_length] at Cu JL
 refine ⟨_, rfl, l, rfl, ⟨_, aD.of (yC _ _ hl)⟩, bt (K := K) (a := l) (xs := us) (fun i σ H' => H' = H2 ∧ (ts.take i).any (fun g => decide (bp.count g < ts.count g)) = false ∧ ∃ o : Option V, σ = [some (.ref t), some (.ref l), some (.ref d), o, some (.ref l0)])
  ⟨rfl, by simp, o2, rfl⟩ (fun i σ H' _ e => by rw [e.1]; exact aD.of (yC _ _ hl)) ?_ ?_⟩
 ·rintro i y σ H' hi ⟨rfl, ha, o3, rfl⟩
  obtain ⟨RX, ey⟩ := ay hi
  have Gb : i < ts.length := by omega
  have hFa := paired_at pt i Gb RX
  rw [ey] at hFa
  have BR := Fact.BG (K := K) (hFa.sm yC).fact
  obtain ⟨tt, t2, et, h1, h2⟩ := id hFa
  subst et
  have FD := DV PJ H' yC RY Nf
  have G8 : m8 K H' (fk ts[i]) (.ref tt) := ((hFa.sm yC).key).key
  have hS := FS.shown (Ak _ (List.getElem_mem Gb))
  obtain ⟨m, hm⟩ := Option.isSome_iff_exists.mp (La _ (List.getElem_mem Gb))
  have Xp : m = ((ts.count ts[i] - bp.count ts[i] : Nat) : Int) := by have z := Cu ts[i]; rw [hm] at z; exact z
  refine ⟨_, rfl, _, rfl, d, PJ, fk ts[i], m, rfl, FD, G8, hm, _, _, rfl, rfl, _, rfl, jf (fun hw => ?_) (fun hw => ?_)⟩
  ·have hw : 0 < m := by simpa using hw
   refine ⟨_, rfl, [.str (S ts[i].k), .tup ((ts[i].as.map S).map .str)], BR, ?_, hS.1, hS.2, fun x => ⟨(by show 1 ≤ sizeLine; decide), ji ?_ _ yC⟩⟩
   ·show (fT ts[i]).toD.deep ≤ 18
    unfold fT
    rw [bF]
    decide
   ·exact List.any_eq_true.mpr ⟨_, List.getElem_mem Gb, decide_eq_true (by omega)⟩
  ·have hw : ¬ 0 < m := by simpa using hw
   refine ⟨rfl, ?_, _, rfl⟩
   rw [List.take_succ_eq_append_getElem Gb, List.any_append, ha]
   simp
   omega
 ·rintro σ H' ⟨rfl, ha, o3, rfl⟩
  rw [← zt, List.take_length] at ha
  exact ⟨_, rfl, q ha l0 ys left _ yC RZ (ak pl fun _ _ _ => Fact.sm yC) JL⟩
theorem AV : aF ["stand", "names", "name"] ["stand", "names"] (au zq) := ⟨rfl, rfl, rfl, by decide +kernel, rfl, by decide +kernel, by decide +kernel⟩
theorem Gd (F : cP K "know" "know" zq f fd) (lP : dq P w K mg base "is_great" 1 ["name"] uI) : bN P w K mg base ny 2 f fd ["stand", "names"] (yZ K) := by
 refine F.ok AV (fun vs H Q E h => ?_) (fun dn A outer s H vs Q E hr h => ?_)
 ·obtain ⟨d, t, acc, ns, rfl, _⟩ := h
  rfl
 obtain ⟨d, t, acc, ns, rfl, hd, ht, hok, hn, q⟩ := h
 refine ⟨_, (ao (bM PassesOwn.never rfl (pR (pv 1)) (bf (i := 2) AV.nd rfl (Or.inl rfl))
 (ao (bq (eG (aq lP (hr.mono (by decide)) rfl (aa (pv 2) af)))
 (ao (cv (Ft (pv 0) (pv 2) (pv 2) ⟨rfl, rfl, rfl, rfl⟩)))
 aI)))), ?_⟩
 refine ⟨_, rfl, t, rfl, ⟨_, ht⟩, ur (K := K) (a := t) (xs := ns.map tx) (fun i σ H' => H' = upd H d (.dK ((kn acc (ns.take i)).map ent)) ∧ ∃ o, σ = [some (.ref d), some (.ref t), o]) ⟨(DB hd).symm, none, rfl⟩ (fun i σ H' _ ⟨e, _⟩ => by rw [e]; exact u6 hd ht) ?_ ?_⟩
 ·rintro i y σ H' hi ⟨rfl, o, rfl⟩
  obtain ⟨pJ, ey⟩ := ay hi
  have Nh : i < ns.length := by simpa using pJ
  have ey : tx ns[i] = y := by rw [← ey]; simp
  subst ey
  have ji := hok _ (List.getElem_mem Nh)
  have e1 : kn acc (ns.take (i + 1)) = tN (kn acc (ns.take i)) ns[i] := by
   rw [List.take_succ_eq_append_getElem Nh]
   unfold kn
   rw [List.foldl_append]
   rfl
  have hlen := nP (ns.take i) acc
  rw [List.length_take] at hlen
  refine ⟨_, rfl, ns[i], rfl, ji.1, (by have := ji.2.1; omega), _, rfl, ?_⟩
  generalize kn acc (ns.take i) = ac at e1 hlen ⊢
  have ye := ae (H := H) (a := d) (o := .dK (ac.map ent))
  by_cases hg : great ns[i] = true
  ·rw [hg]
   refine gS ?_
   refine ⟨_, rfl, d, rfl, .inl ⟨_, .inl ye⟩, _, rfl, _, rfl, _, (Sum.inr (S ns[i]) : Key), ye, rfl, (by rw [Lm9, sizeLine_eq]; omega), fun v hv => ?_, fun hv => ?_⟩
   ·rw [pA] at hv
    have hm : ns[i] ∈ ac := by
     by_cases z : ns[i] ∈ ac
     ·exact z
     ·rw [if_neg z] at hv; cases hv
    refine ⟨?_, _, rfl⟩
    rw [e1]
    unfold tN
    rw [if_pos hg, if_pos hm]
   ·rw [pA] at hv
    have hm : ns[i] ∉ ac := fun z => by rw [if_pos z] at hv; cases hv
    refine ⟨?_, _, rfl⟩
    rw [e1, z7, FN hm]
    unfold tN
    rw [if_pos hg, if_neg hm]
  ·have hg' : great ns[i] = false := by simpa using hg
   rw [hg']
   refine dm ⟨?_, _, rfl⟩
   rw [e1]
   unfold tN
   rw [if_neg hg]
 ·rintro σ H' ⟨rfl, o, rfl⟩
  rw [Lm9, List.take_length]
  exact q
theorem zv : aF ["stand", "fact"] ["stand", "fact"] (au nZ) := ⟨rfl, rfl, rfl, by decide +kernel, rfl, by decide +kernel, by decide +kernel⟩
theorem zx (F : cP K "written" "written" nZ f fd) (bZ : mg "tuple" = none) : bN P w K mg base ny 1 f fd ["stand", "fact"] (lG K) := by
 refine F.ok zv (fun vs H Q E h => ?_) (fun dn A outer s H vs Q E hr h => ?_)
 ·obtain ⟨d, v, acc, g, rfl, _⟩ := h
  rfl
 obtain ⟨d, v, acc, g, rfl, hd, ⟨t, t2, rfl, h1, h2⟩, hF, q⟩ := h
 have hu := CF hr
 refine ⟨_, (ao (aB (aZ (aa (aw av (pv 1) ah (fun _ _ => rfl)) (aa (aH bE rfl bZ PyProof.Rows.Boot.«tuple» (aa (bR [0] rfl (by kernel_rfl) (pR (aw av (pv 1) ah (fun _ _ => rfl))) (fun _ _ _ _ _ => cz) (fun _ _ _ _ _ => (CN hu (pv 1) (pv 0) (pv 0) ⟨rfl, rfl, rfl, rfl⟩))) af)) af))))), ?_⟩
 refine ⟨_, rfl, t, _, 0, _, rfl, rfl, h1, rfl, ?_⟩
 refine ⟨_, rfl, t, _, 1, _, rfl, rfl, h1, rfl, ?_⟩
 have hlen := hF.n
 refine ⟨t2, rfl, ⟨_, h2⟩, fun D hD => ?_⟩
 refine tO (K := K) (xs := g.as.map tx) (uH (by rw [Lm9]; omega)) hD h2 id (fun x H' R hx sm hQ => ?_) (fun H1 s1 hL => ?_)
 ·obtain ⟨n, hn, rfl⟩ := List.mem_map.mp hx
  have ye := sm _ _ hd
  refine ⟨_, rfl, d, rfl, .inl ⟨_, .inl ye⟩, _, rfl, _, rfl, _, oI.k (k := (Sum.inr (S n) : Key)) ye, ?_⟩
  have e : (eI (acc.map ent) (Sum.inr (S n) : Key)).getD (tx n) = tx n := by
   rw [pA]
   split <;> rfl
  rw [e]
  exact hQ _ (fun _ _ z => z)
 ·rw [List.map_id] at hL
  refine ⟨D, _, rfl, .inl ⟨aD.of hL, fun p hp => ?_⟩⟩
  refine ⟨(by show 2 ≤ sizeLine; decide), fun p2 mI => ?_⟩
  refine q _ _ (ai.trans s1 (ai.trans (ag hp _) (ag mI _))) ⟨p2, p, rfl, ae, ?_⟩
  rw [az (aY ae mI)]
  exact ae
end
end jA
namespace jA
open PySem L2 eF Bk
set_option maxHeartbeats 4000000
section
variable {P : Program} {w : World} {K : PySem.W.Frag} {mg : Str → Option Value} {base : Heap} {f : Addr} {fd : FuncData} {Cs : Nat → Addr}
theorem cT : aF ["kinds", "pool", "taken", "put", "told", "lasts", "stand", "left", "fact", "pair", "lasting", "new", "passing"] ["kinds", "pool", "taken", "put", "told"] (au vj) := ⟨rfl, rfl, rfl, by decide +kernel, rfl, by decide +kernel, by decide +kernel⟩
theorem DX {u1 : Value} {b1 : Addr} (F : cP K "moved" "moved" vj f fd) (d8 : nO P w K mg base "check_facts" 1 ["kinds", "facts"] (qx K (Cs 1) (Cs 2))) (gj : nO P w K mg base "check_taken" 1 ["lasts", "taken"] (nS K (Cs 3))) (jJ : nO P w K mg base "taken_out" 1 ["passing", "taken"] (lH K (Cs 4))) (zA : dq P w K mg base "know" 2 ["stand", "names"] (yZ K)) (km : dq P w K mg base "written" 1 ["stand", "fact"] (lG K))
  (DY : mg "BROKEN" = some u1) (DZ : RelV (.ref b1) u1) (zr : mg "dict" = none) (cO : mg "list" = none) (bV : mg "len" = none) (bZ : mg "tuple" = none) (fE : mg "sorted" = none) (Ni : mg "set" = none) :
  bN P w K mg base (wF P w) 3 f fd ["kinds", "pool", "taken", "put", "told"] (m9 K Cs b1) := by
 refine F.K2 cT (fun vs H Q E h => ?_) (fun dn A outer s H vs Q E hr h => ?_)
 ·obtain ⟨lk, lf, lt, lo, rE, ks, fs, ts, br, bp, bl, uc, rfl, _⟩ := h
  rfl
 obtain ⟨lk, lf, lt, lo, rE, ks, fs, ts, br, bp, bl, uc, rfl, Li, PL, hlo, qS, ⟨oK, Xq, hsz2⟩, R0, AW, Lj, q⟩ := h
 have hu := CF hr
 refine ⟨_, (aj (cv (gz d8 (hr.mono (by decide)) rfl (aa (pv 0) (aa (pv 2) af))))
 (aj (cv (gz d8 (hr.mono (by decide)) rfl (aa (pv 0) (aa (pv 3) af))))
 (aj (ar (i := 5) cT.nd rfl (Or.inr rfl) (bR [] rfl (by kernel_rfl) (aM (pv 0)) (fun _ _ _ _ _ => (kh (eG (aw (r := yr K) av (pv 0) ah (fun _ _ => rfl))))) (fun _ _ _ _ _ => (aw (r := yr K) av (pv 0) ah (fun _ _ => rfl)))))
 (aj (cv (gz gj (hr.mono (by decide)) rfl (aa (pv 5) (aa (pv 2) af))))
 (aj (bq (eG (aw av (pv 1) ah (fun _ _ => rfl)))
 (ao (aB (gO rfl DY DZ)))
 aI)
 (aj (ar (i := 6) cT.nd rfl (Or.inr rfl) (aH (rQ rfl) rfl zr PyProof.Rows.Boot.«dict» (aa (aw av (pv 1) ah (fun _ _ => rfl)) af)))
 (aj (ar (i := 7) cT.nd rfl (Or.inl rfl) (gz jJ (hr.mono (by decide)) rfl (aa (aw av (pv 1) ah (fun _ _ => rfl)) (aa (bR [6] rfl (by kernel_rfl) (aM (pv 2)) (fun _ _ _ _ _ => cz) (fun _ _ _ _ _ => (aq km (hr.mono (by decide)) rfl (aa (pv 1) (aa (pv 0) af))))) af))))
 (aj (bM ef rfl (aM (pv 3)) (bf (i := 8) cT.nd rfl (Or.inl rfl))
 (ao (cv (aq zA (hr.mono (by decide)) rfl (aa (pv 6) (aa (aw av (pv 8) ah (fun _ _ => rfl)) af))))))
 (aj (bM ef rfl (aM (pv 4)) (bf (i := 9) cT.nd rfl (Or.inl rfl))
 j9)
 (aj (ar (i := 10) cT.nd rfl (Or.inl rfl) (aH a8 rfl cO PyProof.Rows.Boot.«list» (aa (aw av (pv 1) ah (fun _ _ => rfl)) af)))
 (aj (bq (aC mq (aE aN rfl bV PySem.boot_len (aa (pv 4) af)) ah (aR _))
 j9
 aI)
 (aj (pd (i := 11) [6] cT.nd rfl (Or.inl rfl) rfl (by kernel_rfl) (aM (pv 3)) (fun _ _ _ _ _ => cz) (fun _ _ _ _ _ => (aq km (hr.mono (by decide)) rfl (aa (pv 1) (aa (pv 0) af)))))
 (aj (ar (i := 12) cT.nd rfl (Or.inl rfl) (ax jn (pv 7) (bR [5] rfl (by kernel_rfl) (aM (pv 11)) (fun _ _ _ _ _ => (kh (aC (r := Pm K true) my (aw (r := yr K) av (pv 0) ah (fun _ _ => rfl)) (pv 1) (by with_unfolding_all rfl)))) (fun _ _ _ _ _ => (pv 0)))))
 (aj (ar (i := 10) cT.nd rfl (Or.inl rfl) (ax jn (pv 10) (bR [5] rfl (by kernel_rfl) (aM (pv 11)) (fun _ _ _ _ _ => (kh (aC (r := Pm K false) sT (aw (r := yr K) av (pv 0) ah (fun _ _ => rfl)) (pv 1) (by with_unfolding_all rfl)))) (fun _ _ _ _ _ => (pv 0)))))
 (ao (aB (aZ (aa (aH bE rfl bZ PyProof.Rows.Boot.«tuple» (aa (aE (eV hr.units) rfl fE PyProof.Rows.boot_sorted (aa (pv 12) af)) af)) (aa (aH bE rfl bZ PyProof.Rows.Boot.«tuple» (aa (aE (u4 (ld := !w.params.followText "set-order") hr.units rfl rfl) rfl fE PyProof.Rows.boot_sorted (aa (aH (BF (ld := !w.params.followText "set-order") hr.RI rfl rfl) rfl Ni PyProof.Rows.Boot.«set» (aa (pv 10) af)) af)) af)) (aa (aH qD rfl bZ PyProof.Rows.Boot.«tuple» (aa (aE (uU hr.units rfl) rfl fE PyProof.Rows.boot_sorted (aa (Cz PySem.F.plainAttrs_dict PySem.F.slot_dict_items PySem.F.type_dict_items Dc (pv 6)) af)) af)) (aa bA af))))))))))))))))))))), ?_⟩
 refine ⟨_, rfl, _, rfl, lk, lt, ks, ts, rfl, PL, M8 Lj fun h0 => by unfold aA; rw [if_pos h0], fun UU H1 s1 => ?_⟩
 have e5 : aA ks br bp ts fs = if aL ks fs ≠ 0 then aL ks fs else if ts.any (t7 ks) = true then 3 else if br = false ∧ short bp ts = true then 4 else 0 := by unfold aA; rw [if_neg (by omega)]
 refine ⟨_, rfl, _, rfl, lk, lf, ks, fs, rfl, Li.keep s1, (M8 Lj fun h0 => by rw [e5, if_pos h0]).mono s1, fun G5 H2 s2 => ?_⟩
 rw [if_neg (by omega)] at e5
 have sA := ai.trans s1 s2
 have R1 := Li.keep sA
 obtain ⟨⟨kvs, hk, pk⟩, nd, Zo, ⟨fU, hf, pf⟩, Ak⟩ := R1
 obtain ⟨⟨_, _, _⟩, _, _, ⟨pK, Xr, UW⟩, R3⟩ := PL.keep sA
 have zk := Paired.length pk
 have zf := Paired.length pf
 have zt := Paired.length UW
 refine ⟨_, rfl, lk, rfl, ⟨_, aD.of hk⟩, fun D hD => ?_⟩
 refine fb (K := K) (xs := kvs) ks (·.l) (·.n) (fun _ _ b y => y = tx b) (fun _ _ _ _ _ _ h => h) (fun _ _ _ _ _ _ h => h) (uH (by omega)) hD (aD.of hk) zk (fun i x b H' R hx hb sm hQ => ?_) (fun i x b H' R hx hb hk sm hQ => ?_) (fun H3 ys s3 hL po => ?_)
 ·obtain ⟨hi, ex⟩ := ay hx
  obtain ⟨eU, eb⟩ := ay hb
  obtain ⟨t, et, ht⟩ := paired_at pk i eU hi
  rw [ex] at et
  rw [eb] at ht
  subst et
  exact ⟨_, rfl, t, _, 2, _, rfl, rfl, ht.same sm, rfl, _, rfl, hQ _ (ai.refl _)⟩
 ·obtain ⟨hi, ex⟩ := ay hx
  obtain ⟨eU, eb⟩ := ay hb
  obtain ⟨t, et, ht⟩ := paired_at pk i eU hi
  rw [ex] at et
  rw [eb] at ht
  subst et
  exact ⟨_, rfl, t, _, 0, _, rfl, rfl, ht.same sm, rfl, hQ _ _ (ai.refl _) rfl⟩
 rw [tq po] at hL
 have hL : H3 D = some (.lst ((dU ks).map tx)) := hL
 have sB := ai.trans sA s3
 have Nj := s3 _ _ Xr
 have Nk : Paired (Fact K H3) ts pK := ak UW fun _ _ _ => Fact.sm s3
 refine ⟨_, rfl, _, rfl, D, lt, dU ks, ts, rfl, hL, ⟨pK, Nj, Nk⟩, R3, fun h3 => ?_, fun h3 => ?_⟩
 ·have e3 : aA ks br bp ts fs = 3 := by rw [e5, if_pos (show ts.any (t7 ks) = true from h3)]
  rw [e3] at Lj
  exact fun H' s' => Lj (by decide) H' (ai.trans sB s')
 rw [if_neg (by rw [show ts.any (t7 ks) = false from h3]; decide)] at e5
 rcases qS with ⟨D0, p, z0, z1, z2, rfl, hp⟩ | ⟨D0, p, t0, t1, t2, y0, y1, rfl, G9, Nl, Xs, Nm, UX, R4, Np⟩
 ·subst D0
  rw [if_neg (by simp)] at e5
  refine ⟨_, rfl, p, _, 3, _, rfl, rfl, hp.same sB, rfl, _, rfl, gS ?_⟩
  exact (q e5).1 rfl _ sB
 subst D0
 have Zp := Paired.length UX
 refine ⟨_, rfl, p, _, 3, _, rfl, rfl, G9.same sB, rfl, _, rfl, dm ?_⟩
 refine ⟨_, rfl, p, _, 2, _, rfl, rfl, G9.same sB, rfl, t2, uc, rfl, R4, BM.sm sB Np, R0, fun d hd => ?_⟩
 have s4 : ai H3 (upd H3 d (.dK (uc.map ent))) := ag hd _
 have ye := ae (H := H3) (a := d) (o := .dK (uc.map ent))
 generalize upd H3 d (.dK (uc.map ent)) = H4 at s4 ye ⊢
 have UY := ai.trans sB s4
 refine ⟨_, rfl, p, _, 0, _, rfl, rfl, G9.same UY, rfl, ?_⟩
 have Nq := s4 _ _ Nj
 have R5 : Paired (Fact K H4) ts pK := ak Nk fun _ _ _ => Fact.sm s4
 refine ⟨_, rfl, lt, rfl, ⟨_, aD.of Nq⟩, fun D2 ki => ?_⟩
 refine gv (K := K) (xs := pK) ts (fun _ H f y => fV H f y) (fun _ _ _ _ _ k h => fV.keep k h) (fun _ _ _ _ _ _ h => h) (uH (by omega)) ki (aD.of Nq) zt (fun i x b H' R hx hb sm hQ => ?_) (fun H5 Xt s5 Nr Xu => ?_)
 ·obtain ⟨hi, ex⟩ := ay hx
  obtain ⟨eU, eb⟩ := ay hb
  have hFa := Fact.sm sm (paired_at R5 i eU hi)
  rw [ex, eb] at hFa
  exact ⟨_, rfl, _, rfl, d, x, uc, b, rfl, sm _ _ ye, hFa, (by rw [← eb]; exact R3 _ (List.getElem_mem eU)), fun v' xZ s'' hF => hQ _ _ s'' hF⟩
 have sC := ai.trans UY s5
 refine ⟨t0, D2, y0, Xt, bp, ts, rfl, Nl.same sC, ak Xs fun _ _ _ => Fact.sm sC, Nr, Xu, R3, (by omega), (by omega), fun h4 => ?_, fun h4 l0 ls left H6 s6 Nt UZ BS => ?_⟩
 ·have e4 : aA ks false bp ts fs = 4 := by rw [e5, if_pos ⟨rfl, h4⟩]
  rw [e4] at Lj
  exact fun H' s' => Lj (by decide) H' (ai.trans sC s')
 rw [if_neg (by rw [h4]; simp)] at e5
 have Xv := (q e5).2 rfl left
 have Ge := s6 _ _ (s5 _ _ ye)
 have sD := ai.trans sC s6
 have Ll := s6 _ _ (s5 _ _ (s4 _ _ hL))
 have Nu : H6 lf = some (.lst fU) := s6 _ _ (s5 _ _ (s4 _ _ (s3 _ _ hf)))
 have U0 : Paired (Fact K H6) fs fU := ak pf fun _ _ _ => Fact.sm (ai.trans s3 (ai.trans s4 (ai.trans s5 s6)))
 have Nv := sD _ _ hlo
 have Zq := Paired.length UZ
 have US : left.length ≤ bp.length := t8 BS
 refine ⟨_, rfl, lf, rfl, ⟨_, aD.of Nu⟩, bt (K := K) (a := lf) (xs := fU) (fun i σ H' => H' = upd H6 d (.dK ((kn uc ((fs.take i).flatMap (·.as))).map ent)) ∧ ∃ o, σ = [some (.ref lk), some (.ref p), some (.ref lt), some (.ref lf), some (.ref lo), some (.ref D), some (.ref d), some (.ref l0), o, none, none, none, none]) ⟨(DB Ge).symm, none, rfl⟩ (fun i σ H' _ ⟨e, _⟩ => by rw [e]; refine aD.of ?_; rw [az (xf Ge Nu)]; exact Nu) ?_ ?_⟩
 ·rintro i y σ H' hi ⟨rfl, o, rfl⟩
  obtain ⟨pJ, ey⟩ := ay hi
  have jG : i < fs.length := by omega
  have hFa := qy (o := .dK ((kn uc ((fs.take i).flatMap (·.as))).map ent)) Ge (paired_at U0 i jG pJ)
  rw [ey] at hFa
  obtain ⟨t, t2, et, h1, h2⟩ := hFa
  subst et
  have hF := Ak _ (List.getElem_mem jG)
  have Bn := nP ((fs.take i).flatMap (·.as)) uc
  have E4 := mZ (fs := fs.take i) fun g hg => Ak g (List.mem_of_mem_take hg)
  rw [List.length_take] at E4
  have U1 := hF.n
  refine ⟨_, rfl, _, rfl, t, _, 1, _, rfl, rfl, h1, rfl, d, t2, kn uc ((fs.take i).flatMap (·.as)), fs[i].as, rfl, ae, h2, hF.as, (by omega), ?_⟩
  refine ⟨?_, _, rfl⟩
  rw [z7, tP jG, DC]
 ·rintro σ H' ⟨rfl, o, rfl⟩
  rw [← zf, List.take_length]
  have Bn := nP (fs.flatMap (·.as)) uc
  have E4 := mZ (fs := fs) Ak
  generalize hkn : kn uc (fs.flatMap (·.as)) = nm at Bn AW ⊢
  have U2 := ae (H := H6) (a := d) (o := .dK (nm.map ent))
  have U3 : Paired (Fact K (upd H6 d (.dK (nm.map ent)))) fs fU := ak U0 fun _ _ _ => qy Ge
  have U4 : upd H6 d (.dK (nm.map ent)) lf = some (.lst fU) := by rw [az (xf Ge Nu)]; exact Nu
  have Gf : upd H6 d (.dK (nm.map ent)) lo = some (.lst []) := by rw [az (xf Ge Nv)]; exact Nv
  have Nx : upd H6 d (.dK (nm.map ent)) l0 = some (.lst ls) := by rw [az (xf Ge Nt)]; exact Nt
  have U5 : Paired (Fact K (upd H6 d (.dK (nm.map ent)))) left ls := ak UZ fun _ _ _ => qy Ge
  have PM : upd H6 d (.dK (nm.map ent)) D = some (.lst ((dU ks).map tx)) := by rw [az (xf Ge Ll)]; exact Ll
  have Xw : H d = none := sB.free hd
  have sF : ai H (upd H6 d (.dK (nm.map ent))) := ai.aT sD Xw _
  generalize upd H6 d (.dK (nm.map ent)) = H7 at U2 U3 U5 U4 Gf Nx PM sF ⊢
  refine ⟨_, rfl, lo, rfl, ⟨_, aD.of Gf⟩, bt (K := K) (a := lo) (xs := []) (fun i σ H' => H' = H7 ∧ ∃ o, σ = [some (.ref lk), some (.ref p), some (.ref lt), some (.ref lf), some (.ref lo), some (.ref D), some (.ref d), some (.ref l0), o, none, none, none, none]) ⟨rfl, o, rfl⟩ (fun i σ H' _ ⟨e, _⟩ => by rw [e]; exact aD.of Gf) (fun i y σ H' hi => by simp at hi) ?_⟩
  rintro σ Zr ⟨e, o, rfl⟩
  have e := e.symm
  subst e
  refine ⟨_, rfl, p, _, 1, _, rfl, rfl, G9.same sF, rfl, t1, _, rfl, .inr (Nm.same sF), fun l1 tf => ?_⟩
  have s8 : ai H7 (upd H7 l1 (.lst y1)) := ag tf _
  have Ny := ae (H := H7) (a := l1) (o := .lst y1)
  generalize upd H7 l1 (.lst y1) = H8 at s8 Ny ⊢
  refine ⟨_, rfl, lo, _, rfl, .inl (aD.of (s8 _ _ Gf)), _, _, rfl, rfl, _, rfl, dm ?_⟩
  have U6 := s8 _ _ U4
  have U7 := s8 _ _ U2
  have R6 := s8 _ _ Nx
  have hL8 := s8 _ _ PM
  have PN : Paired (Fact K H8) fs fU := ak U3 fun _ _ _ => Fact.sm s8
  refine ⟨_, rfl, lf, rfl, ⟨_, aD.of U6⟩, fun D3 Lm => ?_⟩
  refine gv (K := K) (xs := fU) fs (fun _ H f y => Fact K H f y) (fun _ _ _ _ _ k h => Fact.keep k h) (fun _ _ _ _ _ _ h => h) (uH (by omega)) Lm (aD.of U6) zf (fun i x b H' R hx hb sm hQ => ?_) (fun H9 R7 s9 hL9 PQ => ?_)
  ·obtain ⟨hi, ex⟩ := ay hx
   obtain ⟨eU, eb⟩ := ay hb
   have hFa := Fact.sm sm (paired_at PN i eU hi)
   rw [ex, eb] at hFa
   exact ⟨_, rfl, _, rfl, d, x, nm, b, rfl, sm _ _ U7, hFa, (by rw [← eb]; exact Ak _ (List.getElem_mem eU)), fun v' xZ s'' hF => hQ _ _ s'' hF.fact⟩
  have U8 := s9 _ _ hL8
  have z9 := Paired.length PQ
  refine ⟨_, rfl, _, rfl, D3, rfl, ⟨_, aD.of hL9⟩, fun D4 Xx => ?_⟩
  refine fb (K := K) (xs := R7) fs (fun f => !decide (f.k ∈ dU ks)) id (fun _ H f y => Fact K H f y) (fun _ _ _ _ _ k h => Fact.keep k h) (fun _ _ _ _ _ _ h => h) (uH (by omega)) Xx (aD.of hL9) z9 (fun i x b H' R hx hb sm hQ => ?_) (fun i x b H' R hx hb hk sm hQ => ?_) (fun Gg zB Ha R8 D1 => ?_)
  ·obtain ⟨hi, ex⟩ := ay hx
   obtain ⟨eU, eb⟩ := ay hb
   obtain ⟨t, t2, et, h1, h2⟩ := Fact.sm sm (paired_at PQ i eU hi)
   rw [ex] at et
   rw [eb] at h1 h2
   subst et
   refine ⟨_, rfl, t, _, 0, _, rfl, rfl, h1, rfl, _, rfl, D, _, rfl, .inl (aD.of (sm _ _ U8)), rfl, mM _, _, rfl, ?_⟩
   rw [if_pos rfl, ph]
   exact hQ _ (ai.refl _)
  ·obtain ⟨hi, ex⟩ := ay hx
   obtain ⟨eU, eb⟩ := ay hb
   have hFa := Fact.sm sm (paired_at PQ i eU hi)
   rw [ex, eb] at hFa
   exact ⟨_, rfl, hQ _ _ (ai.refl _) hFa⟩
  rw [List.map_id] at D1
  have D1 : Paired (Fact K Gg) (kz ks fs) zB := D1
  have Zs := Paired.length D1
  have zb : (kz ks fs).length ≤ fs.length := List.length_filter_le _ _
  refine ⟨l0, D4, _, _, rfl, rfl, Ha _ _ (s9 _ _ R6), R8, ?_, fun Nz Gh => ?_⟩
  ·rw [sizeLine_eq]
   omega
  have JM : ai Gg (upd Gg Nz (.lst (ls ++ zB))) := ag Gh _
  have Hb := ae (H := Gg) (a := Nz) (o := .lst (ls ++ zB))
  generalize upd Gg Nz (.lst (ls ++ zB)) = R9 at JM Hb ⊢
  have sG : ai H9 R9 := ai.trans Ha JM
  have NA : Paired (Fact K R9) fs R7 := ak PQ fun _ _ _ => Fact.sm sG
  have NB := sG _ _ hL9
  refine ⟨_, rfl, _, rfl, D3, rfl, ⟨_, aD.of NB⟩, fun D5 Xy => ?_⟩
  refine fb (K := K) (xs := R7) fs (fun f => decide (f.k ∈ dU ks)) id (fun _ H f y => Fact K H f y) (fun _ _ _ _ _ k h => Fact.keep k h) (fun _ _ _ _ _ _ h => h) (uH (by omega)) Xy (aD.of NB) z9 (fun i x b H' R hx hb sm hQ => ?_) (fun i x b H' R hx hb hk sm hQ => ?_) (fun JN BU JO Sa D6 => ?_)
  ·obtain ⟨hi, ex⟩ := ay hx
   obtain ⟨eU, eb⟩ := ay hb
   obtain ⟨t, t2, et, h1, h2⟩ := Fact.sm sm (paired_at NA i eU hi)
   rw [ex] at et
   rw [eb] at h1 h2
   subst et
   refine ⟨_, rfl, t, _, 0, _, rfl, rfl, h1, rfl, _, rfl, D, _, rfl, .inl (aD.of (sm _ _ (sG _ _ U8))), rfl, mM _, _, rfl, ?_⟩
   rw [if_neg (by decide), ph]
   exact hQ _ (ai.refl _)
  ·obtain ⟨hi, ex⟩ := ay hx
   obtain ⟨eU, eb⟩ := ay hb
   have hFa := Fact.sm sm (paired_at NA i eU hi)
   rw [ex, eb] at hFa
   exact ⟨_, rfl, hQ _ _ (ai.refl _) hFa⟩
  rw [List.map_id] at D6
  have D6 : Paired (Fact K JN) (jt ks fs) BU := D6
  have Zt := Paired.length D6
  have zl : (jt ks fs).length ≤ fs.length := List.length_filter_le _ _
  refine ⟨l1, D5, _, _, rfl, rfl, JO _ _ (sG _ _ (s9 _ _ Ny)), Sa, (by rw [sizeLine_eq]; omega), fun PR Sb => ?_⟩
  have Ln : ai JN (upd JN PR (.lst (y1 ++ BU))) := ag Sb _
  have Hc := ae (H := JN) (a := PR) (o := .lst (y1 ++ BU))
  generalize upd JN PR (.lst (y1 ++ BU)) = AX at Ln Hc ⊢
  have sH : ai Gg AX := ai.trans JM (ai.trans JO Ln)
  have sI : ai H8 AX := ai.trans s9 (ai.trans Ha sH)
  have sJ : ai H AX := ai.trans sF (ai.trans s8 sI)
  have Sd := sI _ _ U7
  have Xz : Ts K AX ((left ++ kz ks fs).map fT) (ls ++ zB) := gA (bO (ak U5 fun _ _ _ => Fact.sm (ai.trans s8 sI)) (ak D1 fun _ _ _ => Fact.sm sH))
  have XA : Ts K AX ((bl ++ jt ks fs).map fT) (y1 ++ BU) := gA (bO (ak UX fun _ _ _ => Fact.sm sJ) (ak D6 fun _ _ _ => Fact.sm Ln))
  have Se : AX Nz = some (.lst (ls ++ zB)) := Ln _ _ (JO _ _ Hb)
  have allB : ∀ (gs : List Fc), ∀ t ∈ gs.map fT, rD t = 1 ∧ t.toD.deep ≤ 18 := fun gs t ht => by
   obtain ⟨g, _, rfl⟩ := List.mem_map.mp ht
   exact xc g
  have Sf : ∀ (gs : List Fc), ∀ t ∈ gs.map fT, ∀ u ∈ gs.map fT, oz t u = true := fun gs t ht u hu => by
   obtain ⟨g, _, rfl⟩ := List.mem_map.mp ht
   obtain ⟨g2, _, rfl⟩ := List.mem_map.mp hu
   exact AO g g2
  refine ⟨_, rfl, Nz, ls ++ zB, _, 1, rfl, aD.of Se, Xz, (by rw [List.length_append]; omega), .inl rfl, allB _, Sf _, fun a0 r0 Sg Sh => ?_⟩
  have Si : ai AX (upd AX a0 (.lst r0)) := ag Sg _
  refine ⟨a0, r0, rfl, .inl ⟨aD.of ae, fun u0 Lh => ?_⟩⟩
  have Hd : ai AX (upd (upd AX a0 (.lst r0)) u0 (.tup r0)) := ai.trans Si (ag Lh _)
  have NC := ae (H := upd AX a0 (.lst r0)) (a := u0) (o := .tup r0)
  generalize upd (upd AX a0 (.lst r0)) u0 (.tup r0) = Ce at Hd NC ⊢
  have Sj := Hd _ _ Hc
  refine ⟨_, rfl, PR, y1 ++ BU, (bl ++ jt ks fs).map fT, rfl, aD.of Sj, bj Hd XA, (by rw [List.length_append]; omega), (fun t ht => ?_), fun ps zs tr RE XC Sk => ?_⟩
  ·obtain ⟨g, _, rfl⟩ := List.mem_map.mp ht
   exact ⟨⟨_, rfl⟩, (by unfold fT; rw [bF]; decide), MV g⟩
  have U9 : ai Ce (upd Ce ps (BE (!w.params.followText "set-order") ps zs)) := ag RE _
  have Sl : ∀ t ∈ tr, ∃ g : Fc, t = fT g := fun t ht => by
   have z := DD (Sk.mem_iff.mp ht)
   obtain ⟨g, _, e⟩ := List.mem_map.mp z
   exact ⟨g, e.symm⟩
  have He : tr.length < 64 := by
   have z1 := Sk.length_eq
   have z2 := lD ((bl ++ jt ks fs).map fT) _ (Nat.le_refl _)
   rw [List.take_length, Lm9, List.length_append] at z2
   omega
  refine ⟨ps, zs, tr, 1, rfl, ae, bj U9 XC, He, .inl rfl, (fun t ht => by obtain ⟨g, rfl⟩ := Sl t ht; exact xc g), (fun t ht u hu => by obtain ⟨g, rfl⟩ := Sl t ht; obtain ⟨g2, rfl⟩ := Sl u hu; exact AO g g2), fun a1 r1 Lf Lb => ?_⟩
  have Sm := ai.trans U9 (ag Lf (.lst r1))
  refine ⟨a1, r1, rfl, .inl ⟨aD.of ae, fun u1 Lo => ?_⟩⟩
  have ND := ai.trans Sm (ag Lo (.tup r1))
  have BV := bj (ai.trans (ag Lf (.lst r1)) (ag Lo (.tup r1))) Lb
  have NF := ae (H := upd (upd Ce ps (BE (!w.params.followText "set-order") ps zs)) a1 (.lst r1)) (a := u1) (o := .tup r1)
  generalize upd (upd (upd Ce ps (BE (!w.params.followText "set-order") ps zs)) a1 (.lst r1)) u1 (.tup r1) = Gi at ND NF BV ⊢
  rw [fo Sk] at BV
  have JP := ND _ _ (Hd _ _ Sd)
  refine ⟨_, rfl, ?_, d, _, rfl, rfl, JP, fun it hit => ?_⟩
  ·exact .inr (.inr (.inl ⟨rfl, .inl ⟨_, JP⟩⟩))
  have BW : ai Gi (upd Gi it (uT it d)) := ag hit _
  refine ⟨it, d, nm.map ent, nm.map (fun n => (S n, Tr.str (S n))), rfl, ae, BW _ _ JP, (by rw [Lm9]; exact AW), (by rw [Lm9, Lm9]), (fun i h1 h2 => ?_), (fun p hp q' hq' => ?_), fun a2 r2 Gj yg Lg G0 => ?_⟩
  ·simp only [List.getElem_map]
   exact ⟨rfl, .str _, show 0 ≤ 17 by decide⟩
  ·obtain ⟨n, _, rfl⟩ := List.mem_map.mp hp
   obtain ⟨n2, _, rfl⟩ := List.mem_map.mp hq'
   rfl
  refine ⟨a2, r2, rfl, aD.of ae, fun u2 bw n2 yo Lp => ?_⟩
  have Cf := ai.trans (ai.trans BW yg) (ai.trans (ag Lg (.lst r2)) (ag Lp (.ku ⟨.type "tuple", none, .seq bw n2, yo⟩ (.tup r2))))
  have hr2' := bj (ai.trans (ag Lg (.lst r2)) (ag Lp (.ku ⟨.type "tuple", none, .seq bw n2, yo⟩ (.tup r2)))) G0
  have NH := ae (H := upd Gj a2 (.lst r2)) (a := u2) (o := .ku ⟨.type "tuple", none, .seq bw n2, yo⟩ (.tup r2))
  generalize upd (upd Gj a2 (.lst r2)) u2 (.ku ⟨.type "tuple", none, .seq bw n2, yo⟩ (.tup r2)) = Hf at Cf NH hr2' ⊢
  refine ⟨(by show 4 ≤ sizeLine; decide), fun pp XD => ?_⟩
  have BX : ai Hf (upd Hf pp (.tup [.ref u0, .ref u1, .ref u2, .bl false])) := ag XD _
  refine Xv _ _ BS (ai.trans sJ (ai.trans Hd (ai.trans ND (ai.trans Cf BX)))) ⟨pp, u0, u1, u2, r0, r1, r2, rfl, aO.of ae, aO.of (BX _ _ (Cf _ _ (ND _ _ NC))), ?_, aO.of (BX _ _ (Cf _ _ NF)), ?_, ⟨_, _, _, BX _ _ NH⟩, ?_⟩
  ·exact bj (ai.trans Hd (ai.trans ND (ai.trans Cf BX))) Sh
  ·exact bj (ai.trans Cf BX) BV
  ·rw [hkn]
   have e : (nm.map (fun n => (S n, Tr.str (S n)))).map wY = nm.map pT := by rw [List.map_map]; rfl
   rw [← e]
   exact bj BX hr2'
end
end jA
namespace jA
open PySem L2 eF Bk
set_option maxHeartbeats 4000000
section
variable {P : Program} {w : World} {K : PySem.W.Frag} {mg : Str → Option Value} {base : Heap} {f : Addr} {fd : FuncData} {Cs : Nat → Addr}
theorem rS : aF ["kinds", "facts"] ["kinds", "facts"] (au ig) := ⟨rfl, rfl, rfl, by decide +kernel, rfl, by decide +kernel, by decide +kernel⟩
theorem rT {u1 : Value} {pe e0 e1 e2 b1 : Addr} (F : cP K "start_pool" "start_pool" ig f fd) (kq : nO P w K mg base "moved" 3 ["kinds", "pool", "taken", "put", "told"] (m9 K Cs b1)) (Gk : mg "EMPTY" = some u1) (Gm : RelV (.ref pe) u1)
  (G9 : ∀ H, aO K H pe [.ref e0, .ref e1, .ref e2, .bl false]) (Nl : ∀ H, aO K H e0 []) (Nm : ∀ H, aO K H e1 []) (Np : Nil0 K e2) : bN P w K mg base (wF P w) 4 f fd ["kinds", "facts"] (qH K) := by
 refine F.K2 rS (fun vs H Q E h => ?_) (fun dn A outer s H vs Q E hr h => ?_)
 ·obtain ⟨lk, lf, ks, fs, rfl, _⟩ := h
  rfl
 obtain ⟨lk, lf, ks, fs, rfl, Li, Cc, AW, G5, q⟩ := h
 refine ⟨_, (ao (aB (gz kq (hr.mono (by decide)) rfl (aa (pv 0) (aa (gO rfl Gk Gm) (aa (bc af) (aa (pv 1) (aa (bc af) af)))))))), ?_⟩
 refine ⟨_, rfl, (by show 0 ≤ sizeLine; decide), fun l1 tf => ?_⟩
 refine ⟨_, rfl, (by show 0 ≤ sizeLine; decide), fun l2 mB => ?_⟩
 have s1 := ag tf (.lst [])
 have s2 := ag mB (.lst [])
 have sA := ai.trans s1 s2
 have PU := Li.keep sA
 have h5 : aA ks false [] [] fs = 0 := by
  unfold aA
  rw [if_neg (by simp [aL]), if_neg (by omega), if_neg (by simp), if_neg (by simp [short])]
 refine ⟨lk, lf, l1, l2, _, ks, fs, [], false, [], [], [], rfl, PU, ⟨PU.hk, PU.nd, PU.few, ⟨[], s2 _ _ ae, .nil⟩, fun f hf => nomatch hf⟩, ae, .inr ⟨rfl, pe, e0, e1, e2, [], [], rfl, G9 _, Nl _, .nil, Nm _, .nil, List.nodup_nil, .inr ⟨Np, rfl⟩⟩, ⟨by simpa using Cc, by decide, by simpa using Cc⟩, by decide, AW, (fun z => absurd h5 z), fun _ => ⟨(fun z => by cases z), fun _ left v H' hc sm hm => ?_⟩⟩
 have hl : left = [] := List.eq_nil_of_length_eq_zero (Nat.le_zero.mp (t8 (bp := []) (ts := []) hc))
 subst hl
 exact q v H' (ai.trans sA sm) hm
end
end jA
namespace jA
open PySem L2 eF Bk
set_option maxHeartbeats 4000000
section
variable {P : Program} {w : World} {K : PySem.W.Frag} {mg : Str → Option Value} {base : Heap} {f : Addr} {fd : FuncData}
theorem oS : aF ["_law_script", "_law_k"] ["_law_script", "_law_k"] (au fA) := ⟨rfl, rfl, rfl, by decide +kernel, rfl, by decide +kernel, by decide +kernel⟩
theorem oU (F : cP K "_law_cell_at" "_law_cell_at" fA f fd) (bV : mg "len" = none) : bN P w K mg base ny 1 f fd ["_law_script", "_law_k"] (yI K) := by
 refine F.ok oS (fun vs H Q E h => ?_) (fun dn A outer s H vs Q E hr h => ?_)
 ·obtain ⟨a, ns, k, rfl, _⟩ := h
  rfl
 obtain ⟨a, ns, k, rfl, hS, h0, q⟩ := h
 refine ⟨_, (aj (bq (aC LO (pv 1) (aE aN rfl bV PySem.boot_len (aa (pv 0) af)) (aR _))
 (ao (aB (aw cX (pv 0) (pv 1) (fun _ _ => rfl))))
 aI)
 (ao (aB ah))), ?_⟩
 refine ⟨_, rfl, _, rfl, a, _, rfl, .inl hS, _, _, rfl, rfl, _, rfl, ?_⟩
 refine jf (fun c => ?_) (fun c => ?_)
 ·have c' : k < (((ns.map V.int).length : Nat) : Int) := of_decide_eq_true c
  have hk : k.toNat < ns.length := by rw [Lm9] at c'; omega
  have e : wm (ns.map V.int) k = some (.int ns[k.toNat]) := by
   have z := gR (xs := ns.map V.int) (j := k.toNat) (v := .int ns[k.toNat]) (by simp [hk])
   rw [show ((k.toNat : Nat) : Int) = k by omega] at z
   exact z
  exact ⟨_, rfl, _, rfl, a, _, k, _, rfl, rfl, hS, e, q _⟩
 ·exact q 0
theorem oG : aF ["_law_cell", "_law_k", "_law_factor"] ["_law_cell", "_law_k"] (au lJ) := ⟨rfl, rfl, rfl, by decide +kernel, rfl, by decide +kernel, by decide +kernel⟩
theorem xu (F : cP K "_law_mix" "_law_mix" lJ f fd) : bN P w K mg base ny 1 f fd ["_law_cell", "_law_k"] tu := by
 refine F.ok oG (fun vs H Q E h => ?_) (fun dn A outer s H vs Q E hr h => ?_)
 ·obtain ⟨c, k, rfl, _⟩ := h
  rfl
 obtain ⟨c, k, rfl, h0, h1, q⟩ := h
 refine ⟨_, (aj (ar (i := 2) oG.nd rfl (Or.inl rfl) (aw cX (bc (aa ah (aa ah (aa ah (aa ah (aa ah (aa ah (aa ah af)))))))) (ax bB (pv 1) ah) (fun _ _ => rfl)))
 (ao (aB (ax bB (ax pV (ax fY (ax bB (pv 0) ah) (ax pV ah (pv 1))) (pv 2)) ah)))), ?_⟩
 refine ⟨(by show 7 ≤ sizeLine; decide), fun p hp => ?_⟩
 have hm := mid (a := k) (b := 7) (by decide)
 have hx : ∃ v : Int, wm [V.int 48271, .int 69621, .int 16807, .int 40692, .int 30269, .int 62089, .int 45991] (k % 7) = some (.int v) ∧ -(2 ^ 64) < v ∧ v < 2 ^ 64 := by
  rcases (by omega : k % 7 = 0 ∨ k % 7 = 1 ∨ k % 7 = 2 ∨ k % 7 = 3 ∨ k % 7 = 4 ∨ k % 7 = 5 ∨ k % 7 = 6) with e | e | e | e | e | e | e <;> rw [e]
  ·exact ⟨48271, rfl, by decide, by decide⟩
  ·exact ⟨69621, rfl, by decide, by decide⟩
  ·exact ⟨16807, rfl, by decide, by decide⟩
  ·exact ⟨40692, rfl, by decide, by decide⟩
  ·exact ⟨30269, rfl, by decide, by decide⟩
  ·exact ⟨62089, rfl, by decide, by decide⟩
  ·exact ⟨45991, rfl, by decide, by decide⟩
 obtain ⟨v, hv, v0, v1⟩ := hx
 refine ⟨_, rfl, _, _, rfl, rfl, (by show (0 : Int) < 7; decide), p, _, _, _, rfl, rfl, .inl (.inl ae), hv, ?_⟩
 refine ⟨_, rfl, _, _, rfl, rfl, (by show (0 : Int) < 1000003; decide), _, rfl, _, _, rfl, rfl, .inl ⟨by decide, by decide⟩, _, _, rfl, rfl, _, rfl, _, _, rfl, rfl, .inr ⟨v0, v1⟩, _, _, rfl, rfl, (by show (0 : Int) < 999983; decide), ?_⟩
 exact q _ _ (ag hp _) (Int.emod_nonneg _ (by decide))
theorem bo : aF ["_law_cell", "_law_many", "_law_firsts", "_law_rest", "_law_number", "_law_start", "_law_tail", "_law_size", "_law_at"] ["_law_cell", "_law_many", "_law_firsts"] (au ij) := ⟨rfl, rfl, rfl, by decide +kernel, rfl, by decide +kernel, by decide +kernel⟩
theorem rU (F : cP K "_law_names" "_law_names" ij f fd) (bx : dq P w K mg base "_law_mix" 1 ["_law_cell", "_law_k"] tu) (bV : mg "len" = none) (fX : mg "range" = none) :
  bN P w K mg base ny 2 f fd ["_law_cell", "_law_many", "_law_firsts"] mQ := by
 refine F.ok bo (fun vs H Q E h => ?_) (fun dn A outer s H vs Q E hr h => ?_)
 ·obtain ⟨c, n, fs, rfl, _⟩ := h
  rfl
 obtain ⟨c, n, fs, rfl, hn, G5, Va, kj, hnd, q⟩ := h
 have rR : (S fs).length = fs.length := dh fs
 refine ⟨_, (aj (ar (i := 3) bo.nd rfl (Or.inr rfl) pO)
 (aj (ar (i := 4) bo.nd rfl (Or.inr rfl) (aq bx (hr.mono (by decide)) rfl (aa (pv 0) (aa ah af))))
 (aj (ar (i := 5) bo.nd rfl (Or.inr rfl) (ax bB (ax bW (pv 4) ah) (aE mz rfl bV PySem.boot_len (aa (pv 2) af))))
 (aj (ar (i := 6) bo.nd rfl (Or.inr rfl) (jm PySem.F.plainAttrs_str PySem.F.slot_str_join PySem.F.type_str_join E5 pO (aa (bR [3, 4] rfl (by kernel_rfl) (eZ rfl fX (aa ah af)) (fun _ _ _ _ _ => cz) (fun _ _ _ _ _ => (aw lu (pv 1) (ax bB (ax fY (ax bW (pv 2) (ax fY (pv 0) ah)) (ax pV (pv 0) (pv 0))) ah) (fun _ _ => rfl)))) af)))
 (aj (bq (aC eR (ax bB (pv 4) ah) ah (aR _))
 (ao (aB (bR [2, 5, 6] rfl (by kernel_rfl) (eZ rfl fX (aa (pv 1) af)) (fun _ _ _ _ _ => cz) (fun _ _ _ _ _ => (ax fg (aw lu (pv 1) (pv 2) (fun _ _ => rfl)) (fi uD (pv 3) o7 (d7 (pv 0))))))))
 aI)
 (aj (bq (aC eR (ax bB (pv 4) ah) ah (aR _))
 (aj (ar (i := 7) bo.nd rfl (Or.inr rfl) (ax bB (ax bW (pv 4) ah) ah))
 (ao (aB (bR [2, 5, 6, 7] rfl (by kernel_rfl) (eZ rfl fX (aa (pv 1) af)) (fun _ _ _ _ _ => cz) (fun _ _ _ _ _ => (ax fg (aw lu (pv 1) (ax bB (ax fY (pv 2) (pv 0)) (aE mz rfl bV PySem.boot_len (aa (pv 1) af))) (fun _ _ => rfl)) (fi uD (pv 3) o7 (d7 (pv 4)))))))))
 aI)
 (aj (ar (i := 7) bo.nd rfl (Or.inr rfl) (ax bB (ax bW (pv 4) ah) ah))
 (aj (ar (i := 8) bo.nd rfl (Or.inr rfl) (ax bB (ax bW (pv 4) ah) (ax fY (pv 7) ah)))
 (aj (ar (i := 3) bo.nd rfl (Or.inr rfl) (bR [3, 4] rfl (by kernel_rfl) (eZ rfl fX (aa (pv 1) af)) (fun _ _ _ _ _ => cz) (fun _ _ _ _ _ => (aw lu (pv 1) (ax bB (ax fY (ax bW (pv 2) ah) (pv 0)) ah) (fun _ _ => rfl)))))
 (ao (aB (bR [2, 5, 6, 8, 7] rfl (by kernel_rfl) (aM (pv 3)) (fun _ _ _ _ _ => cz) (fun _ _ _ _ _ => (ax fg (ax fg (ax fg (aw lu (pv 1) (pv 2) (fun _ _ => rfl)) (fi uD (pv 3) o7 (d7 (pv 4)))) (pv 0)) (fi uD (pv 3) (d7 (pv 4)) (d7 (pv 5))))))))))))))))), ?_⟩
 refine ⟨_, rfl, c, 0, rfl, by decide, by decide, fun v H1 s1 v0 => ?_⟩
 have Lq : (0 : Int) < ((S fs).length : Int) := by rw [rR]; omega
 refine ⟨_, rfl, _, _, rfl, rfl, ⟨by decide, by decide⟩, _, rfl, S fs, rfl, (by rw [rR]; exact sz (by omega)), _, _, rfl, rfl, Lq, ?_⟩
 have md := mid (a := v / 5) Lq
 obtain ⟨cs, Bg, Sn⟩ := sign_of (x := S fs) md.1 md.2
 rw [du] at Sn
 refine ⟨rfl, 11, rfl, by decide, by decide, fun D hD => ?_⟩
 have Bl : H D = none := s1.free hD
 refine fj (lo := 0) (n := (11 : Int).toNat) (uH (by decide)) (fun i ys H' => ai H1 H' ∧ H' D = some (.lst ys) ∧ ∃ T : List Nat, ys = (T.map fun c => S [c]).map V.str ∧ T.length = i ∧ T.all mK = true)
  ⟨ag hD _, ae, [], rfl, rfl, rfl⟩ (fun i ys H' pr => ⟨pr.2.1, ?_⟩) (fun i ys H' hi pr => ?_) (fun ys H' pr => ?_)
 ·obtain ⟨T, rfl, hl, _⟩ := pr.2.2
  rw [Lm9, Lm9]
  omega
 ·obtain ⟨T, rfl, hl, hT⟩ := pr.2.2
  have hi' : i < 11 := hi
  refine ⟨_, rfl, _, rfl, _, rfl, _, _, rfl, rfl, _, _, rfl, rfl, ⟨by omega, by omega⟩, _, rfl, _, rfl, _, _, rfl, rfl, .inl ⟨by omega, by omega⟩, _, _, rfl, rfl, _, _, rfl, rfl, (by show (0 : Int) < 62; decide), ?_⟩
  have NI := mid (a := v / (0 + (i : Int) + 1) + (0 + (i : Int)) * (0 + (i : Int))) (b := 62) (by decide)
  obtain ⟨d, hd, PV⟩ := sign_of (x := oM) NI.1 (by rw [mP]; exact NI.2)
  refine ⟨_, _, d, rfl, rfl, (by decide +kernel), hd, pr.2.1, ?_⟩
  refine ⟨ai.aT pr.1 hD _, ae, T ++ [d], by simp, by simp [hl], ?_⟩
  have z := CZ
  rw [List.all_eq_true] at z
  rw [List.all_append, hT, List.all_cons, z d PV]
  rfl
 obtain ⟨T, rfl, UA, JQ⟩ := pr.2.2
 have sm := pr.1
 have NJ : T.length = 11 := UA
 refine ⟨_, D, T.map fun c => S [c], rfl, rfl, .inl (.inl (.inl pr.2.1)), ?_, ?_⟩
 ·have z : ((T.map fun c => S [c]).map (·.length)).sum ≤ 11 := by
   have z2 := Ax (as := T.map fun c => [c]) (B := 1) (by simp)
   rw [Lm9, NJ] at z2
   have e : (T.map fun c => S [c]) = (T.map fun c => [c]).map S := by rw [List.map_map]; rfl
   rw [e]
   exact z2
  have z3 : (T.map fun c => S [c]).length = 11 := by rw [Lm9]; exact NJ
  rw [z3, show (Str.ofString "").length = 0 by decide]
  omega
 rw [IZ]
 refine ⟨_, rfl, _, _, rfl, rfl, (by show (0 : Int) < 3; decide), rfl, _, rfl, ?_⟩
 have Hg : ∀ l : List Nat, l.length ≤ 100 → (S l).length ≤ sizeLine := fun l h => by rw [dh]; exact sz (by omega)
 have hst : wm (S fs).cps.toList (v / 5 % ((S fs).length : Int)) = some cs := Bg
 have Vb : (⟨#[cs]⟩ : Str) = S [cs] := rfl
 refine jf (fun c1 => ?_) (fun c1 => ?_)
 ·
  refine ⟨_, rfl, n, rfl, by omega, by omega, fun D2 ki => ?_⟩
  refine fj (lo := 0) (n := ((n : Nat) : Int).toNat) (uH (by omega)) (fun i ys H2 => ai H H2 ∧ H2 D2 = some (.lst ys) ∧ ∃ zs : List (List Nat), ys = zs.map tx ∧ zs.length = i ∧ (∀ z ∈ zs, Good fs z) ∧ zs = (List.range i).map fun k : Nat => [cs] ++ T.take k)
   ⟨ai.aT (ai.trans s1 sm) ((ai.trans s1 sm).free ki) _, ae, [], rfl, rfl, (fun _ z => nomatch z), rfl⟩ (fun i ys H2 kU => ⟨kU.2.1, ?_⟩) (fun i ys H2 hi kU => ?_) (fun ys H2 kU => ?_)
  ·obtain ⟨zs, rfl, hl, _, _⟩ := kU.2.2
   rw [Lm9]
   omega
  ·obtain ⟨zs, rfl, hl, hg, AY⟩ := kU.2.2
   have hi' : i < n := by omega
   refine ⟨_, rfl, _, rfl, S fs, _, cs, rfl, rfl, Hg fs (by omega), hst, _, rfl, _, rfl, _, rfl, S T, rfl, Hg T (by omega), ?_⟩
   rw [show (0 : Int) + (i : Int) = ((i : Nat) : Int) by omega, qd (by omega), Vb]
   refine ⟨_, _, rfl, rfl, (by rw [dh, dh, List.length_take]; exact sz (by simp; omega)), ?_⟩
   rw [wO]
   refine ⟨kU.2.1, ai.aT kU.1 ((ai.trans s1 sm).free ki) _, ae, zs ++ [[cs] ++ T.take i], by simp, by simp [hl], fun z hz => ?_, by rw [List.range_succ, List.map_append, AY]; rfl⟩
   rcases List.mem_append.mp hz with hz | hz
   ·exact hg z hz
   ·rw [List.mem_singleton.mp hz]
    refine uK Sn kj ?_ (by rw [List.length_take]; omega)
    rw [List.all_eq_true] at JQ ⊢
    exact fun y hy => JQ y (List.mem_of_mem_take hy)
  ·obtain ⟨zs, rfl, hl, hg, AY⟩ := kU.2.2
   refine q D2 zs H2 kU.1 ((ai.trans s1 sm).free ki) kU.2.1 (by omega) hg ?_
   rw [AY]
   refine eJ fun a b ha hb e => ?_
   have e2 := congrArg List.length e
   rw [List.length_append, List.length_append, List.length_take, List.length_take] at e2
   omega
 refine ⟨_, rfl, _, _, rfl, rfl, (by show (0 : Int) < 3; decide), rfl, _, rfl, ?_⟩
 refine jf (fun c2 => ?_) (fun c2 => ?_)
 ·refine ⟨_, rfl, _, _, rfl, rfl, ⟨by decide, by decide⟩, _, _, rfl, rfl, (by show (0 : Int) < 12; decide), ?_⟩
  have XE := mid (a := v / 3) (b := 12) (by decide)
  refine ⟨_, rfl, n, rfl, by omega, by omega, fun D2 ki => ?_⟩
  refine fj (lo := 0) (n := ((n : Nat) : Int).toNat) (uH (by omega)) (fun i ys H2 => ai H H2 ∧ H2 D2 = some (.lst ys) ∧ ∃ zs : List (List Nat), ys = zs.map tx ∧ zs.length = i ∧ (∀ z ∈ zs, Good fs z) ∧ zs = (List.range i).map fun k : Nat => [fs.getD ((v / 5 % ((S fs).length : Int) + (0 + (k : Int))) % ((S fs).length : Int)).toNat 0] ++ T.take (v / 3 % 12).toNat)
   ⟨ai.aT (ai.trans s1 sm) ((ai.trans s1 sm).free ki) _, ae, [], rfl, rfl, (fun _ z => nomatch z), rfl⟩ (fun i ys H2 kU => ⟨kU.2.1, ?_⟩) (fun i ys H2 hi kU => ?_) (fun ys H2 kU => ?_)
  ·obtain ⟨zs, rfl, hl, _, _⟩ := kU.2.2
   rw [Lm9]
   omega
  ·obtain ⟨zs, rfl, hl, hg, AY⟩ := kU.2.2
   have hi' : i < n := by omega
   have Vc := mid (a := v / 5 % ((S fs).length : Int) + (0 + (i : Int))) Lq
   have So := yF (x := S fs) Vc.1 Vc.2
   have NK : fs.getD ((v / 5 % ((S fs).length : Int) + (0 + (i : Int))) % ((S fs).length : Int)).toNat 0 ∈ fs := List.mem_of_getElem? (getD_get (by rw [← rR]; omega))
   rw [du fs] at So
   generalize Sq : fs.getD ((v / 5 % ((S fs).length : Int) + (0 + (i : Int))) % ((S fs).length : Int)).toNat 0 = ck at So NK
   refine ⟨_, rfl, _, rfl, _, rfl, _, _, rfl, rfl, _, rfl, S fs, rfl, Hg fs (by omega), _, _, rfl, rfl, Lq, S fs, _, ck, rfl, rfl, Hg fs (by omega), (by rw [du]; exact So), _, rfl, _, rfl, _, rfl, S T, rfl, Hg T (by omega), ?_⟩
   have hsz : v / 3 % 12 = (((v / 3 % 12).toNat : Nat) : Int) := by omega
   rw [hsz, qd (by omega)]
   refine ⟨_, _, rfl, rfl, (by rw [dh, dh, List.length_take]; exact sz (by simp; omega)), ?_⟩
   rw [show (⟨#[ck]⟩ : Str) = S [ck] from rfl, wO]
   refine ⟨kU.2.1, ai.aT kU.1 ((ai.trans s1 sm).free ki) _, ae, zs ++ [[ck] ++ T.take (v / 3 % 12).toNat], by simp, by simp [hl], fun z hz => ?_, by rw [List.range_succ, List.map_append, AY, ← Sq]; rfl⟩
   rcases List.mem_append.mp hz with hz | hz
   ·exact hg z hz
   ·rw [List.mem_singleton.mp hz]
    refine uK NK kj ?_ (by rw [List.length_take]; omega)
    rw [List.all_eq_true] at JQ ⊢
    exact fun y hy => JQ y (List.mem_of_mem_take hy)
  ·obtain ⟨zs, rfl, hl, hg, AY⟩ := kU.2.2
   refine q D2 zs H2 kU.1 ((ai.trans s1 sm).free ki) kU.2.1 (by omega) hg ?_
   rw [AY]
   refine eJ fun a b ha hb e => ?_
   have e2 : fs.getD ((v / 5 % ((S fs).length : Int) + (0 + (a : Int))) % ((S fs).length : Int)).toNat 0 = fs.getD ((v / 5 % ((S fs).length : Int) + (0 + (b : Int))) % ((S fs).length : Int)).toNat 0 := (List.cons.inj e).1
   have e3 := qe hnd (by have := mid (a := v / 5 % ((S fs).length : Int) + (0 + (a : Int))) Lq; omega) (by have := mid (a := v / 5 % ((S fs).length : Int) + (0 + (b : Int))) Lq; omega) e2
   exact Az (by omega) (by omega) e3
 refine ⟨_, rfl, _, _, rfl, rfl, ⟨by decide, by decide⟩, _, _, rfl, rfl, (by show (0 : Int) < 11; decide), ?_⟩
 have XE := mid (a := v / 3) (b := 11) (by decide)
 refine ⟨_, rfl, _, _, rfl, rfl, ⟨by decide, by decide⟩, _, rfl, _, _, rfl, rfl, _, _, rfl, rfl, (by show (0 : Int) < _; omega), ?_⟩
 have XF := mid (a := v / 33) (b := v / 3 % 11 + 1) (by omega)
 refine ⟨_, rfl, n, rfl, by omega, by omega, fun D2 ki => ?_⟩
 refine fj (lo := 0) (n := ((n : Nat) : Int).toNat) (uH (by omega)) (fun i ys H2 => ai H H2 ∧ H2 D2 = some (.lst ys) ∧ ∃ cs : List Nat, ys = (cs.map fun c => [c]).map tx ∧ cs.length = i ∧ (∀ c ∈ cs, mK c = true) ∧ cs = (List.range i).map fun k : Nat => oM.cps.toList.getD ((v / 7 + (0 + (k : Int))) % ((62 : Nat) : Int)).toNat 0)
  ⟨ai.aT (ai.trans s1 sm) ((ai.trans s1 sm).free ki) _, ae, [], rfl, rfl, (fun _ z => nomatch z), rfl⟩ (fun i ys H2 kU => ⟨kU.2.1, ?_⟩) (fun i ys H2 hi kU => ?_) (fun ys H2 kU => ?_)
 ·obtain ⟨cs, rfl, hl, _, _⟩ := kU.2.2
  rw [Lm9, Lm9]
  omega
 ·obtain ⟨zs, rfl, hl, hg, AY⟩ := kU.2.2
  have NI := mid (a := v / 7 + (0 + (i : Int))) (b := 62) (by decide)
  have hd := yF (x := oM) NI.1 (by rw [mP]; exact NI.2)
  have PV : oM.cps.toList.getD ((v / 7 + (0 + (i : Int))) % 62).toNat 0 ∈ oM.cps.toList := List.mem_of_getElem? (getD_get (by rw [nJ, mP]; omega))
  generalize XG : oM.cps.toList.getD ((v / 7 + (0 + (i : Int))) % 62).toNat 0 = d at hd PV
  refine ⟨_, rfl, _, rfl, _, _, rfl, rfl, ⟨by decide, by decide⟩, _, rfl, _, _, rfl, rfl, _, _, rfl, rfl, (by show (0 : Int) < 62; decide), _, _, d, rfl, rfl, (by decide +kernel), hd, kU.2.1, ?_⟩
  refine ⟨ai.aT kU.1 ((ai.trans s1 sm).free ki) _, ae, zs ++ [d], by simp, by simp [hl], fun z hz => ?_, by rw [List.range_succ, List.map_append, AY, ← XG]; rfl⟩
  rcases List.mem_append.mp hz with hz | hz
  ·exact hg z hz
  ·rw [List.mem_singleton.mp hz]
   have z := CZ
   rw [List.all_eq_true] at z
   exact z d PV
 obtain ⟨ks, rfl, Zu, XH, XI⟩ := kU.2.2
 have yC := kU.1
 have Gn := kU.2.1
 refine ⟨_, rfl, D2, rfl, ⟨_, aD.of Gn⟩, fun D3 Lm => ?_⟩
 obtain ⟨pa, Vd⟩ : ∃ pa : Nat, v / 33 % (v / 3 % 11 + 1) = (pa : Int) := ⟨_, (Int.toNat_of_nonneg XF.1).symm⟩
 obtain ⟨pb, XJ⟩ : ∃ pb : Nat, v / 3 % 11 = ((pa + pb : Nat) : Int) := ⟨(v / 3 % 11 - pa).toNat, by omega⟩
 have Ve : D2 ≠ D3 := fun z => by rw [z, Lm] at Gn; cases Gn
 refine nG (K := K) (a := D2) (xs := (ks.map fun c => [c]).map tx) (by rw [Lm9, Lm9]; exact uH (by omega))
  (fun i ys H3 => ai H H3 ∧ H3 D3 = some (.lst ys) ∧ H3 D2 = some (.lst ((ks.map fun c => [c]).map tx)) ∧ ∃ zs : List (List Nat), ys = zs.map tx ∧ zs.length = i ∧ (∀ z ∈ zs, Good fs z) ∧ zs = (List.range i).map fun k : Nat => (([cs] ++ T.take pa) ++ [ks.getD k 0]) ++ (T.drop pa).take pb)
  ⟨ai.aT yC (yC.free Lm) _, ae, by rw [az Ve]; exact Gn, [], rfl, rfl, (fun _ z => nomatch z), rfl⟩ (fun i ys H3 BY => aD.of BY.2.2.1) (fun i ys H3 BY => ⟨BY.2.1, ?_⟩) (fun i ys H3 hi BY => ?_) (fun ys H3 BY => ?_)
 ·obtain ⟨zs, rfl, hl, _, _⟩ := BY.2.2.2
  rw [Lm9]
  omega
 ·obtain ⟨zs, rfl, hl, hg, AY⟩ := BY.2.2.2
  have hi' : i < ks.length := by simpa using hi
  have eg : ((ks.map fun c => [c]).map tx).getD i .bz = tx [ks[i]] := by
   rw [Gd9, List.getElem?_map, List.getElem?_map, Ge9 hi']
   rfl
  rw [eg]
  refine ⟨_, rfl, _, rfl, S fs, _, cs, rfl, rfl, Hg fs (by omega), hst, _, rfl, _, rfl, _, rfl, S T, rfl, Hg T (by omega), ?_⟩
  rw [Vd, qd (by omega), Vb]
  refine ⟨_, _, rfl, rfl, (by rw [dh, dh, List.length_take]; exact sz (by simp; omega)), ?_⟩
  rw [wO]
  refine ⟨_, rfl, _, _, rfl, rfl, (by rw [dh, dh, List.length_append, List.length_take]; exact sz (by simp; omega)), ?_⟩
  rw [wO]
  refine ⟨_, rfl, _, rfl, _, rfl, _, rfl, _, rfl, S T, rfl, Hg T (by omega), ?_⟩
  have e2 := Fn (x := S T) (p := pa) (n := pb) (by rw [dh]; omega)
  rw [du] at e2
  rw [Vd, XJ, e2]
  refine ⟨_, _, rfl, rfl, (by rw [dh, dh, List.length_append, List.length_append, List.length_take, List.length_take, List.length_drop]; exact sz (by simp; omega)), ?_⟩
  rw [wO]
  refine ⟨BY.2.1, ai.aT BY.1 (yC.free Lm) _, ae, by rw [az Ve]; exact BY.2.2.1, zs ++ [(([cs] ++ T.take pa) ++ [ks[i]]) ++ (T.drop pa).take pb], by simp, by simp [hl], fun z hz => ?_, by rw [List.range_succ, List.map_append, AY]; simp only [List.map_cons, List.map_nil]; rw [Gd9 (i := i), Ge9 hi']; rfl⟩
  rcases List.mem_append.mp hz with hz | hz
  ·exact hg z hz
  ·rw [List.mem_singleton.mp hz]
   rw [List.append_assoc, List.append_assoc]
   refine uK Sn kj ?_ ?_
   ·rw [List.all_eq_true] at JQ ⊢
    intro y hy
    rcases List.mem_append.mp hy with hy | hy
    ·exact JQ y (List.mem_of_mem_take hy)
    ·rcases List.mem_append.mp hy with hy | hy
     ·rw [List.mem_singleton.mp hy]
      exact XH _ (List.getElem_mem hi')
     ·exact JQ y (List.mem_of_mem_drop (List.mem_of_mem_take hy))
   ·rw [List.length_append, List.length_append, List.length_take, List.length_take, List.length_drop]
    simp
    omega
 ·obtain ⟨zs, rfl, hl, hg, AY⟩ := BY.2.2.2
  have XM : ks.length = n := by omega
  rw [Lm9, Lm9] at AY hl
  refine q D3 zs H3 BY.1 (yC.free Lm) BY.2.1 (by omega) hg ?_
  rw [AY]
  refine eJ fun a b ha hb e => ?_
  have e3 : [ks.getD a 0] = [ks.getD b 0] := by
   have z := List.append_inj_left' e rfl
   exact List.append_inj_right z rfl
  have e4 : ks.getD a 0 = ks.getD b 0 := (List.cons.inj e3).1
  have gk : ∀ k, k < n → ks.getD k 0 = oM.cps.toList.getD ((v / 7 + (0 + (k : Int))) % ((62 : Nat) : Int)).toNat 0 := fun k hk => by
   rw [XI, Gd9, List.getElem?_map, List.getElem?_range (by omega)]
   rfl
  rw [gk a (by omega), gk b (by omega)] at e4
  have e5 := qe (by decide +kernel) (by rw [nJ, mP]; have := mid (a := v / 7 + (0 + (a : Int))) (b := 62) (by decide); omega) (by rw [nJ, mP]; have := mid (a := v / 7 + (0 + (b : Int))) (b := 62) (by decide); omega) e4
  exact Az (by omega) (by omega) e5
theorem qT : aF ["_law_cell", "_law_many"] ["_law_cell", "_law_many"] (au gh) := ⟨rfl, rfl, rfl, by decide +kernel, rfl, by decide +kernel, by decide +kernel⟩
theorem qU (F : cP K "_law_titles" "_law_titles" gh f fd) (bC : dq P w K mg base "_law_names" 2 ["_law_cell", "_law_many", "_law_firsts"] mQ) : bN P w K mg base ny 3 f fd ["_law_cell", "_law_many"] (f9 dW.cps.toList) := by
 refine F.ok qT (fun vs H Q E h => ?_) (fun dn A outer s H vs Q E hr h => ?_)
 ·obtain ⟨c, n, rfl, _⟩ := h
  rfl
 obtain ⟨c, n, rfl, hn, q⟩ := h
 refine ⟨_, (ao (aB (aq bC (hr.mono (by decide)) rfl (aa (pv 0) (aa (pv 1) (aa pO af)))))), ?_⟩
 exact ⟨_, rfl, _, rfl, c, n, dW.cps.toList, (by show [V.int c, V.int n, V.str dW] = [V.int c, V.int n, V.str (S dW.cps.toList)]; rw [Bq]), hn, by decide +kernel, by decide +kernel, by decide +kernel, by decide +kernel, q⟩
theorem rV : aF ["_law_cell", "_law_many"] ["_law_cell", "_law_many"] (au il) := ⟨rfl, rfl, rfl, by decide +kernel, rfl, by decide +kernel, by decide +kernel⟩
theorem rW (F : cP K "_law_opens" "_law_opens" il f fd) (bC : dq P w K mg base "_law_names" 2 ["_law_cell", "_law_many", "_law_firsts"] mQ) : bN P w K mg base ny 3 f fd ["_law_cell", "_law_many"] (f9 cZ.cps.toList) := by
 refine F.ok rV (fun vs H Q E h => ?_) (fun dn A outer s H vs Q E hr h => ?_)
 ·obtain ⟨c, n, rfl, _⟩ := h
  rfl
 obtain ⟨c, n, rfl, hn, q⟩ := h
 refine ⟨_, (ao (aB (aq bC (hr.mono (by decide)) rfl (aa (pv 0) (aa (pv 1) (aa pO af)))))), ?_⟩
 exact ⟨_, rfl, _, rfl, c, n, cZ.cps.toList, (by show [V.int c, V.int n, V.str cZ] = [V.int c, V.int n, V.str (S cZ.cps.toList)]; rw [Bq]), hn, by decide +kernel, by decide +kernel, by decide +kernel, by decide +kernel, q⟩
theorem rY : aF ["_law_cell", "_law_many"] ["_law_cell", "_law_many"] (au ip) := ⟨rfl, rfl, rfl, by decide +kernel, rfl, by decide +kernel, by decide +kernel⟩
theorem rZ (F : cP K "_law_words" "_law_words" ip f fd) (bC : dq P w K mg base "_law_names" 2 ["_law_cell", "_law_many", "_law_firsts"] mQ) : bN P w K mg base ny 3 f fd ["_law_cell", "_law_many"] (f9 GR.cps.toList) := by
 refine F.ok rY (fun vs H Q E h => ?_) (fun dn A outer s H vs Q E hr h => ?_)
 ·obtain ⟨c, n, rfl, _⟩ := h
  rfl
 obtain ⟨c, n, rfl, hn, q⟩ := h
 refine ⟨_, (ao (aB (aq bC (hr.mono (by decide)) rfl (aa (pv 0) (aa (pv 1) (aa pO af)))))), ?_⟩
 exact ⟨_, rfl, _, rfl, c, n, GR.cps.toList, (by show [V.int c, V.int n, V.str GR] = [V.int c, V.int n, V.str (S GR.cps.toList)]; rw [Bq]), hn, by decide +kernel, by decide +kernel, by decide +kernel, by decide +kernel, q⟩
end
end jA
namespace jA
open PySem L2 eF Bk
set_option maxHeartbeats 4000000
section
variable {P : Program} {w : World} {K : PySem.W.Frag} {mg : Str → Option Value} {base : Heap} {f : Addr} {fd : FuncData} {C1 C2 : Addr}
theorem kW : aF ["_law_kinds_here", "_law_fact_here", "_law_kind"] ["_law_kinds_here", "_law_fact_here"] (au iu) := ⟨rfl, rfl, rfl, by decide +kernel, rfl, by decide +kernel, by decide +kernel⟩
theorem r6 (F : cP K "_law_fault" "_law_fault" iu f fd) (bV : mg "len" = none) : bN P w K mg base ny 1 f fd ["_law_kinds_here", "_law_fact_here"] (m4 K) := by
 refine F.ok kW (fun vs H Q E h => ?_) (fun dn A outer s H vs Q E hr h => ?_)
 ·obtain ⟨lk, v, ks, g, rfl, _⟩ := h
  rfl
 obtain ⟨lk, v, ks, g, rfl, ⟨kvs, hk, pk⟩, ⟨t, t2, rfl, h1, h2⟩, tf, mB, q⟩ := h
 refine ⟨_, (aj (bM PassesOwn.never rfl (aM (pv 0)) (bf (i := 2) kW.nd rfl (Or.inl rfl))
 (ao (bq (aC eR (aw av (pv 2) ah (fun _ _ => rfl)) (aw av (pv 1) ah (fun _ _ => rfl)) (aR _))
 (aj (bq (aC eR (aw av (pv 2) ah (fun _ _ => rfl)) (aE aN rfl bV PySem.boot_len (aa (aw av (pv 1) ah (fun _ _ => rfl)) af)) (aR _))
 (ao (aB ah))
 aI)
 (ao (aB ah)))
 aI)))
 (ao (aB ah))), ?_⟩
 have zk := Paired.length pk
 refine ⟨_, rfl, lk, rfl, ⟨_, aD.of hk⟩, bt (K := K) (a := lk) (xs := kvs) (fun i σ H' => H' = H ∧ fault ks g = fault (ks.drop i) g ∧ ∃ o, σ = [some (.ref lk), some (.ref t), o]) ⟨rfl, rfl, none, rfl⟩ (fun i σ H' _ ⟨e, _⟩ => by rw [e]; exact aD.of hk) ?_ ?_⟩
 ·rintro i y σ H' hi ⟨rfl, kj, o, rfl⟩
  obtain ⟨Sr, ey⟩ := ay hi
  have NL : i < ks.length := by omega
  obtain ⟨tk, et, ht⟩ := paired_at pk i NL Sr
  rw [ey] at et
  subst et
  rw [List.drop_eq_getElem_cons NL] at kj
  refine ⟨_, rfl, tk, _, 0, _, rfl, rfl, ht, rfl, _, rfl, t, _, 0, _, rfl, rfl, h1, rfl, rfl, _, rfl, ?_⟩
  by_cases hn : ks[i].n = g.k
  ·rw [decide_eq_true (show tx ks[i].n = tx g.k by rw [hn])]
   have Vf : fault ks g = if ks[i].c = g.as.length then 0 else 2 := by
    rw [kj]
    unfold fault
    rw [List.find?_cons, decide_eq_true hn]
   refine gS ?_
   refine ⟨_, rfl, tk, _, 1, _, rfl, rfl, ht, rfl, _, rfl, t, _, 1, _, rfl, rfl, h1, rfl, t2, _, rfl, .inr h2, rfl, _, rfl, ?_⟩
   rw [Lm9]
   by_cases hc : ks[i].c = g.as.length
   ·rw [decide_eq_true (show V.int (ks[i].c : Nat) = V.int (g.as.length : Nat) by rw [hc])]
    rw [Vf, if_pos hc] at q
    exact gS q
   ·rw [decide_eq_false (fun z : V.int (ks[i].c : Nat) = V.int (g.as.length : Nat) => hc (by have := V.int.inj z; omega))]
    rw [Vf, if_neg hc] at q
    exact dm q
  ·rw [decide_eq_false (fun z : tx ks[i].n = tx g.k => hn (mL (V.str.inj z)))]
   refine dm ⟨rfl, ?_, _, rfl⟩
   rw [kj]
   unfold fault
   rw [List.find?_cons, decide_eq_false hn]
 ·rintro σ H' ⟨rfl, kj, o, rfl⟩
  rw [List.drop_of_length_le (by omega)] at kj
  rw [kj] at q
  exact q
theorem kY : aF ["_law_kinds_here", "_law_fact_here", "_law_kind"] ["_law_kinds_here", "_law_fact_here"] (au ix) := ⟨rfl, rfl, rfl, by decide +kernel, rfl, by decide +kernel, by decide +kernel⟩
theorem r9 (F : cP K "_law_lasts" "_law_lasts" ix f fd) : bN P w K mg base ny 1 f fd ["_law_kinds_here", "_law_fact_here"] (m5 K) := by
 refine F.ok kY (fun vs H Q E h => ?_) (fun dn A outer s H vs Q E hr h => ?_)
 ·obtain ⟨lk, v, ks, g, rfl, _⟩ := h
  rfl
 obtain ⟨lk, v, ks, g, rfl, ⟨kvs, hk, pk⟩, nd, ⟨t, t2, rfl, h1, h2⟩, tf, mB, q⟩ := h
 refine ⟨_, (aj (bM PassesOwn.never rfl (aM (pv 0)) (bf (i := 2) kY.nd rfl (Or.inl rfl))
 (ao (bq (aC eR (aw av (pv 2) ah (fun _ _ => rfl)) (aw av (pv 1) ah (fun _ _ => rfl)) (aR _))
 (ao (aB (aw av (pv 2) ah (fun _ _ => rfl))))
 aI)))
 (ao (aB bA))), ?_⟩
 have zk := Paired.length pk
 refine ⟨_, rfl, lk, rfl, ⟨_, aD.of hk⟩, bt (K := K) (a := lk) (xs := kvs) (fun i σ H' => H' = H ∧ (∀ j (hj : j < ks.length), j < i → ks[j].n ≠ g.k) ∧ ∃ o, σ = [some (.ref lk), some (.ref t), o]) ⟨rfl, (fun j _ h => absurd h (Nat.not_lt_zero _)), none, rfl⟩ (fun i σ H' _ ⟨e, _⟩ => by rw [e]; exact aD.of hk) ?_ ?_⟩
 ·rintro i y σ H' hi ⟨rfl, kj, o, rfl⟩
  obtain ⟨Sr, ey⟩ := ay hi
  have NL : i < ks.length := by omega
  obtain ⟨tk, et, ht⟩ := paired_at pk i NL Sr
  rw [ey] at et
  subst et
  refine ⟨_, rfl, tk, _, 0, _, rfl, rfl, ht, rfl, _, rfl, t, _, 0, _, rfl, rfl, h1, rfl, rfl, _, rfl, ?_⟩
  by_cases hn : ks[i].n = g.k
  ·rw [decide_eq_true (show tx ks[i].n = tx g.k by rw [hn])]
   have e : decide (g.k ∈ dU ks) = ks[i].l := by rw [← hn]; exact FQ nd NL
   rw [e] at q
   exact gS ⟨_, rfl, tk, _, 2, _, rfl, rfl, ht, rfl, q⟩
  ·rw [decide_eq_false (fun z : tx ks[i].n = tx g.k => hn (mL (V.str.inj z)))]
   refine dm ⟨rfl, fun j hj XN => ?_, _, rfl⟩
   rcases Nat.lt_or_eq_of_le (Nat.le_of_lt_succ XN) with z | z
   ·exact kj j hj z
   ·subst z; exact hn
 ·rintro σ H' ⟨rfl, kj, o, rfl⟩
  have e : decide (g.k ∈ dU ks) = false := decide_eq_false fun hm => by
   unfold dU at hm
   obtain ⟨k, uL, yd⟩ := List.mem_map.mp hm
   obtain ⟨j, hj, rfl⟩ := List.mem_iff_getElem.mp (List.mem_filter.mp uL).1
   exact kj j hj (by omega) yd
  rw [e] at q
  exact q
end
end jA
namespace jA
open PySem L2 eF Bk
set_option maxHeartbeats 4000000
theorem D7 : ∀ c ∈ oM.cps.toList, Txt.isupper ⟨#[c]⟩ = decide (c ∈ cZ.cps.toList) := by decide +kernel
theorem JR {c : Nat} (h : mK c = true) : c ∈ oM.cps.toList := by
 have key : ∀ c ∈ dW.cps.toList ++ (cZ.cps.toList ++ II.cps.toList), c ∈ oM.cps.toList := by decide +kernel
 refine key c ?_
 unfold mK at h
 rw [Bool.or_eq_true, Bool.or_eq_true] at h
 rcases h with h | h | h
 ·exact List.mem_append_left _ (of_decide_eq_true h)
 ·exact List.mem_append_right _ (List.mem_append_left _ (of_decide_eq_true h))
 ·exact List.mem_append_right _ (List.mem_append_right _ (of_decide_eq_true h))
theorem zC {n : Cs} (h : cA n = true) : Txt.isupper ⟨#[n.headD 0]⟩ = great n := by
 unfold cA at h
 rw [Bool.and_eq_true, Bool.and_eq_true] at h
 cases n with
 | nil => have := of_decide_eq_true h.1; simp at this
 | cons c r =>
  have z := List.all_eq_true.mp h.2.2 c (List.mem_cons_self ..)
  exact D7 c (JR z)
section
variable {P : Program} {w : World} {K : PySem.W.Frag} {mg : Str → Option Value} {base : Heap} {f : Addr} {fd : FuncData} {C1 C2 : Addr}
theorem gm : aF ["_law_known_here", "_law_names_here", "_law_due", "_law_name"] ["_law_known_here", "_law_names_here"] (au iw) := ⟨rfl, rfl, rfl, by decide +kernel, rfl, by decide +kernel, by decide +kernel⟩
theorem sd (F : cP K "_law_known" "_law_known" iw f fd) (cO : mg "list" = none) : bN P w K mg base ny 1 f fd ["_law_known_here", "_law_names_here"] (qA K) := by
 refine F.ok gm (fun vs H Q E h => ?_) (fun dn A outer s H vs Q E hr h => ?_)
 ·obtain ⟨la, t, acc, ns, rfl, _⟩ := h
  rfl
 obtain ⟨la, t, acc, ns, rfl, K9, ht, hn, hok, q⟩ := h
 refine ⟨_, (aj (ar (i := 2) gm.nd rfl (Or.inl rfl) (aH a8 rfl cO PyProof.Rows.Boot.«list» (aa (pv 0) af)))
 (aj (bM PassesOwn.never rfl (pR (pv 1)) (bf (i := 3) gm.nd rfl (Or.inl rfl))
 (ao (bq (PW.pt (pP (eG (Cz PySem.F.plainAttrs_str PySem.F.slot_str_isupper PySem.F.type_str_isupper yD (aw lu (pv 3) ah (fun _ _ => rfl)))) (ml (aC my (pv 3) (pv 2) (by with_unfolding_all rfl)))))
 (ao (cv (jm PySem.F.plainAttrs_list PySem.F.slot_list_append PySem.F.type_list_append df (pv 2) (aa (pv 3) af))))
 aI)))
 (ao (aB (pv 2))))), ?_⟩
 refine ⟨_, rfl, la, _, rfl, .inl (aD.of K9), fun l hl => ?_⟩
 have s1 : ai H (upd H l (.lst (acc.map tx))) := ag hl _
 refine ⟨_, rfl, t, rfl, ⟨_, ht.same s1⟩, ur (K := K) (a := t) (xs := ns.map tx) (fun i σ H' => ai H H' ∧ H' l = some (.lst ((kn acc (ns.take i)).map tx)) ∧ ∃ o, σ = [some (.ref la), some (.ref t), some (.ref l), o]) ⟨s1, ae, none, rfl⟩ (fun i σ H' _ ⟨sm, _⟩ => ht.same sm) ?_ ?_⟩
 ·rintro i y σ H' hi ⟨sm, hL, o, rfl⟩
  obtain ⟨pJ, ey⟩ := ay hi
  have Nh : i < ns.length := by simpa using pJ
  have ey : tx ns[i] = y := by rw [← ey]; simp
  subst ey
  have ji := hok _ (List.getElem_mem Nh)
  have hco := cC ji
  have e1 : kn acc (ns.take (i + 1)) = tN (kn acc (ns.take i)) ns[i] := by
   rw [List.take_succ_eq_append_getElem Nh]
   unfold kn
   rw [List.foldl_append]
   rfl
  have hlen := nP (ns.take i) acc
  rw [List.length_take] at hlen
  generalize kn acc (ns.take i) = ac at e1 hlen hL ⊢
  have tf : 1 ≤ (S ns[i]).length := by
   rw [dh]
   cases hh : ns[i] with
   | nil => exact absurd hh hco.1
   | cons a r => simp
  refine ⟨_, rfl, S ns[i], 0, _, rfl, rfl, (by rw [dh]; exact sz (by have := hco.2.1; omega)), Av tf, rfl, _, rfl, rfl, _, rfl, ?_⟩
  rw [du, zC ji]
  by_cases hg : great ns[i] = true
  ·rw [hg]
   refine gS ?_
   refine ⟨_, rfl, _, rfl, l, _, rfl, .inl (aD.of hL), rfl, mM _, _, rfl, ?_⟩
   rw [if_pos rfl, ph]
   by_cases hm : ns[i] ∈ ac
   ·rw [decide_eq_true hm]
    refine dm ⟨sm, ?_, _, rfl⟩
    rw [hL, e1]
    unfold tN
    rw [if_pos hg, if_pos hm]
   ·rw [decide_eq_false hm]
    refine gS ⟨_, rfl, .inl ⟨rfl, _, aD.of hL⟩, _, rfl, l, _, _, rfl, rfl, hL, (by rw [Lm9, sizeLine_eq]; omega), ?_⟩
    refine ⟨ai.aT sm hl _, ?_, _, rfl⟩
    rw [ae, e1]
    unfold tN
    rw [if_pos hg, if_neg hm, List.map_append]
    rfl
  ·have hg' : great ns[i] = false := by simpa using hg
   rw [hg']
   refine dm (dm ⟨sm, ?_, _, rfl⟩)
   rw [hL, e1]
   unfold tN
   rw [if_neg hg]
 ·rintro σ H' ⟨sm, hL, o, rfl⟩
  rw [Lm9, List.take_length] at hL
  exact ⟨_, rfl, q l H' sm hl hL⟩
end
end jA
namespace jA
open PySem L2 eF Bk
set_option maxHeartbeats 4000000
section
variable {P : Program} {w : World} {K : PySem.W.Frag} {mg : Str → Option Value} {base : Heap} {f : Addr} {fd : FuncData} {C1 C2 : Addr}
theorem xw : aF ["_law_fact_here", "_law_stranger", "_law_number"] ["_law_fact_here", "_law_stranger", "_law_number"] (au lK) := ⟨rfl, rfl, rfl, by decide +kernel, rfl, by decide +kernel, by decide +kernel⟩
theorem xx (F : cP K "_law_odd" "_law_odd" lK f fd) (bV : mg "len" = none) : bN P w K mg base ny 1 f fd ["_law_fact_here", "_law_stranger", "_law_number"] (DE K) := by
 refine F.ok xw (fun vs H Q E h => ?_) (fun dn A outer s H vs Q E hr h => ?_)
 ·obtain ⟨v, g, st, n, rfl, _⟩ := h
  rfl
 obtain ⟨v, g, st, n, rfl, ⟨t, t2, rfl, h1, h2⟩, hn, q⟩ := h
 refine ⟨_, (aj (bq (aC eR (ax bB (pv 2) ah) ah (aR _))
 (ao (aB (aZ (aa (pv 1) (aa (aw av (pv 0) ah (fun _ _ => rfl)) af)))))
 aI)
 (aj (bq (PW.pt (Cn (PW.pt (pP (aC eR (ax bB (ax bW (pv 2) ah) ah) ah (aR _)) (ml (aC mq (aE aN rfl bV PySem.boot_len (aa (aw av (pv 0) ah (fun _ _ => rfl)) af)) ah (aR _))))) (Cm (aC eR (aE aN rfl bV PySem.boot_len (aa (aw av (pv 0) ah (fun _ _ => rfl)) af)) ah (aR _)))))
 (ao (aB (aZ (aa (aw av (pv 0) ah (fun _ _ => rfl)) (aa (fi E9 (aw av (pv 0) ah (fun _ _ => rfl)) (d7 ah) o7) af)))))
 aI)
 (ao (aB (aZ (aa (aw av (pv 0) ah (fun _ _ => rfl)) (aa (ax FP (aw av (pv 0) ah (fun _ _ => rfl)) (aZ (aa (pv 1) af))) af))))))), ?_⟩
 refine ⟨_, rfl, _, _, rfl, rfl, (by show (0 : Int) < 2; decide), rfl, _, rfl, jf (fun c => ?_) (fun c => ?_)⟩
 ·exact ⟨_, rfl, _, rfl, t, _, 1, _, rfl, rfl, h1, rfl, (by show 2 ≤ sizeLine; decide), fun p hp => q _ ⟨st, g.as⟩ _ (ag hp _) ⟨p, t2, rfl, aO.of ae, h2.same (ag hp _)⟩ (.inr rfl) (fun a ha => .inl ha) (Nat.le_succ _)⟩
 have hA : ∀ p H', ai H H' → aO K H' p (lj (g.as.map tx) (some 1) none) → ∀ p2, H' p2 = none → Q (.ref p2) (upd H' p2 (.tup [tx g.k, .ref p])) := fun p H' sm hp p2 mI => by
  obtain ⟨ms, em, lm, im⟩ := Jv g.as (some 1) none
  rw [em] at hp
  exact q _ ⟨g.k, ms⟩ _ (ai.trans sm (ag mI _)) ⟨p2, p, rfl, aO.of ae, hp.same (ag mI _)⟩ (.inl rfl) (fun a ha => .inl (im a ha)) (by show ms.length ≤ g.as.length + 1; omega)
 have hB : ∀ p H', ai H H' → aO K H' p ((g.as ++ [st]).map tx) → ∀ p2, H' p2 = none → Q (.ref p2) (upd H' p2 (.tup [tx g.k, .ref p])) := fun p H' sm hp p2 mI => by
  exact q _ ⟨g.k, g.as ++ [st]⟩ _ (ai.trans sm (ag mI _)) ⟨p2, p, rfl, aO.of ae, hp.same (ag mI _)⟩ (.inl rfl) (fun a ha => by rcases List.mem_append.mp ha with z | z; exact .inl z; exact .inr (List.mem_singleton.mp z)) (by show (g.as ++ [st]).length ≤ g.as.length + 1; simp)
 refine ⟨_, rfl, _, _, rfl, rfl, ⟨by decide, by decide⟩, _, _, rfl, rfl, (by show (0 : Int) < 2; decide), rfl, _, rfl, jf (fun c2 => ?_) (fun c2 => ?_)⟩
 ·refine ⟨_, rfl, t, _, 1, _, rfl, rfl, h1, rfl, t2, _, rfl, .inr h2, _, _, rfl, rfl, _, rfl, jf (fun c3 => ?_) (fun c3 => ?_)⟩
  ·refine ⟨_, rfl, t, _, 0, _, rfl, rfl, h1, rfl, _, rfl, t, _, 1, _, rfl, rfl, h1, rfl, ?_⟩
   exact ⟨_, rfl, t2, _, rfl, h2, fun p H' sm hp => ⟨(by show 2 ≤ sizeLine; decide), hA p H' sm hp⟩⟩
  ·refine ⟨_, rfl, t, _, 1, _, rfl, rfl, h1, rfl, t2, _, rfl, .inr h2, rfl, _, rfl, jf (fun c4 => ?_) (fun c4 => ?_)⟩
   ·refine ⟨_, rfl, t, _, 0, _, rfl, rfl, h1, rfl, _, rfl, t, _, 1, _, rfl, rfl, h1, rfl, ?_⟩
    exact ⟨_, rfl, t2, _, rfl, h2, fun p H' sm hp => ⟨(by show 2 ≤ sizeLine; decide), hA p H' sm hp⟩⟩
   ·refine ⟨_, rfl, t, _, 0, _, rfl, rfl, h1, rfl, _, rfl, t, _, 1, _, rfl, rfl, h1, rfl, ?_⟩
    exact ⟨_, rfl, (by show 1 ≤ sizeLine; decide), fun pt JS => ⟨t2, pt, g.as.map tx, [tx st], rfl, rfl, h2.same (ag JS _), aO.of ae, (by rw [Lm9, sizeLine_eq]; show g.as.length + 1 ≤ _; omega), (fun e => ⟨(by show 2 ≤ sizeLine; decide), hB _ _ (ag JS _) (by rw [List.map_append, e]; exact aO.of ae)⟩), (fun _ e => nomatch e), fun _ _ p hp => ⟨(by show 2 ≤ sizeLine; decide), hB _ _ (ai.trans (ag JS _) (ag hp _)) (by rw [List.map_append]; exact aO.of ae)⟩⟩⟩
 ·refine dm ?_
  refine ⟨_, rfl, t, _, 1, _, rfl, rfl, h1, rfl, t2, _, rfl, .inr h2, rfl, _, rfl, jf (fun c4 => ?_) (fun c4 => ?_)⟩
  ·refine ⟨_, rfl, t, _, 0, _, rfl, rfl, h1, rfl, _, rfl, t, _, 1, _, rfl, rfl, h1, rfl, ?_⟩
   exact ⟨_, rfl, t2, _, rfl, h2, fun p H' sm hp => ⟨(by show 2 ≤ sizeLine; decide), hA p H' sm hp⟩⟩
  ·refine ⟨_, rfl, t, _, 0, _, rfl, rfl, h1, rfl, _, rfl, t, _, 1, _, rfl, rfl, h1, rfl, ?_⟩
   exact ⟨_, rfl, (by show 1 ≤ sizeLine; decide), fun pt JS => ⟨t2, pt, g.as.map tx, [tx st], rfl, rfl, h2.same (ag JS _), aO.of ae, (by rw [Lm9, sizeLine_eq]; show g.as.length + 1 ≤ _; omega), (fun e => ⟨(by show 2 ≤ sizeLine; decide), hB _ _ (ag JS _) (by rw [List.map_append, e]; exact aO.of ae)⟩), (fun _ e => nomatch e), fun _ _ p hp => ⟨(by show 2 ≤ sizeLine; decide), hB _ _ (ai.trans (ag JS _) (ag hp _)) (by rw [List.map_append]; exact aO.of ae)⟩⟩⟩
end
end jA
namespace jA
open PySem L2 eF Bk
set_option maxHeartbeats 4000000
section
variable {P : Program} {w : World} {K : PySem.W.Frag} {mg : Str → Option Value} {base : Heap} {f : Addr} {fd : FuncData} {C1 C2 : Addr}
theorem vm {α : Type} {xs : List α} {v : Int} (h : 1 ≤ xs.length) : ∃ (j : Nat) (hj : j < xs.length), wm xs (v % (xs.length : Int)) = some xs[j] := by
 have hp : (0 : Int) < (xs.length : Int) := by omega
 have md := mid (a := v) hp
 refine ⟨(v % (xs.length : Int)).toNat, by omega, ?_⟩
 have z := gR (xs := xs) (j := (v % (xs.length : Int)).toNat) (v := xs[(v % (xs.length : Int)).toNat]'(by omega)) (by rw [Ge9])
 rw [show (((v % (xs.length : Int)).toNat : Nat) : Int) = v % (xs.length : Int) by omega] at z
 exact z
theorem b7 : aF ["_law_kinds_here", "_law_names_here", "_law_cell", "_law_number", "_law_kind", "_law_args", "_law_k"] ["_law_kinds_here", "_law_names_here", "_law_cell"] (au jC) := ⟨rfl, rfl, rfl, by decide +kernel, rfl, by decide +kernel, by decide +kernel⟩
theorem vn (F : cP K "_law_fact" "_law_fact" jC f fd) (bx : dq P w K mg base "_law_mix" 1 ["_law_cell", "_law_k"] tu) (bV : mg "len" = none) (fX : mg "range" = none) (bZ : mg "tuple" = none) : bN P w K mg base ny 2 f fd ["_law_kinds_here", "_law_names_here", "_law_cell"] (pB K) := by
 refine F.ok b7 (fun vs H Q E h => ?_) (fun dn A outer s H vs Q E hr h => ?_)
 ·obtain ⟨lk, ln, c, ks, ns, rfl, _⟩ := h
  rfl
 obtain ⟨lk, ln, c, ks, ns, rfl, ⟨kvs, hk, pk⟩, h4, He, Bn, E4, q⟩ := h
 have zk := Paired.length pk
 have Zv := h4.len
 refine ⟨_, (aj (ar (i := 3) b7.nd rfl (Or.inl rfl) (aq bx (hr.mono (by decide)) rfl (aa (pv 2) (aa ah af))))
 (aj (ar (i := 4) b7.nd rfl (Or.inl rfl) (aw cX (pv 0) (ax bB (pv 3) (aE aN rfl bV PySem.boot_len (aa (pv 0) af))) (fun _ _ => rfl)))
 (aj (ar (i := 3) b7.nd rfl (Or.inl rfl) (ax bW (pv 3) ah))
 (aj (ar (i := 5) b7.nd rfl (Or.inl rfl) (bc af))
 (aj (bM PassesOwn.never rfl (eZ rfl fX (aa (aw av (pv 4) ah (fun _ _ => rfl)) af)) (bf (i := 6) b7.nd rfl (Or.inl rfl))
 (aj (cv (jm PySem.F.plainAttrs_list PySem.F.slot_list_append PySem.F.type_list_append df (pv 5) (aa (aw cX (pv 1) (ax bB (pv 3) (aE aN rfl bV PySem.boot_len (aa (pv 1) af))) (fun _ _ => rfl)) af)))
 (ao (ar (i := 3) b7.nd rfl (Or.inl rfl) (ax fY (ax bW (pv 3) (aE aN rfl bV PySem.boot_len (aa (pv 1) af))) (ax pV ah (pv 6)))))))
 (ao (aB (aZ (aa (aw av (pv 4) ah (fun _ _ => rfl)) (aa (aH bE rfl bZ PyProof.Rows.Boot.«tuple» (aa (pv 5) af)) af)))))))))), ?_⟩
 refine ⟨_, rfl, c, 2, rfl, by decide, by decide, fun v H1 s1 v0 => ?_⟩
 obtain ⟨j, hj, ej⟩ := vm (xs := kvs) (v := v) (by omega)
 refine ⟨_, rfl, _, rfl, _, rfl, lk, _, rfl, .inl (aD.of (s1 _ _ hk)), _, _, rfl, rfl, (by show (0 : Int) < (kvs.length : Int); omega), lk, _, _, _, rfl, rfl, aD.of (s1 _ _ hk), ej, ?_⟩
 have Ss : j < ks.length := by omega
 obtain ⟨tk, et, ht⟩ := paired_at pk j Ss hj
 rw [et]
 have Nd := ht.same s1
 have XO := h4.ok _ (List.getElem_mem Ss)
 refine ⟨_, rfl, _, _, rfl, rfl, ⟨by decide, by decide⟩, ?_⟩
 refine ⟨(by show 0 ≤ sizeLine; decide), fun l hl => ?_⟩
 have s2 : ai H1 (upd H1 l (.lst [])) := ag hl _
 have sA := ai.trans s1 s2
 have Vg : H l = none := s1.free hl
 have XQ := ae (H := H1) (a := l) (o := .lst [])
 refine ⟨_, rfl, tk, _, 1, _, rfl, rfl, Nd.same s2, rfl, ?_⟩
 have Vh := XO.2
 refine ⟨(ks[j].c : Int), rfl, by omega, by omega, ?_⟩
 have en : ((ks[j].c : Nat) : Int).toNat = ks[j].c := Int.toNat_natCast _
 rw [en]
 have XR : upd H1 l (.lst []) ln = some (.lst (ns.map tx)) := sA _ _ He
 refine Bb (lo := 0) (n := ks[j].c) (fun i σ H' => ai H H' ∧ ∃ (as : List Cs) (nn : Int) (o6 : Option V), as.length = i ∧ (∀ a ∈ as, a ∈ ns) ∧ H' l = some (.lst (as.map tx)) ∧ σ = [some (.ref lk), some (.ref ln), some (.int c), some (.int nn), some (.ref tk), some (.ref l), o6]) ⟨sA, [], v / 5, none, rfl, (fun a ha => nomatch ha), XQ, rfl⟩ ?_ ?_
 ·rintro i σ H' hi ⟨sm, as, nn, o6, Su, Sv, hL, rfl⟩
  obtain ⟨j2, Sw, XS⟩ := vm (xs := ns.map tx) (v := nn) (by rw [Lm9]; omega)
  have Sx : ln ≠ l := fun e => by rw [e, Vg] at He; cases He
  have JT : H' ln = some (.lst (ns.map tx)) := sm _ _ He
  have Sy : (0 : Int) < ((ns.map tx).length : Int) := by rw [Lm9]; omega
  have Sz : ((ns.map tx).length : Int) < 2 ^ 30 := by rw [Lm9]; omega
  refine ⟨_, rfl, .inl ⟨rfl, _, aD.of hL⟩, _, rfl, _, rfl, _, rfl, ln, _, rfl, .inl (aD.of JT), _, _, rfl, rfl, Sy, ln, _, _, _, rfl, rfl, aD.of JT, XS, l, _, _, rfl, rfl, hL, (by rw [Lm9, sizeLine_eq]; omega), ?_⟩
  have JU : j2 < ns.length := by simpa using Sw
  refine ⟨_, rfl, _, rfl, ln, _, rfl, .inl (aD.of (by rw [az Sx]; exact JT)), _, _, rfl, rfl, ⟨by omega, by omega⟩, _, rfl, _, _, rfl, rfl, .inl ⟨by decide, by decide⟩, _, _, rfl, rfl, ?_⟩
  refine ⟨ai.aT sm Vg _, as ++ [ns[j2]], _, _, by simp [Su], (fun a ha => ?_), (by rw [ae, List.map_append]; simp), rfl⟩
  rcases List.mem_append.mp ha with z | z
  ·exact Sv a z
  ·rw [List.mem_singleton.mp z]; exact List.getElem_mem JU
 ·rintro σ H' ⟨sm, as, nn, o6, Su, Sv, hL, rfl⟩
  have EN : aO K H' tk [tx ks[j].n, .int ks[j].c, .bl ks[j].l] := ht.same sm
  refine ⟨_, rfl, tk, _, 0, _, rfl, rfl, EN, rfl, _, rfl, l, _, rfl, .inl ⟨aD.of hL, fun p hp => ⟨(by show 2 ≤ sizeLine; decide), fun p2 mI => ?_⟩⟩⟩
  refine q _ ⟨ks[j].n, as⟩ _ (ai.trans sm (ai.trans (ag hp _) (ag mI _))) ⟨p2, p, rfl, aO.of ae, aO.of ?_⟩ ⟨_, List.getElem_mem Ss, rfl, Su⟩ Sv
  rw [az (aY ae mI)]
  exact ae
theorem cq : aF ["_law_cell", "_law_sizes", "_law_titles_here", "_law_number", "_law_rows", "_law_flags"] ["_law_cell", "_law_sizes"] (au ir) := ⟨rfl, rfl, rfl, by decide +kernel, rfl, by decide +kernel, by decide +kernel⟩
theorem se (F : cP K "_law_kinds" "_law_kinds" ir f fd) (bx : dq P w K mg base "_law_mix" 1 ["_law_cell", "_law_k"] tu) (cu : dq P w K mg base "_law_titles" 3 ["_law_cell", "_law_many"] (f9 dW.cps.toList)) (bV : mg "len" = none) (fX : mg "range" = none) : bN P w K mg base ny 4 f fd ["_law_cell", "_law_sizes"] (u7 K) := by
 refine F.ok cq (fun vs H Q E h => ?_) (fun dn A outer s H vs Q E hr h => ?_)
 ·obtain ⟨c, l, ns, rfl, _⟩ := h
  rfl
 obtain ⟨c, l, ns, rfl, hl, Bn, E4, hns, q⟩ := h
 refine ⟨_, (aj (ar (i := 2) cq.nd rfl (Or.inr rfl) (aq cu (hr.mono (by decide)) rfl (aa (pv 0) (aa ah af))))
 (aj (ar (i := 3) cq.nd rfl (Or.inr rfl) (aq bx (hr.mono (by decide)) rfl (aa (pv 0) (aa ah af))))
 (aj (ar (i := 4) cq.nd rfl (Or.inl rfl) (bc (aa (bc (aa bA (aa bA (aa bA (aa bA af))))) (aa (bc (aa bA (aa bA (aa bA (aa bA af))))) af))))
 (aj (ar (i := 4) cq.nd rfl (Or.inl rfl) (ax jn (pv 4) (bc (aa (bc (aa bA (aa bA (aa bA (aa bA af))))) (aa (bc (aa bA (aa bA (aa bA (aa bA af))))) af)))))
 (aj (ar (i := 5) cq.nd rfl (Or.inr rfl) (aw cX (pv 4) (ax bB (pv 3) ah) (fun _ _ => rfl)))
 (ao (aB (bR [2, 1, 3, 5] rfl (by kernel_rfl) (eZ rfl fX (aa ah af)) (fun _ _ _ _ _ => cz) (fun _ _ _ _ _ => (aZ (aa (aw (r := EY K) cX (pv 1) (pv 0) (fun _ _ => rfl)) (aa (aw (r := EY K) cX (pv 2) (ax bB (ax bW (pv 3) (ax fY (ax pV ah (pv 0)) ah)) (aE (yE (K := K) rfl) rfl bV PySem.boot_len (aa (pv 2) af))) (fun _ _ => rfl)) (aa (aw (r := EY K) cX (pv 4) (pv 0) (fun _ _ => rfl)) af))))))))))))), ?_⟩
 refine ⟨_, rfl, c, 4, rfl, by decide, fun lt zs H1 s1 gQ IH XT SA NM => ?_⟩
 refine ⟨_, rfl, c, 1, rfl, by decide, by decide, fun v H2 s2 v0 => ?_⟩
 have z4 : 4 ≤ sizeLine := by decide
 have z2 : 2 ≤ sizeLine := by decide
 refine ⟨z4, fun r1 h1 => ⟨z4, fun r2 h2 => ⟨z2, fun rr XU => ?_⟩⟩⟩
 have e1 := ag h1 (.lst [.bl false, .bl true, .bl false, .bl true])
 have e2 := ag h2 (.lst [.bl true, .bl false, .bl false, .bl true])
 have e3 := ag XU (.lst [.ref r1, .ref r2])
 refine ⟨_, rfl, z4, fun r3 h3 => ⟨z4, fun r4 h4 => ⟨z2, fun rb XW => ?_⟩⟩⟩
 have e4 := ag h3 (.lst [.bl false, .bl false, .bl true, .bl true])
 have e5 := ag h4 (.lst [.bl true, .bl false, .bl true, .bl false])
 have e6 := ag XW (.lst [.ref r3, .ref r4])
 have SD := e6 _ _ (e5 _ _ (e4 _ _ (ae (H := upd (upd H2 r1 (.lst [.bl false, .bl true, .bl false, .bl true])) r2 (.lst [.bl true, .bl false, .bl false, .bl true])) (a := rr) (o := .lst [.ref r1, .ref r2]))))
 refine ⟨rr, rb, _, _, rfl, rfl, SD, ae, z4, fun rc XX => ?_⟩
 have e7 := ag XX (.lst ([.ref r1, .ref r2] ++ [.ref r3, .ref r4]))
 have g1 := e7 _ _ (e6 _ _ (e5 _ _ (e4 _ _ (e3 _ _ (e2 _ _ (ae (H := H2) (a := r1) (o := .lst [.bl false, .bl true, .bl false, .bl true])))))))
 have g2 := e7 _ _ (e6 _ _ (e5 _ _ (e4 _ _ (e3 _ _ (ae (H := upd H2 r1 (.lst [.bl false, .bl true, .bl false, .bl true])) (a := r2) (o := .lst [.bl true, .bl false, .bl false, .bl true]))))))
 have g3 := e7 _ _ (e6 _ _ (e5 _ _ (ae (a := r3) (o := .lst [.bl false, .bl false, .bl true, .bl true]))))
 have g4 := e7 _ _ (e6 _ _ (ae (a := r4) (o := .lst [.bl true, .bl false, .bl true, .bl false])))
 have sC := ai.trans e1 (ai.trans e2 (ai.trans e3 (ai.trans e4 (ai.trans e5 (ai.trans e6 e7)))))
 have Gp := ae (H := upd (upd (upd (upd (upd (upd H2 r1 (.lst [.bl false, .bl true, .bl false, .bl true])) r2 (.lst [.bl true, .bl false, .bl false, .bl true])) rr (.lst [.ref r1, .ref r2])) r3 (.lst [.bl false, .bl false, .bl true, .bl true])) r4 (.lst [.bl true, .bl false, .bl true, .bl false])) rb (.lst [.ref r3, .ref r4])) (a := rc) (o := .lst ([.ref r1, .ref r2] ++ [.ref r3, .ref r4]))
 generalize upd (upd (upd (upd (upd (upd (upd H2 r1 (.lst [.bl false, .bl true, .bl false, .bl true])) r2 (.lst [.bl true, .bl false, .bl false, .bl true])) rr (.lst [.ref r1, .ref r2])) r3 (.lst [.bl false, .bl false, .bl true, .bl true])) r4 (.lst [.bl true, .bl false, .bl true, .bl false])) rb (.lst [.ref r3, .ref r4])) rc (.lst ([.ref r1, .ref r2] ++ [.ref r3, .ref r4])) = H9 at g1 g2 g3 g4 sC Gp ⊢
 have Gp : H9 rc = some (.lst [.ref r1, .ref r2, .ref r3, .ref r4]) := Gp
 obtain ⟨j, hj, ej⟩ := vm (xs := [V.ref r1, .ref r2, .ref r3, .ref r4]) (v := v) (show 1 ≤ 4 by decide)
 have ej : wm [V.ref r1, .ref r2, .ref r3, .ref r4] (v % 4) = _ := ej
 have rR : ∃ (r : Addr) (bs : List Bool), [V.ref r1, .ref r2, .ref r3, .ref r4][j] = .ref r ∧ H9 r = some (.lst (bs.map V.bl)) ∧ bs.length = 4 := by
  match j, hj with
  | 0, _ => exact ⟨r1, [false, true, false, true], rfl, g1, rfl⟩
  | 1, _ => exact ⟨r2, [true, false, false, true], rfl, g2, rfl⟩
  | 2, _ => exact ⟨r3, [false, false, true, true], rfl, g3, rfl⟩
  | 3, _ => exact ⟨r4, [true, false, true, false], rfl, g4, rfl⟩
 obtain ⟨rj, bs, XY, XZ, Uq⟩ := rR
 rw [XY] at ej
 refine ⟨_, rfl, _, rfl, _, _, rfl, rfl, (by show (0 : Int) < 4; decide), rc, _, _, _, rfl, rfl, aD.of Gp, ej, ?_⟩
 have sD := ai.trans s1 (ai.trans s2 sC)
 have SE := sC _ _ (s2 _ _ IH)
 have Vi : aD K H9 l (ns.map V.int) := sD.seq hl
 refine ⟨4, rfl, by decide, by decide, fun D hD => ?_⟩
 refine fj (n := 4) (lo := 0) (by decide) (fun i ys H' => ai H9 H' ∧ H' D = some (.lst ys) ∧ ∃ EE : List Kd, Paired (Kind K H') EE ys ∧ EE.length = i ∧ EE.map (·.n) = zs.take i ∧ ∀ k ∈ EE, k.c ≤ 4) ⟨ag hD _, ae, [], .nil, rfl, rfl, fun k hk => nomatch hk⟩ (fun i ys H' p => ⟨p.2.1, ?_⟩) (fun i ys H' hi p => ?_) (fun ys H' p => ?_)
 ·obtain ⟨_, _, EE, pk, hlen, _⟩ := p
  have := Paired.length pk
  omega
 ·obtain ⟨sm, Im, EE, pk, hlen, EF, Bg⟩ := p
  unfold CH
  simp only [if_true]
  have Vj : i < zs.length := by omega
  have a1 : wm (zs.map tx) (0 + (i : Int)) = some (tx zs[i]) := by rw [Int.zero_add]; exact gR (by rw [List.getElem?_map, Ge9 Vj]; rfl)
  have eU : i < bs.length := by omega
  have a3 : wm (bs.map V.bl) (0 + (i : Int)) = some (V.bl bs[i]) := by rw [Int.zero_add]; exact gR (by rw [List.getElem?_map, Ge9 eU]; rfl)
  obtain ⟨j2, Sw, a2⟩ := vm (xs := ns.map V.int) (v := v / (3 * (0 + (i : Int)) + 5)) (by rw [Lm9]; exact Bn)
  have JU : j2 < ns.length := by simpa using Sw
  have X0 := hns _ (List.getElem_mem JU)
  have e8 : (ns.map V.int)[j2] = V.int ((ns[j2].toNat : Nat) : Int) := by rw [List.getElem_map, Int.toNat_of_nonneg X0.1]
  rw [e8] at a2
  have Sy : (0 : Int) < ((ns.map V.int).length : Int) := by rw [Lm9]; omega
  refine ⟨_, rfl, _, rfl, lt, _, _, _, rfl, rfl, aD.of (sm _ _ SE), a1, _, rfl, _, rfl, _, rfl, _, _, rfl, rfl, .inl ⟨by decide, by decide⟩, _, _, rfl, rfl, _, _, rfl, rfl, ⟨by omega, by omega⟩, _, rfl, l, _, rfl, .inl (sm.seq Vi), _, _, rfl, rfl, Sy, l, _, _, _, rfl, rfl, sm.seq Vi, a2, _, rfl, _, rfl, rj, _, _, _, rfl, rfl, aD.of (sm _ _ XZ), a3, (by show 3 ≤ sizeLine; decide), fun p hp => ?_⟩
  have s8 : ai H' (upd H' p (.tup [tx zs[i], .int ((ns[j2].toNat : Nat) : Int), .bl bs[i]])) := ag hp _
  refine ⟨s8 _ _ Im, ?_, ae, EE ++ [⟨zs[i], ns[j2].toNat, bs[i]⟩], ?_, by simp [hlen], ?_, fun k hk => ?_⟩
  ·exact ai.aT (ai.trans sm s8) hD _
  ·refine bO (ak pk fun k b _ hk => ?_) (.cons ⟨p, rfl, ju (s8 _ _ Im) (aO.of ae)⟩ .nil)
   obtain ⟨t, e, h⟩ := Kind.sm s8 hk
   exact ⟨t, e, ju (s8 _ _ Im) h⟩
  ·rw [List.map_append, EF, List.take_succ_eq_append_getElem Vj]
   rfl
  ·rcases List.mem_append.mp hk with z | z
   ·exact Bg k z
   ·rw [List.mem_singleton.mp z]
    show ns[j2].toNat ≤ 4
    omega
 ·obtain ⟨sm, Im, EE, pk, hlen, EF, Bg⟩ := p
  have hnm' : EE.map (·.n) = zs := by rw [EF, ← XT, List.take_length]
  refine q D EE H' (ai.trans sD sm) (sD.free hD) ⟨ys, Im, pk⟩ ⟨hlen, by rw [hnm']; exact NM, fun k hk => ⟨?_, Bg k hk⟩⟩
  have hm : k.n ∈ zs := by rw [← hnm']; exact List.mem_map.mpr ⟨k, hk, rfl⟩
  exact (SA _ hm).1
end
end jA
namespace jA
open PySem L2 eF Bk
set_option maxHeartbeats 4000000
section
variable {P : Program} {w : World} {K : PySem.W.Frag} {mg : Str → Option Value} {base : Heap} {f : Addr} {fd : FuncData}
theorem ni : aF ["_law_classes", "_law_one"] ["_law_classes"] (au jD) := ⟨rfl, rfl, rfl, by decide +kernel, rfl, by decide +kernel, by decide +kernel⟩
theorem vo (F : cP K "_law_torn" "_law_torn" jD f fd) : bN P w K mg base ny 1 f fd ["_law_classes"] vd := by
 refine F.ok ni (fun vs H Q E h => ?_) (fun dn A outer s H vs Q E hr h => ?_)
 ·obtain ⟨lc, rfl, _⟩ := h
  rfl
 obtain ⟨lc, rfl, hc, q⟩ := h
 refine ⟨_, (aj (bM PassesOwn.never rfl (aM (pv 0)) (bf (i := 1) ni.nd rfl (Or.inl rfl))
 j9)
 (ao (aB bA))), ?_⟩
 refine ⟨_, rfl, lc, rfl, ⟨_, aD.of hc⟩, bt (K := K) (a := lc) (xs := []) (fun i σ H' => H' = H) rfl (fun i σ H' _ e => by rw [e]; exact aD.of hc) (fun i y σ H' hi => by simp at hi) ?_⟩
 rintro σ H' rfl
 exact q
theorem kZ : aF ["_law_classes", "_law_name", "_law_one", "_law_words_here"] ["_law_classes", "_law_name"] (au iy) := ⟨rfl, rfl, rfl, by decide +kernel, rfl, by decide +kernel, by decide +kernel⟩
theorem sf (F : cP K "_law_stand" "_law_stand" iy f fd) : bN P w K mg base ny 1 f fd ["_law_classes", "_law_name"] ng := by
 refine F.ok kZ (fun vs H Q E h => ?_) (fun dn A outer s H vs Q E hr h => ?_)
 ·obtain ⟨lc, n, rfl, _⟩ := h
  rfl
 obtain ⟨lc, n, rfl, hc, q⟩ := h
 refine ⟨_, (aj (bM PassesOwn.never rfl (aM (pv 0)) (bf (i := 2) kZ.nd rfl (Or.inl rfl))
 j9)
 (ao (aB (pv 1)))), ?_⟩
 refine ⟨_, rfl, lc, rfl, ⟨_, aD.of hc⟩, bt (K := K) (a := lc) (xs := []) (fun i σ H' => H' = H ∧ σ[1]? = some (some (tx n))) ⟨rfl, rfl⟩ (fun i σ H' _ e => by rw [e.1]; exact aD.of hc) (fun i y σ H' hi => by simp at hi) ?_⟩
 rintro σ H' ⟨rfl, e⟩
 exact ⟨_, e, q⟩
theorem xy : aF ["_law_classes", "_law_fact_here"] ["_law_classes", "_law_fact_here"] (au lL) := ⟨rfl, rfl, rfl, by decide +kernel, rfl, by decide +kernel, by decide +kernel⟩
theorem xA (F : cP K "_law_now" "_law_now" lL f fd) (cL : dq P w K mg base "_law_stand" 1 ["_law_classes", "_law_name"] ng) (bZ : mg "tuple" = none) : bN P w K mg base ny 2 f fd ["_law_classes", "_law_fact_here"] (y9 K) := by
 refine F.ok xy (fun vs H Q E h => ?_) (fun dn A outer s H vs Q E hr h => ?_)
 ·obtain ⟨lc, v, g, rfl, _⟩ := h
  rfl
 obtain ⟨lc, v, g, rfl, hc, ⟨t, t2, rfl, h1, h2⟩, hlen, q⟩ := h
 refine ⟨_, (ao (aB (aZ (aa (aw av (pv 1) ah (fun _ _ => rfl)) (aa (aH bE rfl bZ PyProof.Rows.Boot.«tuple» (aa (bR [0] rfl (by kernel_rfl) (pR (aw av (pv 1) ah (fun _ _ => rfl))) (fun _ _ _ _ _ => cz) (fun _ _ _ _ _ => (aq cL (hr.mono (by decide)) rfl (aa (pv 1) (aa (pv 0) af))))) af)) af))))), ?_⟩
 refine ⟨_, rfl, t, _, 0, _, rfl, rfl, h1, rfl, ?_⟩
 refine ⟨_, rfl, t, _, 1, _, rfl, rfl, h1, rfl, ?_⟩
 refine ⟨t2, rfl, ⟨_, h2⟩, fun D hD => ?_⟩
 refine tO (K := K) (xs := g.as.map tx) (uH (by rw [Lm9]; omega)) hD h2 id (fun x H' R hx sm hQ => ?_) (fun H1 s1 hL => ?_)
 ·obtain ⟨n, hn, rfl⟩ := List.mem_map.mp hx
  exact ⟨_, rfl, _, rfl, lc, n, rfl, sm _ _ hc, hQ _ (fun _ _ z => z)⟩
 ·rw [List.map_id] at hL
  refine ⟨D, _, rfl, .inl ⟨aD.of hL, fun p hp => ?_⟩⟩
  refine ⟨(by show 2 ≤ sizeLine; decide), fun p2 mI => ?_⟩
  refine q _ _ (ai.trans s1 (ai.trans (ag hp _) (ag mI _))) ⟨p2, p, rfl, aO.of ae, aO.of ?_⟩
  rw [az (aY ae mI)]
  exact ae
end
end jA
namespace jA
open PySem L2 eF Bk
set_option maxHeartbeats 4000000
section
variable {P : Program} {w : World} {K : PySem.W.Frag} {mg : Str → Option Value} {base : Heap} {f : Addr} {fd : FuncData}
theorem cM : aF ["_law_bag", "_law_once", "_law_classes", "_law_known_here", "_law_kept", "_law_fact_here", "_law_now_here", "_law_same", "_law_facts"] ["_law_bag", "_law_once", "_law_classes", "_law_known_here"] (au jE) := ⟨rfl, rfl, rfl, by decide +kernel, rfl, by decide +kernel, by decide +kernel⟩
theorem vp (F : cP K "_law_pool" "_law_pool" jE f fd) (jK : dq P w K mg base "_law_torn" 1 ["_law_classes"] vd) (cL : dq P w K mg base "_law_stand" 1 ["_law_classes", "_law_name"] ng) (iA : dq P w K mg base "_law_now" 2 ["_law_classes", "_law_fact_here"] (y9 K)) (bZ : mg "tuple" = none) (fE : mg "sorted" = none) : bN P w K mg base ny 3 f fd ["_law_bag", "_law_once", "_law_classes", "_law_known_here"] (ve K) := by
 refine F.ok cM (fun vs H Q E h => ?_) (fun dn A outer s H vs Q E hr h => ?_)
 ·obtain ⟨lb, lo, lc, ln, cc, once, nm, rfl, _⟩ := h
  rfl
 obtain ⟨lb, lo, lc, ln, cc, once, nm, rfl, ⟨zD, hb, pb⟩, ⟨JV, ho, po⟩, hc, EF, hok, X1, X2, X3, q⟩ := h
 have zb := Paired.length pb
 have zo := Paired.length po
 refine ⟨_, (aj (bq (eG (aq jK (hr.mono (by decide)) rfl (aa (pv 2) af)))
 (ao (aB (aZ (aa (aZ af) (aa (aZ af) (aa (aZ af) (aa bA af)))))))
 aI)
 (aj (ar (i := 4) cM.nd rfl (Or.inl rfl) (bc af))
 (aj (bM PassesOwn.never rfl (aM (pv 1)) (bf (i := 5) cM.nd rfl (Or.inl rfl))
 (aj (ar (i := 6) cM.nd rfl (Or.inl rfl) (aq iA (hr.mono (by decide)) rfl (aa (pv 2) (aa (pv 5) af))))
 (ao (bq (aC (tQ hr.units) (pv 6) (pv 4) (by with_unfolding_all rfl))
 (ao (cv (jm PySem.F.plainAttrs_list PySem.F.slot_list_append PySem.F.type_list_append df (pv 4) (aa (pv 6) af))))
 aI))))
 (aj (pd (i := 7) [2] cM.nd rfl (Or.inl rfl) rfl (by kernel_rfl) (aM (pv 3)) (fun _ _ _ _ _ => cz) (fun _ _ _ _ _ => (aZ (aa (pv 0) (aa (aq cL (hr.mono (by decide)) rfl (aa (pv 1) (aa (pv 0) af))) af)))))
 (aj (ar (i := 8) cM.nd rfl (Or.inl rfl) (aE (eV hr.units) rfl fE PyProof.Rows.boot_sorted (aa (bR [2] rfl (by kernel_rfl) (aM (pv 0)) (fun _ _ _ _ _ => cz) (fun _ _ _ _ _ => (aq iA (hr.mono (by decide)) rfl (aa (pv 1) (aa (pv 0) af))))) af)))
 (ao (aB (aZ (aa (aH bE rfl bZ PyProof.Rows.Boot.«tuple» (aa (pv 8) af)) (aa (aH bE rfl bZ PyProof.Rows.Boot.«tuple» (aa (aE (eV hr.units) rfl fE PyProof.Rows.boot_sorted (aa (pv 4) af)) af)) (aa (aH bE rfl bZ PyProof.Rows.Boot.«tuple» (aa (aE (eV hr.units) rfl fE PyProof.Rows.boot_sorted (aa (pv 7) af)) af)) (aa bA af)))))))))))), ?_⟩
 refine ⟨_, rfl, lc, rfl, hc, _, rfl, dm ?_⟩
 refine ⟨(by show 0 ≤ sizeLine; decide), fun lk PX => ?_⟩
 refine ⟨_, rfl, lo, rfl, ⟨_, aD.of (ag PX _ _ _ ho)⟩, bt (K := K) (a := lo) (xs := JV) (fun i σ H' => ai H H' ∧ (∃ yk, H' lk = some (.lst yk) ∧ Ts K H' (dd ((once.take i).map fT)) yk) ∧ ∃ o5 o6, σ = [some (.ref lb), some (.ref lo), some (.ref lc), some (.ref ln), some (.ref lk), o5, o6, none, none])
  ⟨ag PX _, ⟨[], ae, rfl, fun i h => by simp [dd] at h⟩, none, none, rfl⟩ (fun i σ H' _ ⟨sm, _⟩ => aD.of (sm _ _ ho)) ?_ ?_⟩
 ·rintro i y σ H' hi ⟨sm, ⟨yk, SF, PY⟩, o5, o6, rfl⟩
  obtain ⟨pJ, ey⟩ := ay hi
  have jG : i < once.length := by omega
  have hFa := Fact.sm sm (paired_at po i jG pJ)
  rw [ey] at hFa
  refine ⟨_, rfl, _, rfl, lc, y, once[i], rfl, sm _ _ hc, hFa, hok _ (List.mem_append.mpr (.inr (List.getElem_mem jG))), fun v' H2 s2 Vk => ?_⟩
  have BZ := s2 _ _ SF
  have Gq := bj s2 PY
  have sB := ai.trans sm s2
  have La : ∀ t ∈ dd ((once.take i).map fT), (∃ q, t = .tup q) ∧ t.toD.deep ≤ 8 := fun u hu => by
   obtain ⟨g, rfl⟩ := tU hu
   exact ⟨⟨_, rfl⟩, by unfold fT; rw [bF]; decide⟩
  refine ⟨_, rfl, _, rfl, lk, yk, _, _, rfl, aD.of BZ, Gq, Fact.BG Vk, (by show (fT once[i]).toD.deep ≤ 8; unfold fT; rw [bF]; decide), La, _, rfl, ?_⟩
  have e2 : dd ((once.take (i + 1)).map fT) = nz (dd ((once.take i).map fT)) (fT once[i]) := by
   rw [List.take_succ_eq_append_getElem jG, List.map_append]
   exact Ju _ _
  show if (!(dd ((once.take i).map fT)).any fun a => eqT a (fT once[i])) = true then _ else _
  cases ha : (dd ((once.take i).map fT)).any fun a => eqT a (fT once[i]) with
  | true =>
   refine dm ⟨sB, ⟨yk, BZ, ?_⟩, _, _, rfl⟩
   rw [e2]
   unfold nz
   rw [if_pos ha]
   exact Gq
  | false =>
   have z1 := lD ((once.take i).map fT) _ (Nat.le_refl _)
   rw [List.take_length, Lm9, List.length_take] at z1
   have z3 := Gq.1
   refine gS ⟨_, rfl, .inl ⟨rfl, _, aD.of BZ⟩, _, rfl, lk, _, _, rfl, rfl, BZ, (by rw [sizeLine_eq]; omega), ?_⟩
   refine ⟨ai.aT sB PX _, ⟨_, ae, ?_⟩, _, _, rfl⟩
   rw [e2]
   unfold nz
   rw [if_neg (by rw [ha]; decide)]
   exact Jt (FT BZ Gq) (Fact.BG (cJ BZ Vk))
 ·rintro σ H' ⟨sm, ⟨yk, SF, PY⟩, o5, o6, rfl⟩
  rw [← zo, List.take_length] at PY
  have Bn := sm _ _ EF
  refine ⟨_, rfl, ln, rfl, ⟨_, aD.of Bn⟩, fun D hD => ?_⟩
  refine gv (K := K) (xs := nm.map tx) nm (fun _ H n y => ∃ t, y = .ref t ∧ aO K H t [tx n, tx n]) (fun _ _ _ _ _ k ⟨t, e, h⟩ => ⟨t, e, aO.keep k h⟩) (fun _ _ _ _ _ _ h => h) (uH (by rw [Lm9]; omega)) hD (aD.of Bn) (by rw [Lm9]) (fun i x b H2 R hx hb' s2 hQ => ?_) (fun H2 yn s2 hL Vl => ?_)
  ·obtain ⟨eU, eb⟩ := ay hb'
   have ex : x = tx b := by
    rw [List.getElem?_map, hb'] at hx
    cases hx
    rfl
   subst ex
   exact ⟨_, rfl, _, rfl, _, rfl, lc, b, rfl, s2 _ _ (sm _ _ hc), (by show 2 ≤ sizeLine; decide), fun p hp => hQ _ _ (ag hp _) ⟨p, rfl, aO.of ae⟩⟩
  have z0 := Paired.length Vl
  have sC := ai.trans sm s2
  have Fy := sC _ _ hb
  have X4 : Paired (Fact K H2) cc zD := ak pb fun _ _ _ => Fact.sm sC
  refine ⟨_, rfl, lb, rfl, ⟨_, aD.of Fy⟩, fun D2 ki => ?_⟩
  refine gv (K := K) (xs := zD) cc (fun _ H f y => Fact K H f y) (fun _ _ _ _ _ k h => Fact.keep k h) (fun _ _ _ _ _ _ h => h) (uH (by omega)) ki (aD.of Fy) zb (fun i x b H3 R hx hb' s3 hQ => ?_) (fun H3 yb s3 PZ Vm => ?_)
  ·obtain ⟨hi, ex⟩ := ay hx
   obtain ⟨eU, eb⟩ := ay hb'
   have hFa := Fact.sm s3 (paired_at X4 i eU hi)
   rw [ex, eb] at hFa
   exact ⟨_, rfl, _, rfl, lc, x, b, rfl, s3 _ _ (sC _ _ hc), hFa, hok _ (List.mem_append.mpr (.inl (by rw [← eb]; exact List.getElem_mem eU))), fun v' H4 s4 hF => hQ _ _ s4 hF⟩
  have allB : ∀ (gs : List Fc), ∀ t ∈ gs.map fT, rD t = 1 ∧ t.toD.deep ≤ 18 := fun gs t ht => by
   obtain ⟨g, _, rfl⟩ := List.mem_map.mp ht
   exact xc g
  have Sf : ∀ (gs : List Fc), ∀ t ∈ gs.map fT, ∀ u ∈ gs.map fT, oz t u = true := fun gs t ht u hu => by
   obtain ⟨g, _, rfl⟩ := List.mem_map.mp ht
   obtain ⟨g2, _, rfl⟩ := List.mem_map.mp hu
   exact AO g g2
  have Zw := Paired.length Vm
  refine ⟨D2, yb, _, 1, rfl, aD.of PZ, gA Vm, (by omega), .inl rfl, allB _, Sf _, fun a0 r0 Sg Sh => ?_⟩
  have Si := ag Sg (.lst r0)
  refine ⟨_, rfl, a0, r0, rfl, .inl ⟨aD.of ae, fun t0 UU => ?_⟩⟩
  have s4 : ai H3 (upd (upd H3 a0 (.lst r0)) t0 (.tup r0)) := ai.trans Si (ag UU _)
  have NN := ae (H := upd H3 a0 (.lst r0)) (a := t0) (o := .tup r0)
  have NO := bj s4 Sh
  generalize upd (upd H3 a0 (.lst r0)) t0 (.tup r0) = H4 at s4 NN NO ⊢
  have sD := ai.trans s2 (ai.trans s3 s4)
  have NP := bj sD PY
  have z3 := lD (once.map fT) _ (Nat.le_refl _)
  rw [List.take_length, Lm9] at z3
  have z5 := NP.1
  refine ⟨_, rfl, lk, yk, _, 1, rfl, aD.of (sD _ _ SF), NP, (by omega), .inl rfl, (fun t ht => by obtain ⟨g, rfl⟩ := tU ht; exact xc g), (fun t ht u hu => by obtain ⟨g, rfl⟩ := tU ht; obtain ⟨g2, rfl⟩ := tU hu; exact AO g g2), fun a1 r1 Lf Lb => ?_⟩
  have Sm := ag Lf (.lst r1)
  refine ⟨a1, r1, rfl, .inl ⟨aD.of ae, fun t1 Nd => ?_⟩⟩
  have s5 : ai H4 (upd (upd H4 a1 (.lst r1)) t1 (.tup r1)) := ai.trans Sm (ag Nd _)
  have NQ := ae (H := upd H4 a1 (.lst r1)) (a := t1) (o := .tup r1)
  have BV := bj s5 Lb
  generalize upd (upd H4 a1 (.lst r1)) t1 (.tup r1) = H5 at s5 NQ BV ⊢
  have sE := ai.trans s3 (ai.trans s4 s5)
  have X5 : Ts K H5 (nm.map pT) yn := by
   refine ⟨by rw [Lm9]; omega, fun i h1 h2 => ?_⟩
   rw [List.getElem_map]
   obtain ⟨t, et, ht⟩ := paired_at Vl i (by simpa using h1) h2
   rw [et]
   show cB K H5 (.tup [.str (S _), .str (S _)]) (.ref t)
   refine .tup (ht.same sE) rfl fun j j1 j2 => ?_
   match j, j1, j2 with
   | 0, _, _ => exact .str _
   | 1, _, _ => exact .str _
  refine ⟨_, rfl, D, yn, _, 1, rfl, aD.of (sE _ _ hL), X5, (by omega), .inl rfl, (fun t ht => by obtain ⟨g, _, rfl⟩ := List.mem_map.mp ht; exact ⟨rfl, by show 1 ≤ 18; decide⟩), (fun t ht u hu => by obtain ⟨g, _, rfl⟩ := List.mem_map.mp ht; obtain ⟨g2, _, rfl⟩ := List.mem_map.mp hu; rfl), fun a2 r2 Lg G0 => ?_⟩
  have X6 := ag Lg (.lst r2)
  refine ⟨a2, r2, rfl, .inl ⟨aD.of ae, fun t2 JJ => ?_⟩⟩
  have s6 : ai H5 (upd (upd H5 a2 (.lst r2)) t2 (.tup r2)) := ai.trans X6 (ag JJ _)
  have NS := ae (H := upd H5 a2 (.lst r2)) (a := t2) (o := .tup r2)
  have hr2' := bj s6 G0
  generalize upd (upd H5 a2 (.lst r2)) t2 (.tup r2) = H6 at s6 NS hr2' ⊢
  refine ⟨(by show 4 ≤ sizeLine; decide), fun p hp => ?_⟩
  have s7 : ai H6 (upd H6 p (.tup [.ref t0, .ref t1, .ref t2, .bl false])) := ag hp _
  exact q _ _ (ai.trans sC (ai.trans sE (ai.trans s6 s7))) ⟨p, t0, t1, t2, r0, r1, r2, rfl, aO.of ae, aO.of (s7 _ _ (s6 _ _ (s5 _ _ NN))), bj (ai.trans s5 (ai.trans s6 s7)) NO, aO.of (s7 _ _ (s6 _ _ NQ)), bj (ai.trans s6 s7) BV, aO.of (s7 _ _ NS), bj s7 hr2'⟩
end
end jA
namespace jA
open PySem L2 eF Bk
set_option maxHeartbeats 4000000
section
variable {P : Program} {w : World} {K : PySem.W.Frag} {mg : Str → Option Value} {base : Heap} {f : Addr} {fd : FuncData} {Cs : Nat → Addr} {CP b1 : Addr}
theorem fm {t : Value} : PySem.W.kitOne K t t = some true := by
 unfold PySem.W.kitOne
 rw [if_pos (beq_self_eq_true t)]
theorem oV : aF ["_law_found", "_law_due"] ["_law_found", "_law_due"] (au fB) := ⟨rfl, rfl, rfl, by decide +kernel, rfl, by decide +kernel, by decide +kernel⟩
theorem oW (F : cP K "_law_is_pool" "_law_is_pool" fB f fd) (bL : mg "isinstance" = none) (bZ : mg "tuple" = none) (JW : mg "bool" = none) (bV : mg "len" = none) : bN P w K mg base ny 1 f fd ["_law_found", "_law_due"] (qG K) := by
 refine F.ok oV (fun vs H Q E h => ?_) (fun dn A outer s H vs Q E hr h => ?_)
 ·obtain ⟨p, u, z0, z1, z2, b, ds, rfl, _⟩ := h
  rfl
 obtain ⟨p, u, z0, z1, z2, b, ds, rfl, hp, d1, d2, EB, q⟩ := h
 refine ⟨_, (aj (bq (PW.pt (Cn (pQ (eG (aE uJ rfl bL PyProof.Rows.boot_isinstance (aa (pv 0) (aa (uq rfl bZ PyProof.Rows.Boot.«tuple» (v := .ty "tuple") rfl) af))))) (Cn (aC GI (aE aN rfl bV PySem.boot_len (aa (pv 0) af)) ah (aR _)) (Cm (pQ (eG (aE wC rfl bL PyProof.Rows.boot_isinstance (aa (aw av (pv 0) ah (fun _ _ => rfl)) (aa (uq rfl JW PyProof.Rows.boot_bool (v := .ty "bool") rfl) af)))))))))
 (ao (aB bA))
 aI)
 (ao (aB (uu (Io hr.units) (pv 0) (pv 1) (aR _))))), ?_⟩
 refine ⟨_, rfl, p, _, "tuple", true, rfl, hp, fm, _, rfl, dm ?_⟩
 refine ⟨_, rfl, p, _, rfl, .inr hp, rfl, _, rfl, ?_⟩
 rw [decide_eq_true (show V.int (([z0, z1, z2, .bl b].length : Nat) : Int) = V.int 4 from rfl)]
 refine dm ?_
 refine ⟨_, rfl, p, _, 3, _, rfl, rfl, hp, rfl, .bl b, "bool", _, true, rfl, .bl _, fm, _, rfl, dm ?_⟩
 refine ⟨_, rfl, _, rfl, _, _, d1, d2, EB, ⟨_, rfl⟩, ⟨_, rfl⟩, ?_⟩
 rw [m7]
 exact q
theorem ud (ks : List Kd) (br : Bool) (bp ts fs : List Fc) : aA ks br bp ts fs ≤ 4 := by
 have key : ∀ gs : List Fc, aL ks gs ≤ 2 := fun gs => by
  induction gs with
  | nil => exact Nat.zero_le _
  | cons g r ih =>
   show (if fault ks g = 0 then aL ks r else fault ks g) ≤ 2
   have := DA ks g
   split <;> omega
 have h1 := key ts
 have h2 := key fs
 unfold aA
 repeat' split
 all_goals omega
theorem bP : aF ["_law_kinds_here", "_law_pool_here", "_law_taken", "_law_put_here", "_law_found", "_law_flags", "e"] ["_law_kinds_here", "_law_pool_here", "_law_taken", "_law_put_here"] (au iz) := ⟨rfl, rfl, rfl, by decide +kernel, rfl, by decide +kernel, by decide +kernel⟩
theorem sg (F : cP K "_law_asked" "_law_asked" iz f fd) (kq : nO P w K mg base "moved" 3 ["kinds", "pool", "taken", "put", "told"] (m9 K Cs b1)) (bL : mg "isinstance" = none) (vq : mg "ValueError" = none) (xB : mg "PoolError" = some (.ref CP)) (qP : mg "NoKind" = some (.ref (Cs 1))) (n0 : mg "BadArgs" = some (.ref (Cs 2))) (og : mg "BadTake" = some (.ref (Cs 3))) (qR : mg "NoFact" = some (.ref (Cs 4)))
  (xP : ∀ n, 1 ≤ n → n ≤ 4 → PySem.W.exmOne K (.ref (Cs n)) (.ref CP) = some true) (Z : ∀ n, 1 ≤ n → n ≤ 4 → PySem.W.ExcKit K (Cs n)) (kI : ∀ n m, 1 ≤ n → n ≤ 4 → 1 ≤ m → m ≤ 4 → PySem.W.kitOne K (.ref (Cs n)) (.ref (Cs m)) = some (n == m)) (kV : ∀ n, 1 ≤ n → n ≤ 4 → PySem.W.kitOne K (.ref (Cs n)) (.type "ValueError") = some true) :
  bN P w K mg base ny 4 f fd ["_law_kinds_here", "_law_pool_here", "_law_taken", "_law_put_here"] (vf K b1) := by
 refine F.ok bP (fun vs H Q E h => ?_) (fun dn A outer s H vs Q E hr h => ?_)
 ·obtain ⟨lk, lf, lt, rE, ks, fs, ts, br, bp, bl, nm, rfl, _⟩ := h
  rfl
 obtain ⟨lk, lf, lt, rE, ks, fs, ts, br, bp, bl, nm, rfl, Li, PL, qS, hsz, EF, hkn, qf, q0⟩ := h
 have h4 := ud ks br bp ts fs
 refine ⟨_, (aj (ar (i := 4) bP.nd rfl (Or.inl rfl) HF)
 (aj (ar (i := 5) bP.nd rfl (Or.inl rfl) (bc af))
 (aj (Iv (fun pn R => (ao (ar (i := 4) bP.nd rfl (Or.inl rfl) (Dz kq (hr.mono (by decide)) rfl (aa (pv 0) (aa (pv 1) (aa (pv 2) (aa (pv 3) (aa (bc af) af))))))))) (MX (i := 6) bP.nd rfl rfl rfl xB (fun a oe cls hc hnc => (aj (ar (i := 5) bP.nd rfl (Or.inl rfl) (bc (aa (aE (id (α := cw _ _ (BI K a cls)) (jv (oe := oe) (List.mem_append_right _ (List.mem_singleton.mpr rfl)) hc hnc)) rfl bL PyProof.Rows.boot_isinstance (aa (pv 6) (aa (gO (v := .ref _) rfl qP rfl) af))) (aa (aE (id (α := cw _ _ (BI K a cls)) (jv (oe := oe) (List.mem_append_right _ (List.mem_singleton.mpr rfl)) hc hnc)) rfl bL PyProof.Rows.boot_isinstance (aa (pv 6) (aa (gO (v := .ref _) rfl n0 rfl) af))) (aa (aE (id (α := cw _ _ (BI K a cls)) (jv (oe := oe) (List.mem_append_right _ (List.mem_singleton.mpr rfl)) hc hnc)) rfl bL PyProof.Rows.boot_isinstance (aa (pv 6) (aa (gO (v := .ref _) rfl og rfl) af))) (aa (aE (id (α := cw _ _ (BI K a cls)) (jv (oe := oe) (List.mem_append_right _ (List.mem_singleton.mpr rfl)) hc hnc)) rfl bL PyProof.Rows.boot_isinstance (aa (pv 6) (aa (gO (v := .ref _) rfl qR rfl) af))) af))))))
 (ao (ar (i := 5) bP.nd rfl (Or.inl rfl) (ax jn (pv 5) (bc (aa (aE (id (α := cw _ _ (BI K a cls)) (jv (oe := oe) (List.mem_append_right _ (List.mem_singleton.mpr rfl)) hc hnc)) rfl bL PyProof.Rows.boot_isinstance (aa (pv 6) (aa (uq rfl vq PyProof.Rows.Boot.«ValueError» (v := .ty "ValueError") rfl) af))) af))))))) Iu))
 (ao (aB (aZ (aa (pv 4) (aa (pv 5) af)))))))), ?_⟩
 refine ⟨(by show 0 ≤ sizeLine; decide), fun l0 AU => ?_⟩
 have s0 := ag AU (.lst [])
 have NT := ae (H := H) (a := l0) (o := .lst [])
 generalize upd H l0 (.lst []) = H0 at s0 NT ⊢
 refine ⟨_, rfl, _, rfl, _, rfl, _, rfl, (by show 0 ≤ sizeLine; decide), fun l1 tf => ?_⟩
 have s1 := ag tf (.lst [])
 have Gh := ae (H := H0) (a := l1) (o := .lst [])
 have sA := ai.trans s0 s1
 have zu := s1 _ _ NT
 generalize upd H0 l1 (.lst []) = H1 at s1 Gh sA zu ⊢
 have X7 : (br = true ∧ JC K H1 rE) ∨ (br = false ∧ gb K H1 rE bp bl nm) := by
  rcases qS with ⟨e, p, z0, z1, z2, ev, hp⟩ | ⟨e, hp⟩
  ·exact .inl ⟨e, p, z0, z1, z2, ev, hp.same sA⟩
  ·exact .inr ⟨e, hp.sm sA⟩
 refine ⟨lk, lf, lt, l1, rE, ks, fs, ts, br, bp, bl, nm, rfl, Li.keep sA, PL.keep sA, Gh, X7, hsz, EF, hkn, fun hn H2 s2 => ?_, fun hn => ⟨fun D0 H2 s2 => ?_, fun D0 left v H2 hc s2 hm => ?_⟩⟩
 ·have g1 : 1 ≤ aA ks br bp ts fs := by omega
  have qf := qf hn
  generalize aA ks br bp ts fs = n at h4 g1 qf ⊢
  refine ⟨true, xP n g1 h4, fun _ e => ?_, fun z => by cases z⟩
  refine ⟨_, rfl, _, .ref (Cs 1), Cs n, _, rfl, .inl ⟨Cs 1, rfl, rfl⟩, rfl, Z n g1 h4, kI n 1 g1 h4 (by decide) (by decide), ?_⟩
  refine ⟨_, rfl, _, .ref (Cs 2), Cs n, _, rfl, .inl ⟨Cs 2, rfl, rfl⟩, rfl, Z n g1 h4, kI n 2 g1 h4 (by decide) (by decide), ?_⟩
  refine ⟨_, rfl, _, .ref (Cs 3), Cs n, _, rfl, .inl ⟨Cs 3, rfl, rfl⟩, rfl, Z n g1 h4, kI n 3 g1 h4 (by decide) (by decide), ?_⟩
  refine ⟨_, rfl, _, .ref (Cs 4), Cs n, _, rfl, .inl ⟨Cs 4, rfl, rfl⟩, rfl, Z n g1 h4, kI n 4 g1 h4 (by decide) (by decide), ?_⟩
  refine ⟨(by show 4 ≤ sizeLine; decide), fun l2 mB => ?_⟩
  have s3 := ag mB (.lst [.bl (n == 1), .bl (n == 2), .bl (n == 3), .bl (n == 4)])
  refine ⟨_, rfl, _, rfl, _, .type "ValueError", Cs n, true, rfl, .inr ⟨_, rfl, rfl⟩, rfl, Z n g1 h4, kV n g1 h4, ?_⟩
  refine ⟨(by show 1 ≤ sizeLine; decide), fun l3 SG => ?_⟩
  have s4 := ag SG (.lst [.bl true])
  refine ⟨l2, l3, _, _, rfl, rfl, s4 _ _ ae, ae, (by show 5 ≤ sizeLine; decide), fun l4 X8 => ?_⟩
  have s5 := ag X8 (.lst [.bl (n == 1), .bl (n == 2), .bl (n == 3), .bl (n == 4), .bl true])
  refine ⟨_, rfl, _, rfl, (by show 2 ≤ sizeLine; decide), fun t ht => ?_⟩
  have s6 := ag ht (.tup [V.bz, V.ref l4])
  exact qf t l4 .bz _ (ai.trans sA (ai.trans s2 (ai.trans s3 (ai.trans s4 (ai.trans s5 s6))))) ae (s6 _ _ ae)
 ·refine ⟨_, rfl, _, rfl, (by show 2 ≤ sizeLine; decide), fun t ht => ?_⟩
  have s6 := ag ht (.tup [V.ref b1, V.ref l0])
  exact q0 hn t l0 _ _ (ai.trans sA (ai.trans s2 s6)) ae (s6 _ _ (s2 _ _ zu)) (fun _ => rfl) fun e => by rw [D0] at e; cases e
 ·refine ⟨_, rfl, _, rfl, (by show 2 ≤ sizeLine; decide), fun t ht => ?_⟩
  have s6 := ag ht (.tup [v, V.ref l0])
  exact q0 hn t l0 _ _ (ai.trans sA (ai.trans s2 s6)) ae (s6 _ _ (s2 _ _ zu)) (fun e => by rw [D0] at e; cases e) fun _ => ⟨left, hc, hm.sm s6⟩
end
end jA
namespace jA
open PySem L2 eF Bk
set_option maxHeartbeats 4000000
section
variable {P : Program} {w : World} {K : PySem.W.Frag} {mg : Str → Option Value} {base : Heap} {f : Addr} {fd : FuncData}
theorem bT : aF ["_law_kinds_here", "_law_broken", "_law_bag", "_law_taken", "_law_put_here", "_law_fact_here", "_law_left"] ["_law_kinds_here", "_law_broken", "_law_bag", "_law_taken", "_law_put_here"] (au eL) := ⟨rfl, rfl, rfl, by decide +kernel, rfl, by decide +kernel, by decide +kernel⟩
theorem oh (F : cP K "_law_fault_of" "_law_fault_of" eL f fd) (b8 : dq P w K mg base "_law_fault" 1 ["_law_kinds_here", "_law_fact_here"] (m4 K)) (cb : dq P w K mg base "_law_lasts" 1 ["_law_kinds_here", "_law_fact_here"] (m5 K)) (cO : mg "list" = none) : bN P w K mg base ny 2 f fd ["_law_kinds_here", "_law_broken", "_law_bag", "_law_taken", "_law_put_here"] (nV K) := by
 refine F.ok bT (fun vs H Q E h => ?_) (fun dn A outer s H vs Q E hr h => ?_)
 ·obtain ⟨lk, lb, lt, lf, br, ks, cc, ts, fs, rfl, _⟩ := h
  rfl
 obtain ⟨lk, lb, lt, lf, br, ks, cc, ts, fs, rfl, Hh, h4, ⟨zD, hb, pb⟩, ⟨pK, ht, pt⟩, ⟨fU, hf, pf⟩, rR, hb1, Nd, Va, q⟩ := h
 have zb := Paired.length pb
 have zt := Paired.length pt
 have zf := Paired.length pf
 refine ⟨_, (aj (bM PassesOwn.never rfl (aM (ax jn (pv 3) (pv 4))) (bf (i := 5) bT.nd rfl (Or.inl rfl))
 (ao (bq (aC mq (aq b8 (hr.mono (by decide)) rfl (aa (pv 0) (aa (pv 5) af))) ah (aR _))
 (ao (aB (aq b8 (hr.mono (by decide)) rfl (aa (pv 0) (aa (pv 5) af)))))
 aI)))
 (aj (bM PassesOwn.never rfl (aM (pv 3)) (bf (i := 5) bT.nd rfl (Or.inl rfl))
 (ao (bq (eG (aq cb (hr.mono (by decide)) rfl (aa (pv 0) (aa (pv 5) af))))
 (ao (aB ah))
 aI)))
 (aj (ar (i := 6) bT.nd rfl (Or.inl rfl) (aH a8 rfl cO PyProof.Rows.Boot.«list» (aa (pv 2) af)))
 (aj (bM PassesOwn.never rfl (aM (pv 3)) (bf (i := 5) bT.nd rfl (Or.inl rfl))
 (aj (bq (PW.pt (pP (aC (tQ hr.units) (pv 5) (pv 6) (by with_unfolding_all rfl)) (ml (pQ (eG (pv 1))))))
 (ao (aB ah))
 aI)
 (ao (bq (pQ (eG (pv 1)))
 (ao (cv (jm PySem.F.plainAttrs_list PySem.F.slot_list_remove PySem.F.type_list_remove (qE hr.units) (pv 6) (aa (pv 5) af))))
 aI))))
 (ao (aB ah)))))), ?_⟩
 refine ⟨_, rfl, _, rfl, lt, lf, _, _, rfl, rfl, ht, hf, (by rw [sizeLine_eq]; omega), fun ls X9 => ?_⟩
 have s1 : ai H (upd H ls (.lst (pK ++ fU))) := ag X9 _
 have JX := ae (H := H) (a := ls) (o := .lst (pK ++ fU))
 have SH : Paired (Fact K (upd H ls (.lst (pK ++ fU)))) (ts ++ fs) (pK ++ fU) := bO (ak pt fun _ _ _ => Fact.sm s1) (ak pf fun _ _ _ => Fact.sm s1)
 generalize upd H ls (.lst (pK ++ fU)) = H1 at s1 JX SH ⊢
 have JY := Hh.sm s1
 have Zx := Paired.length SH
 refine ⟨ls, rfl, ⟨_, aD.of JX⟩, bt (K := K) (a := ls) (xs := pK ++ fU) (fun i σ H' => H' = H1 ∧ aL ks (ts ++ fs) = aL ks ((ts ++ fs).drop i) ∧ ∃ o, σ = [some (.ref lk), some (.bl br), some (.ref lb), some (.ref lt), some (.ref lf), o, none]) ⟨rfl, rfl, none, rfl⟩ (fun i σ H' _ ⟨e, _⟩ => by rw [e]; exact aD.of JX) ?_ ?_⟩
 ·rintro i y σ H' hi ⟨rfl, kj, o, rfl⟩
  obtain ⟨pJ, ey⟩ := ay hi
  have jG : i < (ts ++ fs).length := by omega
  have hFa := paired_at SH i jG pJ
  rw [ey] at hFa
  have hF := rR _ (List.getElem_mem jG)
  rw [oE jG] at kj
  have uL : (ts ++ fs)[i].k.length ≤ 1000 := by have := (cC hF.k).2.1; omega
  have yd : ∀ k ∈ ks, k.n.length ≤ 1000 := fun k hk => by have := (cC (h4.ok k hk).1).2.1; omega
  refine ⟨_, rfl, _, rfl, lk, y, ks, (ts ++ fs)[i], rfl, JY, hFa, uL, yd, ?_⟩
  refine ⟨_, _, rfl, rfl, _, rfl, ?_⟩
  by_cases h0 : fault ks (ts ++ fs)[i] = 0
  ·rw [if_pos h0] at kj
   rw [decide_eq_false (show ¬ (((fault ks (ts ++ fs)[i] : Nat) : Int) > 0) by omega)]
   exact dm ⟨rfl, kj, _, rfl⟩
  ·rw [if_neg h0] at kj
   rw [decide_eq_true (show ((fault ks (ts ++ fs)[i] : Nat) : Int) > 0 by omega)]
   have e5 := vg (ks := ks) (br := br) (bp := cc) (ts := ts) (fs := fs) (by rw [kj]; exact h0)
   rw [e5, kj] at q
   exact gS ⟨_, rfl, _, rfl, lk, y, ks, (ts ++ fs)[i], rfl, JY, hFa, uL, yd, q _ s1⟩
 rintro σ H' ⟨rfl, kj, o, rfl⟩
 rw [List.drop_of_length_le (by omega)] at kj
 have e5 := xn (ks := ks) (br := br) (bp := cc) (ts := ts) (fs := fs) kj
 have JJ := s1 _ _ ht
 have Ya : Paired (Fact K H') ts pK := ak pt fun _ _ _ => Fact.sm s1
 refine ⟨_, rfl, lt, rfl, ⟨_, aD.of JJ⟩, bt (K := K) (a := lt) (xs := pK) (fun i σ H2 => H2 = H' ∧ (ts.take i).any (t7 ks) = false ∧ ∃ o, σ = [some (.ref lk), some (.bl br), some (.ref lb), some (.ref lt), some (.ref lf), o, none]) ⟨rfl, by simp, o, rfl⟩ (fun i σ H2 _ ⟨e, _⟩ => by rw [e]; exact aD.of JJ) ?_ ?_⟩
 ·rintro i y σ H2 hi ⟨rfl, ha, o, rfl⟩
  obtain ⟨pJ, ey⟩ := ay hi
  have jG : i < ts.length := by omega
  have hFa := paired_at Ya i jG pJ
  rw [ey] at hFa
  have hF := rR _ (List.mem_append.mpr (.inl (List.getElem_mem jG)))
  have uL : ts[i].k.length ≤ 1000 := by have := (cC hF.k).2.1; omega
  have yd : ∀ k ∈ ks, k.n.length ≤ 1000 := fun k hk => by have := (cC (h4.ok k hk).1).2.1; omega
  refine ⟨_, rfl, _, rfl, lk, y, ks, ts[i], rfl, JY, h4.nd, hFa, uL, yd, _, rfl, ?_⟩
  cases hl : decide (ts[i].k ∈ dU ks) with
  | true =>
   have e3 : aA ks br cc ts fs = 3 := by rw [e5, if_pos (List.any_eq_true.mpr ⟨_, List.getElem_mem jG, hl⟩)]
   rw [e3] at q
   exact gS (q _ s1)
  | false =>
   refine dm ⟨rfl, ?_, _, rfl⟩
   rw [List.take_succ_eq_append_getElem jG, List.any_append, ha]
   simp only [List.any_cons, List.any_nil, Bool.or_false, Bool.false_or]
   exact hl
 rintro σ H2 ⟨rfl, ha, o2, rfl⟩
 rw [← zt, List.take_length] at ha
 rw [if_neg (by rw [ha]; decide)] at e5
 refine ⟨_, rfl, lb, _, rfl, .inl (aD.of (s1 _ _ hb)), fun l0 AU => ?_⟩
 have DW : H l0 = none := s1.free AU
 refine ⟨_, rfl, lt, rfl, ⟨_, aD.of (ag AU _ _ _ JJ)⟩, bt (K := K) (a := lt) (xs := pK) (fun i σ H' => ai H H' ∧ (∃ (left : List Fc) (ys : List V), H' l0 = some (.lst ys) ∧ Paired (Fact K H) left ys ∧ (br = false → cD cc ts = cD left (ts.drop i))) ∧ ∃ o, σ = [some (.ref lk), some (.bl br), some (.ref lb), some (.ref lt), some (.ref lf), o, some (.ref l0)])
  ⟨ai.trans s1 (ag AU _), ⟨cc, zD, ae, pb, fun _ => rfl⟩, o2, rfl⟩ (fun i σ H' _ ⟨sm, _⟩ => aD.of (sm _ _ ht)) ?_ ?_⟩
 ·rintro i y σ H' hi ⟨sm, ⟨left, ys, hy, pl, lQ⟩, o, rfl⟩
  obtain ⟨pJ, ey⟩ := ay hi
  have jG : i < ts.length := by omega
  have hFa := Fact.sm sm (paired_at pt i jG pJ)
  rw [ey] at hFa
  have Vn : Paired (Fact K H') left ys := ak pl fun _ _ _ => Fact.sm sm
  have EB : ∀ t ∈ left.map fT, (∃ q, t = .tup q) ∧ t.toD.deep ≤ 8 := fun t ht => by
   obtain ⟨g, _, rfl⟩ := List.mem_map.mp ht
   exact ⟨⟨_, rfl⟩, by unfold fT; rw [bF]; decide⟩
  have hdr : ts.drop i = ts[i] :: ts.drop (i + 1) := List.drop_eq_getElem_cons jG
  refine ⟨_, rfl, _, rfl, l0, ys, left.map fT, _, rfl, aD.of hy, gA Vn, Fact.BG hFa, (by show (fT ts[i]).toD.deep ≤ 8; unfold fT; rw [bF]; decide), EB, _, rfl, ?_⟩
  show if (!(left.map fT).any fun a => eqT a (fT ts[i])) = true then _ else _
  rw [JD]
  by_cases hm : ts[i] ∈ left
  ·rw [decide_eq_true hm]
   refine dm ?_
   cases br with
   | true => exact ⟨_, rfl, _, rfl, dm ⟨sm, ⟨left, ys, hy, pl, fun z => by cases z⟩, _, rfl⟩⟩
   | false =>
    obtain ⟨j, hj, j1, j2, j3⟩ := qK left ts[i] hm
    refine ⟨_, rfl, _, rfl, gS ?_⟩
    refine ⟨_, rfl, .inl ⟨rfl, _, aD.of hy⟩, _, rfl, l0, ys, left.map fT, _, fT ts[i], j, rfl, rfl, hy, gA Vn, Fact.BG hFa, (fun t ht => (EB t ht).2), (by rw [Lm9]; exact hj), ?_, fun m SJ => ?_, ?_⟩
    ·rw [List.getElem_map, j1]
     exact er _
    ·rw [List.getElem_map]
     exact g7 fun e => j2 m SJ (vh e)
    ·refine ⟨ai.aT sm DW _, ⟨left.eraseIdx j, _, ae, eW j pl, fun _ => ?_⟩, _, rfl⟩
     rw [lQ rfl, hdr]
     show (if ts[i] ∈ left then cD (left.erase ts[i]) (ts.drop (i + 1)) else none) = _
     rw [if_pos hm, j3]
  ·rw [decide_eq_false hm]
   refine gS ?_
   cases br with
   | true => exact ⟨_, rfl, _, rfl, dm ⟨_, rfl, _, rfl, dm ⟨sm, ⟨left, ys, hy, pl, fun z => by cases z⟩, _, rfl⟩⟩⟩
   | false =>
    have e4 : aA ks false cc ts fs = 4 := by
     rw [e5, if_pos]
     refine ⟨rfl, qI ?_⟩
     rw [lQ rfl, hdr]
     show (if ts[i] ∈ left then cD (left.erase ts[i]) (ts.drop (i + 1)) else none) = _
     rw [if_neg hm]
    rw [e4] at q
    exact ⟨_, rfl, _, rfl, gS (q _ sm)⟩
 ·rintro σ H' ⟨sm, ⟨left, ys, hy, pl, lQ⟩, o, rfl⟩
  have e0 : aA ks br cc ts fs = 0 := by
   rw [e5, if_neg]
   rintro ⟨D0, hs⟩
   have z := lQ D0
   rw [List.drop_of_length_le (by omega)] at z
   rw [zi z] at hs
   cases hs
  rw [e0] at q
  exact q _ sm
end
end jA
namespace jA
open PySem L2 eF Bk
set_option maxHeartbeats 4000000
section
variable {P : Program} {w : World} {K : PySem.W.Frag} {mg : Str → Option Value} {base : Heap} {f : Addr} {fd : FuncData}
theorem di : aF ["_law_kinds_here", "_law_state", "_law_facts", "_law_known_here", "_law_fact_here", "_law_bag", "_law_once"] ["_law_kinds_here", "_law_state", "_law_facts"] (au lM) := ⟨rfl, rfl, rfl, by decide +kernel, rfl, by decide +kernel, by decide +kernel⟩
theorem xC (F : cP K "_law_put" "_law_put" lM f fd) (iB : dq P w K mg base "_law_known" 1 ["_law_known_here", "_law_names_here"] (qA K)) (cb : dq P w K mg base "_law_lasts" 1 ["_law_kinds_here", "_law_fact_here"] (m5 K)) : bN P w K mg base ny 2 f fd ["_law_kinds_here", "_law_state", "_law_facts"] (zd K) := by
 refine F.ok di (fun vs H Q E h => ?_) (fun dn A outer s H vs Q E hr h => ?_)
 ·obtain ⟨lk, lf, v, ks, cc, once, fs, nm, rfl, _⟩ := h
  rfl
 obtain ⟨lk, lf, v, ks, cc, once, fs, nm, rfl, Hh, h4, ⟨t, lb, lo, ln, rfl, hst, ⟨zD, hb, pb⟩, ⟨JV, ho, po⟩, hn⟩, ⟨fU, hf, pf⟩, rR, hb1, C6, Va, Bn, q⟩ := h
 have zb := Paired.length pb
 have zo := Paired.length po
 have zf := Paired.length pf
 refine ⟨_, (aj (ar (i := 3) di.nd rfl (Or.inl rfl) (aw av (pv 1) ah (fun _ _ => rfl)))
 (aj (bM PassesOwn.never rfl (aM (pv 2)) (bf (i := 4) di.nd rfl (Or.inl rfl))
 (ao (ar (i := 3) di.nd rfl (Or.inl rfl) (aq iB (hr.mono (by decide)) rfl (aa (pv 3) (aa (aw av (pv 4) ah (fun _ _ => rfl)) af))))))
 (aj (ar (i := 5) di.nd rfl (Or.inl rfl) (ax jn (aw av (pv 1) ah (fun _ _ => rfl)) (bR [0] rfl (by kernel_rfl) (aM (pv 2)) (fun _ _ _ _ _ => (kh (pQ (eG (aq cb (hr.mono (by decide)) rfl (aa (pv 1) (aa (pv 0) af))))))) (fun _ _ _ _ _ => (pv 0)))))
 (aj (ar (i := 6) di.nd rfl (Or.inl rfl) (ax jn (aw av (pv 1) ah (fun _ _ => rfl)) (bR [0] rfl (by kernel_rfl) (aM (pv 2)) (fun _ _ _ _ _ => (kh (eG (aq cb (hr.mono (by decide)) rfl (aa (pv 1) (aa (pv 0) af)))))) (fun _ _ _ _ _ => (pv 0)))))
 (ao (aB (aZ (aa (pv 5) (aa (pv 6) (aa (pv 3) af)))))))))), ?_⟩
 refine ⟨_, rfl, t, _, 2, _, rfl, rfl, hst, rfl, ?_⟩
 refine ⟨_, rfl, lf, rfl, ⟨_, aD.of hf⟩, bt (K := K) (a := lf) (xs := fU) (fun i σ H' => ai H H' ∧ ∃ (l : Addr) (o : Option V), H' l = some (.lst ((kn nm ((fs.take i).flatMap (·.as))).map tx)) ∧ σ = [some (.ref lk), some (.ref t), some (.ref lf), some (.ref l), o, none, none]) ⟨ai.refl _, ln, none, hn, rfl⟩ (fun i σ H' _ ⟨sm, _⟩ => aD.of (sm _ _ hf)) ?_ ?_⟩
 ·rintro i y σ H' hi ⟨sm, l, o, hl, rfl⟩
  obtain ⟨pJ, ey⟩ := ay hi
  have jG : i < fs.length := by omega
  have hFa := Fact.sm sm (paired_at pf i jG pJ)
  rw [ey] at hFa
  have hF := rR _ (List.getElem_mem jG)
  obtain ⟨t1, t2, et, g1, g2⟩ := hFa
  subst et
  have E4 := nP ((fs.take i).flatMap (·.as)) nm
  have U1 := mZ (fs := fs.take i) fun g hg => (rR g (List.mem_of_mem_take hg)).fs
  rw [List.length_take] at U1
  have Zy := hF.n
  refine ⟨_, rfl, _, rfl, t1, _, 1, _, rfl, rfl, g1, rfl, l, t2, _, fs[i].as, rfl, hl, g2, (by omega), hF.as, fun l2 H2 s2 mB SK => ?_⟩
  refine ⟨ai.trans sm s2, l2, _, ?_, rfl⟩
  rw [tP jG, DC]
  exact SK
 rintro σ H1 ⟨sm, l, o, hl, rfl⟩
 rw [← zf, List.take_length] at hl
 have NU := sm _ _ hf
 have Vo : Paired (Fact K H1) fs fU := ak pf fun _ _ _ => Fact.sm sm
 have uL : ∀ i (h : i < fs.length), fs[i].k.length ≤ 1000 := fun i h => by have := (cC (rR _ (List.getElem_mem h)).k).2.1; omega
 have yd : ∀ k ∈ ks, k.n.length ≤ 1000 := fun k hk => by have := (cC (h4.ok k hk).1).2.1; omega
 refine ⟨_, rfl, t, _, 0, _, rfl, rfl, hst.same sm, rfl, _, rfl, lf, rfl, ⟨_, aD.of NU⟩, fun D hD => ?_⟩
 refine fb (K := K) (xs := fU) fs (fun f => !decide (f.k ∈ dU ks)) id (fun _ H f y => Fact K H f y) (fun _ _ _ _ _ k h => Fact.keep k h) (fun _ _ _ _ _ _ h => h) (uH (by omega)) hD (aD.of NU) zf (fun i x b H' R hx hb' s2 hQ => ?_) (fun i x b H' R hx hb' hk s2 hQ => ?_) (fun H2 GS s2 SK NV => ?_)
 ·obtain ⟨hi, ex⟩ := ay hx
  obtain ⟨eU, eb⟩ := ay hb'
  have hFa := Fact.sm s2 (paired_at Vo i eU hi)
  rw [ex, eb] at hFa
  exact ⟨_, rfl, _, rfl, lk, x, ks, b, rfl, (Hh.sm sm).sm s2, h4.nd, hFa, (by rw [← eb]; exact uL i eU), yd, _, rfl, hQ _ (ai.refl _)⟩
 ·obtain ⟨hi, ex⟩ := ay hx
  obtain ⟨eU, eb⟩ := ay hb'
  have hFa := Fact.sm s2 (paired_at Vo i eU hi)
  rw [ex, eb] at hFa
  exact ⟨_, rfl, hQ _ _ (ai.refl _) hFa⟩
 rw [List.map_id] at NV
 have NV : Paired (Fact K H2) (kz ks fs) GS := NV
 have z2 := Paired.length NV
 have Zz : (kz ks fs).length ≤ fs.length := List.length_filter_le _ _
 have sA := ai.trans sm s2
 refine ⟨lb, D, _, _, rfl, rfl, sA _ _ hb, SK, (by rw [sizeLine_eq]; omega), fun l3 SG => ?_⟩
 have s3 : ai H2 (upd H2 l3 (.lst (zD ++ GS))) := ag SG _
 have NW := ae (H := H2) (a := l3) (o := .lst (zD ++ GS))
 have sB := ai.trans sA s3
 have p3 : Paired (Fact K (upd H2 l3 (.lst (zD ++ GS)))) (cc ++ kz ks fs) (zD ++ GS) := bO (ak pb fun _ _ _ => Fact.sm sB) (ak NV fun _ _ _ => Fact.sm s3)
 generalize upd H2 l3 (.lst (zD ++ GS)) = H3 at s3 NW sB p3 ⊢
 have Vp := sB _ _ hf
 have Vq : Paired (Fact K H3) fs fU := ak pf fun _ _ _ => Fact.sm sB
 refine ⟨_, rfl, t, _, 1, _, rfl, rfl, hst.same sB, rfl, _, rfl, lf, rfl, ⟨_, aD.of Vp⟩, fun D2 ki => ?_⟩
 refine fb (K := K) (xs := fU) fs (fun f => decide (f.k ∈ dU ks)) id (fun _ H f y => Fact K H f y) (fun _ _ _ _ _ k h => Fact.keep k h) (fun _ _ _ _ _ _ h => h) (uH (by omega)) ki (aD.of Vp) zf (fun i x b H' R hx hb' s2 hQ => ?_) (fun i x b H' R hx hb' hk s2 hQ => ?_) (fun H4 Lr s4 Yb NY => ?_)
 ·obtain ⟨hi, ex⟩ := ay hx
  obtain ⟨eU, eb⟩ := ay hb'
  have hFa := Fact.sm s2 (paired_at Vq i eU hi)
  rw [ex, eb] at hFa
  exact ⟨_, rfl, _, rfl, lk, x, ks, b, rfl, (Hh.sm sB).sm s2, h4.nd, hFa, (by rw [← eb]; exact uL i eU), yd, _, rfl, hQ _ (ai.refl _)⟩
 ·obtain ⟨hi, ex⟩ := ay hx
  obtain ⟨eU, eb⟩ := ay hb'
  have hFa := Fact.sm s2 (paired_at Vq i eU hi)
  rw [ex, eb] at hFa
  exact ⟨_, rfl, hQ _ _ (ai.refl _) hFa⟩
 rw [List.map_id] at NY
 have NY : Paired (Fact K H4) (jt ks fs) Lr := NY
 have z4 := Paired.length NY
 have ZA : (jt ks fs).length ≤ fs.length := List.length_filter_le _ _
 have sC := ai.trans sB s4
 refine ⟨lo, D2, _, _, rfl, rfl, sC _ _ ho, Yb, (by rw [sizeLine_eq]; omega), fun l5 Yc => ?_⟩
 have s5 : ai H4 (upd H4 l5 (.lst (JV ++ Lr))) := ag Yc _
 have NZ := ae (H := H4) (a := l5) (o := .lst (JV ++ Lr))
 have sD := ai.trans sC s5
 have p5 : Paired (Fact K (upd H4 l5 (.lst (JV ++ Lr)))) (once ++ jt ks fs) (JV ++ Lr) := bO (ak po fun _ _ _ => Fact.sm sD) (ak NY fun _ _ _ => Fact.sm s5)
 generalize upd H4 l5 (.lst (JV ++ Lr)) = H5 at s5 NZ sD p5 ⊢
 refine ⟨_, rfl, _, rfl, _, rfl, (by show 3 ≤ sizeLine; decide), fun tt SM => ?_⟩
 have s6 := ag SM (.tup [.ref l3, .ref l5, .ref l])
 have SN := ai.trans s4 (ai.trans s5 s6)
 exact q _ _ (ai.trans sD s6) ⟨tt, l3, l5, l, rfl, aO.of ae, ⟨_, SN _ _ NW, ak p3 fun _ _ _ => Fact.sm SN⟩, ⟨_, s6 _ _ NZ, ak p5 fun _ _ _ => Fact.sm s6⟩, (ai.trans s2 (ai.trans s3 SN)) _ _ hl⟩
end
end jA
namespace jA
open PySem L2 eF Bk
set_option maxHeartbeats 4000000
section
variable {P : Program} {w : World} {K : PySem.W.Frag} {mg : Str → Option Value} {base : Heap} {f : Addr} {fd : FuncData}
structure yh (K : PySem.W.Frag) (H H' : Hp) (l0 l1 l2 : Addr) (cc : List Fc) (G : Fc → Prop) (n : Nat) : Prop where
 sm : ai H H'
 lf : ∃ (gs : List Fc) (ys : List V), H' l0 = some (.lst ys) ∧ Paired (Fact K H) gs ys ∧ (∀ g ∈ gs, g ∈ cc) ∧ gs.length ≤ cc.length
 rs : ∃ (ts fs : List Fc) (yt yf : List V), H' l1 = some (.lst yt) ∧ Paired (Fact K H') ts yt ∧ H' l2 = some (.lst yf) ∧ Paired (Fact K H') fs yf ∧ ts.length + fs.length ≤ n ∧ ∀ g ∈ ts ++ fs, g ∈ cc ∨ G g
theorem yh.go {H H' H2 : Hp} {l0 l1 l2 : Addr} {cc : List Fc} {G : Fc → Prop} {n : Nat} (h : yh K H H' l0 l1 l2 cc G n) (s : ai H' H2) : yh K H H2 l0 l1 l2 cc G n := by
 obtain ⟨sm, ⟨gs, ys, a1, a2, a3, a4⟩, ⟨ts, fs, yt, yf, b1, b2, b3, b4, b5, b6⟩⟩ := h
 exact ⟨ai.trans sm s, ⟨gs, ys, s _ _ a1, a2, a3, a4⟩, ts, fs, yt, yf, s _ _ b1, ak b2 fun _ _ _ => Fact.sm s, s _ _ b3, ak b4 fun _ _ _ => Fact.sm s, b5, b6⟩
theorem yh.more {H H' : Hp} {l0 l1 l2 : Addr} {cc : List Fc} {G : Fc → Prop} {n : Nat} (h : yh K H H' l0 l1 l2 cc G n) : yh K H H' l0 l1 l2 cc G (n + 1) := by
 obtain ⟨sm, a, ts, fs, yt, yf, b1, b2, b3, b4, b5, b6⟩ := h
 exact ⟨sm, a, ts, fs, yt, yf, b1, b2, b3, b4, by omega, b6⟩
theorem yh.N1 {H H' : Hp} {l0 l1 l2 : Addr} {cc : List Fc} {G : Fc → Prop} {n : Nat} (h : yh K H H' l0 l1 l2 cc G n) (e1 : H l1 = none) (n1 : l0 ≠ l1) (n2 : l1 ≠ l2) {g : Fc} {v : V} (hF : Fact K H' g v) (hg : g ∈ cc ∨ G g) {yt : List V} (hy : H' l1 = some (.lst yt)) : yh K H (upd H' l1 (.lst (yt ++ [v]))) l0 l1 l2 cc G (n + 1) := by
 obtain ⟨sm, ⟨gs, ys, a1, a2, a3, a4⟩, ⟨ts, fs, ZC, yf, b1, b2, b3, b4, b5, b6⟩⟩ := h
 rw [hy] at b1
 cases b1
 refine ⟨ai.aT sm e1 _, ⟨gs, ys, by rw [az n1]; exact a1, a2, a3, a4⟩, ts ++ [g], fs, _, yf, ae, bO (ak b2 fun _ _ _ => cJ hy) (.cons (cJ hy hF) .nil), by rw [az (Ne.symm n2)]; exact b3, ak b4 fun _ _ _ => cJ hy, by rw [List.length_append]; simp; omega, fun x hx => ?_⟩
 rw [List.append_assoc] at hx
 rcases List.mem_append.mp hx with z | z
 ·exact b6 x (List.mem_append.mpr (.inl z))
 ·rcases List.mem_cons.mp z with z | z
  ·rw [z]; exact hg
  ·exact b6 x (List.mem_append.mpr (.inr z))
theorem yh.put2 {H H' : Hp} {l0 l1 l2 : Addr} {cc : List Fc} {G : Fc → Prop} {n : Nat} (h : yh K H H' l0 l1 l2 cc G n) (e2 : H l2 = none) (n1 : l0 ≠ l2) (n2 : l1 ≠ l2) {g : Fc} {v : V} (hF : Fact K H' g v) (hg : g ∈ cc ∨ G g) {yf : List V} (hy : H' l2 = some (.lst yf)) : yh K H (upd H' l2 (.lst (yf ++ [v]))) l0 l1 l2 cc G (n + 1) := by
 obtain ⟨sm, ⟨gs, ys, a1, a2, a3, a4⟩, ⟨ts, fs, yt, ZD, b1, b2, b3, b4, b5, b6⟩⟩ := h
 rw [hy] at b3
 cases b3
 refine ⟨ai.aT sm e2 _, ⟨gs, ys, by rw [az n1]; exact a1, a2, a3, a4⟩, ts, fs ++ [g], yt, _, by rw [az n2]; exact b1, ak b2 fun _ _ _ => cJ hy, ae, bO (ak b4 fun _ _ _ => cJ hy) (.cons (cJ hy hF) .nil), by rw [List.length_append]; simp; omega, fun x hx => ?_⟩
 rw [← List.append_assoc] at hx
 rcases List.mem_append.mp hx with z | z
 ·exact b6 x z
 ·rw [List.mem_singleton.mp z]; exact hg
theorem JZ {i : Int} {n : Nat} (h0 : 0 ≤ i) (h1 : i < n) : seqIndex? i n = some i.toNat := by
 have e : (if i < 0 then i + (n : Int) else i) = i := if_neg (by omega)
 unfold seqIndex?
 simp only [e]
 rw [if_pos]
 rw [Bool.and_eq_true]
 exact ⟨decide_eq_true h0, decide_eq_true h1⟩
theorem ba : aF ["_law_kinds_here", "_law_names_here", "_law_stranger", "_law_way", "_law_bag", "_law_cells", "_law_left", "_law_taken", "_law_put_here", "_law_cell", "_law_number", "_law_fact_here"] ["_law_kinds_here", "_law_names_here", "_law_stranger", "_law_way", "_law_bag", "_law_cells"] (au fC) := ⟨rfl, rfl, rfl, by decide +kernel, rfl, by decide +kernel, by decide +kernel⟩
theorem oX (F : cP K "_law_changes" "_law_changes" fC f fd) (bx : dq P w K mg base "_law_mix" 1 ["_law_cell", "_law_k"] tu) (dj : dq P w K mg base "_law_fact" 2 ["_law_kinds_here", "_law_names_here", "_law_cell"] (pB K)) (lR : dq P w K mg base "_law_odd" 1 ["_law_fact_here", "_law_stranger", "_law_number"] (DE K)) (cO : mg "list" = none) (bV : mg "len" = none) : bN P w K mg base ny 3 f fd ["_law_kinds_here", "_law_names_here", "_law_stranger", "_law_way", "_law_bag", "_law_cells"] (nW K) := by
 refine F.ok ba (fun vs H Q E h => ?_) (fun dn A outer s H vs Q E hr h => ?_)
 ·obtain ⟨lk, ln, lb, lc, ks, ns, st, way, cc, cs, rfl, _⟩ := h
  rfl
 obtain ⟨lk, ln, lb, lc, ks, ns, st, way, cc, cs, rfl, Hh, h4, hn, Bn, E4, ⟨zD, hb, pb⟩, hb1, Bg, MA, q⟩ := h
 have zb := Paired.length pb
 refine ⟨_, (aj (ar (i := 6) ba.nd rfl (Or.inl rfl) (aH a8 rfl cO PyProof.Rows.Boot.«list» (aa (pv 4) af)))
 (aj (ar (i := 7) ba.nd rfl (Or.inl rfl) (bc af))
 (aj (ar (i := 8) ba.nd rfl (Or.inl rfl) (bc af))
 (aj (bM PassesOwn.never rfl (aM (pv 5)) (bf (i := 9) ba.nd rfl (Or.inl rfl))
 (aj (ar (i := 10) ba.nd rfl (Or.inl rfl) (aq bx (hr.mono (by decide)) rfl (aa (pv 9) (aa ah af))))
 (aj (ar (i := 11) ba.nd rfl (Or.inl rfl) (aq dj (hr.mono (by decide)) rfl (aa (pv 0) (aa (pv 1) (aa (pv 9) af)))))
 (aj (bq (PW.pt (pP (aC mq (pv 3) ah (aR _)) (ml (aC eR (ax bB (pv 10) ah) ah (aR _)))))
 (ao (ar (i := 11) ba.nd rfl (Or.inl rfl) (aq lR (hr.mono (by decide)) rfl (aa (pv 11) (aa (pv 2) (aa (ax bW (pv 10) ah) af))))))
 aI)
 (ao (bq (aC eR (ax bB (ax bW (pv 10) ah) ah) ah (aR _))
 (ao (cv (jm PySem.F.plainAttrs_list PySem.F.slot_list_append PySem.F.type_list_append df (pv 8) (aa (pv 11) af))))
 (ao (bq (PW.pt (pP (aC mq (pv 3) ah (aR _)) (ml (aC eR (ax bB (ax bW (pv 10) ah) ah) ah (aR _)))))
 (ao (cv (jm PySem.F.plainAttrs_list PySem.F.slot_list_append PySem.F.type_list_append df (pv 7) (aa (pv 11) af))))
 (ao (bq (aC mq (aE aN rfl bV PySem.boot_len (aa (pv 6) af)) ah (aR _))
 (ao (cv (jm PySem.F.plainAttrs_list PySem.F.slot_list_append PySem.F.type_list_append df (pv 7) (aa (jm PySem.F.plainAttrs_list PySem.F.slot_list_pop PySem.F.type_list_pop CC (pv 6) (aa (ax bB (ax bW (pv 10) ah) (aE aN rfl bV PySem.boot_len (aa (pv 6) af))) af)) af))))
 aI))))))))))
 (ao (aB (aZ (aa (pv 7) (aa (pv 8) af))))))))), ?_⟩
 refine ⟨_, rfl, lb, _, rfl, .inl (aD.of hb), fun l0 AU => ?_⟩
 have s0 := ag AU (.lst zD)
 refine ⟨(by show 0 ≤ sizeLine; decide), fun l1 tf => ?_⟩
 have s1 := ag tf (.lst [])
 refine ⟨(by show 0 ≤ sizeLine; decide), fun l2 mB => ?_⟩
 have s2 := ag mB (.lst [])
 have P0 : l0 ≠ l1 := fun e => by rw [← e, ae] at tf; cases tf
 have Vr : l0 ≠ l2 := fun e => by rw [← e, s1 _ _ ae] at mB; cases mB
 have SO : l1 ≠ l2 := fun e => by rw [← e, ae] at mB; cases mB
 have e1 : H l1 = none := s0.free tf
 have e2 : H l2 = none := (ai.trans s0 s1).free mB
 have c0 : yh K H (upd (upd (upd H l0 (.lst zD)) l1 (.lst [])) l2 (.lst [])) l0 l1 l2 cc (fun g => ((∃ k ∈ ks, g.k = k.n) ∨ g.k = st) ∧ (∀ a ∈ g.as, a ∈ ns ∨ a = st) ∧ g.as.length ≤ 5) 0 := ⟨ai.trans s0 (ai.trans s1 s2), ⟨cc, zD, s2 _ _ (s1 _ _ ae), pb, fun _ h => h, Nat.le_refl _⟩, [], [], [], [], s2 _ _ ae, .nil, ae, .nil, Nat.le_refl _, fun g hg => nomatch hg⟩
 generalize hG : (fun g : Fc => ((∃ k ∈ ks, g.k = k.n) ∨ g.k = st) ∧ (∀ a ∈ g.as, a ∈ ns ∨ a = st) ∧ g.as.length ≤ 5) = G at c0
 generalize upd (upd (upd H l0 (.lst zD)) l1 (.lst [])) l2 (.lst []) = H3 at c0 ⊢
 have SQ := c0.sm _ _ Bg
 refine ⟨_, rfl, lc, rfl, ⟨_, aD.of SQ⟩, bt (K := K) (a := lc) (xs := cs.map V.int) (fun i σ H' => yh K H H' l0 l1 l2 cc G i ∧ ∃ o9 SR SS, σ = [some (.ref lk), some (.ref ln), some (tx st), some (.int way), some (.ref lb), some (.ref lc), some (.ref l0), some (.ref l1), some (.ref l2), o9, SR, SS]) ⟨c0, none, none, none, rfl⟩ (fun i σ H' _ ⟨c, _⟩ => aD.of (c.sm _ _ Bg)) ?_ ?_⟩
 ·rintro i y σ H' hi ⟨ch, o9, SR, SS, rfl⟩
  obtain ⟨pJ, ey⟩ := ay hi
  rw [List.getElem_map] at ey
  subst ey
  refine ⟨_, rfl, _, 6, rfl, by decide, by decide, fun m H4 s4 m0 => ?_⟩
  have SU := ch.go s4
  refine ⟨_, rfl, _, rfl, _, rfl, lk, ln, _, ks, ns, rfl, Hh.sm SU.sm, h4, SU.sm _ _ hn, Bn, E4, fun v g H5 s5 hF hk ha => ?_⟩
  have Vs := SU.go s5
  obtain ⟨k, uL, yd, EC⟩ := hk
  have Ld := h4.ok k uL
  refine m6 ?_
  dsimp only
  refine pC (Good := fun σ' H' => yh K H H' l0 l1 l2 cc G i ∧ ∃ v' g', Fact K H' g' v' ∧ G g' ∧ σ' = [some (.ref lk), some (.ref ln), some (tx st), some (.int way), some (.ref lb), some (.ref lc), some (.ref l0), some (.ref l1), some (.ref l2), some (.int (cs[i]'(by simpa using pJ))), some (.int m), some v']) (fun fin => ?_) (fun σ' H6 hg => ?_)
  ·have Yd : G g := by
    rw [← hG]
    exact ⟨.inl ⟨k, uL, yd⟩, fun a h => .inl (ha a h), by rw [EC]; have := Ld.2; omega⟩
   have N2 := fin _ H5 ⟨Vs, v, g, hF, Yd, rfl⟩
   refine ⟨_, rfl, _, _, rfl, rfl, _, rfl, jf (fun _ => ?_) (fun _ => N2)⟩
   refine ⟨_, rfl, _, _, rfl, rfl, (by show (0 : Int) < 7; decide), rfl, _, rfl, jf (fun _ => ?_) (fun _ => N2)⟩
   refine ⟨_, rfl, _, rfl, _, rfl, _, _, rfl, rfl, ⟨by decide, by decide⟩, v, g, st, _, rfl, hF, (by rw [EC]; have := Ld.2; omega), fun v' g' H6 s6 hF' hk' ha' hl' => ?_⟩
   refine fin _ H6 ⟨Vs.go s6, v', g', hF', ?_, rfl⟩
   rw [← hG]
   refine ⟨?_, fun a h => ?_, by rw [EC] at hl'; have := Ld.2; omega⟩
   ·rcases hk' with e | e
    ·exact .inl ⟨k, uL, by rw [e]; exact yd⟩
    ·exact .inr e
   ·rcases ha' a h with e | e
    ·exact .inl (ha a e)
    ·exact .inr e
  obtain ⟨N3, v', g', hF', hG', rfl⟩ := hg
  obtain ⟨_, ⟨gs, ys, a1, a2, a3, a4⟩, ts, fs, yt, yf, b1, b2, b3, b4, b5, b6⟩ := id N3
  have ZE : i < cs.length := by simpa using pJ
  have zt := Paired.length b2
  have zf := Paired.length b4
  have zg := Paired.length a2
  refine ⟨_, rfl, _, _, rfl, rfl, ⟨by decide, by decide⟩, _, _, rfl, rfl, (by show (0 : Int) < 2; decide), rfl, _, rfl, jf (fun _ => ?_) (fun _ => ?_)⟩
  ·exact ⟨_, rfl, .inl ⟨rfl, _, aD.of b3⟩, _, rfl, l2, _, _, rfl, rfl, b3, (by rw [sizeLine_eq]; omega), N3.put2 e2 Vr SO hF' (.inr hG') b3, _, _, _, rfl⟩
  refine (fun SV => ⟨_, rfl, _, _, rfl, rfl, _, rfl, jf (fun _ => ⟨_, rfl, _, _, rfl, rfl, ⟨by decide, by decide⟩, _, _, rfl, rfl, (by show (0 : Int) < 4; decide), rfl, _, rfl, jf (fun _ => ?tk) (fun _ => SV)⟩) (fun _ => SV)⟩) ?SV
  case tk => exact ⟨_, rfl, .inl ⟨rfl, _, aD.of b1⟩, _, rfl, l1, _, _, rfl, rfl, b1, (by rw [sizeLine_eq]; omega), N3.N1 e1 P0 SO hF' (.inr hG') b1, _, _, _, rfl⟩
  refine ⟨_, rfl, l0, _, rfl, .inl (aD.of a1), _, _, rfl, rfl, _, rfl, jf (fun h => ?_) (fun h => ⟨N3.more, _, _, _, rfl⟩)⟩
  have RW : 0 < ys.length := by simpa using h
  refine ⟨_, rfl, .inl ⟨rfl, _, aD.of b1⟩, _, rfl, .inl ⟨rfl, _, aD.of a1⟩, _, rfl, _, _, rfl, rfl, ⟨by decide, by decide⟩, _, rfl, l0, _, rfl, .inl (aD.of a1), _, _, rfl, rfl, (by omega), ?_⟩
  have md := mid (a := m / 98) (b := (ys.length : Int)) (by omega)
  have hk : (m / 98 % (ys.length : Int)).toNat < ys.length := by omega
  have Cc : ys.length ≤ 64 := by omega
  refine ⟨l0, ys, m / 98 % (ys.length : Int), (m / 98 % (ys.length : Int)).toNat, ys[(m / 98 % (ys.length : Int)).toNat], rfl, rfl, a1, (by omega), (by omega), ?_, Ge9 hk, ?_⟩
  ·exact JZ md.1 md.2
  generalize (m / 98 % (ys.length : Int)).toNat = jx at hk ⊢
  have Vt : jx < gs.length := by omega
  have Ye : Fact K H gs[jx] ys[jx] := paired_at a2 jx Vt hk
  have Yf := N3.sm
  have DW : H l0 = none := AU
  have Vu : yh K H (upd H6 l0 (.lst (ys.eraseIdx jx))) l0 l1 l2 cc G i := by
   refine ⟨ai.aT Yf DW _, ⟨gs.eraseIdx jx, _, ae, eW jx a2, fun x hx => a3 x (List.mem_of_mem_eraseIdx hx), by have := kd gs jx; omega⟩, ts, fs, yt, yf, by rw [az (Ne.symm P0)]; exact b1, ak b2 fun _ _ _ => cJ a1, by rw [az (Ne.symm Vr)]; exact b3, ak b4 fun _ _ _ => cJ a1, b5, b6⟩
  have Vv : upd H6 l0 (.lst (ys.eraseIdx jx)) l1 = some (.lst yt) := by rw [az (Ne.symm P0)]; exact b1
  exact ⟨l1, _, _, rfl, rfl, Vv, (by rw [sizeLine_eq]; omega), Vu.N1 e1 P0 SO (Fact.sm Vu.sm Ye) (.inl (a3 _ (List.getElem_mem Vt))) Vv, _, _, _, rfl⟩
 ·rintro σ H' ⟨ch, o9, SR, SS, rfl⟩
  obtain ⟨sm, _, ts, fs, yt, yf, b1, b2, b3, b4, b5, b6⟩ := ch
  refine ⟨_, rfl, _, rfl, (by show 2 ≤ sizeLine; decide), fun t ht => ?_⟩
  have s6 := ag ht (.tup [.ref l1, .ref l2])
  rw [Lm9] at b5
  rw [← hG] at b6
  exact q t l1 l2 ts fs _ (ai.trans sm s6) ae ⟨yt, s6 _ _ b1, ak b2 fun _ _ _ => Fact.sm s6⟩ ⟨yf, s6 _ _ b3, ak b4 fun _ _ _ => Fact.sm s6⟩ b5 b6
end
end jA
namespace jA
open PySem L2 eF Bk
set_option maxHeartbeats 4000000
section
variable {P : Program} {w : World} {K : PySem.W.Frag} {mg : Str → Option Value} {base : Heap} {f : Addr} {fd : FuncData} {b1 d0 d1 d2 : Addr}
theorem bH : aF ["_law_script", "_law_head", "_law_kinds_here", "_law_names_here", "_law_way", "_law_cut", "_law_first", "_law_state", "_law_rows", "_law_pool_here", "_law_handed", "_law_told", "_law_fault_here", "_law_taken", "_law_put_here", "_law_due", "_law_bag", "_law_fact_here"] ["_law_script"] (au nh) := ⟨rfl, rfl, rfl, by decide +kernel, rfl, by decide +kernel, by decide +kernel⟩
theorem J0 (F : cP K "law" "law" nh f fd) (bI : dq P w K mg base "_law_cell_at" 1 ["_law_script", "_law_k"] (yI K)) (iC : dq P w K mg base "_law_kinds" 4 ["_law_cell", "_law_sizes"] (u7 K)) (cu : dq P w K mg base "_law_titles" 3 ["_law_cell", "_law_many"] (f9 dW.cps.toList)) (iD : dq P w K mg base "_law_opens" 3 ["_law_cell", "_law_many"] (f9 cZ.cps.toList)) (iE : dq P w K mg base "_law_words" 3 ["_law_cell", "_law_many"] (f9 GR.cps.toList))
  (dj : dq P w K mg base "_law_fact" 2 ["_law_kinds_here", "_law_names_here", "_law_cell"] (pB K)) (iF : dq P w K mg base "_law_put" 2 ["_law_kinds_here", "_law_state", "_law_facts"] (zd K)) (fF : dq P w K mg base "_law_changes" 3 ["_law_kinds_here", "_law_names_here", "_law_stranger", "_law_way", "_law_bag", "_law_cells"] (nW K)) (iG : nO P w K mg base "start_pool" 4 ["kinds", "facts"] (qH K)) (eX : dq P w K mg base "_law_asked" 4 ["_law_kinds_here", "_law_pool_here", "_law_taken", "_law_put_here"] (vf K b1))
  (b8 : dq P w K mg base "_law_fault" 1 ["_law_kinds_here", "_law_fact_here"] (m4 K)) (eM : dq P w K mg base "_law_fault_of" 2 ["_law_kinds_here", "_law_broken", "_law_bag", "_law_taken", "_law_put_here"] (nV K)) (dw : dq P w K mg base "_law_is_pool" 1 ["_law_found", "_law_due"] (qG K)) (jL : dq P w K mg base "_law_pool" 3 ["_law_bag", "_law_once", "_law_classes", "_law_known_here"] (ve K))
  (hb1 : ∀ H, aO K H b1 [.ref d0, .ref d1, .ref d2, .bl true]) (hd0 : ∀ H, aO K H d0 []) (C8 : ∀ H, aO K H d1 []) (hd2 : ∀ H, aO K H d2 []) (cO : mg "list" = none) : bN P w K mg base (wF P w) 5 f fd ["_law_script"] (Ay K) := by
 refine F.K2 bH (fun vs H Q E h => ?_) (fun dn A outer s H vs Q E hr h => ?_)
 ·obtain ⟨a, ns, rfl, _⟩ := h
  rfl
 obtain ⟨a, ns, rfl, hS, hn, q⟩ := h
 refine ⟨_, (@aj _ _ _ _ _ (ar (i := 1) bH.nd rfl (Or.inl rfl) (aq bI (hr.mono (by decide)) rfl (aa (pv 0) (aa ah af)))) (@aj _ _ _ _ _ (ar (i := 2) bH.nd rfl (Or.inr rfl) (aq iC (hr.mono (by decide)) rfl (aa (pv 1) (aa (bc (aa ah (aa ah (aa ah (aa ah (aa ah (aa ah af))))))) af)))) (@aj _ _ _ _ _ (ar (i := 3) bH.nd rfl (Or.inr rfl) (ax jn (aq iD (hr.mono (by decide)) rfl (aa (aq bI (hr.mono (by decide)) rfl (aa (pv 0) (aa ah af))) (aa ah af))) (aq iE (hr.mono (by decide)) rfl (aa (aq bI (hr.mono (by decide)) rfl (aa (pv 0) (aa ah af))) (aa ah af))))) (@aj _ _ _ _ _ (ar (i := 4) bH.nd rfl (Or.inl rfl) (ax bB (aq bI (hr.mono (by decide)) rfl (aa (pv 0) (aa ah af))) ah)) (@aj _ _ _ _ _ (ar (i := 5) bH.nd rfl (Or.inl rfl) (ax fY ah (ax bB (ax bW (aq bI (hr.mono (by decide)) rfl (aa (pv 0) (aa ah af))) ah) ah))) (@aj _ _ _ _ _ (pd (i := 6) [2, 3] bH.nd rfl (Or.inl rfl) rfl (by kernel_rfl) (aM (fi Ah (pv 0) (d7 ah) (d7 (pv 5)))) (fun _ _ _ _ _ => cz) (fun _ _ _ _ _ => (aq dj (hr.mono (by decide)) rfl (aa (pv 1) (aa (pv 2) (aa (pv 0) af)))))) (@aj _ _ _ _ _ (ar (i := 7) bH.nd rfl (Or.inl rfl) (aq iF (hr.mono (by decide)) rfl (aa (pv 2) (aa (aZ (aa (bc af) (aa (bc af) (aa (bc af) af)))) (aa (pv 6) af))))) (@aj _ _ _ _ _ (ar (i := 8) bH.nd rfl (Or.inl rfl) (aq fF (hr.mono (by decide)) rfl (aa (pv 2) (aa (pv 3) (aa (aw cX (aq cu (hr.mono (by decide)) rfl (aa (pv 1) (aa ah af))) ah (fun _ _ => rfl)) (aa (pv 4) (aa (aw av (pv 7) ah (fun _ _ => rfl)) (aa (fi Ah (pv 0) (d7 (pv 5)) (d7 ah)) af)))))))) (@aj _ _ _ _ _ (ar (i := 9) bH.nd rfl (Or.inl rfl) (gz iG (hr.mono (by decide)) rfl (aa (pv 2) (aa (pv 6) af)))) (@aj _ _ _ _ _ (bq (aC eR (pv 4) ah (aR _))
 (ao (ar (i := 9) bH.nd rfl (Or.inl rfl) (aZ (aa (aZ af) (aa (aZ af) (aa (aZ af) (aa bA af)))))))
 aI) (@aj _ _ _ _ _ (@ar _ _ 10 _ _ _ _ bH.nd rfl (Or.inl rfl) (@bc _ _ _ _ (@aa _ _ _ _ _ (aH a8 rfl cO PyProof.Rows.Boot.«list» (aa (pv 2) af)) (@aa _ _ _ _ _ (aH a8 rfl cO PyProof.Rows.Boot.«list» (aa (aw av (pv 8) ah (fun _ _ => rfl)) af)) (@aa _ _ _ _ _ (aH a8 rfl cO PyProof.Rows.Boot.«list» (aa (aw av (pv 8) ah (fun _ _ => rfl)) af)) (@af _) rfl) rfl) rfl)) (by kernel_rfl) (Or.inl rfl)) (@aj _ _ _ _ _ (ar (i := 11) bH.nd rfl (Or.inl rfl) (aq eX (hr.mono (by decide)) rfl (aa (aw cX (pv 10) ah (fun _ _ => rfl)) (aa (pv 9) (aa (aw cX (pv 10) ah (fun _ _ => rfl)) (aa (aw cX (pv 10) ah (fun _ _ => rfl)) af)))))) (@aj _ _ _ _ _ (bq (aC (FU hr.units) (pv 10) (bc (aa (pv 2) (aa (aw av (pv 8) ah (fun _ _ => rfl)) (aa (aw av (pv 8) ah (fun _ _ => rfl)) af)))) (aR _))
 (ao (aB bA))
 aI) (@aj _ _ _ _ _ (ar (i := 12) bH.nd rfl (Or.inl rfl) (aq eM (hr.mono (by decide)) rfl (aa (pv 2) (aa (uu eR (pv 4) ah (aR _)) (aa (aw av (pv 7) ah (fun _ _ => rfl)) (aa (aw av (pv 8) ah (fun _ _ => rfl)) (aa (aw av (pv 8) ah (fun _ _ => rfl)) af))))))) (@aj _ _ _ _ _ (ar (i := 13) bH.nd rfl (Or.inl rfl) (aH a8 rfl cO PyProof.Rows.Boot.«list» (aa (aw av (pv 8) ah (fun _ _ => rfl)) af))) (@aj _ _ _ _ _ (ar (i := 14) bH.nd rfl (Or.inl rfl) (aH a8 rfl cO PyProof.Rows.Boot.«list» (aa (aw av (pv 8) ah (fun _ _ => rfl)) af))) (@aj _ _ _ _ _ (bq (aC mq (pv 12) ah (aR _))
 (aj (ar (i := 15) bH.nd rfl (Or.inl rfl) (bc (aa bA (aa bA (aa bA (aa bA (aa bA af)))))))
 (aj (HL bA (HJ (pv 15) (ax HU (pv 12) ah) set_list))
 (aj (bq (aC (DG hr.units) (aw av (pv 11) ah (fun _ _ => rfl)) (pv 15) (aR _))
 (ao (aB bA))
 aI)
 (aj (ar (i := 13) bH.nd rfl (Or.inl rfl) (bc af))
 (aj (pd (i := 14) [2] bH.nd rfl (Or.inl rfl) rfl (by kernel_rfl) (aM (aw av (pv 8) ah (fun _ _ => rfl))) (fun _ _ _ _ _ => (kh (aC eR (aq b8 (hr.mono (by decide)) rfl (aa (pv 1) (aa (pv 0) af))) ah (aR _)))) (fun _ _ _ _ _ => (pv 0)))
 (ao (ar (i := 11) bH.nd rfl (Or.inl rfl) (aq eX (hr.mono (by decide)) rfl (aa (pv 2) (aa (pv 9) (aa (pv 13) (aa (pv 14) af))))))))))))
 aI) (@aj _ _ _ _ _ (bq (aC (DG hr.units) (aw av (pv 11) ah (fun _ _ => rfl)) (bc af) (aR _))
 (ao (aB bA))
 aI) (@aj _ _ _ _ _ (bq (aC eR (pv 4) ah (aR _))
 (ao (aB (aq dw (hr.mono (by decide)) rfl (aa (aw av (pv 11) ah (fun _ _ => rfl)) (aa (aZ (aa (aZ af) (aa (aZ af) (aa (aZ af) (aa bA af))))) af)))))
 aI) (@aj _ _ _ _ _ (ar (i := 16) bH.nd rfl (Or.inl rfl) (aH a8 rfl cO PyProof.Rows.Boot.«list» (aa (aw av (pv 7) ah (fun _ _ => rfl)) af))) (@aj _ _ _ _ _ (bM ef rfl (aM (pv 13)) (bf (i := 17) bH.nd rfl (Or.inl rfl))
 (ao (cv (jm PySem.F.plainAttrs_list PySem.F.slot_list_remove PySem.F.type_list_remove (qE hr.units) (pv 16) (aa (pv 17) af))))) (@aj _ _ _ _ _ (ar (i := 7) bH.nd rfl (Or.inl rfl) (aq iF (hr.mono (by decide)) rfl (aa (pv 2) (aa (aZ (aa (pv 16) (aa (aw av (pv 7) ah (fun _ _ => rfl)) (aa (aw av (pv 7) ah (fun _ _ => rfl)) af)))) (aa (pv 14) af))))) (ao (aB (aq dw (hr.mono (by decide)) rfl (aa (aw av (pv 11) ah (fun _ _ => rfl)) (aa (aq jL (hr.mono (by decide)) rfl (aa (aw av (pv 7) ah (fun _ _ => rfl)) (aa (aw av (pv 7) ah (fun _ _ => rfl)) (aa (bc af) (aa (aw av (pv 7) ah (fun _ _ => rfl)) af))))) af))))))))))))))))))))))))))), ?_⟩
 refine ⟨_, rfl, a, ns, 0, rfl, hS, by decide, fun v0 => ?_⟩
 refine ⟨_, rfl, (by show 6 ≤ sizeLine; decide), fun lz hlz => ⟨v0, lz, [0, 1, 2, 2, 1, 3], rfl, aD.of ae, by decide, by decide, by decide, fun lk ks H1 s1 PX Hh h4 => ?_⟩⟩
 have sA : ai H H1 := ai.trans (ag hlz _) s1
 have hS1 : aD K H1 a (ns.map V.int) := sA.seq hS
 refine ⟨_, rfl, a, ns, 1, rfl, hS1, by decide, fun v1 => ⟨v1, 4, rfl, by decide, fun lo os H3 s3 hlo Yg ho Yh Yi => ?_⟩⟩
 have Yj : aD K H3 a (ns.map V.int) := s3.seq hS1
 refine ⟨_, rfl, a, ns, 2, rfl, Yj, by decide, fun v2 => ⟨v2, 3, rfl, by decide, fun lw ws H4 s4 ZF Yk hw Vw Yl => ?_⟩⟩
 refine ⟨lo, lw, _, _, rfl, rfl, s4 _ _ Yg, Yk, (by rw [Lm9, Lm9, sizeLine_eq]; omega), fun ln He => ?_⟩
 have s5 : ai H4 (upd H4 ln (.lst (os.map tx ++ ws.map tx))) := ag He _
 have Nr := ae (H := H4) (a := ln) (o := .lst (os.map tx ++ ws.map tx))
 rw [← List.map_append] at s5 Nr ⊢
 have sC := ai.trans sA (ai.trans s3 (ai.trans s4 s5))
 have N4 := Hh.sm (ai.trans s3 (ai.trans s4 s5))
 generalize upd H4 ln (.lst ((os ++ ws).map tx)) = H5 at s5 Nr sC N4 ⊢
 have SW : aD K H5 a (ns.map V.int) := sC.seq hS
 refine ⟨_, rfl, a, ns, 3, rfl, SW, by decide, fun v3 => ⟨_, _, rfl, rfl, (by show (0 : Int) < 6; decide), ?_⟩⟩
 refine ⟨_, rfl, a, ns, 3, rfl, SW, by decide, fun v4 => ⟨_, _, rfl, rfl, ⟨by decide, by decide⟩, _, _, rfl, rfl, (by show (0 : Int) < 60; decide), _, _, rfl, rfl, ?_⟩⟩
 have ZG := mid (a := v4 / 6) (b := 60) (by decide)
 obtain ⟨c, hc, Vh⟩ : ∃ c : Nat, 4 + v4 / 6 % 60 = (c : Int) ∧ 4 ≤ c := ⟨(4 + v4 / 6 % 60).toNat, by omega, by omega⟩
 obtain ⟨ms, JI, Ym, SX, ZH⟩ := RV ns Vh
 show sO 5 (V.int (4 + v4 / 6 % 60)) _ _ _
 rw [hc]
 refine ⟨_, rfl, _, rfl, _, rfl, _, rfl, a, _, rfl, SW, fun P1 SY => ?_⟩
 rw [Ym]
 have s6 : ai H5 (upd H5 P1 (.lst (ms.map V.int))) := ag SY _
 have Ll := ae (H := H5) (a := P1) (o := .lst (ms.map V.int))
 generalize upd H5 P1 (.lst (ms.map V.int)) = H6 at s6 Ll ⊢
 have N5 := N4.sm s6
 have N6 := s6 _ _ Nr
 refine ⟨P1, rfl, ⟨_, aD.of Ll⟩, fun D hD => ?_⟩
 refine gv (K := K) (xs := ms.map V.int) (List.replicate ms.length ()) (fun _ H _ y => ∃ f, Fact K H f y ∧ ((∃ k ∈ ks, f.k = k.n ∧ f.as.length = k.c) ∧ ∀ a ∈ f.as, a ∈ os ++ ws)) (fun _ _ _ _ _ k ⟨f, h, g⟩ => ⟨f, Fact.keep k h, g⟩) (fun _ _ _ _ _ _ h => h) (uH (by rw [Lm9]; omega)) hD (aD.of Ll) (by rw [List.length_replicate, Lm9]) (fun i x b H' R hx hb sm hQ => ?_) (fun H7 ys s7 PM po => ?_)
 ·obtain ⟨hi, ex⟩ := ay hx
  have ex : V.int (ms[i]'(by simpa using hi)) = x := by rw [← ex, List.getElem_map]
  subst ex
  exact ⟨_, rfl, _, rfl, _, rfl, lk, ln, _, ks, os ++ ws, rfl, N5.sm sm, h4, sm _ _ N6, (by rw [List.length_append]; omega), (by rw [List.length_append]; omega), fun v' g xZ s'' hF hk ha => hQ _ _ s'' ⟨g, hF, hk, ha⟩⟩
 obtain ⟨zE, Vx, P2⟩ := qB po
 have ZI : zE.length = ms.length := by
  have z1 := Paired.length Vx
  have z2 := Paired.length po
  rw [List.length_replicate] at z2
  omega
 have sE : ai H H7 := ai.trans sC (ai.trans s6 s7)
 have S0 := N5.sm s7
 have S1 := s7 _ _ N6
 refine ⟨_, rfl, (by show 0 ≤ sizeLine; decide), fun la K9 => ?_⟩
 refine ⟨(by show 0 ≤ sizeLine; decide), fun lb Yn => ?_⟩
 refine ⟨(by show 0 ≤ sizeLine; decide), fun lc JL => ?_⟩
 refine ⟨(by show 3 ≤ sizeLine; decide), fun lst S2 => ?_⟩
 have t1 := ag K9 (.lst [])
 have t2 := ag Yn (.lst [])
 have t3 := ag JL (.lst [])
 have t4 := ag S2 (.tup [.ref la, .ref lb, .ref lc])
 have Ka := ai.trans t1 (ai.trans t2 (ai.trans t3 t4))
 have N7 : zc K _ (.ref lst) [] [] [] := ⟨lst, la, lb, lc, rfl, aO.of (ae (a := lst) (o := .tup [.ref la, .ref lb, .ref lc])), ⟨[], t4 _ _ (t3 _ _ (t2 _ _ ae)), .nil⟩, ⟨[], t4 _ _ (t3 _ _ ae), .nil⟩, t4 _ _ ae⟩
 generalize upd (upd (upd (upd H7 la (.lst [])) lb (.lst [])) lc (.lst [])) lst (.tup [.ref la, .ref lb, .ref lc]) = H8 at t4 Ka N7 ⊢
 have Hi : ∀ x ∈ os ++ ws, cA x = true := fun x hx => by
  rcases List.mem_append.mp hx with z | z
  ·exact (Yh x z).1
  ·exact (Vw x z).1
 have zF : ∀ x ∈ os ++ ws, great x = true → x ∈ os := fun x hx g => by
  rcases List.mem_append.mp hx with z | z
  ·exact z
  ·rw [u9 (Vw x z)] at g
   cases g
 have D8 : ∀ g ∈ zE, FL g := fun g hg => by
  obtain ⟨⟨k, uL, yd, EC⟩, ha⟩ := P2 g hg
  have := h4.ok k uL
  exact ⟨by rw [yd]; exact this.1, fun a h => Hi a (ha a h), by rw [EC]; omega⟩
 have PN : Paired (Fact K H8) zE ys := ak Vx fun _ _ _ => Fact.sm Ka
 have Pp := Ka _ _ PM
 have N8 := S0.sm Ka
 refine ⟨_, rfl, lk, D, _, ks, [], [], zE, [], rfl, N8, h4, N7, ⟨ys, Pp, PN⟩, D8, by decide, by decide, (by omega), by decide, fun sv H9 s9 hst => ?_⟩
 rw [List.nil_append, List.nil_append] at hst
 have B0 := xq (os := os) (acc := []) (ns := zE.flatMap (·.as)) (by omega) List.nodup_nil (fun x hx => nomatch hx) (fun x hx g => by
  obtain ⟨f0, G5, S3⟩ := List.mem_flatMap.mp hx
  exact zF x ((P2 f0 G5).2 x S3) g)
 generalize EF : kn [] (zE.flatMap (·.as)) = uc at hst B0
 generalize S4 : kz ks zE = jM at hst
 generalize S5 : jt ks zE = lg at hst
 obtain ⟨tS, lB, lO, lN, rfl, Yo, hB9, ZJ, ZK⟩ := id hst
 have hS9' : aD K H9 a (ns.map V.int) := (ai.trans sE (ai.trans Ka s9)).seq hS
 refine ⟨_, rfl, _, rfl, _, rfl, v0, 5, rfl, by decide, fun lt zs Gg Ha gQ SE hz SA NM => ?_⟩
 have Vy : 4 < zs.length := by omega
 have Yp : wm (zs.map tx) 4 = some (tx zs[4]) := gR (j := 4) (by rw [List.getElem?_map, Ge9 Vy]; rfl)
 refine ⟨lt, _, 4, _, rfl, rfl, aD.of SE, Yp, ?_⟩
 have Kb := SA _ (List.getElem_mem Vy)
 generalize zs[4] = str at Kb ⊢
 refine ⟨_, rfl, _, rfl, tS, _, 0, _, rfl, rfl, Yo.same Ha, rfl, ?_⟩
 refine ⟨_, rfl, _, rfl, _, rfl, _, rfl, a, _, rfl, Ha.seq hS9', fun S6 S7 => ?_⟩
 rw [SX]
 have JM := ag S7 (.lst (JI.map V.int))
 have N9 := ae (H := Gg) (a := S6) (o := .lst (JI.map V.int))
 have D9 := ai.trans s9 (ai.trans Ha JM)
 have sF := ai.trans sE (ai.trans Ka D9)
 have Ea := ai.trans Ha JM
 generalize upd Gg S6 (.lst (JI.map V.int)) = R9 at JM N9 D9 sF Ea ⊢
 have Hj : ∀ g ∈ jM, g ∈ zE := fun g hg => by rw [← S4] at hg; exact (List.mem_filter.mp hg).1
 have Oa : ∀ g ∈ lg, g ∈ zE := fun g hg => by rw [← S5] at hg; exact (List.mem_filter.mp hg).1
 have ZL : jM.length ≤ zE.length := by rw [← S4]; exact List.length_filter_le _ _
 have Aq : lg.length ≤ zE.length := by rw [← S5]; exact List.length_filter_le _ _
 have Hk := N8.sm D9
 have Ob := D9 _ _ (Ka _ _ S1)
 refine ⟨lk, ln, lB, S6, ks, os ++ ws, str, _, jM, JI, rfl, Hk, h4, Ob, (by rw [List.length_append]; omega), (by rw [List.length_append]; omega), hB9.sm Ea, (by omega), N9, (by omega), fun tR l1 l2 ts fs JN JO Yq Oc Od Ng hG => ?_⟩
 have Hl : cA str = true := Kb.1
 have Gr : ∀ g ∈ ts ++ fs, FL g ∧ ∀ x ∈ g.as, great x = true → x ∈ os := fun g hg => by
  rcases hG g hg with h | ⟨h1, h2, h3⟩
  ·have h0 := Hj g h
   exact ⟨D8 g h0, fun x hx gx => zF x ((P2 g h0).2 x hx) gx⟩
  ·refine ⟨⟨?_, fun a ha => ?_, by omega⟩, fun x hx gx => ?_⟩
   ·rcases h1 with ⟨k, hk, e⟩ | e
    ·rw [e]; exact (h4.ok k hk).1
    ·rw [e]; exact Hl
   ·rcases h2 a ha with e | e
    ·exact Hi a e
    ·rw [e]; exact Hl
   ·rcases h2 x hx with e | e
    ·exact zF x e gx
    ·rw [e, va Kb] at gx
     cases gx
 clear hG
 have Hm := Hk.sm JO
 have Oe := ai.trans D9 JO
 have S8 := Oe _ _ Pp
 have S9 : Paired (Fact K JN) zE ys := ak PN fun _ _ _ => Fact.sm Oe
 have Of := hst.sm (ai.trans Ea JO)
 have Ta : aL ks zE = 0 := ub h4.nd fun g hg => (P2 g hg).1
 refine ⟨_, rfl, _, rfl, lk, D, ks, zE, rfl, ⟨Hm, h4.nd, (by rw [h4.len]; decide), ⟨ys, S8, S9⟩, fun g hg => (D8 g hg).fs⟩, (by omega), (by rw [EF]; exact B0.1), Ta, fun Yr AX Ln hP => ?_⟩
 rw [EF, S4, S5] at hP
 refine m6 ?_
 dsimp only
 refine pC (Good := fun σ' H' => ai AX H' ∧ ∃ rE, ((decide (v3 % 6 = 5) = true ∧ JC K H' rE) ∨ (decide (v3 % 6 = 5) = false ∧ fW K H' rE (aU (jM.map fT)) (aU (dd (lg.map fT))) (aU (uc.map pT)))) ∧
  σ' = [some (.ref a), some (.int v0), some (.ref lk), some (.ref ln), some (.int (v3 % 6)), some (.int c), some (.ref D), some (.ref tS), some (.ref tR), some rE, none, none, none, none, none, none, none, none]) (fun fin => ?_) (fun σ' Ce hg => ?_)
 ·refine ⟨_, rfl, rfl, _, rfl, jf (fun e => ?_) (fun e => ?_)⟩
  ·have e5 : v3 % 6 = 5 := V.int.inj (of_decide_eq_true e)
   refine ⟨(by show 0 ≤ sizeLine; decide), fun u0 Lh => ⟨(by show 0 ≤ sizeLine; decide), fun u1 Lo => ⟨(by show 0 ≤ sizeLine; decide), fun u2 Lp => ⟨(by show 4 ≤ sizeLine; decide), fun u3 Tc => ?_⟩⟩⟩⟩
   exact fin _ _ ⟨ai.trans (ag Lh _) (ai.trans (ag Lo _) (ai.trans (ag Lp _) (ag Tc _))), .ref u3, .inl ⟨decide_eq_true e5, u3, _, _, _, rfl, aO.of ae⟩, rfl⟩
  ·have e5 : ¬ v3 % 6 = 5 := fun z => by
    rw [z] at e
    simp at e
   exact fin _ _ ⟨ai.refl _, Yr, .inr ⟨decide_eq_false e5, hP⟩, rfl⟩
 obtain ⟨Hd, rE, qS, rfl⟩ := hg
 generalize D0 : decide (v3 % 6 = 5) = br at qS
 obtain ⟨bp, bl, nm', IG, P4, Og, hnm'⟩ : ∃ bp bl nm', ((br = true ∧ JC K Ce rE) ∨ (br = false ∧ gb K Ce rE bp bl nm')) ∧ bp.Perm jM ∧ bl.map fT = aU (dd (lg.map fT)) ∧ nm'.Perm uc := by
  rcases qS with ⟨e, h⟩ | ⟨e, h⟩
  ·obtain ⟨bl, hl⟩ : ∃ bl : List Fc, bl.map fT = aU (dd (lg.map fT)) := ⟨_, pI (zj lg)⟩
   exact ⟨jM, bl, uc, .inl ⟨e, h⟩, List.Perm.refl _, hl, List.Perm.refl _⟩
  ·obtain ⟨bp, bl, nm', h1, h2, h3, h4'⟩ := fW.Xl B0.2.1 h
   exact ⟨bp, bl, nm', .inr ⟨e, h1⟩, h2, h3, h4'⟩
 clear qS
 have Ys : bp.length = jM.length := P4.length_eq
 have Yt : bl.length ≤ lg.length := by
  have z := congrArg List.length Og
  rw [Lm9, (bK _).length_eq] at z
  have z2 := lD (lg.map fT) _ (Nat.le_refl _)
  rw [List.take_length, Lm9] at z2
  omega
 have Yu : nm'.length = uc.length := hnm'.length_eq
 have xD := ai.trans Ln Hd
 obtain ⟨pK, Kc, Gs⟩ := Oc.sm xD
 obtain ⟨fU, Ke, Gu⟩ := Od.sm xD
 obtain ⟨kvs, Kf, Gv⟩ := id (Hm.sm xD)
 have AZ := xD _ _ Yq
 have Hn := Of.sm xD
 clear Oc Od hP
 have zt := Paired.length Gs
 have zf := Paired.length Gu
 have zk := Paired.length Gv
 refine ⟨_, rfl, lk, _, rfl, .inl (aD.of Kf), fun q0 ME => ?_⟩
 have r0 := ag ME (.lst kvs)
 refine ⟨_, rfl, tR, _, 0, _, rfl, rfl, aO.of (r0 _ _ AZ), rfl, l1, _, rfl, .inl (aD.of (r0 _ _ Kc)), fun q1 Rq => ?_⟩
 have r1 := ag Rq (.lst pK)
 have Td := ai.trans r0 r1
 refine ⟨_, rfl, tR, _, 1, _, rfl, rfl, aO.of (Td _ _ AZ), rfl, l2, _, rfl, .inl (aD.of (Td _ _ Ke)), fun q2 Yv => ?_⟩
 have r2 := ag Yv (.lst fU)
 refine ⟨(by show 3 ≤ sizeLine; decide), fun lh Yw => ?_⟩
 have r3 := ag Yw (.lst [.ref q0, .ref q1, .ref q2])
 have Kg := ai.trans Td (ai.trans r2 r3)
 have hq0' := r3 _ _ (r2 _ _ (r1 _ _ (ae (H := Ce) (a := q0) (o := .lst kvs))))
 have Gw := r3 _ _ (r2 _ _ (ae (H := upd Ce q0 (.lst kvs)) (a := q1) (o := .lst pK)))
 have Gx := r3 _ _ (ae (H := upd (upd Ce q0 (.lst kvs)) q1 (.lst pK)) (a := q2) (o := .lst fU))
 have B1 := ae (H := upd (upd (upd Ce q0 (.lst kvs)) q1 (.lst pK)) q2 (.lst fU)) (a := lh) (o := .lst [.ref q0, .ref q1, .ref q2])
 generalize upd (upd (upd (upd Ce q0 (.lst kvs)) q1 (.lst pK)) q2 (.lst fU)) lh (.lst [.ref q0, .ref q1, .ref q2]) = Gi at r3 Kg hq0' Gw Gx B1 ⊢
 have Kh : Paired (Kind K Gi) ks kvs := ak Gv fun _ _ _ => Kind.sm Kg
 have Oh : Paired (Fact K Gi) ts pK := ak Gs fun _ _ _ => Fact.sm Kg
 have Oi : Paired (Fact K Gi) fs fU := ak Gu fun _ _ _ => Fact.sm Kg
 have Yx : ∀ g ∈ ts, FL g := fun g hg => (Gr g (List.mem_append.mpr (.inl hg))).1
 have Ls : ∀ g ∈ fs, FL g := fun g hg => (Gr g (List.mem_append.mpr (.inr hg))).1
 have Ho : (br = true ∧ JC K Gi rE) ∨ (br = false ∧ gb K Gi rE bp bl nm') := by
  rcases IG with ⟨e, p, z0, z1, z2, ev, hp⟩ | ⟨e, hp⟩
  ·exact .inl ⟨e, p, z0, z1, z2, ev, hp.same Kg⟩
  ·exact .inr ⟨e, hp.sm Kg⟩
 have Te : ∀ gs : List Fc, (∀ g ∈ gs, g ∈ fs) → (kn nm' (gs.flatMap (·.as))).length < 64 := fun gs Yy => (xq (os := os) (acc := nm') (ns := gs.flatMap (·.as)) (by omega) (hnm'.nodup_iff.mpr B0.2.1) (fun x hx => B0.2.2 x (hnm'.mem_iff.mp hx)) (fun x hx g => by
  obtain ⟨f0, G5, S3⟩ := List.mem_flatMap.mp hx
  exact (Gr f0 (List.mem_append.mpr (.inr (Yy f0 G5)))).2 x S3 g)).1
 refine m6 ?_
 dsimp only
 refine pC (Good := fun σ' H' => ai Gi H' ∧ ∃ t, DS K b1 H' ks br bp bl nm' ts fs t ∧ σ' = [some (.ref a), some (.int v0), some (.ref lk), some (.ref ln), some (.int (v3 % 6)), some (.int c), some (.ref D), some (.ref tS), some (.ref tR), some rE, some (.ref lh), some (.ref t), none, none, none, none, none, none]) (fun fin => ?_) (fun σ' Gj hg => ?_)
 ·refine ⟨_, rfl, lh, _, 0, _, rfl, rfl, aD.of B1, rfl, _, rfl, ?_⟩
  refine ⟨_, rfl, lh, _, 1, _, rfl, rfl, aD.of B1, rfl, ?_⟩
  refine ⟨_, rfl, lh, _, 2, _, rfl, rfl, aD.of B1, rfl, ?_⟩
  refine ⟨q0, q2, q1, rE, ks, fs, ts, br, bp, bl, nm', rfl, ⟨⟨kvs, hq0', Kh⟩, h4.nd, (by rw [h4.len]; decide), ⟨fU, Gx, Oi⟩, fun g hg => (Ls g hg).fs⟩, ⟨⟨kvs, hq0', Kh⟩, h4.nd, (by rw [h4.len]; decide), ⟨pK, Gw, Oh⟩, fun g hg => (Yx g hg).fs⟩, Ho, ⟨by omega, by omega, by omega⟩, (by omega), Te fs fun _ h => h, fun hn t l v Gj BW ht hl => ?_, fun hn t l v Gj BW ht hl hb hp => ?_⟩
  ·exact fin _ _ ⟨BW, t, ⟨l, v, ht, by rw [if_neg hn]; exact hl, fun z => absurd z hn⟩, rfl⟩
  ·exact fin _ _ ⟨BW, t, ⟨l, v, ht, by rw [if_pos hn]; exact hl, fun _ => ⟨hb, hp⟩⟩, rfl⟩
 obtain ⟨BW, tA, Oj, rfl⟩ := hg
 have Gy := ai.trans Kg BW
 have Ol := Gy _ _ Kf
 have Om : Paired (Kind K Gj) ks kvs := ak Gv fun _ _ _ => Kind.sm Gy
 have Oo := Gy _ _ Kc
 have Oq := Gy _ _ Ke
 have Ot : Paired (Fact K Gj) ts pK := ak Gs fun _ _ _ => Fact.sm Gy
 have Ou : Paired (Fact K Gj) fs fU := ak Gu fun _ _ _ => Fact.sm Gy
 have Eb := Gy _ _ AZ
 have Ov := Hn.sm Gy
 refine ⟨_, rfl, _, rfl, ?_⟩
 refine ⟨_, rfl, tR, _, 0, _, rfl, rfl, aO.of Eb, rfl, ?_⟩
 refine ⟨_, rfl, tR, _, 1, _, rfl, rfl, aO.of Eb, rfl, ?_⟩
 refine ⟨(by show 3 ≤ sizeLine; decide), fun lq Sz => ?_⟩
 have yg := ag Sz (.lst [.ref lk, .ref l1, .ref l2])
 refine ⟨lh, lq, _, _, rfl, rfl, aD.of (yg _ _ (BW _ _ B1)), aD.of ae, rfl, ?_, _, rfl, dm ?_⟩
 ·intro i h1 h2
  match i, h1, h2 with
  | 0, _, _ => exact zm (aD.of (yg _ _ (BW _ _ hq0'))) (aD.of (yg _ _ Ol)) (ak Om fun _ _ _ => Kind.sm yg)
  | 1, _, _ => exact qN (aD.of (yg _ _ (BW _ _ Gw))) (aD.of (yg _ _ Oo)) (ak Ot fun _ _ _ => Fact.sm yg)
  | 2, _, _ => exact qN (aD.of (yg _ _ (BW _ _ Gx))) (aD.of (yg _ _ Oq)) (ak Ou fun _ _ _ => Fact.sm yg)
 have Ec := ai.trans Gy yg
 have Ed := Oj.sm yg
 clear Oj Sz hq0' Gw Gx B1 Oo Oq Ot Ou Om Ol Eb Ov Kh Oh Oi
 generalize upd Gj lq (.lst [.ref lk, .ref l1, .ref l2]) = Tf at yg Ec Ed ⊢
 have Hq : qz K Tf lk ks := ⟨kvs, Ec _ _ Kf, ak Gv fun _ _ _ => Kind.sm Ec⟩
 have Hr : jg K Tf l1 ts := ⟨pK, Ec _ _ Kc, ak Gs fun _ _ _ => Fact.sm Ec⟩
 have Ee : jg K Tf l2 fs := ⟨fU, Ec _ _ Ke, ak Gu fun _ _ _ => Fact.sm Ec⟩
 have A0 := Ec _ _ AZ
 obtain ⟨ZM, Vz, P5, lN', eS, Ow, Ox, Tg, Th⟩ := Hn.sm Ec
 cases eS
 have e5 : aA ks br bp ts fs = aA ks br jM ts fs := xp fun _ => P4
 have Oy : decide (V.int (v3 % 6) = V.int 5) = br := by
  rw [← D0, decide_eq_decide]
  exact ⟨fun z => V.int.inj z, fun z => by rw [z]⟩
 refine ⟨_, rfl, _, rfl, rfl, ?_⟩
 rw [Oy]
 refine ⟨_, rfl, tS, _, 0, _, rfl, rfl, Ow, rfl, ?_⟩
 refine ⟨_, rfl, tR, _, 0, _, rfl, rfl, aO.of A0, rfl, ?_⟩
 refine ⟨_, rfl, tR, _, 1, _, rfl, rfl, aO.of A0, rfl, ?_⟩
 refine ⟨lk, Vz, l1, l2, br, ks, jM, ts, fs, rfl, Hq, h4, Ox, Hr, Ee, fun g hg => (Gr g hg).1, (by omega), (by omega), (by omega), fun Hf Cf => ?_⟩
 rw [← e5]
 have ZN := ai.trans Ec Cf
 obtain ⟨Hs, Ti, Tj⟩ := Hr.sm Cf
 obtain ⟨Ki, Tn, To⟩ := Ee.sm Cf
 have Ht := Cf _ _ A0
 refine ⟨_, rfl, tR, _, 0, _, rfl, rfl, aO.of Ht, rfl, l1, _, rfl, .inl (aD.of Ti), fun w1 Yz => ?_⟩
 have BX := ag Yz (.lst Hs)
 refine ⟨_, rfl, tR, _, 1, _, rfl, rfl, aO.of (BX _ _ Ht), rfl, l2, _, rfl, .inl (aD.of (BX _ _ Tn)), fun w2 YA => ?_⟩
 have Oz := ag YA (.lst Ki)
 have jN := ai.trans Cf (ai.trans BX Oz)
 have Kj := Oz _ _ (ae (H := Hf) (a := w1) (o := .lst Hs))
 have Kk := ae (H := upd Hf w1 (.lst Hs)) (a := w2) (o := .lst Ki)
 have Kl : Paired (Fact K (upd (upd Hf w1 (.lst Hs)) w2 (.lst Ki))) ts Hs := ak Tj fun _ _ _ => Fact.sm (ai.trans BX Oz)
 have Km : Paired (Fact K (upd (upd Hf w1 (.lst Hs)) w2 (.lst Ki))) fs Ki := ak To fun _ _ _ => Fact.sm (ai.trans BX Oz)
 generalize upd (upd Hf w1 (.lst Hs)) w2 (.lst Ki) = Lu at Oz jN Kj Kk Kl Km ⊢
 have zG := Ed.sm jN
 have Ef := Hq.sm jN
 have OA := jN _ _ A0
 have Tp := Ow.same jN
 have Tq := Ox.sm jN
 have Tt := Tg.sm jN
 have Tu := jN _ _ Th
 have ZO := ai.trans Ec jN
 have OB := Ee.sm jN
 refine m6 ?_
 dsimp only
 refine pC (Good := fun σ' H' => ∃ (tA w1 w2 : Addr) (mS fs' : List Fc) (Tv : Option V), ai Lu H' ∧ jg K H' w1 mS ∧ jg K H' w2 fs' ∧ (∀ g ∈ mS, g ∈ ts) ∧ (∀ g ∈ fs', g ∈ fs) ∧ mS.length ≤ ts.length ∧ fs'.length ≤ fs.length ∧ aA ks br bp mS fs' = 0 ∧ DS K b1 H' ks br bp bl nm' mS fs' tA ∧
  σ' = [some (.ref a), some (.int v0), some (.ref lk), some (.ref ln), some (.int (v3 % 6)), some (.int c), some (.ref D), some (.ref tS), some (.ref tR), some rE, some (.ref lh), some (.ref tA), some (.int (aA ks br bp ts fs)), some (.ref w1), some (.ref w2), Tv, none, none]) (fun fin => ?_) (fun σ' VA hg => ?_)
 ·refine ⟨_, rfl, _, _, rfl, rfl, _, rfl, jf (fun P6 => ?_) (fun P6 => ?_)⟩
  ·have hn : aA ks br bp ts fs ≠ 0 := fun z => by rw [z] at P6; simp at P6
   have YB := ud ks br bp ts fs
   obtain ⟨lA, vA, FH, Hu, _⟩ := zG
   rw [if_neg hn] at Hu
   refine ⟨(by show 5 ≤ sizeLine; decide), fun ld G2 => ?_⟩
   have x1 := ag G2 (.lst [V.bl false, V.bl false, V.bl false, V.bl false, V.bl true])
   have GZ := ae (H := Lu) (a := ld) (o := .lst [V.bl false, V.bl false, V.bl false, V.bl false, V.bl true])
   have ZP : lA ≠ ld := fun e => by rw [e, G2] at Hu; cases Hu
   have YC := G2
   refine ⟨_, rfl, _, rfl, _, _, rfl, rfl, ld, _, _, aA ks br bp ts fs - 1, rfl, rfl, GZ, ?_, ?_⟩
   ·rw [show ((aA ks br bp ts fs : Nat) : Int) - 1 = ((aA ks br bp ts fs - 1 : Nat) : Int) by omega]
    exact F8 (by show _ < 5; omega)
   rw [BP (by omega) YB]
   have x2 : ai Lu (upd (upd Lu ld (.lst [V.bl false, V.bl false, V.bl false, V.bl false, V.bl true])) ld (.lst ((ua (aA ks br bp ts fs)).map V.bl))) := ai.aT x1 G2 _
   have OC := ae (H := upd Lu ld (.lst [V.bl false, V.bl false, V.bl false, V.bl false, V.bl true])) (a := ld) (o := .lst ((ua (aA ks br bp ts fs)).map V.bl))
   generalize upd (upd Lu ld (.lst [V.bl false, V.bl false, V.bl false, V.bl false, V.bl true])) ld (.lst ((ua (aA ks br bp ts fs)).map V.bl)) = J1 at x2 OC ⊢
   refine ⟨_, rfl, tA, _, 1, _, rfl, rfl, aO.of (x2 _ _ FH), rfl, _, rfl, Alike.bools (aD.of (x2 _ _ Hu)) (aD.of OC), _, rfl, dm ?_⟩
   refine ⟨(by show 0 ≤ sizeLine; decide), fun w3 YD => ?_⟩
   have x3 := ag YD (.lst [])
   have Kn := ae (H := J1) (a := w3) (o := .lst [])
   have OD := ai.trans x2 x3
   generalize upd J1 w3 (.lst []) = J2 at x3 Kn OD ⊢
   obtain ⟨YE, VB, Tw⟩ := OB.sm OD
   have YF := Paired.length Tw
   refine ⟨_, rfl, tR, _, 1, _, rfl, rfl, aO.of (OD _ _ OA), rfl, l2, rfl, ⟨_, aD.of VB⟩, fun D2 ki => ?_⟩
   refine fb (K := K) (xs := YE) fs (fun g => decide (fault ks g = 0)) id (fun _ H f y => Fact K H f y) (fun _ _ _ _ _ k h => Fact.keep k h) (fun _ _ _ _ _ _ h => h) (uH (by omega)) ki (aD.of VB) YF (fun i x b H' R hx hb' sx hQ => ?_) (fun i x b H' R hx hb' hk sx hQ => ?_) (fun J3 Tx x4 PZ Lv => ?_)
   ·obtain ⟨hi, ex⟩ := ay hx
    obtain ⟨eU, eb⟩ := ay hb'
    have hFa := Fact.sm sx (paired_at Tw i eU hi)
    rw [ex, eb] at hFa
    have YG : b ∈ fs := by rw [← eb]; exact List.getElem_mem eU
    refine ⟨_, rfl, _, rfl, lk, x, ks, b, rfl, (Ef.sm OD).sm sx, hFa, (by have := (cC (Ls b YG).k).2.1; omega), (fun k hk => by have := (cC (h4.ok k hk).1).2.1; omega), rfl, _, rfl, ?_⟩
    have ed : decide (V.int (fault ks b : Nat) = V.int 0) = decide (fault ks b = 0) := by
     rw [decide_eq_decide]
     exact ⟨fun z => by have := V.int.inj z; omega, fun z => by rw [z]; rfl⟩
    rw [ed]
    exact hQ _ (ai.refl _)
   ·obtain ⟨hi, ex⟩ := ay hx
    obtain ⟨eU, eb⟩ := ay hb'
    have hFa := Fact.sm sx (paired_at Tw i eU hi)
    rw [ex, eb] at hFa
    exact ⟨_, rfl, hQ _ _ (ai.refl _) hFa⟩
   rw [List.map_id] at Lv
   have Lv : Paired (Fact K J3) (fs.filter fun g => decide (fault ks g = 0)) Tx := Lv
   have Tz := ai.trans OD x4
   have BB : ∀ g ∈ fs.filter (fun g => decide (fault ks g = 0)), g ∈ fs := fun g hg => (List.mem_filter.mp hg).1
   have rR : (fs.filter fun g => decide (fault ks g = 0)).length ≤ fs.length := List.length_filter_le _ _
   have P7 : aA ks br bp [] (fs.filter fun g => decide (fault ks g = 0)) = 0 := by
    unfold aA
    rw [if_neg (by simp [aL]), if_neg (by rw [gc]; simp), if_neg (by simp), if_neg (by simp [short])]
   generalize fs.filter (fun g => decide (fault ks g = 0)) = gs at Lv BB rR P7
   obtain ⟨VC, EC, VD⟩ := Ef.sm Tz
   have VE := ai.trans BW (ai.trans yg (ai.trans jN Tz))
   have OE : (br = true ∧ JC K J3 rE) ∨ (br = false ∧ gb K J3 rE bp bl nm') := by
    rcases Ho with ⟨e, p, z0, z1, z2, ev, hp⟩ | ⟨e, hp⟩
    ·exact .inl ⟨e, p, z0, z1, z2, ev, hp.same VE⟩
    ·exact .inr ⟨e, hp.sm VE⟩
   refine ⟨_, rfl, _, rfl, _, rfl, _, rfl, lk, D2, w3, rE, ks, gs, [], br, bp, bl, nm', rfl, ⟨⟨VC, EC, VD⟩, h4.nd, (by rw [h4.len]; decide), ⟨Tx, PZ, Lv⟩, fun g hg => (Ls g (BB g hg)).fs⟩, ⟨⟨VC, EC, VD⟩, h4.nd, (by rw [h4.len]; decide), ⟨[], x4 _ _ Kn, .nil⟩, fun g hg => nomatch hg⟩, OE, ⟨by omega, by decide, by omega⟩, (by omega), Te gs BB, (fun hn' => absurd P7 hn'), fun _ t l v J4 x5 ht hl hb hp => ?_⟩
   exact fin _ _ ⟨t, w3, D2, [], gs, _, ai.trans Tz x5, ⟨[], x5 _ _ (x4 _ _ Kn), .nil⟩, ⟨Tx, x5 _ _ PZ, ak Lv fun _ _ _ => Fact.sm x5⟩, (fun g hg => nomatch hg), BB, Nat.zero_le _, rR, P7, ⟨l, v, ht, by rw [if_pos P7]; exact hl, fun _ => ⟨hb, hp⟩⟩, rfl⟩
  ·have hn : aA ks br bp ts fs = 0 := by
    have z : ¬ (0 < ((aA ks br bp ts fs : Nat) : Int)) := by simpa using P6
    omega
   exact fin _ _ ⟨tA, w1, w2, ts, fs, none, ai.refl _, ⟨Hs, Kj, Kl⟩, ⟨Ki, Kk, Km⟩, fun _ h => h, fun _ h => h, Nat.le_refl _, Nat.le_refl _, hn, zG, rfl⟩
 obtain ⟨tA, w1, w2, mS, fs', Tv, YH, VF, VG, YI, Gz, hlt', YJ, TC, Ko, rfl⟩ := hg
 clear zG Kj Kk Kl Km
 obtain ⟨lA, vA, FH, Hu, OG⟩ := Ko
 rw [if_pos TC] at Hu
 have OG := OG TC
 refine ⟨_, rfl, tA, _, 1, _, rfl, rfl, aO.of FH, rfl, (by show 0 ≤ sizeLine; decide), fun le hle => ?_⟩
 have Kq := ag hle (.lst [])
 refine ⟨Alike.bools (bs := []) (aD.of (Kq _ _ Hu)) (aD.of ae), _, rfl, dm ?_⟩
 have Kr := Kq _ _ FH
 have ue := ai.trans YH Kq
 obtain ⟨YK, hW1', TF⟩ := VF.sm Kq
 have hW2' := VG.sm Kq
 have VH : br = false → ∃ left : List Fc, (∀ g, left.count g = bp.count g - mS.count g) ∧ fW K (upd VA le (.lst [])) vA (aU ((left ++ kz ks fs').map fT)) (aU (dd ((bl ++ jt ks fs').map fT))) (aU ((kn nm' (fs'.flatMap (·.as))).map pT)) := fun e => by
  obtain ⟨left, z1, z2⟩ := OG.2 e
  exact ⟨left, z1, z2.sm Kq⟩
 have YL := OG.1
 clear OG FH Hu VF VG
 generalize upd VA le (.lst []) = VI at Kq Kr ue hW1' TF hW2' VH ⊢
 refine ⟨_, rfl, rfl, _, rfl, ?_⟩
 rw [Oy]
 cases br with
 | true =>
  refine gS ?_
  refine ⟨_, rfl, tA, _, 0, _, rfl, rfl, aO.of Kr, rfl, ?_⟩
  refine ⟨(by show 0 ≤ sizeLine; decide), fun u0 Lh => ⟨(by show 0 ≤ sizeLine; decide), fun u1 Lo => ⟨(by show 0 ≤ sizeLine; decide), fun u2 Lp => ⟨(by show 4 ≤ sizeLine; decide), fun u3 Tc => ?_⟩⟩⟩⟩
  rw [YL rfl]
  have y1 := ag Lo (.tup [])
  have y2 := ag Lp (.tup [])
  have y3 := ag Tc (.tup [.ref u0, .ref u1, .ref u2, .bl true])
  exact ⟨b1, .ref u3, _, _, _, true, Na, rfl, hb1 _, AS (hb1 _) (hd0 _) (C8 _) (hd2 _), AS (aO.of ae) (aO.of (y3 _ _ (y2 _ _ (y1 _ _ ae)))) (aO.of (y3 _ _ (y2 _ _ ae))) (aO.of (y3 _ _ ae)), (by decide), q _⟩
 | false =>
  refine dm ?_
  have Ks := Tp.same ue
  obtain ⟨bv, TH, OH⟩ := Tq.sm ue
  have TJ := Tt.sm ue
  have TK := ue _ _ Tu
  have OI := Ef.sm ue
  have YM := Paired.length OH
  have zw := Paired.length TF
  obtain ⟨left, OJ, YN⟩ := VH rfl
  have xW : short jM mS = false := by rw [← zp P4]; exact DT TC
  obtain ⟨rs, TL⟩ : ∃ rs, cD jM mS = some rs := by
   cases e : cD jM mS with
   | none => rw [qI e] at xW; cases xW
   | some rs => exact ⟨rs, rfl⟩
  refine ⟨_, rfl, tS, _, 0, _, rfl, rfl, Ks, rfl, Vz, _, rfl, .inl (aD.of TH), fun Kt Ku => ?_⟩
  refine ⟨_, rfl, w1, rfl, ⟨_, aD.of (ag Ku _ _ _ hW1')⟩, bt (K := K) (a := w1) (xs := YK) (fun i σ H' => ai VI H' ∧ (∃ (cur : List Fc) (yc : List V), H' Kt = some (.lst yc) ∧ Paired (Fact K VI) cur yc ∧ cD jM mS = cD cur (mS.drop i)) ∧ ∃ o : Option V, σ = [some (.ref a), some (.int v0), some (.ref lk), some (.ref ln), some (.int (v3 % 6)), some (.int c), some (.ref D), some (.ref tS), some (.ref tR), some rE, some (.ref lh), some (.ref tA), some (.int (aA ks false bp ts fs)), some (.ref w1), some (.ref w2), Tv, some (.ref Kt), o])
   ⟨ag Ku _, ⟨jM, bv, ae, OH, rfl⟩, none, rfl⟩ (fun i σ H' _ ⟨sm, _⟩ => aD.of (sm _ _ hW1')) ?_ ?_⟩
  ·rintro i y σ H' hi ⟨sm, ⟨cur, yc, P8, pc, lQ⟩, o, rfl⟩
   obtain ⟨pJ, ey⟩ := ay hi
   have jG : i < mS.length := by omega
   have hFa := Fact.sm sm (paired_at TF i jG pJ)
   rw [ey] at hFa
   have hdr : mS.drop i = mS[i] :: mS.drop (i + 1) := List.drop_eq_getElem_cons jG
   rw [hdr] at lQ
   have lQ : cD jM mS = if mS[i] ∈ cur then cD (cur.erase mS[i]) (mS.drop (i + 1)) else none := lQ
   have hm : mS[i] ∈ cur := by
    by_cases h : mS[i] ∈ cur
    ·exact h
    ·rw [if_neg h, TL] at lQ; cases lQ
   rw [if_pos hm] at lQ
   obtain ⟨j, hj, j1, j2, j3⟩ := qK cur mS[i] hm
   have YO : Paired (Fact K H') cur yc := ak pc fun _ _ _ => Fact.sm sm
   have EB : ∀ t ∈ cur.map fT, t.toD.deep ≤ 8 := fun t ht => by
    obtain ⟨g, _, rfl⟩ := List.mem_map.mp ht
    unfold fT; rw [bF]; decide
   refine ⟨_, rfl, .inl ⟨rfl, _, aD.of P8⟩, _, rfl, Kt, yc, cur.map fT, _, fT mS[i], j, rfl, rfl, P8, gA YO, Fact.BG hFa, EB, (by rw [Lm9]; exact hj), ?_, fun m SJ => ?_, ?_⟩
   ·rw [List.getElem_map, j1]
    exact er _
   ·rw [List.getElem_map]
    exact g7 fun e => j2 m SJ (vh e)
   ·refine ⟨ai.aT sm Ku _, ⟨cur.eraseIdx j, _, ae, eW j pc, ?_⟩, _, rfl⟩
    rw [lQ, j3]
  rintro σ VJ ⟨P9, ⟨cur, yc, P8, pc, lQ⟩, o, rfl⟩
  rw [List.drop_of_length_le (by omega), TL] at lQ
  obtain rfl : rs = cur := Option.some.inj lQ
  have BS := jz mS jM rs TL
  have TM : Paired (Fact K VJ) rs yc := ak pc fun _ _ _ => Fact.sm P9
  have ZQ : rs.length ≤ jM.length := nU _ _ fun g => by have := (BS g).1; omega
  refine ⟨_, rfl, _, rfl, ?_⟩
  refine ⟨_, rfl, tS, _, 1, _, rfl, rfl, Ks.same P9, rfl, ?_⟩
  refine ⟨_, rfl, tS, _, 2, _, rfl, rfl, Ks.same P9, rfl, (by show 3 ≤ sizeLine; decide), fun tt SM => ?_⟩
  have Qa := ag SM (.tup [.ref Kt, .ref P5, .ref lN'])
  have uf := ai.trans P9 Qa
  have Hv : zc K _ (.ref tt) rs lg uc := ⟨tt, Kt, P5, lN', rfl, aO.of (ae (a := tt) (o := .tup [.ref Kt, .ref P5, .ref lN'])), ⟨yc, Qa _ _ P8, ak TM fun _ _ _ => Fact.sm Qa⟩, TJ.sm uf, uf _ _ TK⟩
  generalize upd VJ tt (.tup [.ref Kt, .ref P5, .ref lN']) = ZR at Qa uf Hv ⊢
  refine ⟨_, rfl, lk, w2, .ref tt, ks, rs, lg, fs', uc, rfl, OI.sm uf, h4, Hv, hW2'.sm uf, fun g hg => Ls g (Gz g hg), (by omega), (by omega), (by omega), (by have := B0.1; omega), fun ZS ZT YQ OK => ?_⟩
  obtain ⟨tT, YR, YS, YT, rfl, Kv, TN, TQ, TR⟩ := OK
  have Hw := ai.trans uf YQ
  refine ⟨_, rfl, tA, _, 0, _, rfl, rfl, aO.of (Hw _ _ Kr), rfl, ?_⟩
  refine ⟨_, rfl, tT, _, 0, _, rfl, rfl, Kv, rfl, ?_⟩
  refine ⟨_, rfl, tT, _, 1, _, rfl, rfl, Kv, rfl, ?_⟩
  refine ⟨(by show 0 ≤ sizeLine; decide), fun lE YU => ?_⟩
  have OL := ag YU (.lst [])
  refine ⟨_, rfl, tT, _, 2, _, rfl, rfl, Kv.same OL, rfl, ?_⟩
  have ZU : (kz ks fs').length ≤ fs'.length := List.length_filter_le _ _
  have ZV : (jt ks fs').length ≤ fs'.length := List.length_filter_le _ _
  have YV : (kn uc (fs'.flatMap (·.as))).length < 64 := by
   have z := Te fs' Gz
   rw [(vi _ hnm').length_eq] at z
   exact z
  refine ⟨YR, YS, lE, YT, _, _, _, rfl, TN.sm OL, TQ.sm OL, ae, OL _ _ TR, (fun g hg => ?_), (by rw [List.length_append]; omega), (by rw [List.length_append]; omega), YV, fun YW ZW YX YY => ?_⟩
  ·have hF : FL g := by
    rcases List.mem_append.mp hg with h | h
    ·rcases List.mem_append.mp h with h | h
     ·have z := (BS g).1
      have z2 := List.count_pos_iff.mpr h
      exact D8 g (Hj g (List.count_pos_iff.mp (by omega)))
     ·exact Ls g (Gz g (List.mem_filter.mp h).1)
    ·rcases List.mem_append.mp h with h | h
     ·exact D8 g (Oa g h)
     ·exact Ls g (Gz g (List.mem_filter.mp h).1)
   have := hF.n
   omega
  have e1 : aU ((left ++ kz ks fs').map fT) = aU ((rs ++ kz ks fs').map fT) := DQ fun g => by rw [OJ g, (BS g).1, (List.perm_iff_count.mp P4) g]
  have e2 := BO (gs := jt ks fs') Og
  have e3 := F7 hnm' (fs'.flatMap (·.as))
  have Kw := (YN.toV).sm (ai.trans Hw (ai.trans OL YX))
  rw [e1, e2, e3] at Kw
  have i1 := mY.BG Kw
  have i2 := mY.BG YY
  obtain ⟨p, t0, ZX, ZY, y0, y1, y2, rfl, hp, _⟩ := Kw
  exact ⟨p, YW, _, _, _, false, _, rfl, hp, i1, i2, BQ _ _ _, q _⟩
end
end jA
namespace jA
open PySem L2 eF Bk
open PySem.W (nsIn findIn keepIn mg_of isFn mroIn)
set_option maxHeartbeats 4000000
theorem pL {K : PySem.W.Frag} {C : Addr} (h : mroIn K C (.type "ValueError") = some true) : PySem.W.kitOne K (.ref C) (.type "ValueError") = some true := by
 unfold PySem.W.kitOne
 rw [if_neg (by simp)]
 show (if PySem.W.kitMeta "ValueError" = true then PySem.W.subIn K (.ref C) (.type "ValueError") else none) = _
 rw [if_pos (by decide +kernel)]
 exact h
theorem all_mk {l : PySem.W.OpenLaw} {w : World} {K : PySem.W.Frag} {h : Heap} {mg : Str → Option Value} {fa aP aJ aK aQ dk VL VM VN VO VP VQ VR VS VT VU OM ON OO OP OQ OR OS OT OU OV OW OX OY OZ O3 O4 O5 O6 O7 Kx : Addr} (X : K.In h) (G : h.Ns mainGlobals mg) (kj : mg "law" = some (.ref fa))
  {sh zH si xE Ky B2 GA vr qW zI vt sj vv vw vz vB vC zJ xF vD xG vE zK xH qX vF oY zL qY : FuncData} {Kz Eg : Option Addr} {KA : Array (Option Value)} {KC Eh Ei Ej zM Ek : Value}
  {A1 : Tok}
  {vG jO Qb Qc Qd Qe Qf Qg : Addr}
  {VW VX VY YZ VZ V0 V1 V2 : Nat}
  {TU TV TX TY TZ T3 T4 T6 : Array (Option Value)}
  (oi : nsIn K mainGlobals "NoKind" = some (some (.ref aP)))
  (lS : nsIn K mainGlobals "BadArgs" = some (some (.ref aJ)))
  (lT : nsIn K mainGlobals "BadTake" = some (some (.ref aK)))
  (oj : nsIn K mainGlobals "NoFact" = some (some (.ref aQ)))
  (iH : nsIn K mainGlobals "PoolError" = some (some (.ref dk)))
  (gn : nsIn K mainGlobals "check_facts" = some (some (.ref VL)))
  (lU : nsIn K mainGlobals "is_great" = some (some (.ref VM)))
  (gq : nsIn K mainGlobals "check_taken" = some (some (.ref VN)))
  (jP : nsIn K mainGlobals "taken_out" = some (some (.ref VO)))
  (zN : nsIn K mainGlobals "know" = some (some (.ref VP)))
  (om : nsIn K mainGlobals "written" = some (some (.ref VQ)))
  (vH : nsIn K mainGlobals "moved" = some (some (.ref VR)))
  (iI : nsIn K mainGlobals "start_pool" = some (some (.ref VS)))
  (fG : nsIn K mainGlobals "_law_cell_at" = some (some (.ref VT)))
  (lV : nsIn K mainGlobals "_law_mix" = some (some (.ref VU)))
  (iJ : nsIn K mainGlobals "_law_names" = some (some (.ref OM)))
  (gr : nsIn K mainGlobals "_law_titles" = some (some (.ref ON)))
  (iK : nsIn K mainGlobals "_law_opens" = some (some (.ref OO)))
  (iM : nsIn K mainGlobals "_law_words" = some (some (.ref OP)))
  (iN : nsIn K mainGlobals "_law_fault" = some (some (.ref OQ)))
  (iO : nsIn K mainGlobals "_law_lasts" = some (some (.ref OR)))
  (iP : nsIn K mainGlobals "_law_known" = some (some (.ref OS)))
  (lW : nsIn K mainGlobals "_law_odd" = some (some (.ref OT)))
  (jQ : nsIn K mainGlobals "_law_fact" = some (some (.ref OU)))
  (iQ : nsIn K mainGlobals "_law_kinds" = some (some (.ref OV)))
  (jR : nsIn K mainGlobals "_law_torn" = some (some (.ref OW)))
  (iR : nsIn K mainGlobals "_law_stand" = some (some (.ref OX)))
  (lX : nsIn K mainGlobals "_law_now" = some (some (.ref OY)))
  (jS : nsIn K mainGlobals "_law_pool" = some (some (.ref OZ)))
  (fH : nsIn K mainGlobals "_law_is_pool" = some (some (.ref O3)))
  (iS : nsIn K mainGlobals "_law_asked" = some (some (.ref O4)))
  (eO : nsIn K mainGlobals "_law_fault_of" = some (some (.ref O5)))
  (lY : nsIn K mainGlobals "_law_put" = some (some (.ref O6)))
  (fI : nsIn K mainGlobals "_law_changes" = some (some (.ref O7)))
  (A2 : nsIn K mainGlobals "law" = some (some (.ref Kx)))
  (cU : cP K "check_facts" "check_facts" gf VL sh)
  (fJ : cP K "is_great" "is_great" lI VM zH)
  (cV : cP K "check_taken" "check_taken" gg VN si)
  (eB : cP K "taken_out" "taken_out" jB VO xE)
  (qZ : cP K "know" "know" zq VP Ky)
  (gF : cP K "written" "written" nZ VQ B2)
  (nj : cP K "moved" "moved" vj VR GA)
  (dy : cP K "start_pool" "start_pool" ig VS vr)
  (cF : cP K "_law_cell_at" "_law_cell_at" fA VT qW)
  (fK : cP K "_law_mix" "_law_mix" lJ VU zI)
  (dz : cP K "_law_names" "_law_names" ij OM vt)
  (cW : cP K "_law_titles" "_law_titles" gh ON sj)
  (dA : cP K "_law_opens" "_law_opens" il OO vv)
  (dB : cP K "_law_words" "_law_words" ip OP vw)
  (dC : cP K "_law_fault" "_law_fault" iu OQ vz)
  (dD : cP K "_law_lasts" "_law_lasts" ix OR vB)
  (dE : cP K "_law_known" "_law_known" iw OS vC)
  (fL : cP K "_law_odd" "_law_odd" lK OT zJ)
  (eC : cP K "_law_fact" "_law_fact" jC OU xF)
  (dF : cP K "_law_kinds" "_law_kinds" ir OV vD)
  (eD : cP K "_law_torn" "_law_torn" jD OW xG)
  (dG : cP K "_law_stand" "_law_stand" iy OX vE)
  (fM : cP K "_law_now" "_law_now" lL OY zK)
  (eE : cP K "_law_pool" "_law_pool" jE OZ xH)
  (cG : cP K "_law_is_pool" "_law_is_pool" fB O3 qX)
  (dH : cP K "_law_asked" "_law_asked" iz O4 vF)
  (cf : cP K "_law_fault_of" "_law_fault_of" eL O5 oY)
  (fN : cP K "_law_put" "_law_put" lM O6 zL)
  (cH : cP K "_law_changes" "_law_changes" fC O7 qY)
  (El : K.lookup Kx = some ⟨KC, Kz, .func (PySem.W.fnOf "law" "law" (kg nh) (fS nh) (au nh) .none Eh Ei Ej Eg zM Ek), KA⟩)
  (Em : PySem.W.codeIn K zM "law" = true)
  (En : keepIn K (.ref Kx) = true)
  (dY : PySem.W.isClsIn K aJ = true)
  (fO : PySem.W.typeIn K (.ref aJ) = some (.type "type"))
  (fP : mroIn K aJ (.ref aJ) = some true)
  (dZ : PySem.W.isClsIn K aK = true)
  (fQ : PySem.W.typeIn K (.ref aK) = some (.type "type"))
  (fR : mroIn K aK (.ref aK) = some true)
  (fc : PySem.W.isClsIn K aQ = true)
  (gG : PySem.W.typeIn K (.ref aQ) = some (.type "type"))
  (gI : mroIn K aQ (.ref aQ) = some true)
  (fe : PySem.W.isClsIn K aP = true)
  (gJ : PySem.W.typeIn K (.ref aP) = some (.type "type"))
  (gK : mroIn K aP (.ref aP) = some true)
  (dI : mroIn K aP (.ref aJ) = some false)
  (dJ : mroIn K aP (.ref aK) = some false)
  (d4 : mroIn K aP (.ref aQ) = some false)
  (dM : mroIn K aJ (.ref aP) = some false)
  (dc : mroIn K aJ (.ref aK) = some false)
  (dN : mroIn K aJ (.ref aQ) = some false)
  (dO : mroIn K aK (.ref aP) = some false)
  (de : mroIn K aK (.ref aJ) = some false)
  (dP : mroIn K aK (.ref aQ) = some false)
  (d6 : mroIn K aQ (.ref aP) = some false)
  (dQ : mroIn K aQ (.ref aJ) = some false)
  (dR : mroIn K aQ (.ref aK) = some false)
  (vI : nsIn K mainGlobals "GREAT" = some (some (.str cZ A1)))
  (iT : nsIn K mainGlobals "ValueError" = some none)
  (zO : nsIn K mainGlobals "bool" = some none)
  (zP : nsIn K mainGlobals "dict" = some none)
  (iU : nsIn K mainGlobals "isinstance" = some none)
  (Eo : nsIn K mainGlobals "len" = some none)
  (zQ : nsIn K mainGlobals "list" = some none)
  (vJ : nsIn K mainGlobals "range" = some none)
  (Ep : nsIn K mainGlobals "set" = some none)
  (rf : nsIn K mainGlobals "sorted" = some none)
  (vK : nsIn K mainGlobals "tuple" = some none)
  (vL : nsIn K mainGlobals "EMPTY" = some (some (.ref vG)))
  (rg : nsIn K mainGlobals "BROKEN" = some (some (.ref jO)))
  (vM : K.lookup vG = some ⟨.type "tuple", none, .seq #[.ref Qb, .ref Qc, .ref Qd, .bool false] VW, TU⟩)
  (rh : K.lookup jO = some ⟨.type "tuple", none, .seq #[.ref Qe, .ref Qf, .ref Qg, .bool true] VZ, TZ⟩)
  (KD : K.lookup Qb = some ⟨.type "tuple", none, .seq #[] VX, TV⟩)
  (KG : K.lookup Qe = some ⟨.type "tuple", none, .seq #[] V0, T3⟩)
  (KH : K.lookup Qc = some ⟨.type "tuple", none, .seq #[] VY, TX⟩)
  (KI : K.lookup Qf = some ⟨.type "tuple", none, .seq #[] V1, T4⟩)
  (KJ : K.lookup Qd = some ⟨.type "tuple", none, .seq #[] YZ, TY⟩)
  (KL : K.lookup Qg = some ⟨.type "tuple", none, .seq #[] V2, T6⟩)
  (jF : PySem.W.excIn K aP E6 uE = true)
  (gB : PySem.W.excIn K aJ E6 uE = true)
  (gD : PySem.W.excIn K aK E6 uE = true)
  (jI : PySem.W.excIn K aQ E6 uE = true)
  (T7 : PySem.W.exmOne K (.ref aP) (.ref dk) = some true)
  (T8 : PySem.W.exmOne K (.ref aJ) (.ref dk) = some true)
  (T9 : PySem.W.exmOne K (.ref aK) (.ref dk) = some true)
  (Ua : PySem.W.exmOne K (.ref aQ) (.ref dk) = some true)
  (B3 : PySem.W.specialIn K (.builtin "object.__class__") "__get__" = some (some (.builtin "getset_descriptor.__get__")))
  (B4 : PySem.W.specialIn K (.builtin "object.__class__") "__set__" = some (some (.builtin "getset_descriptor.__set__")))
  (jT : findIn K (.ref aP) "__getattribute__" = some (some (.builtin "BaseException.__getattribute__")))
  (jU : findIn K (.ref aP) "__getattr__" = some none)
  (jV : findIn K (.ref aP) "__class__" = some (some (.builtin "object.__class__")))
  (jW : mroIn K aP (.type "object") = some true)
  (jX : mroIn K aP (.type "BaseException") = some true)
  (jY : mroIn K aP (.type "ValueError") = some true)
  (iV : findIn K (.ref aJ) "__getattribute__" = some (some (.builtin "BaseException.__getattribute__")))
  (iW : findIn K (.ref aJ) "__getattr__" = some none)
  (iY : findIn K (.ref aJ) "__class__" = some (some (.builtin "object.__class__")))
  (iZ : mroIn K aJ (.type "object") = some true)
  (i0 : mroIn K aJ (.type "BaseException") = some true)
  (i3 : mroIn K aJ (.type "ValueError") = some true)
  (i4 : findIn K (.ref aK) "__getattribute__" = some (some (.builtin "BaseException.__getattribute__")))
  (i5 : findIn K (.ref aK) "__getattr__" = some none)
  (i6 : findIn K (.ref aK) "__class__" = some (some (.builtin "object.__class__")))
  (i7 : mroIn K aK (.type "object") = some true)
  (i8 : mroIn K aK (.type "BaseException") = some true)
  (i9 : mroIn K aK (.type "ValueError") = some true)
  (jZ : findIn K (.ref aQ) "__getattribute__" = some (some (.builtin "BaseException.__getattribute__")))
  (j0 : findIn K (.ref aQ) "__getattr__" = some none)
  (j4 : findIn K (.ref aQ) "__class__" = some (some (.builtin "object.__class__")))
  (j5 : mroIn K aQ (.type "object") = some true)
  (j6 : mroIn K aQ (.type "BaseException") = some true)
  (j7 : mroIn K aQ (.type "ValueError") = some true)
  : ∃ fd : FuncData, (∀ (s : Shared) (v : Value), BindsTo s fd ⟨[v], []⟩ [("_law_script", v)]) ∧ ∀ base : Heap, K.In base → base.Ns mainGlobals mg → bN l.prog w K mg base (wF l.prog w) 5 fa fd ["_law_script"] (Ay K) := by
 have e := kj.symm.trans (mg_of X G A2)
 cases e
 have sk := cU.binds (ps := ["kinds", "facts"]) fun _ _ _ _ _ _ us hl => match us, hl with | [_, _], _ => rfl
 have so := mg_of X G gn
 have zR := fJ.binds (ps := ["name"]) fun _ _ _ _ _ _ us hl => match us, hl with | [_], _ => rfl
 have zS := mg_of X G lU
 have sr := cV.binds (ps := ["lasts", "taken"]) fun _ _ _ _ _ _ us hl => match us, hl with | [_, _], _ => rfl
 have su := mg_of X G gq
 have xI := eB.binds (ps := ["passing", "taken"]) fun _ _ _ _ _ _ us hl => match us, hl with | [_, _], _ => rfl
 have xJ := mg_of X G jP
 have KN := qZ.binds (ps := ["stand", "names"]) fun _ _ _ _ _ _ us hl => match us, hl with | [_, _], _ => rfl
 have KO := mg_of X G zN
 have B5 := gF.binds (ps := ["stand", "fact"]) fun _ _ _ _ _ _ us hl => match us, hl with | [_, _], _ => rfl
 have B6 := mg_of X G om
 have GB := nj.binds (ps := ["kinds", "pool", "taken", "put", "told"]) fun _ _ _ _ _ _ us hl => match us, hl with | [_, _, _, _, _], _ => rfl
 have GC := mg_of X G vH
 have vN := dy.binds (ps := ["kinds", "facts"]) fun _ _ _ _ _ _ us hl => match us, hl with | [_, _], _ => rfl
 have vO := mg_of X G iI
 have rl := cF.binds (ps := ["_law_script", "_law_k"]) fun _ _ _ _ _ _ us hl => match us, hl with | [_, _], _ => rfl
 have rm := mg_of X G fG
 have zT := fK.binds (ps := ["_law_cell", "_law_k"]) fun _ _ _ _ _ _ us hl => match us, hl with | [_, _], _ => rfl
 have zU := mg_of X G lV
 have vP := dz.binds (ps := ["_law_cell", "_law_many", "_law_firsts"]) fun _ _ _ _ _ _ us hl => match us, hl with | [_, _, _], _ => rfl
 have vQ := mg_of X G iJ
 have sy := cW.binds (ps := ["_law_cell", "_law_many"]) fun _ _ _ _ _ _ us hl => match us, hl with | [_, _], _ => rfl
 have sL := mg_of X G gr
 have vR := dA.binds (ps := ["_law_cell", "_law_many"]) fun _ _ _ _ _ _ us hl => match us, hl with | [_, _], _ => rfl
 have vS := mg_of X G iK
 have vT := dB.binds (ps := ["_law_cell", "_law_many"]) fun _ _ _ _ _ _ us hl => match us, hl with | [_, _], _ => rfl
 have vU := mg_of X G iM
 have vV := dC.binds (ps := ["_law_kinds_here", "_law_fact_here"]) fun _ _ _ _ _ _ us hl => match us, hl with | [_, _], _ => rfl
 have vW := mg_of X G iN
 have vX := dD.binds (ps := ["_law_kinds_here", "_law_fact_here"]) fun _ _ _ _ _ _ us hl => match us, hl with | [_, _], _ => rfl
 have vY := mg_of X G iO
 have vZ := dE.binds (ps := ["_law_known_here", "_law_names_here"]) fun _ _ _ _ _ _ us hl => match us, hl with | [_, _], _ => rfl
 have v8 := mg_of X G iP
 have zV := fL.binds (ps := ["_law_fact_here", "_law_stranger", "_law_number"]) fun _ _ _ _ _ _ us hl => match us, hl with | [_, _, _], _ => rfl
 have zW := mg_of X G lW
 have xK := eC.binds (ps := ["_law_kinds_here", "_law_names_here", "_law_cell"]) fun _ _ _ _ _ _ us hl => match us, hl with | [_, _, _], _ => rfl
 have xM := mg_of X G jQ
 have v9 := dF.binds (ps := ["_law_cell", "_law_sizes"]) fun _ _ _ _ _ _ us hl => match us, hl with | [_, _], _ => rfl
 have wa := mg_of X G iQ
 have xN := eD.binds (ps := ["_law_classes"]) fun _ _ _ _ _ _ us hl => match us, hl with | [_], _ => rfl
 have xO := mg_of X G jR
 have wb := dG.binds (ps := ["_law_classes", "_law_name"]) fun _ _ _ _ _ _ us hl => match us, hl with | [_, _], _ => rfl
 have wc := mg_of X G iR
 have zX := fM.binds (ps := ["_law_classes", "_law_fact_here"]) fun _ _ _ _ _ _ us hl => match us, hl with | [_, _], _ => rfl
 have zY := mg_of X G lX
 have xQ := eE.binds (ps := ["_law_bag", "_law_once", "_law_classes", "_law_known_here"]) fun _ _ _ _ _ _ us hl => match us, hl with | [_, _, _, _], _ => rfl
 have xR := mg_of X G jS
 have rn := cG.binds (ps := ["_law_found", "_law_due"]) fun _ _ _ _ _ _ us hl => match us, hl with | [_, _], _ => rfl
 have rp := mg_of X G fH
 have wd := dH.binds (ps := ["_law_kinds_here", "_law_pool_here", "_law_taken", "_law_put_here"]) fun _ _ _ _ _ _ us hl => match us, hl with | [_, _, _, _], _ => rfl
 have we := mg_of X G iS
 have oZ := cf.binds (ps := ["_law_kinds_here", "_law_broken", "_law_bag", "_law_taken", "_law_put_here"]) fun _ _ _ _ _ _ us hl => match us, hl with | [_, _, _, _, _], _ => rfl
 have o4 := mg_of X G eO
 have zZ := fN.binds (ps := ["_law_kinds_here", "_law_state", "_law_facts"]) fun _ _ _ _ _ _ us hl => match us, hl with | [_, _, _], _ => rfl
 have z6 := mg_of X G lY
 have rq := cH.binds (ps := ["_law_kinds_here", "_law_names_here", "_law_stranger", "_law_way", "_law_bag", "_law_cells"]) fun _ _ _ _ _ _ us hl => match us, hl with | [_, _, _, _, _, _], _ => rfl
 have rA := mg_of X G fI
 have O8 := aW (st := nh) El Em En
 have V3 := mg_of X G A2
 have lZ := eH dY fO fP dI
 have l6 := eH dZ fQ fR dJ
 have nq := eH fc gG gI d4
 have l7 := eH fe gJ gK dM
 have kE := eH dZ fQ fR dc
 have l8 := eH fc gG gI dN
 have l9 := eH fe gJ gK dO
 have kH := eH dY fO fP de
 have ma := eH fc gG gI dP
 have nu := eH fe gJ gK d6
 have me := eH dY fO fP dQ
 have mf := eH dZ fQ fR dR
 have ug := mg_of X G oi
 have rB := mg_of X G lS
 have rC := mg_of X G lT
 have uh := mg_of X G oj
 have wg := mg_of X G iH
 have wj := PySem.W.mg_none_of X G iT
 have KP := PySem.W.mg_none_of X G zO
 have Er := PySem.W.mg_none_of X G zP
 have nv := PySem.W.mg_none_of X G iU
 have j8 := PySem.W.mg_none_of X G Eo
 have oo := PySem.W.mg_none_of X G zQ
 have wk := PySem.W.mg_none_of X G vJ
 have O9 := PySem.W.mg_none_of X G Ep
 have xS := PySem.W.mg_none_of X G rf
 have kr := PySem.W.mg_none_of X G vK
 have GD := mg_of X G vI
 refine ⟨PySem.W.fnOf "law" "law" (kg nh) (fS nh) (au nh) .none Eh Ei Ej Eg zM Ek, fun s v => .of_eq rfl, fun base _ _ => ?_⟩
 have GG := mg_of X G vL
 have Es := mg_of X G rg
 have G9 : ∀ H : Hp, aO K H vG [.ref Qb, .ref Qc, .ref Qd, .bl false] := fun H => .inr ⟨_, _, VW, vM, rfl, rfl, (by show 4 ≤ sizeLine; decide), .cons rfl (.cons rfl (.cons rfl (.cons rfl .nil)))⟩
 have hb1 : ∀ H : Hp, aO K H jO [.ref Qe, .ref Qf, .ref Qg, .bl true] := fun H => .inr ⟨_, _, VZ, rh, rfl, rfl, (by show 4 ≤ sizeLine; decide), .cons rfl (.cons rfl (.cons rfl (.cons rfl .nil)))⟩
 have Nl : ∀ H : Hp, aO K H Qb [] := fun H => .inr ⟨_, _, VX, KD, rfl, rfl, (by show 0 ≤ sizeLine; decide), .nil⟩
 have Nm : ∀ H : Hp, aO K H Qc [] := fun H => .inr ⟨_, _, VY, KH, rfl, rfl, (by show 0 ≤ sizeLine; decide), .nil⟩
 have Np : Nil0 K Qd := ⟨_, _, KJ⟩
 have hd0 : ∀ H : Hp, aO K H Qe [] := fun H => .inr ⟨_, _, V0, KG, rfl, rfl, (by show 0 ≤ sizeLine; decide), .nil⟩
 have C8 : ∀ H : Hp, aO K H Qf [] := fun H => .inr ⟨_, _, V1, KI, rfl, rfl, (by show 0 ≤ sizeLine; decide), .nil⟩
 have hd2 : ∀ H : Hp, aO K H Qg [] := fun H => .inr ⟨_, _, V2, KL, rfl, rfl, (by show 0 ≤ sizeLine; decide), .nil⟩
 have Et : PySem.W.ExcKit K aP := ⟨jT, jU, jV, B3, B4, jW, jX, fe⟩
 have B7 : PySem.W.ExcKit K aJ := ⟨iV, iW, iY, B3, B4, iZ, i0, dY⟩
 have B8 : PySem.W.ExcKit K aK := ⟨i4, i5, i6, B3, B4, i7, i8, dZ⟩
 have Eu : PySem.W.ExcKit K aQ := ⟨jZ, j0, j4, B3, B4, j5, j6, fc⟩
 let Cs : Nat → Addr := fun n => if n = 1 then aP else if n = 2 then aJ else if n = 3 then aK else aQ
 have xP : ∀ n, 1 ≤ n → n ≤ 4 → PySem.W.exmOne K (.ref (Cs n)) (.ref dk) = some true := fun n h1 h4 => by
  rcases (show n = 1 ∨ n = 2 ∨ n = 3 ∨ n = 4 by omega) with rfl | rfl | rfl | rfl
  ·exact T7
  ·exact T8
  ·exact T9
  ·exact Ua
 have ZZ : ∀ n, 1 ≤ n → n ≤ 4 → PySem.W.ExcKit K (Cs n) := fun n h1 h4 => by
  rcases (show n = 1 ∨ n = 2 ∨ n = 3 ∨ n = 4 by omega) with rfl | rfl | rfl | rfl
  ·exact Et
  ·exact B7
  ·exact B8
  ·exact Eu
 have kV : ∀ n, 1 ≤ n → n ≤ 4 → PySem.W.kitOne K (.ref (Cs n)) (.type "ValueError") = some true := fun n h1 h4 => by
  rcases (show n = 1 ∨ n = 2 ∨ n = 3 ∨ n = 4 by omega) with rfl | rfl | rfl | rfl
  ·exact pL jY
  ·exact pL i3
  ·exact pL i9
  ·exact pL j7
 have kI : ∀ n m, 1 ≤ n → n ≤ 4 → 1 ≤ m → m ≤ 4 → PySem.W.kitOne K (.ref (Cs n)) (.ref (Cs m)) = some (n == m) := fun n m h1 h4 g1 g4 => by
  rcases (show n = 1 ∨ n = 2 ∨ n = 3 ∨ n = 4 by omega) with rfl | rfl | rfl | rfl <;> rcases (show m = 1 ∨ m = 2 ∨ m = 3 ∨ m = 4 by omega) with rfl | rfl | rfl | rfl
  ·exact fm
  ·exact lZ
  ·exact l6
  ·exact nq
  ·exact l7
  ·exact fm
  ·exact kE
  ·exact l8
  ·exact l9
  ·exact kH
  ·exact fm
  ·exact ma
  ·exact nu
  ·exact me
  ·exact mf
  ·exact fm
 have d8 : nO l.prog w K mg base "check_facts" 1 ["kinds", "facts"] (qx K aP aJ) := ⟨_, _, qO cU Er j8 jF ug gB rB, sk, cU.2, so⟩
 have lP : dq l.prog w K mg base "is_great" 1 ["name"] uI := ⟨_, _, xt fJ GD ⟨A1, rfl⟩, zR, fJ.2, zS⟩
 have gj : nO l.prog w K mg base "check_taken" 1 ["lasts", "taken"] (nS K aK) := ⟨_, _, qQ cV gD rC, sr, cV.2, su⟩
 have jJ : nO l.prog w K mg base "taken_out" 1 ["passing", "taken"] (lH K aQ) := ⟨_, _, vk eB oo j8 jI uh, xI, eB.2, xJ⟩
 have zA : dq l.prog w K mg base "know" 2 ["stand", "names"] (yZ K) := ⟨_, _, Gd qZ lP, KN, qZ.2, KO⟩
 have km : dq l.prog w K mg base "written" 1 ["stand", "fact"] (lG K) := ⟨_, _, zx gF kr, B5, gF.2, B6⟩
 have kq : nO l.prog w K mg base "moved" 3 ["kinds", "pool", "taken", "put", "told"] (m9 K Cs jO) := ⟨_, _, DX nj d8 gj jJ zA km Es rfl Er oo j8 kr xS O9, GB, nj.2, GC⟩
 have iG : nO l.prog w K mg base "start_pool" 4 ["kinds", "facts"] (qH K) := ⟨_, _, rT dy kq GG rfl G9 Nl Nm Np, vN, dy.2, vO⟩
 have bI : dq l.prog w K mg base "_law_cell_at" 1 ["_law_script", "_law_k"] (yI K) := ⟨_, _, oU cF j8, rl, cF.2, rm⟩
 have bx : dq l.prog w K mg base "_law_mix" 1 ["_law_cell", "_law_k"] tu := ⟨_, _, xu fK, zT, fK.2, zU⟩
 have bC : dq l.prog w K mg base "_law_names" 2 ["_law_cell", "_law_many", "_law_firsts"] mQ := ⟨_, _, rU dz bx j8 wk, vP, dz.2, vQ⟩
 have cu : dq l.prog w K mg base "_law_titles" 3 ["_law_cell", "_law_many"] (f9 dW.cps.toList) := ⟨_, _, qU cW bC, sy, cW.2, sL⟩
 have iD : dq l.prog w K mg base "_law_opens" 3 ["_law_cell", "_law_many"] (f9 cZ.cps.toList) := ⟨_, _, rW dA bC, vR, dA.2, vS⟩
 have iE : dq l.prog w K mg base "_law_words" 3 ["_law_cell", "_law_many"] (f9 GR.cps.toList) := ⟨_, _, rZ dB bC, vT, dB.2, vU⟩
 have b8 : dq l.prog w K mg base "_law_fault" 1 ["_law_kinds_here", "_law_fact_here"] (m4 K) := ⟨_, _, r6 dC j8, vV, dC.2, vW⟩
 have cb : dq l.prog w K mg base "_law_lasts" 1 ["_law_kinds_here", "_law_fact_here"] (m5 K) := ⟨_, _, r9 dD, vX, dD.2, vY⟩
 have iB : dq l.prog w K mg base "_law_known" 1 ["_law_known_here", "_law_names_here"] (qA K) := ⟨_, _, sd dE oo, vZ, dE.2, v8⟩
 have lR : dq l.prog w K mg base "_law_odd" 1 ["_law_fact_here", "_law_stranger", "_law_number"] (DE K) := ⟨_, _, xx fL j8, zV, fL.2, zW⟩
 have dj : dq l.prog w K mg base "_law_fact" 2 ["_law_kinds_here", "_law_names_here", "_law_cell"] (pB K) := ⟨_, _, vn eC bx j8 wk kr, xK, eC.2, xM⟩
 have iC : dq l.prog w K mg base "_law_kinds" 4 ["_law_cell", "_law_sizes"] (u7 K) := ⟨_, _, se dF bx cu j8 wk, v9, dF.2, wa⟩
 have jK : dq l.prog w K mg base "_law_torn" 1 ["_law_classes"] vd := ⟨_, _, vo eD, xN, eD.2, xO⟩
 have cL : dq l.prog w K mg base "_law_stand" 1 ["_law_classes", "_law_name"] ng := ⟨_, _, sf dG, wb, dG.2, wc⟩
 have iA : dq l.prog w K mg base "_law_now" 2 ["_law_classes", "_law_fact_here"] (y9 K) := ⟨_, _, xA fM cL kr, zX, fM.2, zY⟩
 have jL : dq l.prog w K mg base "_law_pool" 3 ["_law_bag", "_law_once", "_law_classes", "_law_known_here"] (ve K) := ⟨_, _, vp eE jK cL iA kr xS, xQ, eE.2, xR⟩
 have dw : dq l.prog w K mg base "_law_is_pool" 1 ["_law_found", "_law_due"] (qG K) := ⟨_, _, oW cG nv kr KP j8, rn, cG.2, rp⟩
 have eX : dq l.prog w K mg base "_law_asked" 4 ["_law_kinds_here", "_law_pool_here", "_law_taken", "_law_put_here"] (vf K jO) := ⟨_, _, sg dH kq nv wj wg ug rB rC uh xP ZZ kI kV, wd, dH.2, we⟩
 have eM : dq l.prog w K mg base "_law_fault_of" 2 ["_law_kinds_here", "_law_broken", "_law_bag", "_law_taken", "_law_put_here"] (nV K) := ⟨_, _, oh cf b8 cb oo, oZ, cf.2, o4⟩
 have iF : dq l.prog w K mg base "_law_put" 2 ["_law_kinds_here", "_law_state", "_law_facts"] (zd K) := ⟨_, _, xC fN iB cb, zZ, fN.2, z6⟩
 have fF : dq l.prog w K mg base "_law_changes" 3 ["_law_kinds_here", "_law_names_here", "_law_stranger", "_law_way", "_law_bag", "_law_cells"] (nW K) := ⟨_, _, oX cH bx dj lR oo j8, rq, cH.2, rA⟩
 exact J0 O8 bI iC cu iD iE dj iF fF iG eX b8 eM dw jL hb1 hd0 C8 hd2 oo
theorem walk {l : PySem.W.OpenLaw} {q : Program} {loose : List Str} {XP : (Str → Option Value) → Heap → Prop} {YP : World → Heap → Prop} {d : DefRec} {K : Params → PySem.W.Frag} (hn : l.most = some 63) (L6 : d.params.defaults = [])
  (hY : ∀ (w : World) (h : Heap), YP w h → (K w.params).In h)
  (F : ∀ (w : World) (mg : Str → Option Value) (fa : Addr) (h : Heap), (K w.params).In h → h.Ns mainGlobals mg → mg d.name = some (.ref fa) →
   ∃ fd : FuncData, (∀ (s : Shared) (u : Value), BindsTo s fd ⟨[u], []⟩ [("_law_script", u)]) ∧ ∀ base : Heap, (K w.params).In base → base.Ns mainGlobals mg → bN l.prog w (K w.params) mg base (wF l.prog w) 5 fa fd ["_law_script"] (Ay (K w.params))) :
  PySem.W.WalkO q loose XP YP l.row.toRowW d [] (fun f vs => PySem.call f vs) :=
 L2.E3 (n := 63) (k := 5) (x := "_law_script") (CX := fun w => wF l.prog w) (sp := fun w => Ay (K w.params)) hn (by decide) L6 ⟨rfl, by decide, by decide, rfl⟩ hY F (fun _ _ a ns hl _ hS => ⟨a, ns, rfl, hS, hl, fun _ => rfl⟩) fun _ _ _ _ _ z => by obtain ⟨_, _, _, _, _, z⟩ := z; exact z
end jA
open PySem PySem.W PyProof.Rows
def PySem.W.Fast.tw9257157327320575280 : Nat := 0
def PySem.W.Fast.tw5829991623462867455 : Nat := 0
def PySem.W.Fast.tw17592297328150063036 : Nat := 0
def PySem.W.Fast.tw9295825071247288004 : Nat := 0
def PySem.W.Fast.tw18369918297782889107 : Nat := 0
def PySem.W.Fast.tw6405449933903760037 : Nat := 0
def PySem.W.Fast.tw15620553687738547287 : Nat := 0
def PySem.W.Fast.tw2769180793314382473 : Nat := 0
def PySem.W.Fast.tw1759894851203249269 : Nat := 0
def PySem.W.Fast.tw14423849319829400153 : Nat := 0
def PySem.W.Fast.tw13026549162999722627 : Nat := 0
def PySem.W.Fast.tw12476018328464576789 : Nat := 0
def PySem.W.Fast.tw5331874934018249250 : Nat := 0
def PySem.W.Fast.tw14445300584968290893 : Nat := 0
def PySem.W.Fast.tw7656472196416212696 : Nat := 0
def PySem.W.Fast.tw7334319118785278092 : Nat := 0
def PySem.W.Fast.tw5174672895588469665 : Nat := 0
def PySem.W.Fast.tw17982647919411499823 : Nat := 0
def PySem.W.Fast.tw4573464054955181374 : Nat := 0
def PySem.W.Fast.tw3277611639097738858 : Nat := 0
def PySem.W.Fast.tw11370547089138721940 : Nat := 0
def PySem.W.Fast.tw11942547035367828304 : Nat := 0
def PySem.W.Fast.tw15218111362200302486 : Nat := 0
def PySem.W.Fast.tw13178328542299495703 : Nat := 0
def PySem.W.Fast.tw7183347329131496631 : Nat := 0
def PySem.W.Fast.tw10297118462046938596 : Nat := 0
def PySem.W.Fast.tw12654096272481447852 : Nat := 0
def PySem.W.Fast.tw11114497101850489293 : Nat := 0
def PySem.W.Fast.tw1560030069467309975 : Nat := 0
def PySem.W.Fast.tw4004220089077126203 : Nat := 0
def PySem.W.Fast.tw15606844760291372973 : Nat := 0
def PySem.W.Fast.tw7039968618189302896 : Nat := 0
def PySem.W.Fast.tw6252035161348806933 : Nat := 0
def PySem.W.Fast.tw15981517712280649700 : Nat := 0
def PySem.W.Fast.tw3625053307880378911 : Nat := 0
def PySem.W.Fast.tw7188813717503615497 : Nat := 0
def PySem.W.Fast.tw18081060713923377371 : Nat := 0
def PySem.W.Fast.tw8177177528312114371 : Nat := 0
def PySem.W.Fast.tw9923098119355823943 : Nat := 0
def PySem.W.Fast.tw18370957424515458786 : Nat := 0
def PySem.W.Fast.tw10904186977964038771 : Nat := 0
def PySem.W.Fast.tw66297427302204079 : Nat := 0
def PySem.W.Fast.tw730830472719052362 : Nat := 0
def PySem.W.Fast.tw2988657451298941149 : Nat := 0
def PySem.W.Fast.tw2061006318211425680 : Nat := 0
def PySem.W.Fast.tw18421618306863704655 : Nat := 0
def PySem.W.Fast.tw8183877013762464358 : Nat := 0
def PySem.W.Fast.tw488202152918166787 : Nat := 0
def PySem.W.Fast.tw870540047967616768 : Nat := 0
def PySem.W.Fast.tw7006746745192548900 : Nat := 0
def PySem.W.Fast.tw11218937586129156551 : Nat := 0
def PySem.W.Fast.tw12845773731634656329 : Nat := 0
def PySem.W.Fast.tw5658281684858709882 : Nat := 0
def PySem.W.Fast.tw8402071143413502115 : Nat := 0
def PySem.W.Fast.tw17564925713943529501 : Nat := 0
def PySem.W.Fast.tw2140243216049098464 : Nat := 0
def PySem.W.Fast.tw13663558438044508676 : Nat := 0
def PySem.W.Fast.tw9609459665057213130 : Nat := 0
def PySem.W.Fast.tw903568145483652320 : Nat := 0
def PySem.W.Fast.tw5921974909495635806 : Nat := 0
def PySem.W.Fast.tw13027951855279713632 : Nat := 0
def PySem.W.Fast.tw451273130214206172 : Nat := 0
def PySem.W.Fast.tw1511071504800840683 : Nat := 0
set_option maxRecDepth 100000 in
set_option maxHeartbeats 0 in
theorem PySem.Challenge.cw_poolrules_k05_facts_taken_and_put_holds : PySem.Challenge.rw_poolrules_k05_facts_taken_and_put.Holds := by
 w_on; o_law; k_head; (case hw => w_witness2)
 k_fill
 refine jA.walk (l := PySem.Challenge.rw_poolrules_k05_facts_taken_and_put) rfl rfl (fun w h Y => PySem.W.kIn_of Y) ?F
 case F =>
  intro w mg fa h KX G hmg
  refine' jA.all_mk KX G hmg ?oi ?lS ?lT ?oj ?iH ?gn ?lU ?gq ?jP ?zN ?om ?vH ?iI ?fG ?lV ?iJ ?gr ?iK ?iM ?iN ?iO ?iP ?lW ?jQ ?iQ ?jR ?iR ?lX ?jS ?fH ?iS ?eO ?lY ?fI ?A2 ?cU ?fJ ?cV ?eB ?qZ ?gF ?nj ?dy ?cF ?fK ?dz ?cW ?dA ?dB ?dC ?dD ?dE ?fL ?eC ?dF ?eD ?dG ?fM ?eE ?cG ?dH ?cf ?fN ?cH ?El ?Em ?En ?dY ?fO ?fP ?dZ ?fQ ?fR ?fc ?gG ?gI ?fe ?gJ ?gK ?dI ?dJ ?d4 ?dM ?dc ?dN ?dO ?de ?dP ?d6 ?dQ ?dR ?vI ?iT ?zO ?zP ?iU ?Eo ?zQ ?vJ ?Ep ?rf ?vK ?vL ?rg ?vM ?rh ?KD ?KG ?KH ?KI ?KJ ?KL ?jF ?gB ?gD ?jI ?T7 ?T8 ?T9 ?Ua ?B3 ?B4 ?jT ?jU ?jV ?jW ?jX ?jY ?iV ?iW ?iY ?iZ ?i0 ?i3 ?i4 ?i5 ?i6 ?i7 ?i8 ?i9 ?jZ ?j0 ?j4 ?j5 ?j6 ?j7
  (case oi => k_is)
  (case lS => k_is)
  (case lT => k_is)
  (case oj => k_is)
  (case iH => k_is)
  (case gn => k_is)
  (case lU => k_is)
  (case gq => k_is)
  (case jP => k_is)
  (case zN => k_is)
  (case om => k_is)
  (case vH => k_is)
  (case iI => k_is)
  (case fG => k_is)
  (case lV => k_is)
  (case iJ => k_is)
  (case gr => k_is)
  (case iK => k_is)
  (case iM => k_is)
  (case iN => k_is)
  (case iO => k_is)
  (case iP => k_is)
  (case lW => k_is)
  (case jQ => k_is)
  (case iQ => k_is)
  (case jR => k_is)
  (case iR => k_is)
  (case lX => k_is)
  (case jS => k_is)
  (case fH => k_is)
  (case iS => k_is)
  (case eO => k_is)
  (case lY => k_is)
  (case fI => k_is)
  (case A2 => k_is)
  (case cU => exact L2.aW (by k_is) (by k_is) (by k_is))
  (case fJ => exact L2.aW (by k_is) (by k_is) (by k_is))
  (case cV => exact L2.aW (by k_is) (by k_is) (by k_is))
  (case eB => exact L2.aW (by k_is) (by k_is) (by k_is))
  (case qZ => exact L2.aW (by k_is) (by k_is) (by k_is))
  (case gF => exact L2.aW (by k_is) (by k_is) (by k_is))
  (case nj => exact L2.aW (by k_is) (by k_is) (by k_is))
  (case dy => exact L2.aW (by k_is) (by k_is) (by k_is))
  (case cF => exact L2.aW (by k_is) (by k_is) (by k_is))
  (case fK => exact L2.aW (by k_is) (by k_is) (by k_is))
  (case dz => exact L2.aW (by k_is) (by k_is) (by k_is))
  (case cW => exact L2.aW (by k_is) (by k_is) (by k_is))
  (case dA => exact L2.aW (by k_is) (by k_is) (by k_is))
  (case dB => exact L2.aW (by k_is) (by k_is) (by k_is))
  (case dC => exact L2.aW (by k_is) (by k_is) (by k_is))
  (case dD => exact L2.aW (by k_is) (by k_is) (by k_is))
  (case dE => exact L2.aW (by k_is) (by k_is) (by k_is))
  (case fL => exact L2.aW (by k_is) (by k_is) (by k_is))
  (case eC => exact L2.aW (by k_is) (by k_is) (by k_is))
  (case dF => exact L2.aW (by k_is) (by k_is) (by k_is))
  (case eD => exact L2.aW (by k_is) (by k_is) (by k_is))
  (case dG => exact L2.aW (by k_is) (by k_is) (by k_is))
  (case fM => exact L2.aW (by k_is) (by k_is) (by k_is))
  (case eE => exact L2.aW (by k_is) (by k_is) (by k_is))
  (case cG => exact L2.aW (by k_is) (by k_is) (by k_is))
  (case dH => exact L2.aW (by k_is) (by k_is) (by k_is))
  (case cf => exact L2.aW (by k_is) (by k_is) (by k_is))
  (case fN => exact L2.aW (by k_is) (by k_is) (by k_is))
  (case cH => exact L2.aW (by k_is) (by k_is) (by k_is))
  (case El => k_is)
  (case Em => k_is)
  (case En => k_is)
  (case dY => k_is)
  (case fO => k_is)
  (case fP => k_is)
  (case dZ => k_is)
  (case fQ => k_is)
  (case fR => k_is)
  (case fc => k_is)
  (case gG => k_is)
  (case gI => k_is)
  (case fe => k_is)
  (case gJ => k_is)
  (case gK => k_is)
  (case dI => k_is)
  (case dJ => k_is)
  (case d4 => k_is)
  (case dM => k_is)
  (case dc => k_is)
  (case dN => k_is)
  (case dO => k_is)
  (case de => k_is)
  (case dP => k_is)
  (case d6 => k_is)
  (case dQ => k_is)
  (case dR => k_is)
  (case vI => k_is)
  (case iT => k_is)
  (case zO => k_is)
  (case zP => k_is)
  (case iU => k_is)
  (case Eo => k_is)
  (case zQ => k_is)
  (case vJ => k_is)
  (case Ep => k_is)
  (case rf => k_is)
  (case vK => k_is)
  (case vL => k_is)
  (case rg => k_is)
  (case vM => k_is)
  (case rh => k_is)
  (case KD => k_is)
  (case KG => k_is)
  (case KH => k_is)
  (case KI => k_is)
  (case KJ => k_is)
  (case KL => k_is)
  (case jF => k_exc)
  (case gB => k_exc)
  (case gD => k_exc)
  (case jI => k_exc)
  (case T7 => kts_exm)
  (case T8 => kts_exm)
  (case T9 => kts_exm)
  (case Ua => kts_exm)
  (case B3 => k_is)
  (case B4 => k_is)
  (case jT => k_is)
  (case jU => k_is)
  (case jV => k_is)
  (case jW => k_is)
  (case jX => k_is)
  (case jY => k_is)
  (case iV => k_is)
  (case iW => k_is)
  (case iY => k_is)
  (case iZ => k_is)
  (case i0 => k_is)
  (case i3 => k_is)
  (case i4 => k_is)
  (case i5 => k_is)
  (case i6 => k_is)
  (case i7 => k_is)
  (case i8 => k_is)
  (case i9 => k_is)
  (case jZ => k_is)
  (case j0 => k_is)
  (case j4 => k_is)
  (case j5 => k_is)
  (case j6 => k_is)
  (case j7 => k_is)
