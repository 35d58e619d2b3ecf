import PyProof.Rows.All
import Wide.All
import OpenK.AllK
import Wide.FinOn
import Lean
import PyProof.EqAt
import PyProof.EqKinds
import PyProof.TupleCall
import KE.KIntText
import KE.KDictList
import KE.KDictOf
import PyProof.AttrMissHeap
import PyProof.DictUpdate
import PyProof.ToksMono
import PyProof.NeKinds
import PyProof.EnumFor
import PyProof.EnumStmt
import PyProof.EnumMake
import KE.KRevIter
import PyProof.StrOps2
import PyProof.ZipIter
import PyProof.SumWalkG
import KE.KMinKey
import KE.KTryMore
import KE.KSortAsk
import KE.KSortTup
import KE.KDictLaws
import KE.KItemsList
import KE.RegKTryMore
import PySem.Challenge.RW_poolrules_k04_a_pool_of_facts
set_option Elab.async false
set_option linter.all false
set_option maxRecDepth 100000
/-! THE HAND LAYER, for ints, bools, texts, own classes, LISTS and tuples (index, slices, in, append, pop ..), calls, loops. Paste it whole ahead of your own text; what your proof does not reach may be deleted. -/
namespace L2
open PySem PySem.Spec PyProof.Rows
/-- a key: an int or a str -/
abbrev Key := Sum Int Str
def keyIs : Key → Value → Bool
  | .inl k, v => Value.isInt k v
  | .inr x, v => Value.isStrOf x v
def keyH (w : World) : Key → Int
  | .inl k => hashInt k
  | .inr x => hashStr w x
theorem keyIs_shape : ∀ {k : Key} {v : Value}, keyIs k v = true → (∃ i t, k = Sum.inl i ∧ v = Value.int i t) ∨ (∃ x t, k = Sum.inr x ∧ v = Value.str x t)
  | .inl i, v, h => by
    obtain ⟨t, e⟩ := Value.isInt_shape (k := i) (v := v) h
    exact .inl ⟨i, t, rfl, e⟩
  | .inr x, v, h => by
    obtain ⟨t, e⟩ := Value.isStrOf_shape (x := x) (v := v) h
    exact .inr ⟨x, t, rfl, e⟩
theorem keyIs_int (i : Int) (t : Tok) : keyIs (.inl i) (.int i t) = true := by simp [keyIs, Value.isInt]
theorem keyIs_str (x : Str) (t : Tok) : keyIs (.inr x) (.str x t) = true := by simp [keyIs, Value.isStrOf]
theorem key_ll (a b : Int) : decide ((Sum.inl a : Key) = Sum.inl b) = (a == b) := by
  by_cases e : a = b
  · subst e; simp
  · have h : ¬ (Sum.inl a : Key) = Sum.inl b := fun q => e (Sum.inl.inj q)
    rw [decide_eq_false h]
    exact (beq_eq_false_iff_ne.mpr e).symm
theorem key_rr (a b : Str) : decide ((Sum.inr a : Key) = Sum.inr b) = decide (a = b) := by
  by_cases e : a = b
  · subst e; simp
  · have h : ¬ (Sum.inr a : Key) = Sum.inr b := fun q => e (Sum.inr.inj q)
    rw [decide_eq_false h, decide_eq_false e]
theorem key_lr (a : Int) (b : Str) : decide ((Sum.inl a : Key) = Sum.inr b) = false := decide_eq_false (fun q => nomatch q)
theorem key_rl (a : Str) (b : Int) : decide ((Sum.inr a : Key) = Sum.inl b) = false := decide_eq_false (fun q => nomatch q)
def mixKind (prog : Program) (w : World) : PySem.KeyKind prog w Key where
  is := keyIs
  hash := keyH w
  inj := fun v a b ha hb => by
    rcases keyIs_shape ha with ⟨i, t, rfl, rfl⟩ | ⟨x, t, rfl, rfl⟩
    · rcases keyIs_shape hb with ⟨j, u, rfl, e⟩ | ⟨y, u, rfl, e⟩
      · injection e with e1 _; rw [e1]
      · exact nomatch e
    · rcases keyIs_shape hb with ⟨j, u, rfl, e⟩ | ⟨y, u, rfl, e⟩
      · exact nomatch e
      · injection e with e1 _; rw [e1]
  byValue := fun k v h => by
    rcases keyIs_shape h with ⟨i, t, rfl, rfl⟩ | ⟨x, t, rfl, rfl⟩ <;> rfl
  pyHash := fun hv h => by
    rcases keyIs_shape hv with ⟨i, t, rfl, rfl⟩ | ⟨x, t, rfl, rfl⟩
    · exact wpAny_pyHash_int h
    · exact wpAny_pyHash_str h
  eqBool := fun hu hv h => by
    rcases keyIs_shape hu with ⟨i, t, rfl, rfl⟩ | ⟨x, t, rfl, rfl⟩
    · rcases keyIs_shape hv with ⟨j, u, rfl, rfl⟩ | ⟨y, u, rfl, rfl⟩
      · rw [key_ll] at h; exact wpAny_eqBool_int h
      · rw [key_lr] at h; exact SeqAt.EqAt.int_str i t y u _ _ _ _ h
    · rcases keyIs_shape hv with ⟨j, u, rfl, rfl⟩ | ⟨y, u, rfl, rfl⟩
      · rw [key_rl] at h; exact SeqAt.EqAt.str_int x t j u _ _ _ _ h
      · rw [key_rr] at h; exact wpAny_eqBool_str h
  «strs» := fun k x t v h => by
    rcases keyIs_shape h with ⟨i, u, rfl, e⟩ | ⟨y, u, rfl, e⟩
    · exact nomatch e
    · injection e with e1 _
      subst e1
      cases v <;> rfl
theorem mixKind_int (prog : Program) (w : World) (i : Int) (t : Tok) : (mixKind prog w).is (.inl i) (.int i t) = true := keyIs_int i t
theorem mixKind_str (prog : Program) (w : World) (x : Str) (t : Tok) : (mixKind prog w).is (.inr x) (.str x t) = true := keyIs_str x t
end L2
namespace L2
open PySem PySem.Spec PyProof.Rows
/-- a value, without the heap -/
inductive V where
  | non | bl (b : Bool) | int (i : Int) | str (x : Str) | byt (b : Array UInt8) | flt (b : UInt64) | ref (a : Addr) | ty (n : String)
  deriving DecidableEq
def RelV : V → Value → Prop
  | .non, u => u = Value.none
  | .bl b, u => u = Value.bool b
  | .int i, u => ∃ t, u = Value.int i t
  | .str x, u => ∃ t, u = Value.str x t
  | .byt b, u => ∃ t, u = Value.bytes b t
  | .flt b, u => ∃ t, u = Value.float b t
  | .ref a, u => u = Value.ref a
  | .ty n, u => u = Value.type n
abbrev Vals : List V → List Value → Prop := Paired RelV
theorem Vals.length {xs : List V} {us : List Value} (r : Vals xs us) : xs.length = us.length := Paired.length r
theorem Vals.get : ∀ {xs : List V} {us : List Value} {i : Nat} {x : V}, Vals xs us → xs[i]? = some x → ∃ u, us[i]? = some u ∧ RelV x u
  | _, _, _, _, .nil, e => by simp at e
  | _, _, 0, _, .cons r _, e => by simp at e; subst e; exact ⟨_, rfl, r⟩
  | _, _, i + 1, x, .cons _ t, e => by
    obtain ⟨u, h1, h2⟩ := Vals.get (i := i) (x := x) t (by simpa using e)
    exact ⟨u, by simpa using h1, h2⟩
theorem Vals.set {x : V} {u : Value} (r : RelV x u) : ∀ {xs : List V} {us : List Value} (i : Nat), Vals xs us → Vals (xs.set i x) (us.set i u)
  | _, _, _, .nil => .nil
  | _, _, 0, .cons _ t => .cons r t
  | _, _, i + 1, .cons q t => .cons q (Vals.set r i t)
theorem Vals.append : ∀ {xs ys : List V} {us ws : List Value}, Vals xs us → Vals ys ws → Vals (xs ++ ys) (us ++ ws)
  | _, _, _, _, .nil, s => s
  | _, _, _, _, .cons r t, s => .cons r (Vals.append t s)
theorem Vals.take : ∀ {xs : List V} {us : List Value} (n : Nat), Vals xs us → Vals (xs.take n) (us.take n)
  | _, _, 0, _ => .nil
  | _, _, _ + 1, .nil => .nil
  | _, _, n + 1, .cons r t => .cons r (Vals.take n t)
theorem Vals.drop : ∀ {xs : List V} {us : List Value} (n : Nat), Vals xs us → Vals (xs.drop n) (us.drop n)
  | _, _, 0, r => r
  | _, _, _ + 1, .nil => .nil
  | _, _, n + 1, .cons _ t => Vals.drop n t
theorem Vals.none_of : ∀ {xs : List V} {us : List Value} {i : Nat}, Vals xs us → xs[i]? = none → us[i]? = none := fun {xs us i} r e => by
  have h1 := r.length
  have h2 : xs.length ≤ i := List.getElem?_eq_none_iff.mp e
  exact List.getElem?_eq_none_iff.mpr (by omega)
def RelO : Option V → Option Value → Prop
  | some v, some u => RelV v u
  | none, none => True
  | _, _ => False
def KV {κ : Type} : List (κ × V) → List (κ × Value) → Prop := Paired fun (p : κ × V) (q : κ × Value) => p.1 = q.1 ∧ RelV p.2 q.2
/-- a key of a dict (00_mix): an int or a text -/
def kV : Key → V
  | .inl i => .int i
  | .inr x => .str x
/-- what stands at a tracked address -/
inductive HO where
  /-- a list -/
  | lst (xs : List V)
  /-- a tuple (never changes) -/
  | tup (xs : List V)
  /-- a dict whose keys are ints and texts; one whose keys are tuples of ints and texts (the empty one is both) -/
  | dK (kvs : List (Key × V)) | dT (kvs : List (List Key × V))
  /-- a set of ints: its members, its size -/
  | set (S : Int → Bool) (n : Nat)
  /-- an instance of the class at C, its dict at dx, its attributes -/
  | ins (C dx : Addr) (fs : List (Str × V))
  /-- the dict of the instance at x -/
  | own (x : Addr)
  /-- the dict of an exception -/
  | xd (fs : List (Str × V))
  /-- a bound method, f of x -/
  | met (f x : Addr)
  /-- a range object lo, lo + 1, .. below hi -/
  | rng (lo hi : Int)
  /-- a thing that is known to the object (the script; a dict while a loop walks it): read, never written while it is so -/
  | frz (o : Obj) (u : HO)
  /-- a code object's table -/
  | tbl (ps : Array Value)
  /-- any other thing, by what is true of its one object (a def of one's own: SetO a S n := HO.ext fun h => ..) -/
  | ext (φ : Heap → Prop)
abbrev Hp := Addr → Option HO
def upd (H : Hp) (a : Addr) (o : HO) : Hp := fun b => if b = a then some o else H b
theorem upd_same {H : Hp} {a : Addr} {o : HO} : upd H a o a = some o := by unfold upd; rw [if_pos rfl]
theorem upd_ne {H : Hp} {a b : Addr} {o : HO} (h : b ≠ a) : upd H a o b = H b := by unfold upd; rw [if_neg h]
theorem upd_upd {H : Hp} {a : Addr} {o u : HO} : upd (upd H a o) a u = upd H a u := by
  funext b; unfold upd; split <;> rfl
theorem ne_of_none {H : Hp} {a b : Addr} {o : HO} (h : H a = some o) (h' : H b = none) : a ≠ b := by
  intro e; subst e; rw [h] at h'; cases h'
section
variable (P : Program) (w : World)
def ObjOk (H : Hp) (h : Heap) (a : Addr) : HO → Prop
  | .lst xs => xs.length ≤ sizeLine ∧ ∃ (its : List Value) (n : Nat), Vals xs its ∧ h.get? a = some { cls := .type "list", data := .seq its.toArray n }
  | .tup xs => xs.length ≤ sizeLine ∧ ∃ its : List Value, Vals xs its ∧ IsTup h a its.toArray
  | .dK kvs => kvs.length ≤ sizeLine ∧ (a == sysModules) = false ∧ ∃ vs, KV kvs vs ∧ h.DictOf (mixKind P w) a vs
  | .dT kvs => kvs.length ≤ sizeLine ∧ (a == sysModules) = false ∧ ∃ xs : List (List Key × Addr × Value),
      Paired (fun (p : List Key × V) (q : List Key × Addr × Value) => p.1 = q.1 ∧ H q.2.1 = some (.tup (p.1.map kV)) ∧ RelV p.2 q.2.2) kvs xs ∧
      ∃ o es ep, h.get? a = some o ∧ o.ExactDict ∧ o.data = .dict es ep ∧ es.toList = xs.map (entryOfKey (tupleKind (mixKind P w))) ∧ (xs.map (·.1)).Nodup
  | .set S n => h.SetOf (intKind P w) a S n
  | .ins C dx fs => H dx = some (.own a) ∧ fs.length ≤ 1000 ∧ dx ≠ a ∧ h.get? a = some (PySem.W.instObj C dx) ∧
      ∃ mA, h.Ns1 dx mA ∧ (∀ f, RelO (fs.lookup f) (mA f)) ∧ PySem.Within mA (fs.map (·.1))
  | .own _ => ∃ o, h.get? a = some o
  | .xd fs => ∃ mA, h.Ns1 a mA ∧ ∀ f, RelO (fs.lookup f) (mA f)
  | .rng lo hi => ∃ t u v, h.get? a = some { cls := .type "range", data := .fields #[.int lo t, .int hi u, .int 1 v] }
  | .frz o u => h.get? a = some o ∧ ObjOk H h a u
  | .tbl ps => h.get? a = some { cls := .none, data := .fields ps }
  | .met f x => h.get? a = some (PySem.W.methodObj (.ref f) (.ref x))
  | .ext φ => φ h ∧ (∃ o, h.get? a = some o) ∧ ∀ h1 h2 : Heap, φ h1 → (∀ o, h1.get? a = some o → h2.get? a = some o) → φ h2
/-- the abstract heap is held -/
def HOk (H : Hp) (h : Heap) : Prop := ∀ a o, H a = some o → ObjOk P w H h a o
end
section
variable {P : Program} {w : World} {H H' : Hp} {h h' : Heap} {a : Addr} {o : HO}
theorem ObjOk.lt (x : ObjOk P w H h a o) : a < h.objs.size := by
  cases o with
  | lst xs => obtain ⟨_, _, _, _, e⟩ := x; exact Heap.lt_size e
  | tup xs => obtain ⟨_, _, _, p⟩ := x; exact p.lt
  | dK kvs => obtain ⟨_, _, _, _, o, _, _, e, _⟩ := x; exact Heap.lt_size e
  | dT kvs => obtain ⟨_, _, _, _, o, _, _, e, _⟩ := x; exact Heap.lt_size e
  | set S n => obtain ⟨o, _, _, _, e, _⟩ := x; exact Heap.lt_size e
  | ins C dx fs => obtain ⟨_, _, _, e, _⟩ := x; exact Heap.lt_size e
  | own y => obtain ⟨_, e⟩ := x; exact Heap.lt_size e
  | xd fs => obtain ⟨_, ⟨_, _, _, e, _⟩, _⟩ := x; exact Heap.lt_size e
  | rng lo hi => obtain ⟨_, _, _, e⟩ := x; exact Heap.lt_size e
  | frz ob u => obtain ⟨e, _⟩ := x; exact Heap.lt_size e
  | tbl ps => exact Heap.lt_size (show h.get? a = some _ from x)
  | met f y => exact Heap.lt_size (show h.get? a = some _ from x)
  | ext φ => obtain ⟨_, ⟨_, e⟩, _⟩ := x; exact Heap.lt_size e
theorem Paired.mapP {α β : Type} {F G : α → β → Prop} : ∀ {l₁ : List α} {l₂ : List β}, Paired F l₁ l₂ → (∀ a b, F a b → G a b) → Paired G l₁ l₂
  | _, _, .nil, _ => .nil
  | _, _, .cons r t, f => .cons (f _ _ r) (Paired.mapP t f)
/-- what an object's description leans on: its own object, its own dict, the tuples -/
theorem ObjOk.stay (x : ObjOk P w H h a o) (k : ∀ b u, (b = a ∨ H b = some (.own a)) → h.get? b = some u → h'.get? b = some u)
    (ho : ∀ b, H b = some (.own a) → H' b = some (.own a)) (ht : ∀ b xs, H b = some (.tup xs) → H' b = some (.tup xs)) : ObjOk P w H' h' a o := by
  induction o with
  | lst xs => obtain ⟨z, its, n, r, e⟩ := x; exact ⟨z, its, n, r, k _ _ (.inl rfl) e⟩
  | tup xs => obtain ⟨z, its, r, ob, e, c⟩ := x; exact ⟨z, its, r, ob, k _ _ (.inl rfl) e, c⟩
  | dK kvs => obtain ⟨z, y, vs, r, ob, es, ep, e, c⟩ := x; exact ⟨z, y, vs, r, ob, es, ep, k _ _ (.inl rfl) e, c⟩
  | dT kvs =>
    obtain ⟨z, y, xs, r, ob, es, ep, e, c⟩ := x
    exact ⟨z, y, xs, Paired.mapP r fun p q z => ⟨z.1, ht _ _ z.2.1, z.2.2⟩, ob, es, ep, k _ _ (.inl rfl) e, c⟩
  | set S n => obtain ⟨ob, es, ep, t, e, c⟩ := x; exact ⟨ob, es, ep, t, k _ _ (.inl rfl) e, c⟩
  | ins C dx fs =>
    obtain ⟨d, z, ne, e, mA, ⟨od, es, ep, e2, c⟩, r⟩ := x
    exact ⟨ho _ d, z, ne, k _ _ (.inl rfl) e, mA, ⟨od, es, ep, k _ _ (.inr d) e2, c⟩, r⟩
  | own y => obtain ⟨ob, e⟩ := x; exact ⟨ob, k _ _ (.inl rfl) e⟩
  | xd fs => obtain ⟨mA, ⟨od, es, ep, e, c⟩, r⟩ := x; exact ⟨mA, ⟨od, es, ep, k _ _ (.inl rfl) e, c⟩, r⟩
  | rng lo hi => obtain ⟨t, u, v, e⟩ := x; exact ⟨t, u, v, k _ _ (.inl rfl) e⟩
  | frz ob u ih => obtain ⟨e, q⟩ := x; exact ⟨k _ _ (.inl rfl) e, ih q⟩
  | tbl ps =>
    have e : h.get? a = some { cls := .none, data := .fields ps } := x
    show h'.get? a = some { cls := .none, data := .fields ps }
    exact k a _ (.inl rfl) e
  | met f y =>
    have e : h.get? a = some (PySem.W.methodObj (.ref f) (.ref y)) := x
    show h'.get? a = some (PySem.W.methodObj (.ref f) (.ref y))
    exact k a _ (.inl rfl) e
  | ext φ => obtain ⟨p, ⟨o, e⟩, st⟩ := x; exact ⟨st _ _ p fun o q => k _ _ (.inl rfl) q, ⟨o, k _ _ (.inl rfl) e⟩, st⟩
theorem HOk.lt (x : HOk P w H h) (e : H a = some o) : a < h.objs.size := (x a o e).lt
theorem HOk.fresh (x : HOk P w H h) (e : h.objs.size ≤ a) : H a = none := by
  cases q : H a with
  | none => rfl
  | some u => exact absurd (Nat.lt_of_lt_of_le (x.lt q) e) (Nat.lt_irrefl _)
/-- every object of the heap is kept -/
theorem HOk.kept (x : HOk P w H h) (k : ∀ b u, h.get? b = some u → h'.get? b = some u) : HOk P w H h' := fun a o e =>
  (x a o e).stay (fun b u _ q => k b u q) (fun _ q => q) fun _ _ q => q
/-- a new object is laid and tracked -/
theorem HOk.laid (x : HOk P w H h) (k : ∀ b u, h.get? b = some u → h'.get? b = some u) (hp : h.objs.size ≤ a) (new : ObjOk P w (upd H a o) h' a o) : HOk P w (upd H a o) h' := fun b u e => by
  have hn := x.fresh hp
  by_cases hb : b = a
  · subst hb; rw [upd_same] at e; cases e; exact new
  · rw [upd_ne hb] at e
    exact (x b u e).stay (fun c v _ q => k c v q) (fun c q => by rw [upd_ne (ne_of_none q hn)]; exact q) fun c xs q => by rw [upd_ne (ne_of_none q hn)]; exact q
end
/-- what may be read as u: it is u, or a known u -/
def Rd (H : Hp) (a : Addr) (u : HO) : Prop := H a = some u ∨ ∃ o, H a = some (.frz o u)
theorem Rd.ok {P : Program} {w : World} {H : Hp} {h : Heap} {a : Addr} {u : HO} (r : Rd H a u) (x : HOk P w H h) : ObjOk P w H h a u := by
  rcases r with r | ⟨o, r⟩
  · exact x a u r
  · obtain ⟨_, q⟩ := x a _ r
    exact q
/-- what may be written -/
def Mut : Option HO → Prop
  | some (.lst _) => True
  | some (.dK _) => True
  | some (.dT _) => True
  | some (.set _ _) => True
  | some (.ins _ _ _) => True
  | some (.ext _) => True
  | _ => False
section
variable {P : Program} {w : World} {H : Hp} {h h' : Heap} {x e : Addr} {o' : HO}
/-- the object at e is changed: x itself, or the dict of the instance x -/
theorem HOk.write (ok : HOk P w H h) (mu : Mut (H x)) (he : e = x ∨ H e = some (.own x)) (k : ∀ b u, b ≠ e → h.get? b = some u → h'.get? b = some u) (heo : ∃ u, h'.get? e = some u)
    (new : ObjOk P w (upd H x o') h' x o') : HOk P w (upd H x o') h' := fun b u q => by
  have nown : ∀ c y, H c = some (.own y) → c ≠ x := fun c y r z => by subst z; rw [r] at mu; exact mu
  have ntup : ∀ c xs, H c = some (.tup xs) → c ≠ x := fun c xs r z => by subst z; rw [r] at mu; exact mu
  by_cases hb : b = x
  · subst hb; rw [upd_same] at q; cases q; exact new
  · rw [upd_ne hb] at q
    by_cases hbe : b = e
    · have q' : H b = some (.own x) := by
        rcases he with z | z
        · exact absurd (hbe.trans z) hb
        · rw [hbe]; exact z
      rw [q] at q'; cases q'
      obtain ⟨v, hv⟩ := heo
      exact ⟨v, by rw [hbe]; exact hv⟩
    · refine (ok b u q).stay (fun c v hc r => k c v ?_ r) (fun c r => by rw [upd_ne (nown c b r)]; exact r) fun c xs r => by rw [upd_ne (ntup c xs r)]; exact r
      rcases hc with rfl | hc
      · exact hbe
      · rintro rfl
        rcases he with z | z
        · exact nown c b hc z
        · rw [hc] at z; cases z; exact hb rfl
end
/-! ### kept unless tracked; of the frames at fs (the callers') the slots may change (an exception that passes writes there); of the records at ex (iterators) nothing is said -/
structure Un (fs ex : List Addr) (H H' : Hp) (h h' : Heap) : Prop where
  keep : ∀ b o, h.get? b = some o → H b = none → b ∉ fs → b ∉ ex → h'.get? b = some o
  slot : ∀ b o, h.get? b = some o → H b = none → b ∈ fs → b ∉ ex → ∃ sl, h'.get? b = some { o with slots := sl }
  free : ∀ b o, h.get? b = some o → H b = none → b ∉ ex → H' b = none
  there : ∀ b o, h.get? b = some o → b ∉ ex → ∃ o', h'.get? b = some o'
  tups : ∀ b xs, H b = some (.tup xs) → H' b = some (.tup xs)
  frzs : ∀ b o u, H b = some (.frz o u) → H' b = some (.frz o u)
  tbls : ∀ b ps, H b = some (.tbl ps) → ∃ more, H' b = some (.tbl (ps ++ more))
section
variable {fs fs' ex ex' : List Addr} {H H1 H2 : Hp} {h h1 h2 h' : Heap} {a x e : Addr} {o : HO}
theorem Un.any (u : Un fs ex H H1 h h1) {b : Addr} {ob : Obj} (q : h.get? b = some ob) (n : H b = none) (hx : b ∉ ex) : ∃ sl, h1.get? b = some { ob with slots := sl } := by
  by_cases hb : b ∈ fs
  · exact u.slot b ob q n hb hx
  · exact ⟨ob.slots, u.keep b ob q n hb hx⟩
theorem Un.trans (a : Un fs ex H H1 h h1) (b : Un fs ex H1 H2 h1 h2) : Un fs ex H H2 h h2 where
  keep := fun c ob q n hc hx => b.keep c ob (a.keep c ob q n hc hx) (a.free c ob q n hx) hc hx
  slot := fun c ob q n hc hx => by
    obtain ⟨sl, e1⟩ := a.slot c ob q n hc hx
    obtain ⟨sl', e2⟩ := b.slot c _ e1 (a.free c ob q n hx) hc hx
    exact ⟨sl', e2⟩
  free := fun c ob q n hx => by
    obtain ⟨o', e1⟩ := a.there c ob q hx
    exact b.free c o' e1 (a.free c ob q n hx) hx
  there := fun c ob q hx => by
    obtain ⟨o', e1⟩ := a.there c ob q hx
    exact b.there c o' e1 hx
  tups := fun c xs q => b.tups c xs (a.tups c xs q)
  frzs := fun c ob xs q => b.frzs c ob xs (a.frzs c ob xs q)
  tbls := fun c ps q => by
    obtain ⟨m1, e1⟩ := a.tbls c ps q
    obtain ⟨m2, e2⟩ := b.tbls c _ e1
    exact ⟨m1 ++ m2, by rw [e2, Array.append_assoc]⟩
theorem Un.kept (k : ∀ b u, h.get? b = some u → h'.get? b = some u) : Un fs ex H H h h' :=
  ⟨fun b ob q _ _ _ => k b ob q, fun b ob q _ _ _ => ⟨ob.slots, k b ob q⟩, fun _ _ _ n _ => n, fun b ob q _ => ⟨ob, k b ob q⟩, fun _ _ q => q, fun _ _ _ q => q, fun _ ps q => ⟨#[], by rw [q]; simp⟩⟩
theorem Un.refl : Un fs ex H H h h := Un.kept fun _ _ q => q
theorem Un.laid (k : ∀ b u, h.get? b = some u → h'.get? b = some u) (hp : h.objs.size ≤ a) (hn : H a = none) : Un fs ex H (upd H a o) h h' where
  keep := fun b u q _ _ _ => k b u q
  slot := fun b u q _ _ _ => ⟨u.slots, k b u q⟩
  free := fun b u q n _ => by rw [upd_ne (Nat.ne_of_lt (Nat.lt_of_lt_of_le (Heap.lt_size q) hp))]; exact n
  there := fun b u q _ => ⟨u, k b u q⟩
  tups := fun b xs q => by rw [upd_ne (ne_of_none q hn)]; exact q
  frzs := fun b u xs q => by rw [upd_ne (ne_of_none q hn)]; exact q
  tbls := fun b ps q => ⟨#[], by rw [upd_ne (ne_of_none q hn), q]; simp⟩
theorem Un.write (mu : Mut (H x)) (he : e = x ∨ H e = some (.own x)) (k : ∀ b u, b ≠ e → h.get? b = some u → h'.get? b = some u) (heo : ∃ u, h'.get? e = some u) : Un fs ex H (upd H x o) h h' := by
  have hx : ∀ b, H b = none → b ≠ x := fun b n z => by subst z; rw [n] at mu; exact mu
  have hb : ∀ b, H b = none → b ≠ e := fun b n z => by
    subst z
    rcases he with r | r
    · exact hx b n r
    · rw [n] at r; cases r
  have hm : ∀ b u, H b = some u → ¬ Mut (some u) → b ≠ x := fun b u q nm z => by subst z; rw [q] at mu; exact nm mu
  refine ⟨fun b u q n _ _ => k b u (hb b n) q, fun b u q n _ _ => ⟨u.slots, k b u (hb b n) q⟩, fun b u q n _ => by rw [upd_ne (hx b n)]; exact n, fun b u q _ => ?_,
    fun b xs q => by rw [upd_ne (hm b _ q fun z => z)]; exact q, fun b u xs q => by rw [upd_ne (hm b _ q fun z => z)]; exact q, fun b ps q => ⟨#[], by rw [upd_ne (hm b _ q fun z => z), q]; simp⟩⟩
  by_cases hbe : b = e
  · subst hbe; exact heo
  · exact ⟨u, k b u hbe q⟩
end
/-! ### the heap without what is tracked -/
def trk (h : Heap) (H : Hp) : List Addr := (List.range h.objs.size).filter fun a => (H a).isSome
def hidT (h : Heap) (H : Hp) : Heap := PySem.W.hideAll h (trk h H)
theorem hidT_size (h : Heap) (H : Hp) : (hidT h H).objs.size = h.objs.size := PySem.W.hideAll_size _ _
theorem hidT_get {h : Heap} {H : Hp} {b : Addr} {o : Obj} (e : h.get? b = some o) (n : H b = none) : (hidT h H).get? b = some o :=
  PySem.W.hideAll_get _ e fun hm => by
    have q : (H b).isSome = true := (List.mem_filter.mp hm).2
    rw [n] at q; simp at q
theorem of_hidT {h : Heap} {H : Hp} {b : Addr} {o : Obj} (e : (hidT h H).get? b = some o) : h.get? b = some o ∧ H b = none := by
  have e' : h.get? b = some o := PySem.W.of_hideAll (trk h H) e
  refine ⟨e', ?_⟩
  cases q : H b with
  | none => rfl
  | some x =>
    have hm : b ∈ trk h H := List.mem_filter.mpr ⟨List.mem_range.mpr (Heap.lt_size e'), by simp [q]⟩
    have z : (hidT h H).get? b = none := PySem.W.hideAll_none (trk h H) hm
    rw [z] at e; cases e
/-! ### OpenK's ledger, filled with every new object but one -/
def allNews (g h : Heap) (L : Addr) : List (Addr × Obj) := (List.range h.objs.size).filterMap fun a => if a = L ∨ (g.get? a).isSome = true then none else (h.get? a).map fun o => (a, o)
def rest (g h : Heap) (L d : Addr) : List (Addr × Obj) := (allNews g h L).filter fun p => decide (p.1 ≠ d)
end L2
namespace L2
open PySem PySem.Spec PyProof.Rows
/-- the module's facts, over the base: the heap at the law's entry without what is tracked there -/
structure Mod (K : PySem.W.Frag) (mg : Str → Option Value) (base : Heap) : Prop where
  kin : K.In base
  glob : base.Ns mainGlobals mg
  blt : ∃ mb, base.Ns builtinsNs mb ∧ ∀ x : Str, x ≠ "__name__" → mb x = bootBuiltins x
  nolimit : base.NoLimit
/-- the context: a def's body (or a comprehension's block) running. base: fixed through the whole law; s₀, H₀: the entry; outer: the frames whose slots others may change (a def's callers); stack: all frames that run;
   ex: iterators that were made ahead of the entry and are walked here (a comprehension's); fn: the names whose cells were made at the entry (a def: all; a comprehension's block: its own); calm: not within an except suite; pn: pins that every state bears; xe: what is wanted of an exception that leaves the code -/
structure Cx where
  prog : Program
  w : World
  K : PySem.W.Frag
  mg : Str → Option Value
  base : Heap
  A : Around
  N : List Str
  s₀ : Shared
  H₀ : Hp
  env : Env
  outer : List Env
  stack : List Env
  ex : List Addr
  fn : Str → Bool
  calm : Bool
  pn : List (Addr × Obj)
  xe : Value → Shared → Prop
/-- the callers' frames -/
def frs (l : List Env) : List Addr := l.filterMap (·.frame)
abbrev Cx.fs (X : Cx) : List Addr := frs X.outer
def Vis (sc : Scope) (x : Str) : Prop := sc.names.lookup x = some .local ∨ sc.names.lookup x = some .cell ∨ sc.names.lookup x = some .free
def Loc (sc : Scope) (x : Str) : Prop := sc.names.lookup x = some .local ∨ sc.names.lookup x = some .cell
def Look (env : Env) (h : Heap) (m : Str → Option Value) (x : Str) (u : Value) : Prop :=
  (env.kindOf x = some .local ∧ m x = some u) ∨ ((env.kindOf x = some .cell ∨ env.kindOf x = some .free) ∧ ∃ c, env.cells.lookup x = some c ∧ h.IsCell c (some u))
structure Cx.Ok (X : Cx) : Prop where
  mod : Mod X.K X.mg X.base
  kind : X.env.scope.kind = .function
  glob : X.env.globals = mainGlobals
  blt : X.env.builtins = builtinsNs
  above : X.s₀.heap.objs.size ≤ X.env.locals
  inj : ∀ x y c, X.env.cells.lookup x = some c → X.env.cells.lookup y = some c → x = y
  has : ∀ x, (X.env.kindOf x = some .cell ∨ X.env.kindOf x = some .free) → ∃ c, X.env.cells.lookup x = some c
  cab : ∀ x c, X.fn x = true → X.env.cells.lookup x = some c → X.s₀.heap.objs.size ≤ c
  hd : X.calm = true → X.A.handled = none
  frames : X.A.frames = some X.stack
  stk : X.stack = X.outer ∨ (X.stack = X.env :: X.outer ∧ X.env.frame = some X.env.locals)
  exf : ∀ b ∈ X.ex, b ≠ X.env.locals ∧ ∀ x c, X.env.cells.lookup x = some c → c ≠ b
  bs : ∀ b o, X.base.get? b = some o → X.s₀.heap.get? b = some o ∧ X.H₀ b = none
  bsz : X.base.objs.size ≤ X.s₀.heap.objs.size
  noex : ∀ b o, X.base.get? b = some o → b ∉ X.ex
  exfs : ∀ b ∈ X.ex, b ∉ X.fs
  funs : X.s₀.heap.FunFrames X.base X.outer
  frf : ∀ b ∈ X.fs, X.H₀ b = none
structure Inv (X : Cx) (pins : List (Addr × Obj)) (σ : List (Option V)) (H : Hp) (s : Shared) : Prop where
  ok : X.Ok
  os : s.os = X.s₀.os
  bare : AllBare s.gens
  base : Un X.fs X.ex X.H₀ H X.s₀.heap s.heap
  loc : ∃ m, s.heap.Ns X.env.locals m ∧ ∀ (i : Nat) (x : Str) (v : V), X.N[i]? = some x → σ[i]? = some (some v) → Vis X.env.scope x → ∃ u, RelV v u ∧ Look X.env s.heap m x u
  cell : ∀ x c, X.env.cells.lookup x = some c → ∃ v, s.heap.IsCell c v
  free : H X.env.locals = none
  freeC : ∀ x c, X.env.cells.lookup x = some c → H c = none
  pin : ∀ p ∈ X.pn ++ pins, s.heap.get? p.1 = some p.2 ∧ H p.1 = none ∧ p.1 ≠ X.env.locals ∧ p.1 ∉ X.fs ∧ ∀ v, p.2.data ≠ .cell v
  hok : HOk X.prog X.w H s.heap
  len : σ.length = X.N.length
section
variable {X : Cx} {pins : List (Addr × Obj)} {σ : List (Option V)} {H H' : Hp} {s : Shared} {h' : Heap}
theorem Cx.Ok.nofr (ok : X.Ok) {b : Addr} {o : Obj} (e : X.base.get? b = some o) : b ∉ X.fs := fun hb => by
  have := (ok.funs.mem hb).1
  rw [e] at this; cases this
theorem Inv.bs (I : Inv X pins σ H s) : ∀ b o, X.base.get? b = some o → s.heap.get? b = some o ∧ H b = none := fun b o e =>
  ⟨I.base.keep b o (I.ok.bs b o e).1 (I.ok.bs b o e).2 (I.ok.nofr e) (I.ok.noex b o e), I.base.free b o (I.ok.bs b o e).1 (I.ok.bs b o e).2 (I.ok.noex b o e)⟩
theorem Inv.bk (I : Inv X pins σ H s) : ∀ b o, X.base.get? b = some o → s.heap.get? b = some o := fun b o e => (I.bs b o e).1
theorem Inv.mod (I : Inv X pins σ H s) : Mod X.K X.mg X.base := I.ok.mod
theorem Inv.kIn (I : Inv X pins σ H s) : X.K.In s.heap := I.ok.mod.kin.keeps I.bk
theorem Inv.nolimit (I : Inv X pins σ H s) : s.heap.NoLimit := I.ok.mod.nolimit.keeps I.bk
theorem Inv.lt (I : Inv X pins σ H s) : X.env.locals < s.heap.objs.size := let ⟨_, hn, _⟩ := I.loc; hn.lt
theorem Inv.sz (I : Inv X pins σ H s) : X.s₀.heap.objs.size ≤ s.heap.objs.size := Nat.le_trans I.ok.above (Nat.le_of_lt I.lt)
theorem Inv.nofs (I : Inv X pins σ H s) {a : Addr} (h : s.heap.objs.size ≤ a) : a ∉ X.fs := fun hb => by
  obtain ⟨_, o, ho, _⟩ := I.ok.funs.mem hb
  exact absurd (Nat.lt_of_lt_of_le (Heap.lt_size ho) (Nat.le_trans I.sz h)) (Nat.lt_irrefl _)
theorem Inv.cne (I : Inv X pins σ H s) : ∀ x c, X.env.cells.lookup x = some c → c ≠ X.env.locals := fun x c e z => by
  obtain ⟨v, o, ho, hd⟩ := I.cell x c e
  obtain ⟨m, ⟨o', es, ep, ho', hd', _⟩, _⟩ := I.loc
  rw [z, ho'] at ho; cases ho; rw [hd'] at hd; cases hd
theorem Inv.funs (I : Inv X pins σ H s) : s.heap.FunFrames X.base X.outer := by
  have all : ∀ (l : List Env), (∀ b ∈ frs l, b ∈ X.fs) → X.s₀.heap.FunFrames X.base l → s.heap.FunFrames X.base l := by
    intro l
    induction l with
    | nil => intro _ _; trivial
    | cons env r ih =>
      intro hs hl
      obtain ⟨hk, ⟨L, o, hf, hn, ho, hd⟩, hr⟩ := hl
      have hL : L ∈ X.fs := hs L (by unfold frs; rw [List.filterMap_cons, hf]; exact List.mem_cons_self)
      obtain ⟨sl, e⟩ := I.base.slot L o ho (I.ok.frf L hL) hL fun z => I.ok.exfs L z hL
      exact ⟨hk, ⟨L, _, hf, hn, e, hd⟩, ih (fun b hb => hs b (by unfold frs; rw [List.filterMap_cons, hf]; exact List.mem_cons_of_mem _ hb)) hr⟩
  exact all X.outer (fun _ hb => hb) I.ok.funs
/-- the frames that run, for a call -/
theorem Inv.stack (I : Inv X pins σ H s) : s.heap.FunFrames X.base X.stack := by
  rcases I.ok.stk with e | ⟨e, hf⟩
  · rw [e]; exact I.funs
  · rw [e]
    obtain ⟨m, hn, _⟩ := I.loc
    refine .cons (by rw [I.ok.kind]; decide) hf hn ?_ I.funs
    exact Heap.get?_none_of_le (Nat.le_trans I.ok.bsz I.ok.above)
theorem Inv.stkSub (I : Inv X pins σ H s) : ∀ b ∈ frs X.stack, b ∈ X.env.locals :: X.fs := fun b hb => by
  rcases I.ok.stk with e | ⟨e, hf⟩
  · rw [e] at hb; exact List.mem_cons_of_mem _ hb
  · rw [e] at hb
    unfold frs at hb
    rw [List.filterMap_cons, hf] at hb
    exact hb
theorem Inv.stkFree (I : Inv X pins σ H s) : ∀ b ∈ frs X.stack, H b = none := fun b hb => by
  rcases List.mem_cons.mp (I.stkSub b hb) with e | hb
  · rw [e]; exact I.free
  · obtain ⟨_, o, ho, _⟩ := I.ok.funs.mem hb
    exact I.base.free b o ho (I.ok.frf b hb) fun z => I.ok.exfs b z hb
/-- THE STEP: the untracked objects but the frame and the records at ch are kept (the callers' frames up to slots), the frame's map is kept, the new abstract heap is held -/
theorem Inv.step {g' : Array GenState} {t' : Nat} {d' : Drawn} {ch : List Addr} (I : Inv X pins σ H s)
    (hch : ∀ b ∈ ch, (b ∈ X.ex ∨ X.s₀.heap.objs.size ≤ b) ∧ b ≠ X.env.locals ∧ (∀ x c, X.env.cells.lookup x = some c → c ≠ b) ∧ ∀ p ∈ X.pn ++ pins, p.1 ≠ b)
    (keep : ∀ b o, b ≠ X.env.locals → b ∉ X.fs → b ∉ ch → s.heap.get? b = some o → H b = none → h'.get? b = some o)
    (slot : ∀ b o, b ≠ X.env.locals → b ∈ X.fs → b ∉ ch → s.heap.get? b = some o → H b = none → ∃ sl, h'.get? b = some { o with slots := sl }) (free : ∀ b o, b ∉ ch → s.heap.get? b = some o → H b = none → H' b = none)
    (there : ∀ b o, b ∉ ch → s.heap.get? b = some o → ∃ o', h'.get? b = some o')
    (tups : ∀ b xs, H b = some (.tup xs) → H' b = some (.tup xs)) (frzs : ∀ b o u, H b = some (.frz o u) → H' b = some (.frz o u)) (tbls : ∀ b ps, H b = some (.tbl ps) → ∃ more, H' b = some (.tbl (ps ++ more)))
    (ns : ∀ m, s.heap.Ns X.env.locals m → h'.Ns X.env.locals m) (hok : HOk X.prog X.w H' h') (hg : AllBare g') :
    Inv X pins σ H' { s with heap := h', gens := g', drawn := d', toks := t' } := by
  have neL : ∀ b o, X.s₀.heap.get? b = some o → b ≠ X.env.locals := fun b o e => Nat.ne_of_lt (Nat.lt_of_lt_of_le (Heap.lt_size e) I.ok.above)
  have neC : ∀ b o, X.s₀.heap.get? b = some o → b ∉ X.ex → b ∉ ch := fun b o e hx hb => by
    rcases (hch b hb).1 with z | z
    · exact hx z
    · exact absurd (Nat.lt_of_lt_of_le (Heap.lt_size e) z) (Nat.lt_irrefl _)
  have cellK : ∀ x c, X.env.cells.lookup x = some c → ∀ v, s.heap.IsCell c v → h'.IsCell c v := fun x c e v ⟨o, ho, hd⟩ => by
    have nch : c ∉ ch := fun z => (hch c z).2.2.1 x c e rfl
    by_cases hc : c ∈ X.fs
    · obtain ⟨sl, q⟩ := slot c o (I.cne x c e) hc nch ho (I.freeC x c e)
      exact ⟨_, q, hd⟩
    · exact ⟨o, keep c o (I.cne x c e) hc nch ho (I.freeC x c e), hd⟩
  refine ⟨I.ok, I.os, hg, ⟨fun b o e n hb hx => ?_, fun b o e n hb hx => ?_, fun b o e n hx => ?_, fun b o e hx => ?_, fun b xs e => tups b xs (I.base.tups b xs e), fun b o xs e => frzs b o xs (I.base.frzs b o xs e), fun b ps e => ?_⟩, ?_, fun x c e => ?_, ?_, fun x c e => ?_, fun p hp => ?_, hok, I.len⟩
  · exact keep b o (neL b o e) hb (neC b o e hx) (I.base.keep b o e n hb hx) (I.base.free b o e n hx)
  · obtain ⟨sl, e1⟩ := I.base.slot b o e n hb hx
    obtain ⟨sl', e2⟩ := slot b _ (neL b o e) hb (neC b o e hx) e1 (I.base.free b o e n hx)
    exact ⟨sl', e2⟩
  · obtain ⟨o', e1⟩ := I.base.there b o e hx
    exact free b o' (neC b o e hx) e1 (I.base.free b o e n hx)
  · obtain ⟨o', e1⟩ := I.base.there b o e hx
    exact there b o' (neC b o e hx) e1
  · obtain ⟨m1, e1⟩ := I.base.tbls b ps e
    obtain ⟨m2, e2⟩ := tbls b _ e1
    exact ⟨m1 ++ m2, by rw [e2, Array.append_assoc]⟩
  · obtain ⟨m, hn, hl⟩ := I.loc
    refine ⟨m, ns m hn, fun i x v e1 e2 e3 => ?_⟩
    obtain ⟨u, r, l⟩ := hl i x v e1 e2 e3
    refine ⟨u, r, ?_⟩
    rcases l with l | ⟨k, c, e, z⟩
    · exact .inl l
    · exact .inr ⟨k, c, e, cellK x c e _ z⟩
  · obtain ⟨v, z⟩ := I.cell x c e
    exact ⟨v, cellK x c e v z⟩
  · obtain ⟨m, ⟨o, _, _, ho, _⟩, _⟩ := I.loc
    exact free _ o (fun z => (hch _ z).2.1 rfl) ho I.free
  · obtain ⟨v, o, ho, hd⟩ := I.cell x c e
    exact free c o (fun z => (hch c z).2.2.1 x c e rfl) ho (I.freeC x c e)
  · obtain ⟨e, n, ne, nf, d⟩ := I.pin p hp
    have nch : p.1 ∉ ch := fun z => (hch p.1 z).2.2.2 p hp rfl
    exact ⟨keep p.1 p.2 ne nf nch e n, free p.1 p.2 nch e n, ne, nf, d⟩
/-- .. where the frame's own object is kept too -/
theorem Inv.un {t' : Nat} (I : Inv X pins σ H s) (u : Un X.fs [] H H' s.heap h') (hok : HOk X.prog X.w H' h') : Inv X pins σ H' { s with heap := h', toks := t' } := by
  obtain ⟨m, ⟨o, es, ep, ho, r⟩, _⟩ := id I.loc
  obtain ⟨sl, hL⟩ := u.any ho I.free (by simp)
  exact I.step (g' := s.gens) (d' := s.drawn) (ch := []) (fun _ z => nomatch z) (fun b o _ hb _ e n => u.keep b o e n hb (by simp)) (fun b o _ hb _ e n => u.slot b o e n hb (by simp)) (fun b o _ e n => u.free b o e n (by simp)) (fun b o _ e => u.there b o e (by simp)) u.tups u.frzs u.tbls (fun m' hm => by
    obtain ⟨o', es', ep', ho', r'⟩ := hm
    rw [ho] at ho'; cases ho'
    exact ⟨_, es', ep', hL, r'⟩) hok I.bare
/-- behind a call (or a comprehension's block): the slots of this frame may have changed too, the records at ch may have turned -/
theorem Inv.call {g' : Array GenState} {t' : Nat} {d' : Drawn} {ch : List Addr} (I : Inv X pins σ H s) (u : Un (frs X.stack) ch H H' s.heap h') (hok : HOk X.prog X.w H' h') (hg : AllBare g')
    (hch : ∀ b ∈ ch, (b ∈ X.ex ∨ X.s₀.heap.objs.size ≤ b) ∧ b ≠ X.env.locals ∧ (∀ x c, X.env.cells.lookup x = some c → c ≠ b) ∧ ∀ p ∈ X.pn ++ pins, p.1 ≠ b) :
    Inv X pins σ H' { s with heap := h', gens := g', drawn := d', toks := t' } := by
  obtain ⟨m, ⟨o, es, ep, ho, r⟩, _⟩ := id I.loc
  obtain ⟨sl, hL⟩ := u.any ho I.free fun z => (hch _ z).2.1 rfl
  exact I.step (ch := ch) hch (fun b o hL hb hc e n => u.keep b o e n (fun z => (List.mem_cons.mp (I.stkSub b z)).elim hL hb) hc) (fun b o _ _ hc e n => u.any e n hc) (fun b o hc e n => u.free b o e n hc) (fun b o hc e => u.there b o e hc) u.tups u.frzs u.tbls (fun m' hm => by
    obtain ⟨o', es', ep', ho', r'⟩ := hm
    rw [ho] at ho'; cases ho'
    exact ⟨_, es', ep', hL, r'⟩) hok hg
/-- an untracked record of ours (an iterator) has turned -/
theorem Inv.turned {t' : Nat} {it : Addr} (I : Inv X pins σ H s) (k : ∀ b o, b ≠ it → s.heap.get? b = some o → h'.get? b = some o) (hn : H it = none) (hL : it ≠ X.env.locals)
    (h1 : it ∈ X.ex ∨ X.s₀.heap.objs.size ≤ it) (h2 : ∀ x c, X.env.cells.lookup x = some c → c ≠ it) (h3 : ∀ p ∈ X.pn ++ pins, p.1 ≠ it) : Inv X pins σ H { s with heap := h', toks := t' } := by
  have nit : ∀ b u, H b = some u → b ≠ it := fun b u e z => by rw [z, hn] at e; cases e
  refine I.step (g' := s.gens) (d' := s.drawn) (ch := [it]) (fun b hb => ?_) (fun b o _ _ hc e _ => k b o (fun z => hc (by simp [z])) e) (fun b o _ _ hc e _ => ⟨o.slots, k b o (fun z => hc (by simp [z])) e⟩) (fun _ _ _ _ n => n)
    (fun b o hc e => ⟨o, k b o (fun z => hc (by simp [z])) e⟩) (fun _ _ e => e) (fun _ _ _ e => e) (fun b ps e => ⟨#[], by rw [e]; simp⟩) (fun m hm => ?_) (fun b u e => ?_) I.bare
  · have e : b = it := by simpa using hb
    subst e
    exact ⟨h1, hL, h2, h3⟩
  · obtain ⟨o, es, ep, ho, r⟩ := hm
    exact ⟨o, es, ep, k _ o (Ne.symm hL) ho, r⟩
  · refine (I.hok b u e).stay (fun c v hc q => k c v ?_ q) (fun _ q => q) fun _ _ q => q
    rcases hc with z | z
    · rw [z]; exact nit b u e
    · exact nit c _ z
theorem Inv.tok (I : Inv X pins σ H s) (t : Nat) : Inv X pins σ H { s with toks := t } := I.un (h' := s.heap) (t' := t) Un.refl I.hok
/-- all objects kept -/
theorem Inv.kept {t' : Nat} (I : Inv X pins σ H s) (k : ∀ b u, s.heap.get? b = some u → h'.get? b = some u) : Inv X pins σ H { s with heap := h', toks := t' } := I.un (Un.kept k) (I.hok.kept k)
/-- a new object laid and tracked -/
theorem Inv.laid {a : Addr} {o : HO} {t' : Nat} (I : Inv X pins σ H s) (k : ∀ b u, s.heap.get? b = some u → h'.get? b = some u) (hp : s.heap.objs.size ≤ a) (new : ObjOk X.prog X.w (upd H a o) h' a o) :
    Inv X pins σ (upd H a o) { s with heap := h', toks := t' } := I.un (Un.laid k hp (I.hok.fresh hp)) (I.hok.laid k hp new)
/-- an object written -/
theorem Inv.write {x e : Addr} {o : HO} {t' : Nat} (I : Inv X pins σ H s) (mu : Mut (H x)) (he : e = x ∨ H e = some (.own x)) (k : ∀ b u, b ≠ e → s.heap.get? b = some u → h'.get? b = some u) (heo : ∃ u, h'.get? e = some u)
    (new : ObjOk X.prog X.w (upd H x o) h' x o) : Inv X pins σ (upd H x o) { s with heap := h', toks := t' } := I.un (Un.write mu he k heo) (I.hok.write mu he k heo new)
theorem Inv.pins_of {pins' : List (Addr × Obj)} (I : Inv X pins σ H s) (h : ∀ p ∈ pins', s.heap.get? p.1 = some p.2 ∧ H p.1 = none ∧ p.1 ≠ X.env.locals ∧ p.1 ∉ X.fs ∧ ∀ v, p.2.data ≠ .cell v) : Inv X pins' σ H s :=
  ⟨I.ok, I.os, I.bare, I.base, I.loc, I.cell, I.free, I.freeC, fun p hp => (List.mem_append.mp hp).elim (fun z => I.pin p (List.mem_append_left _ z)) (h p), I.hok, I.len⟩
theorem nodup_ix {N : List Str} (hN : N.Nodup) {i j : Nat} {x : Str} (a : N[i]? = some x) (b : N[j]? = some x) : i = j := by
  obtain ⟨h1, e1⟩ := List.getElem?_eq_some_iff.mp a
  obtain ⟨h2, e2⟩ := List.getElem?_eq_some_iff.mp b
  exact (List.getElem_inj hN).mp (e1.trans e2.symm)
/-- a name is stored; what changed -/
theorem store_ok2 {M : Model} {A : Around} {E : Value → Shared → Prop} {i : Nat} {x : Str} {v : V} {u : Value} {Q : Unit → Shared → Prop} (I : Inv X pins σ H s) (hN : X.N.Nodup) (hi : X.N[i]? = some x) (hx : Loc X.env.scope x) (r : RelV v u)
    (h : ∀ s', Inv X pins (σ.set i (some v)) H s' → (∃ a, Heap.SameBut a s.heap s'.heap ∧ (a = X.env.locals ∨ X.env.cells.lookup x = some a)) → Q () s') (hf : X.fn x = true ∨ X.env.scope.names.lookup x = some .local := by first | exact .inl rfl | exact .inr rfl | assumption) : wpAny M A (storeName X.env x u) Q E s := by
  obtain ⟨m, hn, hl⟩ := id I.loc
  have hcls : (X.env.scope.kind == .class || (X.env.scope.kind == .module && X.env.locals != X.env.globals)) = false := by rw [I.ok.kind]; rfl
  have hiσ : i < σ.length := by rw [I.len]; exact (List.getElem?_eq_some_iff.mp hi).1
  have cne := I.cne
  have tracked : ∀ {a : Addr} {h' : Heap}, (∃ o, s.heap.get? a = some o ∧ H a = none) → Heap.SameBut a s.heap h' → HOk X.prog X.w H h' := fun {a h'} ha hs b ob e => by
    obtain ⟨_, _, hfree⟩ := ha
    refine (I.hok b ob e).stay (fun c w' hc q => (hs.2 c ?_).trans q) (fun _ q => q) fun _ _ q => q
    rintro rfl
    rcases hc with rfl | hc
    · rw [hfree] at e; cases e
    · rw [hfree] at hc; cases hc
  rcases hx with hk | hk
  · refine wpAny_storeName_local hk hn (fun h' hn' hs => ?_) hcls
    obtain ⟨oL, _, _, hoL, _⟩ := id hn
    refine h _ ⟨I.ok, I.os, I.bare, ⟨fun b o e n hb hx => ?_, fun b o e n hb hx => ?_, I.base.free, fun b o e hx => ?_, I.base.tups, I.base.frzs, I.base.tbls⟩, ⟨_, hn', fun j y v' e1 e2 e3 => ?_⟩, fun y c e => ?_, I.free, I.freeC, fun p hp => ?_, tracked ⟨oL, hoL, I.free⟩ hs, by simpa using I.len⟩ ⟨_, hs, .inl rfl⟩
    · exact (hs.2 b (Nat.ne_of_lt (Nat.lt_of_lt_of_le (Heap.lt_size e) I.ok.above))).trans (I.base.keep b o e n hb hx)
    · obtain ⟨sl, e1⟩ := I.base.slot b o e n hb hx
      exact ⟨sl, (hs.2 b (Nat.ne_of_lt (Nat.lt_of_lt_of_le (Heap.lt_size e) I.ok.above))).trans e1⟩
    · obtain ⟨o', e1⟩ := I.base.there b o e hx
      exact ⟨o', (hs.2 b (Nat.ne_of_lt (Nat.lt_of_lt_of_le (Heap.lt_size e) I.ok.above))).trans e1⟩
    · by_cases hj : j = i
      · subst hj
        rw [hi] at e1; cases e1
        rw [List.getElem?_set_self hiσ] at e2
        cases e2
        exact ⟨u, r, .inl ⟨hk, by simp⟩⟩
      · rw [List.getElem?_set_ne (Ne.symm hj)] at e2
        obtain ⟨u', r', q⟩ := hl j y v' e1 e2 e3
        refine ⟨u', r', ?_⟩
        rcases q with ⟨k, e⟩ | ⟨k, c, e, z⟩
        · refine .inl ⟨k, ?_⟩
          have : y ≠ x := fun e => hj (nodup_ix hN e1 (e ▸ hi))
          simp [this, e]
        · exact .inr ⟨k, c, e, z.sameBut hs (cne y c e)⟩
    · obtain ⟨w', z⟩ := I.cell y c e
      exact ⟨w', z.sameBut hs (cne y c e)⟩
    · obtain ⟨e, n, ne, nf, d⟩ := I.pin p hp
      exact ⟨(hs.2 p.1 ne).trans e, n, ne, nf, d⟩
  · have hfn : X.fn x = true := by
      rcases hf with z | z
      · exact z
      · rw [z] at hk; cases hk
    obtain ⟨c, hc⟩ := I.ok.has x (.inl hk)
    obtain ⟨w', z⟩ := I.cell x c hc
    refine wpAny_storeName_cell I.ok.kind hk hc z (fun h' hc' hs => ?_)
    obtain ⟨oc, hoc, hocd⟩ := id z
    refine h { s with heap := h' } ⟨I.ok, I.os, I.bare, ⟨fun b o e n hb hx => ?_, fun b o e n hb hx => ?_, I.base.free, fun b o e hx => ?_, I.base.tups, I.base.frzs, I.base.tbls⟩, ⟨m, hn.sameBut hs (Ne.symm (cne x c hc)), fun j y v' e1 e2 e3 => ?_⟩, fun y c' e => ?_, I.free, I.freeC, fun p hp => ?_, tracked ⟨oc, hoc, I.freeC x c hc⟩ hs, by simpa using I.len⟩ ⟨c, hs, .inr hc⟩
    · exact (hs.2 b (Nat.ne_of_lt (Nat.lt_of_lt_of_le (Heap.lt_size e) (I.ok.cab x c hfn hc)))).trans (I.base.keep b o e n hb hx)
    · obtain ⟨sl, e1⟩ := I.base.slot b o e n hb hx
      exact ⟨sl, (hs.2 b (Nat.ne_of_lt (Nat.lt_of_lt_of_le (Heap.lt_size e) (I.ok.cab x c hfn hc)))).trans e1⟩
    · obtain ⟨o', e1⟩ := I.base.there b o e hx
      exact ⟨o', (hs.2 b (Nat.ne_of_lt (Nat.lt_of_lt_of_le (Heap.lt_size e) (I.ok.cab x c hfn hc)))).trans e1⟩
    · by_cases hj : j = i
      · subst hj
        rw [hi] at e1; cases e1
        rw [List.getElem?_set_self hiσ] at e2
        cases e2
        exact ⟨u, r, .inr ⟨.inl hk, c, hc, hc'⟩⟩
      · rw [List.getElem?_set_ne (Ne.symm hj)] at e2
        obtain ⟨u', r', q⟩ := hl j y v' e1 e2 e3
        refine ⟨u', r', ?_⟩
        rcases q with q | ⟨k, c', e, z'⟩
        · exact .inl q
        · refine .inr ⟨k, c', e, z'.sameBut hs ?_⟩
          rintro rfl
          exact hj (nodup_ix hN e1 (I.ok.inj _ _ _ e hc ▸ hi))
    · by_cases hcc : c' = c
      · subst hcc; exact ⟨_, hc'⟩
      · obtain ⟨w2, z2⟩ := I.cell y c' e
        exact ⟨w2, z2.sameBut hs hcc⟩
    · obtain ⟨e, n, ne, nf, d⟩ := I.pin p hp
      refine ⟨(hs.2 p.1 ?_).trans e, n, ne, nf, d⟩
      intro q
      rw [q, hoc] at e
      have q' : oc = p.2 := Option.some.inj e
      exact d w' (by rw [← q']; exact hocd)
theorem store_ok {M : Model} {A : Around} {E : Value → Shared → Prop} {i : Nat} {x : Str} {v : V} {u : Value} {Q : Unit → Shared → Prop} (I : Inv X pins σ H s) (hN : X.N.Nodup) (hi : X.N[i]? = some x) (hx : Loc X.env.scope x) (r : RelV v u)
    (h : ∀ s', Inv X pins (σ.set i (some v)) H s' → Q () s') (hf : X.fn x = true ∨ X.env.scope.names.lookup x = some .local := by first | exact .inl rfl | exact .inr rfl | assumption) : wpAny M A (storeName X.env x u) Q E s :=
  store_ok2 I hN hi hx r (fun s' I' _ => h s' I') hf
/-- behind a call or a block, the state as it is -/
theorem Inv.call' {s' : Shared} {ch : List Addr} (I : Inv X pins σ H s) (ho : s'.os = s.os) (u : Un (frs X.stack) ch H H' s.heap s'.heap) (hok : HOk X.prog X.w H' s'.heap) (hg : AllBare s'.gens)
    (hch : ∀ b ∈ ch, (b ∈ X.ex ∨ X.s₀.heap.objs.size ≤ b) ∧ b ≠ X.env.locals ∧ (∀ x c, X.env.cells.lookup x = some c → c ≠ b) ∧ ∀ p ∈ X.pn ++ pins, p.1 ≠ b) : Inv X pins σ H' s' := by
  obtain ⟨h', g', d', t', o'⟩ := s'
  have e : o' = s.os := ho
  subst e
  exact I.call (g' := g') (t' := t') (d' := d') u hok hg hch
end
/-! ### the judgements -/
/-- an exception: its class, its own dict's address (where it has one), the abstract heap behind it -/
abbrev XK := Value → Option Addr → Hp → Prop
abbrev St := List (Option V)
abbrev VK := V → Hp → Prop
/-- an expression's reading; a test's; an argument list's -/
abbrev TE := St → Hp → VK → Prop
abbrev TT := St → Hp → (Bool → Hp → Prop) → Prop
abbrev TA := St → Hp → (List V → Hp → Prop) → Prop
/-- what is wanted behind a statement -/
structure Ends where
  nx : St → Hp → Prop
  rt : VK
  bk : St → Hp → Prop := fun _ _ => False
  ct : St → Hp → Prop := fun _ _ => False
abbrev TS := Ends → St → Hp → Prop
def EP (X : Cx) (pins : List (Addr × Obj)) (σ : St) (Q : VK) (u : Value) (s' : Shared) : Prop := ∃ v H', Inv X pins σ H' s' ∧ RelV v u ∧ Q v H'
def TP (X : Cx) (pins : List (Addr × Obj)) (σ : St) (Q : Bool → Hp → Prop) (b : Bool) (s' : Shared) : Prop := ∃ H', Inv X pins σ H' s' ∧ Q b H'
def AP (X : Cx) (pins : List (Addr × Obj)) (σ : St) (Q : List V → Hp → Prop) (us : List Value) (s' : Shared) : Prop := ∃ vs H', Inv X pins σ H' s' ∧ Vals vs us ∧ Q vs H'
def SP (X : Cx) (pins : List (Addr × Obj)) (D : Ends) (f : Flow) (s' : Shared) : Prop :=
  match f with
  | .next => ∃ σ' H', Inv X pins σ' H' s' ∧ D.nx σ' H'
  | .brk => ∃ σ' H', Inv X pins σ' H' s' ∧ D.bk σ' H'
  | .cont => ∃ σ' H', Inv X pins σ' H' s' ∧ D.ct σ' H'
  | .ret u => ∃ v σ' H', Inv X pins σ' H' s' ∧ RelV v u ∧ D.rt v H'
def PE (X : Cx) (e : Expr) (t : TE) : Prop :=
  ∀ (pins : List (Addr × Obj)) (s : Shared) (σ : St) (H : Hp) (Q : VK), Inv X pins σ H s → t σ H Q → wpAny (model X.prog X.w) X.A (eval e X.env) (EP X pins σ Q) X.xe s
def PT (X : Cx) (e : Expr) (t : TT) : Prop :=
  ∀ (pins : List (Addr × Obj)) (s : Shared) (σ : St) (H : Hp) (Q : Bool → Hp → Prop), Inv X pins σ H s → t σ H Q → wpAny (model X.prog X.w) X.A (isTrue e X.env (eval e X.env)) (TP X pins σ Q) X.xe s
/-- a test whatever its 'whole' is (and, or) -/
def PW (X : Cx) (e : Expr) (t : TT) : Prop :=
  ∀ (whole : Sem Value) (pins : List (Addr × Obj)) (s : Shared) (σ : St) (H : Hp) (Q : Bool → Hp → Prop), Inv X pins σ H s → t σ H Q → wpAny (model X.prog X.w) X.A (isTrue e X.env whole) (TP X pins σ Q) X.xe s
theorem PW.pt {X : Cx} {e : Expr} {t : TT} (h : PW X e t) : PT X e t := h _
/-- an argument list (no star), from the left -/
def PA (X : Cx) (es : List Expr) (t : TA) : Prop :=
  ∀ (pos : Pos) (pins : List (Addr × Obj)) (s : Shared) (σ : St) (H : Hp) (Q : List V → Hp → Prop), Inv X pins σ H s → t σ H Q → wpAny (model X.prog X.w) X.A (spliced (backTo pos (starEach es X.env))) (AP X pins σ Q) X.xe s
def PS (X : Cx) (st : Stmt) (t : TS) : Prop :=
  ∀ (pins : List (Addr × Obj)) (s : Shared) (σ : St) (H : Hp) (D : Ends), Inv X pins σ H s → t D σ H → wpAny (model X.prog X.w) X.A (exec st X.env) (SP X pins D) X.xe s
def PSs (X : Cx) (st : List Stmt) (t : TS) : Prop :=
  ∀ (pins : List (Addr × Obj)) (s : Shared) (σ : St) (H : Hp) (D : Ends), Inv X pins σ H s → t D σ H → wpAny (model X.prog X.w) X.A (execs st X.env) (SP X pins D) X.xe s
/-- weaken the end -/
theorem thn {α : Type} {t : Sem α} {Q Q' : α → Shared → Prop} {M : Model} {A : Around} {E : Value → Shared → Prop} {s : Shared} (h : wpAny M A t Q E s) (hQ : ∀ a s, Q a s → Q' a s) : wpAny M A t Q' E s := wpAny_mono h hQ fun _ _ x => x
end L2
namespace L2
open PySem PySem.Spec PyProof.Rows
section
variable {X : Cx}
/-- two expressions in a row -/
theorem bin {a b : Expr} {ta tb : TE} (ha : PE X a ta) (hb : PE X b tb) {pins : List (Addr × Obj)} {s : Shared} {σ : St} {H : Hp} {R : V → V → Hp → Prop} (I : Inv X pins σ H s) (h : ta σ H fun x H1 => tb σ H1 fun y H2 => R x y H2)
    {α : Type} {Q : α → Shared → Prop} {f : Value → Value → Sem α}
    (hf : ∀ v u s2 x y H2, Inv X pins σ H2 s2 → RelV x v → RelV y u → R x y H2 → wpAny (model X.prog X.w) X.A (f v u) Q X.xe s2) :
    wpAny (model X.prog X.w) X.A (eval a X.env) (fun v s₁ => wpAny (model X.prog X.w) X.A (eval b X.env) (fun u s₂ => wpAny (model X.prog X.w) X.A (f v u) Q X.xe s₂) X.xe s₁) X.xe s := by
  refine thn (ha pins s σ H _ I h) fun v s1 ⟨x, H1, I1, r1, q1⟩ => ?_
  refine thn (hb pins s1 σ H1 _ I1 q1) fun u s2 ⟨y, H2, I2, r2, q2⟩ => ?_
  exact hf v u s2 x y H2 I2 r1 r2 q2
/-! ### names and constants -/
def tVar (i : Nat) : TE := fun σ H Q => ∃ v, σ[i]? = some (some v) ∧ Q v H
def tC (v : V) : TE := fun _ H Q => Q v H
theorem pe_var {i : Nat} {x : Str} {pos : Pos} (hN : X.N[i]? = some x) (hv : Vis X.env.scope x) (hd : (x == ("__debug__" : Str)) = false := by decide) (hcd : (x == ("__classdict__" : Str)) = false := by decide) : PE X (.Name x pos) (tVar i) := by
  intro pins s σ H Q I h
  obtain ⟨v, e, h⟩ := h
  obtain ⟨m, hn, hl⟩ := I.loc
  obtain ⟨u, r, l⟩ := hl i x v hN e hv
  have fin : EP X pins σ Q u s := ⟨v, H, I, r, h⟩
  rcases l with ⟨hk, hm⟩ | ⟨hk, c, hc, hcell⟩
  · exact wpAny_Name (wpAny_loadName_local I.ok.kind hk hn hm fin) hd
  · rcases hk with hk | hk
    · exact wpAny_Name (wpAny_loadName_cell I.ok.kind hk hc hcell fin) hd
    · exact wpAny_Name (wpAny_loadName_free I.ok.kind hk hc hcell fin hcd) hd
theorem pe_int {i j pos} : PE X (.Constant (.int i) j pos) (tC (.int i)) := fun _ _ _ H _ I h => wpAny_Constant_int ⟨.int i, H, I.tok _, ⟨_, rfl⟩, h⟩
theorem pe_bl {b j pos} : PE X (.Constant (.bool b) j pos) (tC (.bl b)) := fun _ _ _ H _ I h => Constant_bool ⟨.bl b, H, I, rfl, h⟩
theorem pe_non {j pos} : PE X (.Constant .none j pos) (tC .non) := fun _ _ _ H _ I h => Constant_none ⟨.non, H, I, rfl, h⟩
theorem pe_str {x j pos} : PE X (.Constant (.str x) j pos) (tC (.str x)) := fun _ _ _ H _ I h => Calls.Constant_str ⟨.str x, H, I.tok _, ⟨_, rfl⟩, h⟩
/-- a global name of the def -/
def Gl (X : Cx) (x : Str) : Prop := X.env.kindOf x = some .globalImplicit
theorem ld_glob {E : Value → Shared → Prop} {pins : List (Addr × Obj)} {s : Shared} {σ : St} {H : Hp} {x : Str} {u : Value} {pos : Pos} {Q : Value → Shared → Prop} (I : Inv X pins σ H s) (hg : Gl X x) (hm : X.mg x = some u) (h : Q u s)
    (hd : (x == ("__debug__" : Str)) = false := by decide) : wpAny (model X.prog X.w) X.A (eval (.Name x pos) X.env) Q E s :=
  Calls.Name_function_global I.ok.kind hg (Calls.loadGlobal_global (by rw [I.ok.glob]; exact I.mod.glob.keeps I.bk) hm h) hd
theorem ld_blt {E : Value → Shared → Prop} {pins : List (Addr × Obj)} {s : Shared} {σ : St} {H : Hp} {x : Str} {u : Value} {pos : Pos} {Q : Value → Shared → Prop} (I : Inv X pins σ H s) (hg : Gl X x) (hm : X.mg x = none) (hv : bootBuiltins x = some u) (h : Q u s)
    (hn : x ≠ "__name__" := by decide) (hd : (x == ("__debug__" : Str)) = false := by decide) : wpAny (model X.prog X.w) X.A (eval (.Name x pos) X.env) Q E s := by
  obtain ⟨mb, h1, h2⟩ := I.mod.blt
  exact Calls.Name_function_global I.ok.kind hg (Calls.loadGlobal_builtin (by rw [I.ok.glob]; exact I.mod.glob.keeps I.bk) hm (by rw [I.ok.blt]; exact h1.keeps I.bk) ((h2 x hn).trans hv) h) hd
/-- a module's constant, a class, a function, as a value -/
theorem pe_glob {x : Str} {v : V} {u : Value} {pos : Pos} (hg : Gl X x) (hm : X.mg x = some u) (r : RelV v u) (hd : (x == ("__debug__" : Str)) = false := by decide) : PE X (.Name x pos) (tC v) :=
  fun _ _ _ H _ I h => ld_glob I hg hm ⟨v, H, I, r, h⟩ hd
theorem pe_bltn {x : Str} {v : V} {u : Value} {pos : Pos} (hg : Gl X x) (hm : X.mg x = none) (hv : bootBuiltins x = some u) (r : RelV v u) (hn : x ≠ "__name__" := by decide) (hd : (x == ("__debug__" : Str)) = false := by decide) : PE X (.Name x pos) (tC v) :=
  fun _ _ _ H _ I h => ld_blt I hg hm hv ⟨v, H, I, r, h⟩ hn hd
/-! ### arithmetic -/
/-- two ints -/
def t2I (ta tb : TE) (k : Int → Int → Hp → Prop) : St → Hp → Prop := fun σ H => ta σ H fun x H1 => tb σ H1 fun y H2 => ∃ i j, x = .int i ∧ y = .int j ∧ k i j H2
variable {a b : Expr} {ta tb : TE} {pos : Pos}
/-! ### comparisons -/
def PC (X : Cx) (op : CmpOp) (a b : Expr) (t : TE) : Prop :=
  ∀ (pins : List (Addr × Obj)) (s : Shared) (σ : St) (H : Hp) (Q : VK), Inv X pins σ H s → t σ H Q →
    wpAny (model X.prog X.w) X.A (eval a X.env) (fun v s₁ => wpAny (model X.prog X.w) X.A (eval b X.env) (fun u s₂ => wpAny (model X.prog X.w) X.A (compareOp op v u) (EP X pins σ Q) X.xe s₂) X.xe s₁) X.xe s
theorem nobehind (b : Expr) {op : CmpOp} (h : op ≠ .In) (h2 : op ≠ .NotIn) : behindInMarks op b = false := by
  have e1 : (op == CmpOp.In) = false := by cases op <;> first | rfl | exact absurd rfl h
  have e2 : (op == CmpOp.NotIn) = false := by cases op <;> first | rfl | exact absurd rfl h2
  cases b <;> simp [behindInMarks, e1, e2]
def tCmp (p : Int → Int → Bool) (ta tb : TE) : TE := fun σ H Q => t2I ta tb (fun i j H2 => Q (.bl (p i j)) H2) σ H
abbrev tLt : TE → TE → TE := tCmp fun i j => decide (i < j)
abbrev tLe : TE → TE → TE := tCmp fun i j => decide (i ≤ j)
abbrev tGt : TE → TE → TE := tCmp fun i j => decide (j < i)
abbrev tGe : TE → TE → TE := tCmp fun i j => decide (j ≤ i)
abbrev tEqI : TE → TE → TE := tCmp fun i j => decide (i = j)
abbrev tNeI : TE → TE → TE := tCmp fun i j => !decide (i = j)
/-- a comparison as a value, as a test -/
def tB (t : TE) : TT := fun σ H Q => t σ H fun x H1 => ∃ c, x = .bl c ∧ Q c H1
theorem pt_cmp {op : CmpOp} {t : TE} (h : PC X op a b t) (h1 : behindInMarks op b = false := by first | exact nobehind _ (by decide) (by decide) | rfl) : PT X (.Compare a [op] [b] pos) (tB t) := by
  intro pins s σ H Q I hw
  refine wpAny_isTrue_Compare1 (thn (h pins s σ H _ I hw) fun v s1 h1 => thn h1 fun u s2 h2 => thn h2 fun c s3 ⟨x, H1, I1, r1, q1⟩ => ?_) h1
  obtain ⟨d, rfl, q⟩ := q1
  cases r1
  exact wpAny_truthy_bool ⟨H1, I1, q⟩
/-- an expression whose value is a bool, as a test -/
theorem pt_val {e : Expr} {t : TE} (h : PE X e t) (he : ∀ whole, isTrue e X.env whole = (do let v ← whole; standAt e.pos; holding [v] (truthy v)) := by intro _; rfl) : PT X e (tB t) := by
  intro pins s σ H Q I hw
  refine isTrue_plain (thn (h pins s σ H _ I hw) fun v s1 ⟨x, H1, I1, r1, q1⟩ => ?_) (he _)
  obtain ⟨d, rfl, q⟩ := q1
  cases r1
  exact wpAny_truthy_bool ⟨H1, I1, q⟩
/-! ### and, or, not -/
variable {tA tB' : TT} {rest : List Expr}
def tAnd (t u : TT) : TT := fun σ H Q => t σ H fun c H1 => if c = true then u σ H1 Q else Q false H1
def tOr (t u : TT) : TT := fun σ H Q => t σ H fun c H1 => if c = true then Q true H1 else u σ H1 Q
def tNot (t : TT) : TT := fun σ H Q => t σ H fun c H1 => Q (!c) H1
theorem pw_and1 (ha : PT X a tA) : PW X (.BoolOp .And [a] pos) tA := by
  intro wh pins s σ H Q I h
  refine isTrue_and (thn (ha pins s σ H Q I h) fun c s1 e => ?_)
  cases c with
  | true => exact isTrue_and_nil e
  | false => exact e
theorem pw_or1 (ha : PT X a tA) : PW X (.BoolOp .Or [a] pos) tA := by
  intro wh pins s σ H Q I h
  refine isTrue_or (thn (ha pins s σ H Q I h) fun c s1 e => ?_)
  cases c with
  | false => exact isTrue_or_nil e
  | true => exact e
theorem pw_and (ha : PT X a tA) (hb : PW X (.BoolOp .And (b :: rest) pos) tB') : PW X (.BoolOp .And (a :: b :: rest) pos) (tAnd tA tB') := by
  intro wh pins s σ H Q I h
  refine isTrue_and (thn (ha pins s σ H _ I h) fun c s1 ⟨H1, I1, q1⟩ => ?_)
  cases c with
  | true => exact hb wh pins s1 σ H1 Q I1 q1
  | false => exact ⟨H1, I1, q1⟩
theorem pw_or (ha : PT X a tA) (hb : PW X (.BoolOp .Or (b :: rest) pos) tB') : PW X (.BoolOp .Or (a :: b :: rest) pos) (tOr tA tB') := by
  intro wh pins s σ H Q I h
  refine isTrue_or (thn (ha pins s σ H _ I h) fun c s1 ⟨H1, I1, q1⟩ => ?_)
  cases c with
  | true => exact ⟨H1, I1, q1⟩
  | false => exact hb wh pins s1 σ H1 Q I1 q1
theorem pt_not (ha : PT X a tA) : PT X (.UnaryOp .Not a pos) (tNot tA) := by
  intro pins s σ H Q I h
  exact isTrue_not (ha pins s σ H (fun c H1 => Q (!c) H1) I h)
end
end L2
namespace L2
open PySem PySem.Spec PyProof.Rows
/-! ### a list, a tuple that is read: tracked, frozen, or an object of the module -/
def SqL (K : PySem.W.Frag) (H : Hp) (a : Addr) (xs : List V) : Prop :=
  Rd H a (.lst xs) ∨
    ∃ (o : Obj) (its : Array Value) (n : Nat), K.lookup a = some o ∧ o.cls = .type "list" ∧ o.dict = none ∧ o.data = .seq its n ∧ its.size ≤ sizeLine ∧ Vals xs its.toList
def SqT (K : PySem.W.Frag) (H : Hp) (a : Addr) (xs : List V) : Prop :=
  Rd H a (.tup xs) ∨
    ∃ (o : Obj) (its : Array Value) (n : Nat), K.lookup a = some o ∧ o.cls = .type "tuple" ∧ o.data = .seq its n ∧ its.size ≤ sizeLine ∧ Vals xs its.toList
def absV : Value → Option V
  | .none => some .non
  | .bool b => some (.bl b)
  | .int i _ => some (.int i)
  | .str x _ => some (.str x)
  | .bytes b _ => some (.byt b)
  | .float b _ => some (.flt b)
  | .ref a => some (.ref a)
  | .type n => some (.ty n)
  | _ => none
theorem RelV.abs {x : V} {u : Value} (r : RelV x u) : absV u = some x := by
  cases x with
  | non => cases r; rfl
  | bl _ => cases r; rfl
  | int _ => obtain ⟨t, rfl⟩ := r; rfl
  | str _ => obtain ⟨t, rfl⟩ := r; rfl
  | byt _ => obtain ⟨t, rfl⟩ := r; rfl
  | flt _ => obtain ⟨t, rfl⟩ := r; rfl
  | ref _ => cases r; rfl
  | ty _ => cases r; rfl
theorem RelV.inj {x y : V} {u : Value} (r : RelV x u) (q : RelV y u) : x = y := Option.some.inj (r.abs.symm.trans q.abs)
theorem Vals.inj : ∀ {xs ys : List V} {us : List Value}, Vals xs us → Vals ys us → xs = ys
  | _, _, _, .nil, .nil => rfl
  | _, _, _, .cons r t, .cons r' t' => by rw [r.inj r', Vals.inj t t']
section
variable {X : Cx} {pins : List (Addr × Obj)} {σ : St} {H : Hp} {s : Shared} {a : Addr} {xs ys : List V}
theorem SqL.of {K : PySem.W.Frag} (h : H a = some (.lst xs)) : SqL K H a xs := .inl (.inl h)
theorem SqT.of {K : PySem.W.Frag} (h : H a = some (.tup xs)) : SqT K H a xs := .inl (.inl h)
theorem Inv.list (I : Inv X pins σ H s) (h : SqL X.K H a xs) : ∃ its : List Value, Vals xs its ∧ PlainL s.heap a its.toArray ∧ xs.length ≤ sizeLine := by
  rcases h with h | ⟨o, its, n, hk, hc, hd, hs, hz, r⟩
  · obtain ⟨z, its, n, r, e⟩ := h.ok I.hok
    exact ⟨its, r, ⟨_, n, e, rfl, rfl, rfl⟩, z⟩
  · refine ⟨its.toList, r, ⟨o, n, I.kIn a o hk, hc, hd, by simpa using hs⟩, ?_⟩
    have e := r.length
    simp only [Array.length_toList] at e
    omega
theorem Inv.tuple (I : Inv X pins σ H s) (h : SqT X.K H a xs) : ∃ its : List Value, Vals xs its ∧ IsTup s.heap a its.toArray ∧ xs.length ≤ sizeLine := by
  rcases h with h | ⟨o, its, n, hk, hc, hs, hz, r⟩
  · obtain ⟨z, its, r, p⟩ := h.ok I.hok
    exact ⟨its, r, p, z⟩
  · refine ⟨its.toList, r, ⟨o, I.kIn a o hk, hc, n, by simpa using hs⟩, ?_⟩
    have e := r.length
    simp only [Array.length_toList] at e
    omega
theorem Inv.list_inj (I : Inv X pins σ H s) (h : SqL X.K H a xs) (h' : SqL X.K H a ys) : xs = ys := by
  obtain ⟨its, r, ⟨o, n, e, _, _, d⟩, _⟩ := I.list h
  obtain ⟨its', r', ⟨o', n', e', _, _, d'⟩, _⟩ := I.list h'
  rw [e] at e'; cases e'
  rw [d] at d'
  injection d' with d1 _
  have : its = its' := by simpa using congrArg Array.toList d1
  subst this
  exact r.inj r'
theorem Inv.tuple_inj (I : Inv X pins σ H s) (h : SqT X.K H a xs) (h' : SqT X.K H a ys) : xs = ys := by
  obtain ⟨its, r, ⟨o, e, _, n, d⟩, _⟩ := I.tuple h
  obtain ⟨its', r', ⟨o', e', _, n', d'⟩, _⟩ := I.tuple h'
  rw [e] at e'; cases e'
  rw [d] at d'
  injection d' with d1 _
  have : its = its' := by simpa using congrArg Array.toList d1
  subst this
  exact r.inj r'
end
/-! ### another wish about exceptions -/
abbrev Cx.wish (X : Cx) (E : Value → Shared → Prop) : Cx := { X with xe := E }
/-- no exception leaves -/
abbrev Cx.nox (X : Cx) : Cx := X.wish fun _ _ => False
theorem Cx.Ok.wish {X : Cx} (ok : X.Ok) (E : Value → Shared → Prop) : (X.wish E).Ok :=
  ⟨ok.mod, ok.kind, ok.glob, ok.blt, ok.above, ok.inj, ok.has, ok.cab, ok.hd, ok.frames, ok.stk, ok.exf, ok.bs, ok.bsz, ok.noex, ok.exfs, ok.funs, ok.frf⟩
theorem Cx.Ok.unwish {X : Cx} {E : Value → Shared → Prop} (ok : (X.wish E).Ok) : X.Ok :=
  ⟨ok.mod, ok.kind, ok.glob, ok.blt, ok.above, ok.inj, ok.has, ok.cab, ok.hd, ok.frames, ok.stk, ok.exf, ok.bs, ok.bsz, ok.noex, ok.exfs, ok.funs, ok.frf⟩
section
variable {X : Cx} {pins : List (Addr × Obj)} {σ : St} {H : Hp} {s : Shared} {E : Value → Shared → Prop}
theorem Inv.wish (I : Inv X pins σ H s) (E : Value → Shared → Prop) : Inv (X.wish E) pins σ H s := ⟨I.ok.wish E, I.os, I.bare, I.base, I.loc, I.cell, I.free, I.freeC, I.pin, I.hok, I.len⟩
theorem Inv.unwish (I : Inv (X.wish E) pins σ H s) : Inv X pins σ H s := ⟨I.ok.unwish, I.os, I.bare, I.base, I.loc, I.cell, I.free, I.freeC, I.pin, I.hok, I.len⟩
theorem SP.unwish {D : Ends} {f : Flow} {s' : Shared} (h : SP (X.wish E) pins D f s') : SP X pins D f s' := by
  cases f with
  | next => obtain ⟨σ', H', I, q⟩ := h; exact ⟨σ', H', I.unwish, q⟩
  | brk => obtain ⟨σ', H', I, q⟩ := h; exact ⟨σ', H', I.unwish, q⟩
  | cont => obtain ⟨σ', H', I, q⟩ := h; exact ⟨σ', H', I.unwish, q⟩
  | ret u => obtain ⟨v, σ', H', I, r, q⟩ := h; exact ⟨v, σ', H', I.unwish, r, q⟩
theorem PSs.nox {st : List Stmt} {t : TS} (h : PSs X.nox st t) : PSs X st t := fun pins s σ H D I hw =>
  wpAny_mono (h pins s σ H D (I.wish _) hw) (fun _ _ q => q.unwish) fun _ _ z => False.elim z
end
/-! ### blocks and small statements -/
section
variable {X : Cx} {st : Stmt} {rest : List Stmt} {t u : TS} {e : Expr} {te : TE} {pos : Pos}
def tNext : TS := fun D σ H => D.nx σ H
def tSeq (t u : TS) : TS := fun D σ H => t { D with nx := u D } σ H
theorem pss_nil : PSs X [] tNext := fun _ _ σ H _ I h => wpAny_execs_nil ⟨σ, H, I, h⟩
theorem pss_cons (h1 : PS X st t) (h2 : PSs X rest u) : PSs X (st :: rest) (tSeq t u) := by
  intro pins s σ H D I h
  refine wpAny_execs_cons (thn (h1 pins s σ H { D with nx := u D } I h) fun f s1 q => ?_)
  cases f with
  | next =>
    obtain ⟨σ', H', I', q⟩ := q
    exact h2 pins s1 σ' H' D I' q
  | ret v => exact q
  | brk => exact q
  | cont => exact q
theorem pss_one (h1 : PS X st t) : PSs X [st] t := by
  intro pins s σ H D I h
  refine wpAny_execs_cons (thn (h1 pins s σ H D I h) fun f s1 q => ?_)
  cases f with
  | next => exact wpAny_execs_nil q
  | ret v => exact q
  | brk => exact q
  | cont => exact q
/-- in a def's body nothing is shown -/
theorem Inv.quiet {pins : List (Addr × Obj)} {σ : St} {H : Hp} {s : Shared} (I : Inv X pins σ H s) : interactive X.env = false := by simp [interactive, I.ok.kind]
/-- an expression whose value is dropped -/
def tDrop (te : TE) : TS := fun D σ H => te σ H fun _ H1 => D.nx σ H1
theorem ps_expr (he : PE X e te) (hs : swapsWith e none pos.line X.env = pure false := by rfl) : PS X (.Expr e pos) (tDrop te) := by
  intro pins s σ H D I h
  exact wpAny_Expr_any (thn (he pins s σ H _ I h) fun v s1 ⟨x, H1, I1, r1, q1⟩ => ⟨σ, H1, I1, q1⟩) I.quiet hs
def tRet (te : TE) : TS := fun D σ H => te σ H D.rt
theorem ps_ret (he : PE X e te) : PS X (.Return (some e) pos) (tRet te) := by
  intro pins s σ H D I h
  exact wpAny_Return_some (thn (he pins s σ H _ I h) fun v s1 ⟨x, H1, I1, r1, q1⟩ => ⟨x, σ, H1, I1, r1, q1⟩)
def tIfS (c : TT) (t u : TS) : TS := fun D σ H => c σ H fun b H1 => if b = true then t D σ H1 else u D σ H1
theorem ps_if {c : Expr} {a b : List Stmt} {tc : TT} (hc : PT X c tc) (ha : PSs X a t) (hb : PSs X b u) : PS X (.If c a b pos) (tIfS tc t u) := by
  intro pins s σ H D I h
  refine wpAny_If (thn (hc pins s σ H _ I h) fun d s1 ⟨H1, I1, q1⟩ => ?_)
  cases d with
  | true => exact ha pins s1 σ H1 D I1 q1
  | false => exact hb pins s1 σ H1 D I1 q1
/-- code that the proof never comes to -/
def tNever : TS := fun _ _ _ => False
theorem pss_never {sts : List Stmt} : PSs X sts tNever := fun _ _ _ _ _ _ h => h.elim
end
/-! ### targets -/
abbrev TG := V → St → Hp → (St → Hp → Prop) → Prop
abbrev TGs := List V → St → Hp → (St → Hp → Prop) → Prop
def PG (X : Cx) (target : Expr) (t : TG) : Prop :=
  ∀ (pins : List (Addr × Obj)) (s : Shared) (σ : St) (H : Hp) (v : V) (u : Value) (Q : St → Hp → Prop), Inv X pins σ H s → RelV v u → t v σ H Q →
    wpAny (model X.prog X.w) X.A (assign target X.env u) (fun _ s' => ∃ σ' H', Inv X pins σ' H' s' ∧ Q σ' H') X.xe s
/-- o[i] = v, by values -/
abbrev TSet := V → V → V → Hp → (Hp → Prop) → Prop
def PSet (X : Cx) (t : TSet) : Prop :=
  ∀ (pins : List (Addr × Obj)) (s : Shared) (σ : St) (H : Hp) (o i v : V) (ov iv u : Value) (Q : Hp → Prop), Inv X pins σ H s → RelV o ov → RelV i iv → RelV v u → t o i v H Q →
    wpAny (model X.prog X.w) X.A (setItem ov iv u) (fun _ s' => ∃ H', Inv X pins σ H' s' ∧ Q H') X.xe s
/-- a op= b, by values -/
abbrev TIp := V → V → Hp → VK → Prop
section
variable {X : Cx} {pos : Pos}
def gName (i : Nat) : TG := fun v σ H Q => Q (σ.set i (some v)) H
theorem pg_name {i : Nat} {x : Str} (hN : X.N.Nodup) (hi : X.N[i]? = some x) (hx : Loc X.env.scope x) (hf : X.fn x = true ∨ X.env.scope.names.lookup x = some .local := by first | exact .inl rfl | exact .inr rfl | assumption) : PG X (.Name x pos) (gName i) := by
  intro pins s σ H v u Q I r h
  exact wpAny_assign_Name (store_ok I hN hi hx r (fun s' I' => ⟨_, H, I', h⟩) hf)
/-- o[i] = .. -/
def gSub (to ti : TE) (t : TSet) : TG := fun v σ H Q => to σ H fun o H1 => ti σ H1 fun i H2 => t o i v H2 fun H3 => Q σ H3
theorem pg_sub {o i : Expr} {to ti : TE} {t : TSet} (ho : PE X o to) (hi : PE X i ti) (hs : PSet X t)
    (ha : ∀ v, assign (.Subscript o i pos) X.env v = (do
      let ov ← holding [v] (eval o X.env)
      let iv ← holding [v, ov] (eval i X.env)
      standAt pos
      holding [v, ov, iv] (setItem ov iv v)
      release [v, ov, iv] []) := by intro _; rfl) : PG X (.Subscript o i pos) (gSub to ti t) := by
  intro pins s σ H v u Q I r h
  rw [ha]
  refine wpAny_bind (wpAny_holding (thn (ho pins s σ H _ I h) fun ov s1 ⟨x, H1, I1, r1, q1⟩ => ?_))
  refine wpAny_bind (wpAny_holding (thn (hi pins s1 σ H1 _ I1 q1) fun iv s2 ⟨y, H2, I2, r2, q2⟩ => ?_))
  refine wpAny_bind (wpAny_standAt (wpAny_bind (wpAny_holding (thn (hs pins s2 σ H2 x y v ov iv u _ I2 r1 r2 r q2) fun _ s3 ⟨H3, I3, q3⟩ => ?_))))
  exact wpAny_release ⟨σ, H3, I3, q3⟩
/-- target = value -/
def tAsg (te : TE) (g : TG) : TS := fun D σ H => te σ H fun x H1 => g x σ H1 D.nx
theorem ps_asg {tg e : Expr} {te : TE} {g : TG} (he : PE X e te) (hg : PG X tg g) (hs : swapsWithSole [tg] e pos.line X.env = pure false := by rfl) (hw : swappedStores [tg] e X.env = pure none := by rfl)
    (h1 : (assignEach [tg] X.env).map (·.2) = [assign tg X.env] := by rfl) : PS X (.Assign [tg] e pos) (tAsg te g) := by
  intro pins s σ H D I h
  refine wpAny_Assign_stores (thn (he pins s σ H _ I h) fun v s1 ⟨x, H1, I1, r1, q1⟩ => ?_) hs hw
  rw [h1]
  exact thn (hg pins s1 σ H1 x v _ I1 r1 q1) fun _ s2 q => q
/-- name = value -/
theorem ps_set {i : Nat} {x : Str} {e : Expr} {te : TE} {pos' : Pos} (hN : X.N.Nodup) (hi : X.N[i]? = some x) (hx : Loc X.env.scope x) (he : PE X e te) (hs : swapsWith e (some (.Name x pos')) pos.line X.env = pure false := by rfl) (hf : X.fn x = true ∨ X.env.scope.names.lookup x = some .local := by first | exact .inl rfl | exact .inr rfl | assumption) :
    PS X (.Assign [.Name x pos'] e pos) (tAsg te (gName i)) := by
  intro pins s σ H D I h
  refine wpAny_Assign_Name (thn (he pins s σ H _ I h) fun v s1 ⟨y, H1, I1, r1, q1⟩ => ?_) hs
  exact store_ok I1 hN hi hx r1 (fun s2 I2 => ⟨_, H1, I2, q1⟩) hf
end
/-! ### while -/
section
variable {X : Cx} {pos : Pos}
end
/-! ### what a loop or a comprehension walks -/
/-- at turn i: it yields x (the heap may grow), or it stops -/
structure It where
  go : Nat → Hp → Prop
  yld : Nat → Hp → V → Hp → Prop
  stop : Nat → Hp → Prop
/-- the iterator's own objects may turn: they are not the frame's, not pinned, younger than the entry (or a comprehension's own) -/
def FpOk (X : Cx) (pins : List (Addr × Obj)) (H : Hp) (b : Addr) : Prop :=
  H b = none ∧ b ≠ X.env.locals ∧ b ∉ X.fs ∧ (b ∈ X.ex ∨ X.s₀.heap.objs.size ≤ b) ∧ (∀ x c, X.env.cells.lookup x = some c → c ≠ b) ∧ ∀ p ∈ X.pn ++ pins, p.1 ≠ b
theorem Inv.fpOk {X : Cx} {pins : List (Addr × Obj)} {σ : St} {H H' : Hp} {s : Shared} {b : Addr} (I : Inv X pins σ H s) (hb : s.heap.objs.size ≤ b) (hn : H' b = none) : FpOk X pins H' b := by
  refine ⟨hn, Nat.ne_of_gt (Nat.lt_of_lt_of_le I.lt hb), I.nofs hb, .inr (Nat.le_trans I.sz hb), fun x c e z => ?_, fun p hp z => ?_⟩
  · obtain ⟨v, q⟩ := I.cell x c e
    exact absurd (Nat.lt_of_lt_of_le q.lt (by rw [z]; exact hb)) (Nat.lt_irrefl _)
  · exact absurd (Nat.lt_of_lt_of_le (Heap.lt_size (I.pin p hp).1) (by rw [z]; exact hb)) (Nat.lt_irrefl _)
structure Turn (P : Program) (w : World) (K : PySem.W.Frag) (tg : Expr) (J : It) (fp : List Addr) (it : Addr) (tn : Nat → Heap → Prop) : Prop where
  mem : it ∈ fp
  obj : ∀ i h, tn i h → ∀ b ∈ fp, ∃ o, h.get? b = some o ∧ ∀ v, o.data ≠ .cell v
  keep : ∀ i h h', tn i h → (∀ b ∈ fp, ∀ o, h.get? b = some o → h'.get? b = some o) → tn i h'
  item : ∀ (X : Cx), X.prog = P → X.w = w → X.K = K → X.calm = true → ∀ (i : Nat) (pins : List (Addr × Obj)) (s : Shared) (σ : St) (H : Hp) (E : Value → Shared → Prop), Inv X pins σ H s → (∀ b ∈ fp, FpOk X pins H b) → tn i s.heap → J.go i H →
    wpAny (model P w) X.A (pyNext (.ref it)) (fun r s1 => ∃ u, r = some u ∧
      wpAny (model P w) X.A (letOwnedTupleGo tg (.ref it) u) (fun _ s2 => ∃ x H', Inv X pins σ H' s2 ∧ RelV x u ∧ J.yld i H x H' ∧ tn (i + 1) s2.heap ∧ ∀ b ∈ fp, H' b = none) E s1) E s
  done : ∀ (X : Cx), X.prog = P → X.w = w → X.K = K → X.calm = true → ∀ (i : Nat) (pins : List (Addr × Obj)) (s : Shared) (σ : St) (H : Hp) (E : Value → Shared → Prop), Inv X pins σ H s → (∀ b ∈ fp, FpOk X pins H b) → tn i s.heap → J.stop i H →
    wpAny (model P w) X.A (pyNext (.ref it)) (fun r s1 => r = none ∧ Inv X pins σ H s1) E s
  self : ∀ (A : Around) (i : Nat) (s : Shared) (Q : Value → Shared → Prop) (E : Value → Shared → Prop), tn i s.heap → Q (.ref it) s → wpAny (model P w) A (pyIter (.ref it)) Q E s
abbrev TI := St → Hp → (It → Hp → Prop) → Prop
/-- an iterator has come -/
def PIE (X : Cx) (pins : List (Addr × Obj)) (σ : St) (tg : Expr) (R : It → Hp → Prop) (itv : Value) (s2 : Shared) : Prop :=
  ∃ (it : Addr) (fp : List Addr) (tn : Nat → Heap → Prop) (J : It) (H' : Hp), itv = .ref it ∧ Inv X pins σ H' s2 ∧ Turn X.prog X.w X.K tg J fp it tn ∧ tn 0 s2.heap ∧ (∀ b ∈ fp, FpOk X pins H' b) ∧ R J H'
def PI (X : Cx) (tg iter : Expr) (wi : TI) : Prop :=
  ∀ (pins : List (Addr × Obj)) (s : Shared) (σ : St) (H : Hp) (R : It → Hp → Prop), Inv X pins σ H s → wi σ H R →
    wpAny (model X.prog X.w) X.A (eval iter X.env) (fun v s1 => wpAny (model X.prog X.w) X.A (pyIter v) (PIE X pins σ tg R) X.xe s1) X.xe s
/-- the step ahead of the store is nothing for an iterator that keeps no tuple -/
theorem go_of {M : Model} {A : Around} {E : Value → Shared → Prop} {s : Shared} {tg : Expr} {it : Addr} {u : Value} {o : Obj} {n : String} {vs : Array Value} {Q : Unit → Shared → Prop} (ho : s.heap.get? it = some o) (hc : o.cls = .type n) (hd : o.data = .fields vs)
    (hn : ["enumerate", "zip", "dict_itemiterator", "dict_reverseitemiterator", "odict_iterator", "itertools.zip_longest", "itertools.pairwise"].contains n = false) (hQ : Q () s) : wpAny M A (letOwnedTupleGo tg (.ref it) u) Q E s := by
  unfold letOwnedTupleGo
  cases tg <;> first
    | exact wpAny_pure hQ
    | (cases u <;> first
        | exact wpAny_pure hQ
        | (refine wpAny_bind (wpAny_load ho ?_)
           rw [hc, hd]
           show wpAny M A (if (["enumerate", "zip", "dict_itemiterator", "dict_reverseitemiterator", "odict_iterator", "itertools.zip_longest", "itertools.pairwise"].contains n && vs[0]? == some (rawInt _)) = true then _ else _) Q E s
           rw [if_neg (by intro h; rw [hn, Bool.false_and] at h; cases h)]
           exact wpAny_pure hQ))
/-- the list at a, as it stands at each turn (a loop may append to it) -/
def Itl (K : PySem.W.Frag) (a : Addr) : It :=
  ⟨fun i H => ∃ xs x, SqL K H a xs ∧ xs[i]? = some x, fun i H x H' => H' = H ∧ ∀ xs, SqL K H a xs → xs[i]? = some x, fun i H => ∃ xs, SqL K H a xs ∧ xs.length ≤ i⟩
def Itt (K : PySem.W.Frag) (a : Addr) : It :=
  ⟨fun i H => ∃ xs x, SqT K H a xs ∧ xs[i]? = some x, fun i H x H' => H' = H ∧ ∀ xs, SqT K H a xs → xs[i]? = some x, fun i H => ∃ xs, SqT K H a xs ∧ xs.length ≤ i⟩
/-- lo, lo + 1, .. (n of them) -/
def Itr (lo : Int) (n : Nat) : It := ⟨fun i _ => i < n, fun i H x H' => H' = H ∧ x = .int (lo + i), fun i _ => n ≤ i⟩
theorem turn_list {P : Program} {w : World} {K : PySem.W.Frag} {tg : Expr} (a it : Addr) : Turn P w K tg (Itl K a) [it] it (fun i h => h.IsListIter it a i) where
  mem := by simp
  obj := fun i h st b hb => by
    have e : b = it := by simpa using hb
    subst e
    obtain ⟨o, e, c, d⟩ := st
    exact ⟨o, e, fun v z => by rw [d] at z; cases z⟩
  keep := fun i h h' st k => st.at fun o e => k it (by simp) o e
  item := by
    intro X hP hw hK hc i pins s σ H E I hf st hg
    subst hP hw hK
    obtain ⟨xs, x, hq, hx⟩ := hg
    obtain ⟨its, rv, p, hz⟩ := I.list hq
    obtain ⟨u, hu, ru⟩ := rv.get hx
    obtain ⟨f0, f1, f2, f3, f4, f5⟩ := hf it (by simp)
    refine wpAny_pyNext_list_item st p.isList (x := u) (by simpa using hu) fun h' st' sb => ?_
    have I1 : Inv X pins σ H { s with heap := h' } := I.turned (t' := s.toks) (fun b o hb e => (sb.2 b hb).trans e) f0 f1 f3 f4 f5
    obtain ⟨o, e, c, d⟩ := id st'
    exact ⟨u, rfl, go_of (s := { s with heap := h' }) e c d (by decide) ⟨x, H, I1, ru, ⟨rfl, fun ys hy => by rw [I.list_inj hy hq]; exact hx⟩, st', fun b hb => (hf b hb).1⟩⟩
  done := by
    intro X hP hw hK hc i pins s σ H E I hf st hg
    subst hP hw hK
    obtain ⟨xs, hq, hx⟩ := hg
    obtain ⟨its, rv, p, hz⟩ := I.list hq
    obtain ⟨f0, f1, f2, f3, f4, f5⟩ := hf it (by simp)
    have hl := rv.length
    exact wpAny_pyNext_list_end (I.ok.hd hc) st p.isList (by simp; omega) fun h' eb => ⟨rfl, I.turned (t' := s.toks) (fun b o hb e => eb b o hb e) f0 f1 f3 f4 f5⟩
  self := fun _ _ _ _ _ st h => wpAny_pyIter_listiter st h
theorem turn_tuple {P : Program} {w : World} {K : PySem.W.Frag} {tg : Expr} (a it : Addr) : Turn P w K tg (Itt K a) [it] it (fun i h => h.IsTupleIter it a i) where
  mem := by simp
  obj := fun i h st b hb => by
    have e : b = it := by simpa using hb
    subst e
    obtain ⟨o, e, c, d⟩ := st
    exact ⟨o, e, fun v z => by rw [d] at z; cases z⟩
  keep := fun i h h' st k => st.at fun o e => k it (by simp) o e
  item := by
    intro X hP hw hK hc i pins s σ H E I hf st hg
    subst hP hw hK
    obtain ⟨xs, x, hq, hx⟩ := hg
    obtain ⟨its, rv, p, hz⟩ := I.tuple hq
    obtain ⟨u, hu, ru⟩ := rv.get hx
    obtain ⟨f0, f1, f2, f3, f4, f5⟩ := hf it (by simp)
    refine wpAny_pyNext_tuple_item st (show s.heap.IsTuple a its.toArray from p) (x := u) (by simpa using hu) fun h' st' sb => ?_
    have I1 : Inv X pins σ H { s with heap := h' } := I.turned (t' := s.toks) (fun b o hb e => (sb.2 b hb).trans e) f0 f1 f3 f4 f5
    obtain ⟨o, e, c, d⟩ := id st'
    exact ⟨u, rfl, go_of (s := { s with heap := h' }) e c d (by decide) ⟨x, H, I1, ru, ⟨rfl, fun ys hy => by rw [I.tuple_inj hy hq]; exact hx⟩, st', fun b hb => (hf b hb).1⟩⟩
  done := by
    intro X hP hw hK hc i pins s σ H E I hf st hg
    subst hP hw hK
    obtain ⟨xs, hq, hx⟩ := hg
    obtain ⟨its, rv, p, hz⟩ := I.tuple hq
    obtain ⟨f0, f1, f2, f3, f4, f5⟩ := hf it (by simp)
    have hl := rv.length
    exact wpAny_pyNext_tuple_end (I.ok.hd hc) st (show s.heap.IsTuple a its.toArray from p) (by simp; omega) fun h' eb => ⟨rfl, I.turned (t' := s.toks) (fun b o hb e => eb b o hb e) f0 f1 f3 f4 f5⟩
  self := fun _ _ _ _ _ st h => wpAny_pyIter_tupleiter st h
theorem turn_range {P : Program} {w : World} {K : PySem.W.Frag} {tg : Expr} (it : Addr) (lo : Int) (n : Nat) : Turn P w K tg (Itr lo n) [it] it (fun i h => IsRangeIter h it (lo + (i : Nat) * 1) ((n : Int) - (i : Nat)) 1) where
  mem := by simp
  obj := fun i h st b hb => by
    have e : b = it := by simpa using hb
    subst e
    exact ⟨_, st, fun v z => by
      have z' : Data.fields _ = Data.cell v := z
      cases z'⟩
  keep := fun i h h' st k => k it (by simp) _ st
  item := by
    intro X hP hw hK hc i pins s σ H E I hf st hg
    subst hP hw hK
    obtain ⟨f0, f1, f2, f3, f4, f5⟩ := hf it (by simp)
    have W := Walks.range (prog := X.prog) (w := X.w) (I.ok.hd hc) it lo 1 n
    refine W.item i s _ _ hg st fun v h' tk hv st' kk => ?_
    obtain ⟨t, rfl⟩ := hv
    have I1 : Inv X pins σ H { s with heap := h', toks := tk } := I.turned (fun b o hb e => kk b o (by simpa using hb) e) f0 f1 f3 f4 f5
    refine ⟨_, rfl, go_of (s := { s with heap := h', toks := tk }) (n := "range_iterator") st' rfl rfl (by decide) ⟨.int (lo + i), H, I1, ⟨t, ?_⟩, ⟨rfl, rfl⟩, st', fun b hb => (hf b hb).1⟩⟩
    rw [Int.mul_one]
  done := by
    intro X hP hw hK hc i pins s σ H E I hf st hg
    subst hP hw hK
    obtain ⟨f0, f1, f2, f3, f4, f5⟩ := hf it (by simp)
    exact wpAny_pyNext_range_end (I.ok.hd hc) st (by have : n ≤ i := hg; omega) fun h' eb => ⟨rfl, I.turned (t' := s.toks) (fun b o hb e => eb b o hb e) f0 f1 f3 f4 f5⟩
  self := fun _ _ _ _ _ st h => wpAny_pyIter_rangeiter st h
end L2
namespace L2
open PySem PySem.Spec PyProof.Rows
section
variable {X : Cx} {tg : Expr}
def iList (K : PySem.W.Frag) (tl : TE) : TI := fun σ H R => tl σ H fun x H1 => ∃ a, x = .ref a ∧ (∃ xs, SqL K H1 a xs) ∧ R (Itl K a) H1
def iTup (K : PySem.W.Frag) (tl : TE) : TI := fun σ H R => tl σ H fun x H1 => ∃ a, x = .ref a ∧ (∃ xs, SqT K H1 a xs) ∧ R (Itt K a) H1
theorem pi_list {l : Expr} {tl : TE} (hl : PE X l tl) : PI X tg l (iList X.K tl) := by
  intro pins s σ H R I h
  refine thn (hl pins s σ H _ I h) fun v s1 ⟨x, H1, I1, r1, q1⟩ => ?_
  obtain ⟨a, e, ⟨xs, hq⟩, q⟩ := q1
  subst e
  cases r1
  obtain ⟨its, rv, p, hz⟩ := I1.list hq
  refine wpAny_pyIter_list p.isList ?_
  refine ⟨s1.heap.objs.size, [s1.heap.objs.size], _, _, H1, rfl, I1.kept (t' := s1.toks) fun b o e => Heap.get?_push_of_some _ e, turn_list a _, ⟨_, Heap.get?_push_size _ rfl, rfl, rfl⟩, fun b hb => ?_, q⟩
  have e : b = s1.heap.objs.size := by simpa using hb
  subst e
  exact I1.fpOk (Nat.le_refl _) (I1.hok.fresh (Nat.le_refl _))
theorem pi_tup {l : Expr} {tl : TE} (hl : PE X l tl) : PI X tg l (iTup X.K tl) := by
  intro pins s σ H R I h
  refine thn (hl pins s σ H _ I h) fun v s1 ⟨x, H1, I1, r1, q1⟩ => ?_
  obtain ⟨a, e, ⟨xs, hq⟩, q⟩ := q1
  subst e
  cases r1
  obtain ⟨its, rv, p, hz⟩ := I1.tuple hq
  refine wpAny_pyIter_tuple (show s1.heap.IsTuple a its.toArray from p) ?_
  refine ⟨s1.heap.objs.size, [s1.heap.objs.size], _, _, H1, rfl, I1.kept (t' := s1.toks) fun b o e => Heap.get?_push_of_some _ e, turn_tuple a _, ⟨_, Heap.get?_push_size _ rfl, rfl, rfl⟩, fun b hb => ?_, q⟩
  have e : b = s1.heap.objs.size := by simpa using hb
  subst e
  exact I1.fpOk (Nat.le_refl _) (I1.hok.fresh (Nat.le_refl _))
/-- a range object just made, walked -/
theorem range_it {pins : List (Addr × Obj)} {σ : St} {H : Hp} {s : Shared} {R : It → Hp → Prop} {E : Value → Shared → Prop} {lo hi : Int} {t u v : Tok} {tk : Nat} (I : Inv X pins σ H s) (h1 : -(2 ^ 62) ≤ lo) (h2 : lo < 2 ^ 62) (h3 : -(2 ^ 62) ≤ hi) (h4 : hi < 2 ^ 62)
    (q : R (Itr lo (hi - lo).toNat) H) : wpAny (model X.prog X.w) X.A (pyIter (.ref s.heap.objs.size)) (PIE X pins σ tg R) E { s with heap := s.heap.push { cls := .type "range", data := .fields #[.int lo t, .int hi u, .int 1 v] }, toks := tk } := by
  refine wpAny_pyIter_range (IsRange.new ..) (small_one h1 h2 h3 h4) ?_
  have I1 : Inv X pins σ H { s with heap := s.heap.push { cls := .type "range", data := .fields #[.int lo t, .int hi u, .int 1 v] }, toks := tk } := I.kept fun b o e => Heap.get?_push_of_some _ e
  refine ⟨(s.heap.push { cls := .type "range", data := .fields #[.int lo t, .int hi u, .int 1 v] }).objs.size, [(s.heap.push { cls := .type "range", data := .fields #[.int lo t, .int hi u, .int 1 v] }).objs.size], _, _, H, rfl,
    I1.kept (t' := tk) fun b o e => Heap.get?_push_of_some _ e, turn_range _ lo (hi - lo).toNat, ?_, fun b hb => ?_, q⟩
  · have e1 : lo + ((0 : Nat) : Int) * 1 = lo := by simp
    have e2 : (((hi - lo).toNat : Nat) : Int) - ((0 : Nat) : Int) = Builtin.Range.rangeSize lo hi 1 := by rw [rangeSize_one]; split <;> omega
    show IsRangeIter _ _ (lo + ((0 : Nat) : Int) * 1) ((((hi - lo).toNat : Nat) : Int) - ((0 : Nat) : Int)) 1
    rw [e1, e2]
    exact Heap.get?_push_size _ rfl
  · have e : b = (s.heap.push { cls := .type "range", data := .fields #[.int lo t, .int hi u, .int 1 v] }).objs.size := by simpa using hb
    subst e
    exact I1.fpOk (Nat.le_refl _) (I1.hok.fresh (Nat.le_refl _))
def iRng1 (ta : TA) : TI := fun σ H R => ta σ H fun vs H1 => ∃ j : Int, vs = [.int j] ∧ -(2 ^ 62) ≤ j ∧ j < 2 ^ 62 ∧ R (Itr 0 j.toNat) H1
theorem pi_range1 {a : Expr} {ta : TA} {p pos : Pos} (hg : Gl X "range") (hm : X.mg "range" = none) (ha : PA X [a] ta) (hs : starEach [a] X.env = [(false, eval a X.env)] := by rfl) : PI X tg (.Call (.Name "range" p) [a] [] pos) (iRng1 ta) := by
  intro pins s σ H R I h
  refine Call_ (ld_blt I hg hm boot_range (PyProof.Rows.callWith_type1 (thn (ha pos pins s σ H _ I h) fun us s1 ⟨vs, H1, I1, r1, q1⟩ => ?_) hs rfl))
  obtain ⟨j, e, q1, q2, q⟩ := q1
  subst e
  cases r1 with
  | cons r rr =>
    cases rr
    obtain ⟨t, rfl⟩ := r
    exact call_range_1 (range_it I1 (by omega) (by omega) q1 q2 (by simpa using q))
/-! ### for -/
/-- W: the invariant by the turn and a measure; N: what the body is to reach -/
def tFor (wi : TI) (g : TG) (tb : TS) : TS := fun D σ H => wi σ H fun J H1 => ∃ W : Nat → Nat → St → Hp → Prop, (∃ m, W 0 m σ H1) ∧ ∀ i m σ H, W i m σ H →
  (J.stop i H ∧ D.nx σ H) ∨ (J.go i H ∧ ∃ N : St → Hp → Prop, (∀ σ' H', N σ' H' → ∃ m', m' < m ∧ W (i + 1) m' σ' H') ∧ ∀ x H', J.yld i H x H' → g x σ H' fun σ2 H2 => tb { D with nx := N, ct := N, bk := D.nx } σ2 H2)
/-- the records at fp as they stand -/
def pinsAt (fp : List Addr) (h : Heap) : List (Addr × Obj) := fp.filterMap fun b => (h.get? b).map fun o => (b, o)
theorem mem_pinsAt {fp : List Addr} {h : Heap} {b : Addr} {o : Obj} (hb : b ∈ fp) (e : h.get? b = some o) : (b, o) ∈ pinsAt fp h := List.mem_filterMap.mpr ⟨b, hb, by rw [e]; rfl⟩
theorem of_pinsAt {fp : List Addr} {h : Heap} {p : Addr × Obj} (hp : p ∈ pinsAt fp h) : p.1 ∈ fp ∧ h.get? p.1 = some p.2 := by
  obtain ⟨b, hb, e⟩ := List.mem_filterMap.mp hp
  cases q : h.get? b with
  | none => rw [q] at e; cases e
  | some o =>
    rw [q] at e
    have e' : (b, o) = p := Option.some.inj e
    subst e'
    exact ⟨hb, q⟩
theorem Inv.pinned {pins : List (Addr × Obj)} {σ : St} {H : Hp} {s : Shared} {fp : List Addr} (I : Inv X pins σ H s) (hf : ∀ b ∈ fp, FpOk X pins H b) (ho : ∀ b ∈ fp, ∃ o, s.heap.get? b = some o ∧ ∀ v, o.data ≠ .cell v) : Inv X (pins ++ pinsAt fp s.heap) σ H s :=
  I.pins_of fun p hp => (List.mem_append.mp hp).elim (fun z => I.pin p (List.mem_append_right _ z)) fun z => by
    obtain ⟨hb, e⟩ := of_pinsAt z
    obtain ⟨f0, f1, f2, _⟩ := hf p.1 hb
    obtain ⟨o, e', d⟩ := ho p.1 hb
    rw [e] at e'; cases e'
    exact ⟨e, f0, f1, f2, d⟩
theorem Inv.unpinned {pins pl : List (Addr × Obj)} {σ : St} {H : Hp} {s : Shared} (I : Inv X (pins ++ pl) σ H s) : Inv X pins σ H s := I.pins_of fun p hp => I.pin p (List.mem_append_right _ (List.mem_append_left _ hp))
theorem ps_for {iter : Expr} {body : List Stmt} {wi : TI} {g : TG} {tb : TS} {pos : Pos} (hp : PassesOwn (model X.prog X.w) X.A X.env X.xe) (hc : X.calm = true) (hi : PI X tg iter wi) (hg : PG X tg g) (hb : PSs X body tb)
    (hs : ∀ x, foldedSetIterable iter X.env x = pure x := by intro _; rfl) : PS X (.For tg iter body [] pos) (tFor wi g tb) := by
  intro pins s σ H D I h
  refine wpAny_For (thn (hi pins s σ H _ I h) fun v s1 h1 => thn h1 fun itv s2 h2 => ?_) hs
  obtain ⟨it, fp, tn, J, H2, e, I2, T, st2, f2, W, ⟨m0, w0⟩, turn⟩ := h2
  subst e
  -- what stays true of the iterator's objects through the loop
  have stat : ∀ {H' : Hp}, (∀ b ∈ fp, H' b = none) → ∀ b ∈ fp, FpOk X pins H' b := fun hn b hb => ⟨hn b hb, (f2 b hb).2⟩
  refine codeAny_forLoop_any (fun n s' => ∃ i σ' H', Inv X pins σ' H' s' ∧ tn i s'.heap ∧ (∀ b ∈ fp, H' b = none) ∧ W i n σ' H') ?_ m0 ⟨0, σ, H2, I2, st2, fun b hb => (f2 b hb).1, w0⟩
  rintro n s3 ⟨i, σ3, H3, I3, st3, fr3, w3⟩
  rcases turn i n σ3 H3 w3 with ⟨stop, qn⟩ | ⟨go, N, hN, step⟩
  · refine wpAny_passesOwn hp (thn (T.done X rfl rfl rfl hc i pins s3 σ3 H3 X.xe I3 (stat fr3) st3 stop) fun r s4 ⟨hr, I4⟩ => ?_)
    subst hr
    exact wpAny_execs_nil ⟨σ3, H3, I4, qn⟩
  · refine wpAny_passesOwn hp (thn (T.item X rfl rfl rfl hc i pins s3 σ3 H3 X.xe I3 (stat fr3) st3 go) fun r s4 ⟨u, hr, h4⟩ => ?_)
    subst hr
    refine wpAny_passesOwn hp (thn h4 fun _ s5 ⟨x, H5, I5, r5, y5, st5, fr5⟩ => ?_)
    have I5' := I5.pinned (stat fr5) (T.obj _ _ st5)
    refine wpAny_passesOwn hp (thn (hg _ s5 σ3 H5 x u _ I5' r5 (step x H5 y5)) fun _ s6 ⟨σ6, H6, I6, q6⟩ => ?_)
    refine wpAny_passesOwn hp (thn (hb _ s6 σ6 H6 _ I6 q6) fun f s7 q7 => ?_)
    have again : ∀ {σ7 : St} {H7 : Hp}, Inv X (pins ++ pinsAt fp s5.heap) σ7 H7 s7 → N σ7 H7 → ∃ m, m < n ∧ ∃ i σ' H', Inv X pins σ' H' s7 ∧ tn i s7.heap ∧ (∀ b ∈ fp, H' b = none) ∧ W i m σ' H' := fun {σ7 H7} I7 n7 => by
      obtain ⟨m', hm, w7⟩ := hN σ7 H7 n7
      refine ⟨m', hm, i + 1, σ7, H7, I7.unpinned, T.keep _ _ _ st5 fun b hb o e => (I7.pin (b, o) (List.mem_append_right _ (List.mem_append_right _ (mem_pinsAt hb e)))).1, fun b hb => ?_, w7⟩
      obtain ⟨o, e, d⟩ := T.obj _ _ st5 b hb
      exact (I7.pin (b, o) (List.mem_append_right _ (List.mem_append_right _ (mem_pinsAt hb e)))).2.1
    cases f with
    | next => obtain ⟨σ7, H7, I7, n7⟩ := q7; exact again I7 n7
    | cont => obtain ⟨σ7, H7, I7, n7⟩ := q7; exact again I7 n7
    | brk => obtain ⟨σ7, H7, I7, q7⟩ := q7; exact ⟨σ7, H7, I7.unpinned, q7⟩
    | ret v => obtain ⟨x7, σ7, H7, I7, r7, q7⟩ := q7; exact ⟨x7, σ7, H7, I7.unpinned, r7, q7⟩
end
/-! ### the forms one uses -/
/-- over a list that the body leaves as it is -/
theorem for_list {K : PySem.W.Frag} {a : Addr} {xs : List V} {g : TG} {tb : TS} {D : Ends} {σ : St} {H : Hp} (Pv : Nat → St → Hp → Prop) (h0 : Pv 0 σ H) (hl : ∀ i σ H, i ≤ xs.length → Pv i σ H → SqL K H a xs)
    (hs : ∀ i x σ H, xs[i]? = some x → Pv i σ H → g x σ H fun σ2 H2 => tb { D with nx := Pv (i + 1), ct := Pv (i + 1), bk := D.nx } σ2 H2) (hd : ∀ σ H, Pv xs.length σ H → D.nx σ H) :
    ∃ W : Nat → Nat → St → Hp → Prop, (∃ m, W 0 m σ H) ∧ ∀ i m σ H, W i m σ H →
      ((Itl K a).stop i H ∧ D.nx σ H) ∨ ((Itl K a).go i H ∧ ∃ N : St → Hp → Prop, (∀ σ' H', N σ' H' → ∃ m', m' < m ∧ W (i + 1) m' σ' H') ∧ ∀ x H', (Itl K a).yld i H x H' → g x σ H' fun σ2 H2 => tb { D with nx := N, ct := N, bk := D.nx } σ2 H2) := by
  refine ⟨fun i m σ H => m = xs.length - i ∧ i ≤ xs.length ∧ Pv i σ H, ⟨xs.length, by simp, Nat.zero_le _, h0⟩, ?_⟩
  rintro i m σ H ⟨rfl, hi, p⟩
  have q := hl i σ H hi p
  by_cases hlt : i < xs.length
  · refine .inr ⟨⟨xs, xs[i], q, by simp [hlt]⟩, Pv (i + 1), fun σ' H' p' => ⟨xs.length - (i + 1), by omega, rfl, hlt, p'⟩, fun x H' y => ?_⟩
    obtain ⟨e, y⟩ := y
    subst e
    exact hs i x σ _ (y xs q) p
  · have e : i = xs.length := by omega
    subst e
    exact .inl ⟨⟨xs, q, Nat.le_refl _⟩, hd σ H p⟩
theorem for_tup {K : PySem.W.Frag} {a : Addr} {xs : List V} {g : TG} {tb : TS} {D : Ends} {σ : St} {H : Hp} (Pv : Nat → St → Hp → Prop) (h0 : Pv 0 σ H) (hl : ∀ i σ H, i ≤ xs.length → Pv i σ H → SqT K H a xs)
    (hs : ∀ i x σ H, xs[i]? = some x → Pv i σ H → g x σ H fun σ2 H2 => tb { D with nx := Pv (i + 1), ct := Pv (i + 1), bk := D.nx } σ2 H2) (hd : ∀ σ H, Pv xs.length σ H → D.nx σ H) :
    ∃ W : Nat → Nat → St → Hp → Prop, (∃ m, W 0 m σ H) ∧ ∀ i m σ H, W i m σ H →
      ((Itt K a).stop i H ∧ D.nx σ H) ∨ ((Itt K a).go i H ∧ ∃ N : St → Hp → Prop, (∀ σ' H', N σ' H' → ∃ m', m' < m ∧ W (i + 1) m' σ' H') ∧ ∀ x H', (Itt K a).yld i H x H' → g x σ H' fun σ2 H2 => tb { D with nx := N, ct := N, bk := D.nx } σ2 H2) := by
  refine ⟨fun i m σ H => m = xs.length - i ∧ i ≤ xs.length ∧ Pv i σ H, ⟨xs.length, by simp, Nat.zero_le _, h0⟩, ?_⟩
  rintro i m σ H ⟨rfl, hi, p⟩
  have q := hl i σ H hi p
  by_cases hlt : i < xs.length
  · refine .inr ⟨⟨xs, xs[i], q, by simp [hlt]⟩, Pv (i + 1), fun σ' H' p' => ⟨xs.length - (i + 1), by omega, rfl, hlt, p'⟩, fun x H' y => ?_⟩
    obtain ⟨e, y⟩ := y
    subst e
    exact hs i x σ _ (y xs q) p
  · have e : i = xs.length := by omega
    subst e
    exact .inl ⟨⟨xs, q, Nat.le_refl _⟩, hd σ H p⟩
theorem for_range {lo : Int} {n : Nat} {g : TG} {tb : TS} {D : Ends} {σ : St} {H : Hp} (Pv : Nat → St → Hp → Prop) (h0 : Pv 0 σ H)
    (hs : ∀ i σ H, i < n → Pv i σ H → g (.int (lo + i)) σ H fun σ2 H2 => tb { D with nx := Pv (i + 1), ct := Pv (i + 1), bk := D.nx } σ2 H2) (hd : ∀ σ H, Pv n σ H → D.nx σ H) :
    ∃ W : Nat → Nat → St → Hp → Prop, (∃ m, W 0 m σ H) ∧ ∀ i m σ H, W i m σ H →
      ((Itr lo n).stop i H ∧ D.nx σ H) ∨ ((Itr lo n).go i H ∧ ∃ N : St → Hp → Prop, (∀ σ' H', N σ' H' → ∃ m', m' < m ∧ W (i + 1) m' σ' H') ∧ ∀ x H', (Itr lo n).yld i H x H' → g x σ H' fun σ2 H2 => tb { D with nx := N, ct := N, bk := D.nx } σ2 H2) := by
  refine ⟨fun i m σ H => m = n - i ∧ i ≤ n ∧ Pv i σ H, ⟨n, by simp, Nat.zero_le _, h0⟩, ?_⟩
  rintro i m σ H ⟨rfl, hi, p⟩
  by_cases hlt : i < n
  · refine .inr ⟨hlt, Pv (i + 1), fun σ' H' p' => ⟨n - (i + 1), by omega, rfl, hlt, p'⟩, fun x H' y => ?_⟩
    obtain ⟨e, y⟩ := y
    subst e y
    exact hs i σ _ hlt p
  · have e : i = n := by omega
    subst e
    exact .inl ⟨Nat.le_refl _, hd σ H p⟩
end L2
namespace L2
open PySem PySem.Spec PyProof.Rows
abbrev R2 := V → V → Hp → VK → Prop
/-- a two-place operation on values: f is binaryOp op, inplaceOp op or compareOp op -/
def OpR (X : Cx) (f : Value → Value → Sem Value) (r : R2) : Prop :=
  ∀ (pins : List (Addr × Obj)) (s : Shared) (σ : St) (H : Hp) (x y : V) (v u : Value) (Q : VK), Inv X pins σ H s → RelV x v → RelV y u → r x y H Q →
    wpAny (model X.prog X.w) X.A (f v u) (EP X pins σ Q) X.xe s
/-- a call of a value that is known (a builtin, a type) with values -/
def CallR (X : Cx) (f : Value) (r : List V → Hp → VK → Prop) : Prop :=
  ∀ (pins : List (Addr × Obj)) (s : Shared) (σ : St) (H : Hp) (xs : List V) (us : List Value) (Q : VK), Inv X pins σ H s → Vals xs us → r xs H Q →
    wpAny (model X.prog X.w) X.A (call f us) (EP X pins σ Q) X.xe s
def tOp (r : R2) (ta tb : TE) : TE := fun σ H Q => ta σ H fun x H1 => tb σ H1 fun y H2 => r x y H2 Q
/-- ints in, under C, and a value out -/
def rI (C : Int → Int → Prop) (g : Int → Int → V) : R2 := fun x y H Q => ∃ i j, x = .int i ∧ y = .int j ∧ C i j ∧ Q (g i j) H
def rI0 (g : Int → Int → V) : R2 := fun x y H Q => ∃ i j, x = .int i ∧ y = .int j ∧ Q (g i j) H
section
variable {X : Cx} {a b c : Expr} {ta tb tc : TE} {pos : Pos}
theorem binT (ha : PE X a ta) (hb : PE X b tb) {pins : List (Addr × Obj)} {s : Shared} {σ : St} {H : Hp} {R : V → V → Hp → Prop} (I : Inv X pins σ H s)
    (h : ta σ H fun x H1 => tb σ H1 fun y H2 => R x y H2) {Q : Value → Shared → Prop} {f : Value → Value → Sem Value}
    (hf : ∀ v u s2 x y H2, Inv X pins σ H2 s2 → RelV x v → RelV y u → R x y H2 → wpAny (model X.prog X.w) X.A (f v u) Q X.xe s2) :
    wpAny (model X.prog X.w) X.A (eval a X.env) (fun v s₁ => wpAny (model X.prog X.w) X.A (eval b X.env) (fun u s₂ => wpAny (model X.prog X.w) X.A (f v u) Q X.xe s₂) X.xe s₁) X.xe s := by
  refine thn (ha pins s σ H _ I h) fun v s1 ⟨x, H1, I1, r1, q1⟩ => ?_
  refine thn (hb pins s1 σ H1 _ I1 q1) fun u s2 ⟨y, H2, I2, r2, q2⟩ => ?_
  exact hf v u s2 x y H2 I2 r1 r2 q2
theorem pe_op {op : Operator} {r : R2} (ho : OpR X (binaryOp op) r) (ha : PE X a ta) (hb : PE X b tb) : PE X (.BinOp a op b pos) (tOp r ta tb) := by
  intro pins s σ H Q I h
  exact wpAny_BinOp (binT ha hb I h fun v u s2 x y H2 I2 rx ry q => ho pins s2 σ H2 x y v u Q I2 rx ry q)
/-! ### ints -/
theorem opI {f : Value → Value → Sem Value} {C : Int → Int → Prop} {g : Int → Int → Int}
    (rule : ∀ (i j : Int) (t u : Tok) (s : Shared) (Q : Value → Shared → Prop) (E : Value → Shared → Prop), C i j → Q (.int (g i j) s.toks) { s with toks := s.toks + 1 } → wpAny (model X.prog X.w) X.A (f (.int i t) (.int j u)) Q E s) :
    OpR X f (rI C fun i j => .int (g i j)) := by
  intro pins s σ H x y v u Q I rx ry h
  obtain ⟨i, j, rfl, rfl, hc, q⟩ := h
  obtain ⟨t, rfl⟩ := rx
  obtain ⟨t', rfl⟩ := ry
  exact rule i j t t' s _ _ hc ⟨.int (g i j), H, I.tok _, ⟨_, rfl⟩, q⟩
theorem opI0 {f : Value → Value → Sem Value} {g : Int → Int → Int}
    (rule : ∀ (i j : Int) (t u : Tok) (s : Shared) (Q : Value → Shared → Prop) (E : Value → Shared → Prop), Q (.int (g i j) s.toks) { s with toks := s.toks + 1 } → wpAny (model X.prog X.w) X.A (f (.int i t) (.int j u)) Q E s) :
    OpR X f (rI0 fun i j => .int (g i j)) := by
  intro pins s σ H x y v u Q I rx ry h
  obtain ⟨i, j, rfl, rfl, q⟩ := h
  obtain ⟨t, rfl⟩ := rx
  obtain ⟨t', rfl⟩ := ry
  exact rule i j t t' s _ _ ⟨.int (g i j), H, I.tok _, ⟨_, rfl⟩, q⟩
theorem opB0 {f : Value → Value → Sem Value} {g : Int → Int → Bool}
    (rule : ∀ (i j : Int) (t u : Tok) (s : Shared) (Q : Value → Shared → Prop) (E : Value → Shared → Prop), Q (.bool (g i j)) s → wpAny (model X.prog X.w) X.A (f (.int i t) (.int j u)) Q E s) :
    OpR X f (rI0 fun i j => .bl (g i j)) := by
  intro pins s σ H x y v u Q I rx ry h
  obtain ⟨i, j, rfl, rfl, q⟩ := h
  obtain ⟨t, rfl⟩ := rx
  obtain ⟨t', rfl⟩ := ry
  exact rule i j t t' s _ _ ⟨.bl (g i j), H, I, rfl, q⟩
def CDiv (i j : Int) : Prop := 0 < j ∧ j < 1073741824
def CMul (i j : Int) : Prop := (-(2 ^ 64) < i ∧ i < 2 ^ 64) ∨ (-(2 ^ 64) < j ∧ j < 2 ^ 64)
theorem CMul.ok {i j : Int} (h : CMul i j) : IntMulOk i j := by
  rcases h with ⟨h1, h2⟩ | ⟨h1, h2⟩
  · exact .of_left (intBits_le_64 h1 h2)
  · exact .of_right (intBits_le_64 h1 h2)
theorem op_add : OpR X (binaryOp .Add) (rI0 fun i j => .int (i + j)) := opI0 fun _ _ _ _ _ _ _ q => add_int q
theorem op_mul : OpR X (binaryOp .Mult) (rI CMul fun i j => .int (i * j)) := opI fun _ _ _ _ _ _ _ hc q => mul_int q hc.ok
/-- // by a positive divisor -/
theorem op_fdiv : OpR X (binaryOp .FloorDiv) (rI CDiv fun i j => .int (i / j)) := opI fun i j _ _ _ _ _ hc q => by
  have h1 : (0 : Int) < j := hc.1
  have h2 : j < 1073741824 := hc.2
  exact floordiv_int (by omega) (by rw [Int.fdiv_eq_ediv_of_nonneg i (by omega)]; exact q) (.inl (PyProof.noPylong_small (by omega)))
/-- % by a positive divisor of any size -/
theorem op_mod : OpR X (binaryOp .Mod) (rI (fun _ j => 0 < j) fun i j => .int (i % j)) := opI fun i j _ _ _ _ _ hc q => by
  have h1 : (0 : Int) < j := hc
  exact mod_int' (by omega) (by rw [Int.fmod_eq_emod_of_nonneg i (by omega)]; exact q)
/-! ### bools among ints: n += (a < b) -/
end
/-! ### comparisons -/
/-- the scalars that == tells apart as data does -/
def scal : V → V → Bool
  | .non, .non => true | .non, .int _ => true | .int _, .non => true | .non, .bl _ => true | .bl _, .non => true | .non, .str _ => true | .str _, .non => true
  | .int _, .int _ => true | .bl _, .bl _ => true | .str _, .str _ => true | .byt _, .byt _ => true
  | .int _, .str _ => true | .str _, .int _ => true | .bl _, .str _ => true | .str _, .bl _ => true
  | _, _ => false
def rEq : R2 := fun x y H Q => scal x y = true ∧ Q (.bl (decide (x = y))) H
def rNe : R2 := fun x y H Q => scal x y = true ∧ Q (.bl (!decide (x = y))) H
theorem dec_int {i j : Int} : decide (V.int i = V.int j) = (i == j) := by
  rw [Bool.eq_iff_iff]
  simp
theorem dec_bl {i j : Bool} : decide (V.bl i = V.bl j) = (i == j) := by
  rw [Bool.eq_iff_iff]
  simp
theorem dec_str {i j : Str} : decide (V.str i = V.str j) = (i == j) := by
  rw [Bool.eq_iff_iff]
  simp
theorem dec_byt {i j : Array UInt8} : decide (V.byt i = V.byt j) = (i.toList == j.toList) := by
  rw [Bool.eq_iff_iff]
  cases i
  cases j
  simp
section
variable {X : Cx} {a b c : Expr} {ta tb tc : TE} {pos : Pos}
theorem fin_bl {pins : List (Addr × Obj)} {σ : St} {H : Hp} {s : Shared} {Q : VK} {k k' : Bool} (I : Inv X pins σ H s) (q : Q (.bl k) H) (e : k = k') : EP X pins σ Q (.bool k') s := by
  subst e
  exact ⟨.bl k, H, I, rfl, q⟩
theorem op_eq : OpR X (compareOp .Eq) rEq := by
  intro pins s σ H x y v u Q I rx ry h
  obtain ⟨hs, q⟩ := h
  cases x with
  | non =>
    cases rx
    cases y with
    | non => cases ry; exact PySem.EqNone.eq_none_none (fin_bl I q (by simp))
    | bl j => cases ry; exact PySem.EqNone.eq_none_bool (fin_bl I q (by simp))
    | int j => obtain ⟨t', rfl⟩ := ry; exact PySem.EqNone.eq_none_int (fin_bl I q (by simp))
    | str j => obtain ⟨t', rfl⟩ := ry; exact PySem.EqNone.eq_none_str (fin_bl I q (by simp))
    | _ => exact absurd (show false = true from hs) Bool.false_ne_true
  | bl i =>
    cases rx
    cases y with
    | non => cases ry; exact PySem.EqNone.eq_bool_none (fin_bl I q (by simp))
    | bl j => cases ry; exact eq_bool (fin_bl I q dec_bl)
    | str j => obtain ⟨t', rfl⟩ := ry; exact PySem.EqMixed.eq_bool_str (fin_bl I q (by simp))
    | _ => exact absurd (show false = true from hs) Bool.false_ne_true
  | int i =>
    obtain ⟨t, rfl⟩ := rx
    cases y with
    | non => cases ry; exact PySem.EqNone.eq_int_none (fin_bl I q (by simp))
    | int j => obtain ⟨t', rfl⟩ := ry; exact eq_int (fin_bl I q dec_int)
    | str j => obtain ⟨t', rfl⟩ := ry; exact PySem.EqMixed.eq_int_str (fin_bl I q (by simp))
    | _ => exact absurd (show false = true from hs) Bool.false_ne_true
  | str i =>
    obtain ⟨t, rfl⟩ := rx
    cases y with
    | non => cases ry; exact PySem.EqNone.eq_str_none (fin_bl I q (by simp))
    | bl j => cases ry; exact PySem.EqMixed.eq_str_bool (fin_bl I q (by simp))
    | int j => obtain ⟨t', rfl⟩ := ry; exact PySem.EqMixed.eq_str_int (fin_bl I q (by simp))
    | str j => obtain ⟨t', rfl⟩ := ry; exact eq_str (fin_bl I q dec_str)
    | _ => exact absurd (show false = true from hs) Bool.false_ne_true
  | byt i =>
    obtain ⟨t, rfl⟩ := rx
    cases y with
    | byt j => obtain ⟨t', rfl⟩ := ry; exact PySem.W.eq_bytes (fin_bl I q dec_byt)
    | _ => exact absurd (show false = true from hs) Bool.false_ne_true
  | _ => cases y <;> exact absurd (show false = true from hs) Bool.false_ne_true
theorem op_ne : OpR X (compareOp .NotEq) rNe := by
  intro pins s σ H x y v u Q I rx ry h
  obtain ⟨hs, q⟩ := h
  cases x with
  | non =>
    cases rx
    cases y with
    | non => cases ry; exact PySem.EqNone.ne_none_none (fin_bl I q (by simp))
    | bl j => cases ry; exact PySem.EqNone.ne_none_bool (fin_bl I q (by simp))
    | int j => obtain ⟨t', rfl⟩ := ry; exact PySem.EqNone.ne_none_int (fin_bl I q (by simp))
    | str j => obtain ⟨t', rfl⟩ := ry; exact PySem.EqNone.ne_none_str (fin_bl I q (by simp))
    | _ => exact absurd (show false = true from hs) Bool.false_ne_true
  | bl i =>
    cases rx
    cases y with
    | non => cases ry; exact PySem.EqNone.ne_bool_none (fin_bl I q (by simp))
    | bl j => cases ry; exact ne_bool (fin_bl I q (congrArg not dec_bl))
    | str j => obtain ⟨t', rfl⟩ := ry; exact PySem.EqMixed.ne_bool_str (fin_bl I q (by simp))
    | _ => exact absurd (show false = true from hs) Bool.false_ne_true
  | int i =>
    obtain ⟨t, rfl⟩ := rx
    cases y with
    | non => cases ry; exact PySem.EqNone.ne_int_none (fin_bl I q (by simp))
    | int j => obtain ⟨t', rfl⟩ := ry; exact ne_int (fin_bl I q (congrArg not dec_int))
    | str j => obtain ⟨t', rfl⟩ := ry; exact PySem.EqMixed.ne_int_str (fin_bl I q (by simp))
    | _ => exact absurd (show false = true from hs) Bool.false_ne_true
  | str i =>
    obtain ⟨t, rfl⟩ := rx
    cases y with
    | non => cases ry; exact PySem.EqNone.ne_str_none (fin_bl I q (by simp))
    | bl j => cases ry; exact PySem.EqMixed.ne_str_bool (fin_bl I q (by simp))
    | int j => obtain ⟨t', rfl⟩ := ry; exact PySem.EqMixed.ne_str_int (fin_bl I q (by simp))
    | str j => obtain ⟨t', rfl⟩ := ry; exact ne_str (fin_bl I q (congrArg not dec_str))
    | _ => exact absurd (show false = true from hs) Bool.false_ne_true
  | byt i =>
    obtain ⟨t, rfl⟩ := rx
    cases y with
    | byt j => obtain ⟨t', rfl⟩ := ry; exact PySem.W.ne_bytes (fin_bl I q (congrArg not dec_byt))
    | _ => exact absurd (show false = true from hs) Bool.false_ne_true
  | _ => cases y <;> exact absurd (show false = true from hs) Bool.false_ne_true
theorem op_lt : OpR X (compareOp .Lt) (rI0 fun i j => .bl (decide (i < j))) := opB0 fun _ _ _ _ _ _ _ q => lt_int q
theorem op_gt : OpR X (compareOp .Gt) (rI0 fun i j => .bl (decide (j < i))) := opB0 fun _ _ _ _ _ _ _ q => gt_int q
/-- the one string within the other -/
theorem op_in_str : OpR X (compareOp .In) (fun x y H Q => ∃ i j, x = .str i ∧ y = .str j ∧ Q (.bl (!(Builtin.Str.occurrences j i 0 j.length 1).isEmpty)) H) := by
  intro pins s σ H x y v u Q I rx ry h
  obtain ⟨i, j, rfl, rfl, q⟩ := h
  obtain ⟨t, rfl⟩ := rx
  obtain ⟨t', rfl⟩ := ry
  exact in_str (fin_bl I q rfl)
theorem nomark (b : Expr) {op : CmpOp} (h : op ≠ .In := by decide) (h2 : op ≠ .NotIn := by decide) : behindInMarks op b = false := by
  have e1 : (op == CmpOp.In) = false := by cases op <;> first | rfl | exact absurd rfl h
  have e2 : (op == CmpOp.NotIn) = false := by cases op <;> first | rfl | exact absurd rfl h2
  cases b <;> simp [behindInMarks, e1, e2]
/-- a comparison as a value; hm: nomark b, or (for in, not in) by with_unfolding_all rfl -/
theorem pe_cmpR {op : CmpOp} {r : R2} (ho : OpR X (compareOp op) r) (ha : PE X a ta) (hb : PE X b tb) (hm : behindInMarks op b = false) : PE X (.Compare a [op] [b] pos) (tOp r ta tb) := by
  intro pins s σ H Q I h
  exact wpAny_Compare1 (binT ha hb I h fun v u s2 x y H2 I2 rx ry q => ho pins s2 σ H2 x y v u Q I2 rx ry q) hm
/-- a reading of a value as a test -/
def tTest (t : TE) : TT := fun σ H Q => t σ H fun x H' => ∃ k, x = .bl k ∧ Q k H'
theorem pt_cmpR {op : CmpOp} {r : R2} (ho : OpR X (compareOp op) r) (ha : PE X a ta) (hb : PE X b tb) (hm : behindInMarks op b = false) : PT X (.Compare a [op] [b] pos) (tTest (tOp r ta tb)) := by
  intro pins s σ H Q I h
  refine wpAny_isTrue_Compare1 (thn (ha pins s σ H _ I h) fun v s1 ⟨x, H1, I1, r1, q1⟩ => thn (hb pins s1 σ H1 _ I1 q1) fun u s2 ⟨y, H2, I2, r2, q2⟩ =>
    thn (ho pins s2 σ H2 x y v u _ I2 r1 r2 q2) fun c s3 ⟨z, H3, I3, r3, k, e, q3⟩ => ?_) hm
  subst e
  cases r3
  exact wpAny_truthy_bool ⟨H3, I3, q3⟩
/-! ### truth -/
theorem line63 : (sizeLine : Nat) < 2 ^ 63 := by rw [sizeLine_eq]; decide
/-! ### strs and bytes -/
theorem op_add_str : OpR X (binaryOp .Add) (fun x y H Q => ∃ i j, x = .str i ∧ y = .str j ∧ i.length + j.length ≤ sizeLine ∧ Q (.str (i ++ j)) H) := by
  intro pins s σ H x y v u Q I rx ry h
  obtain ⟨i, j, rfl, rfl, hz, q⟩ := h
  obtain ⟨t, rfl⟩ := rx
  obtain ⟨t', rfl⟩ := ry
  exact add_str (fun t' tk => ⟨.str (i ++ j), H, I.tok _, ⟨_, rfl⟩, q⟩) hz
/-! ### scalar builtins, by CallR -/
theorem vals1 {x : V} {us : List Value} (r : Vals [x] us) : ∃ u, us = [u] ∧ RelV x u := by
  cases r with
  | cons r1 r2 => cases r2; exact ⟨_, rfl, r1⟩
theorem vals2 {x y : V} {us : List Value} (r : Vals [x, y] us) : ∃ u w', us = [u, w'] ∧ RelV x u ∧ RelV y w' := by
  cases r with
  | cons r1 r2 =>
    cases r2 with
    | cons r3 r4 => cases r4; exact ⟨_, _, rfl, r1, r3⟩
end
end L2
namespace L2
open PySem PySem.Spec PyProof.Rows
/-! ### an instance, its attributes a map -/
structure ObjM (h : Heap) (x dx C : Addr) (mA : Str → Option Value) : Prop where
  obj : h.get? x = some (PySem.W.instObj C dx)
  ns : h.Ns1 dx mA
  ne : dx ≠ x
theorem lookIn_ns {h : Heap} {dx : Addr} {mA : Str → Option Value} (n : h.Ns1 dx mA) : ∃ od, h.get? dx = some od ∧ ∀ name, PySem.W.lookIn name od = some (mA name) := by
  obtain ⟨o, es, ep, ho, hd, hk, _, hm⟩ := n
  refine ⟨o, ho, fun name => ?_⟩
  have e := hm name
  unfold nsFind findBy at e
  rw [← Array.find?_toList] at e
  unfold PySem.W.lookIn
  rw [hd]
  dsimp only
  split
  · rename_i y q
    rw [q] at e
    exact congrArg some e
  · rename_i q
    rw [q] at e
    have a : es.toList.any (·.refKey) = false := by
      rw [List.any_eq_false]
      intro y hy
      obtain ⟨z, t, hkey⟩ := hk y (Array.mem_toList_iff.mp hy)
      simp [DictEntry.refKey, hkey]
    have a' : ¬ es.toList.any (·.refKey) = true := by rw [a]; exact Bool.false_ne_true
    rw [if_neg a']
    exact congrArg some e
theorem ObjM.look {h : Heap} {x dx C : Addr} {mA : Str → Option Value} (I : ObjM h x dx C mA) : ∃ od, PySem.W.InstAt h x (PySem.W.instObj C dx) C (some od) ∧ ∀ name, PySem.W.lookIn name od = some (mA name) :=
  let ⟨od, ho, hl⟩ := lookIn_ns I.ns
  ⟨od, ⟨I.obj, rfl, rfl, ho⟩, hl⟩
section
variable {prog : Program} {w : World} {A : Around} {E : Value → Shared → Prop} {s : Shared} {K : PySem.W.Frag} {x dx C f : Addr} {mA : Str → Option Value} {name : Str} {v : Value}
end
/-! ### the attributes as a list of pairs -/
theorem RelO.some_of {v : V} {o : Option Value} (r : RelO (some v) o) : ∃ u, o = some u ∧ RelV v u := by
  cases o with
  | none => exact (show False from r).elim
  | some u => exact ⟨u, rfl, r⟩
theorem RelO.none_of {o : Option Value} (r : RelO none o) : o = none := by
  cases o with
  | none => rfl
  | some u => exact (show False from r).elim
section
variable {P : Program} {w : World} {H H' : Hp} {h h' : Heap} {a C dx : Addr} {fs fs' : List (Str × V)}
theorem ins_get (hok : HOk P w H h) (e : H a = some (.ins C dx fs)) : ∃ mA, ObjM h a dx C mA ∧ (∀ f, RelO (fs.lookup f) (mA f)) ∧ PySem.Within mA (fs.map (·.1)) ∧ fs.length ≤ 1000 ∧ H dx = some (.own a) := by
  obtain ⟨d, z, ne, ob, mA, n, r, q⟩ := (show ObjOk P w H h a (.ins C dx fs) from hok a _ e)
  exact ⟨mA, ⟨ob, n, ne⟩, r, q, z, d⟩
end
/-! ### what of the text a class must have -/
structure Cls (K : PySem.W.Frag) (C : Addr) : Prop where
  pg : PySem.W.plainGet K C Str.empty = true
  hd : PySem.W.hasDictIn K C = true
  po : PySem.W.plainOver K C = true
  sa : PySem.W.findIn K (.ref C) "__setattr__" = some (some (.builtin "object.__setattr__"))
theorem Cls.get {K : PySem.W.Frag} {C : Addr} (c : Cls K C) (f : Str) : PySem.W.plainGet K C f = true := c.pg
/-- no class of it has the name -/
def NoAttr (K : PySem.W.Frag) (C : Addr) (f : Str) : Prop := PySem.W.findIn K (.ref C) f = some none
/-- a constant of the class -/
structure Con (K : PySem.W.Frag) (C : Addr) (f : Str) (v : V) (u : Value) : Prop where
  at_ : PySem.W.findIn K (.ref C) f = some (some u)
  rel : RelV v u
  get : PySem.W.specialIn K u "__get__" = some none
  cp : PySem.W.copiedNames.contains f = false
/-- a method: a plain def of the class or of one above it -/
structure Meth (K : PySem.W.Frag) (C : Addr) (m : Str) (f : Addr) : Prop where
  at_ : PySem.W.findIn K (.ref C) m = some (some (.ref f))
  fn : PySem.W.isFn K (.ref f) = true
  kp : PySem.W.keepIn K (.ref f) = true
section
variable {X : Cx} {pins : List (Addr × Obj)} {σ : St} {H : Hp} {s : Shared} {a C dx : Addr} {fs : List (Str × V)} {f : Str} {v : V} {A : Around} {E : Value → Shared → Prop}
end
/-! ### readings and rules -/
section
variable {X : Cx} {o e value : Expr} {f : Str} {pos pos' tpos : Pos} {ta tv : TE}
end
/-! ### isinstance -/
section
variable {X : Cx} {pins : List (Addr × Obj)} {σ : St} {H : Hp} {s : Shared} {A : Around} {E : Value → Shared → Prop} {Q : Value → Shared → Prop} {c : Value} {b : Bool}
/-- the type of a value, as the fragment's deciders take it; for an instance its class -/
inductive TyOf (K : PySem.W.Frag) (H : Hp) : V → Value → Prop where
  | non : TyOf K H .non (.type "NoneType")
  | bl (x : Bool) : TyOf K H (.bl x) (.type "bool")
  | int (i : Int) : TyOf K H (.int i) (.type "int")
  | str (x : Str) : TyOf K H (.str x) (.type "str")
  | flt (x : UInt64) : TyOf K H (.flt x) (.type "float")
  | lst {a : Addr} {xs : List V} (e : H a = some (.lst xs)) : TyOf K H (.ref a) (.type "list")
  | frz {a : Addr} {o : Obj} {xs : List V} (e : H a = some (.frz o (.lst xs))) : TyOf K H (.ref a) (.type "list")
  | tup {a : Addr} {xs : List V} (e : H a = some (.tup xs)) : TyOf K H (.ref a) (.type "tuple")
  | dK {a : Addr} {kvs : List (Key × V)} (e : H a = some (.dK kvs)) : TyOf K H (.ref a) (.type "dict")
  | dT {a : Addr} {kvs : List (List Key × V)} (e : H a = some (.dT kvs)) : TyOf K H (.ref a) (.type "dict")
  | ins {a C dx : Addr} {fs : List (Str × V)} (e : H a = some (.ins C dx fs)) (cl : Cls K C) (ha : PySem.W.findIn K (.ref C) "__class__" = some (some (.builtin "object.__class__")))
      (hn : PySem.W.specialIn K (.builtin "object.__class__") "__get__" = some (some (.builtin "getset_descriptor.__get__"))) (htk : PySem.W.takesIn K (.builtin "object.__class__") = some true)
      (hm : PySem.W.mroIn K C (.type "object") = some true) : TyOf K H (.ref a) (.ref C)
/-- isinstance(x, c) for one class c, a built-in or an own one: kitOne's answer -/
theorem isinst_ok {x : V} {u t : Value} (I : Inv X pins σ H s) (rx : RelV x u) (ty : TyOf X.K H x t) (e : PySem.W.kitOne X.K t c = some b) (h : ∀ tk, Q (.bool b) { s with toks := tk }) :
    wpAny (model X.prog X.w) A (call (.builtin "isinstance") [u, c]) Q E s := by
  cases ty with
  | non => cases (show u = Value.none from rx); exact PySem.W.kia_one PySem.W.kitx_none I.kIn True.intro e (fun z => nomatch z) h
  | bl y => cases (show u = Value.bool y from rx); exact PySem.W.kia_one PySem.W.kitx_bool I.kIn True.intro e (fun z => nomatch z) h
  | int i => obtain ⟨t, q⟩ := (show ∃ t, u = Value.int i t from rx); cases q; exact PySem.W.kia_one PySem.W.kitx_int I.kIn True.intro e (fun z => nomatch z) h
  | str y => obtain ⟨t, q⟩ := (show ∃ t, u = Value.str y t from rx); cases q; exact PySem.W.kia_one PySem.W.kitx_str I.kIn True.intro e (fun z => nomatch z) h
  | flt y => obtain ⟨t, q⟩ := (show ∃ t, u = Value.float y t from rx); cases q; exact PySem.W.kia_one PySem.W.kitx_float I.kIn True.intro e (fun z => nomatch z) h
  | @lst a xs ea =>
    cases (show u = Value.ref a from rx)
    obtain ⟨_, _, n, _, h1⟩ := (show ObjOk X.prog X.w H s.heap a (.lst xs) from I.hok a _ ea)
    exact PySem.W.kia_one PySem.W.kitx_list I.kIn ⟨_, h1, rfl⟩ e (fun z => nomatch z) h
  | @frz a ob xs ea =>
    cases (show u = Value.ref a from rx)
    obtain ⟨_, _, _, n, _, h1⟩ := (show ObjOk X.prog X.w H s.heap a (.frz ob (.lst xs)) from I.hok a _ ea)
    exact PySem.W.kia_one PySem.W.kitx_list I.kIn ⟨_, h1, rfl⟩ e (fun z => nomatch z) h
  | @tup a xs ea =>
    cases (show u = Value.ref a from rx)
    obtain ⟨_, _, _, p⟩ := (show ObjOk X.prog X.w H s.heap a (.tup xs) from I.hok a _ ea)
    obtain ⟨o, h1, h2, _⟩ := p
    exact PySem.W.kia_one PySem.W.kitx_tuple I.kIn ⟨o, h1, h2⟩ e (fun z => nomatch z) h
  | @dK a kvs ea =>
    cases (show u = Value.ref a from rx)
    obtain ⟨_, _, vs, _, p⟩ := (show ObjOk X.prog X.w H s.heap a (.dK kvs) from I.hok a _ ea)
    obtain ⟨o, es, ep, h1, h2, _⟩ := p
    exact PySem.W.kia_one PySem.W.kitx_dict I.kIn ⟨o, h1, h2.1⟩ e (fun z => nomatch z) h
  | @dT a kvs ea =>
    cases (show u = Value.ref a from rx)
    obtain ⟨_, _, xs, _, o, es, ep, h1, h2, _⟩ := (show ObjOk X.prog X.w H s.heap a (.dT kvs) from I.hok a _ ea)
    exact PySem.W.kia_one PySem.W.kitx_dict I.kIn ⟨o, h1, h2.1⟩ e (fun z => nomatch z) h
  | @ins a C dx fs ea cl ha hn htk hm =>
    cases (show u = Value.ref a from rx)
    obtain ⟨mA, O, _⟩ := ins_get I.hok ea
    obtain ⟨od, J, _⟩ := O.look
    exact PySem.W.kia_one (PySem.W.kitx_own (cl.get _) cl.hd ha hn htk hm) I.kIn J e (fun z => nomatch z) h
end
end L2
namespace L2
open PySem PySem.Spec PyProof.Rows
/-! ### room -/
structure Room (k : Nat) (A : Around) : Prop where
  hd : A.handled = none
  dp : A.depth + 3 * k + 5 < recursionLimit
  un : A.units + 16 * k + 200 < cLine
  gd : A.guards = some []
theorem Room.mono {j k : Nat} {A : Around} (r : Room k A) (h : j ≤ k) : Room j A := ⟨r.hd, by have := r.dp; omega, by have := r.un; omega, r.gd⟩
theorem Room.deeper {k : Nat} {A : Around} (r : Room (k + 1) A) (env : Env) : Room k (A.deeper env) :=
  ⟨r.hd, by have := r.dp; show A.depth + 1 + 3 * k + 5 < _; omega, by have := r.un; show A.units + 3 + 16 * k + 200 < _; omega, r.gd⟩
theorem Room.depth {k : Nat} {A : Around} (r : Room k A) : A.depth < recursionLimit := by have := r.dp; omega
theorem Room.units {k : Nat} {A : Around} (r : Room k A) : A.units + 64 < cLine := by have := r.un; omega
/-! ### argument lists and displays -/
def tNil : TA := fun _ H Q => Q [] H
def tCons (ta : TE) (tr : TA) : TA := fun σ H Q => ta σ H fun x H1 => tr σ H1 fun xs H2 => Q (x :: xs) H2
section
variable {X : Cx} {e : Expr} {es : List Expr} {te : TE} {t : TA} {pos : Pos}
theorem pa_nil : PA X [] tNil := fun _ _ _ _ H Q I h => Calls.spliced_nil ⟨[], H, I, .nil, h⟩
theorem pa_cons (ha : PE X e te) (hr : PA X es t) (hs : starEach (e :: es) X.env = (false, eval e X.env) :: starEach es X.env := by rfl) : PA X (e :: es) (tCons te t) := by
  intro pos pins s σ H Q I h
  rw [hs]
  show wpAny _ _ (spliced ((false, eval e X.env) :: backTo pos (starEach es X.env))) _ _ s
  refine Calls.spliced_cons (thn (ha pins s σ H _ I h) fun u s1 ⟨x, H1, I1, r1, q1⟩ => ?_)
  exact thn (hr pos pins s1 σ H1 _ I1 q1) fun us s2 ⟨xs, H2, I2, r2, q2⟩ => ⟨x :: xs, H2, I2, .cons r1 r2, q2⟩
/-- a tuple, a list of written items -/
def tTup (t : TA) : TE := fun σ H Q => t σ H fun xs H1 => xs.length ≤ sizeLine ∧ ∀ p, H1 p = none → Q (.ref p) (upd H1 p (.tup xs))
def tLst (t : TA) : TE := fun σ H Q => t σ H fun xs H1 => xs.length ≤ sizeLine ∧ ∀ p, H1 p = none → Q (.ref p) (upd H1 p (.lst xs))
theorem pe_tup {x1} (h : PA X es t) : PE X (.Tuple es x1 pos) (tTup t) := by
  intro pins s σ H Q I hq
  refine wpAny_Tuple_spliced (thn (h pos pins s σ H _ I hq) fun us s1 ⟨xs, H1, I1, r, z, q⟩ => ⟨by rw [← r.length]; exact z, ?_⟩)
  have hf : H1 s1.heap.objs.size = none := I1.hok.fresh (Nat.le_refl _)
  refine ⟨.ref s1.heap.objs.size, upd H1 s1.heap.objs.size (.tup xs), I1.laid (t' := s1.toks) (fun b u e => Heap.get?_push_of_some _ e) (Nat.le_refl _) ?_, rfl, q _ hf⟩
  exact ⟨z, us, r, ⟨_, Heap.get?_push_size _ rfl, rfl, _, rfl⟩⟩
theorem pe_lst (h : PA X es t) : PE X (.List es pos) (tLst t) := by
  intro pins s σ H Q I hq
  refine wpAny_List_spliced (thn (h pos pins s σ H _ I hq) fun us s1 ⟨xs, H1, I1, r, z, q⟩ => ⟨by rw [← r.length]; exact z, ?_⟩)
  have hf : H1 s1.heap.objs.size = none := I1.hok.fresh (Nat.le_refl _)
  refine ⟨.ref s1.heap.objs.size, upd H1 s1.heap.objs.size (.lst xs), I1.laid (t' := s1.toks) (fun b u e => Heap.get?_push_of_some _ e) (Nat.le_refl _) ?_, rfl, q _ hf⟩
  exact ⟨z, us, 0, r, Heap.get?_push_size _ rfl⟩
end
/-! ### what a def promises -/
/-- a def's promise: the bound arguments in the parameters' order, the heap, the wanted end, the wanted exception -/
abbrev Sp := List V → Hp → VK → XK → Prop
/-- how an exception lies behind a call (file 08 gives it): the callers' frames, abstract heap and state ahead of the call, the wish, the exception, the state -/
abbrev CXT := List Env → Hp → Shared → XK → Value → Shared → Prop
/-- the state at a call -/
structure Env0 (P : Program) (w : World) (K : PySem.W.Frag) (mg : Str → Option Value) (base : Heap) (A : Around) (outer : List Env) (s : Shared) (H : Hp) : Prop where
  frames : A.frames = some outer
  mod : Mod K mg base
  bs : ∀ b o, base.get? b = some o → s.heap.get? b = some o ∧ H b = none
  bsz : base.objs.size ≤ s.heap.objs.size
  funs : s.heap.FunFrames base outer
  frf : ∀ b ∈ frs outer, H b = none
  hok : HOk P w H s.heap
  bare : AllBare s.gens
/-- a call's end -/
def CE (outer : List Env) (P : Program) (w : World) (H : Hp) (s : Shared) (Q : VK) (u : Value) (s' : Shared) : Prop :=
  ∃ v H', s'.os = s.os ∧ AllBare s'.gens ∧ Un (frs outer) [] H H' s.heap s'.heap ∧ HOk P w H' s'.heap ∧ RelV v u ∧ Q v H'
def CR (CX : CXT) (outer : List Env) (P : Program) (w : World) (H : Hp) (s : Shared) (Q : VK) (E : XK) (r : Result) (s' : Shared) : Prop :=
  match r with
  | .ok (.ret u) => CE outer P w H s Q u s'
  | .ok _ => False
  | .error e => CX outer H s E e s'
structure FnOk (P : Program) (w : World) (K : PySem.W.Frag) (mg : Str → Option Value) (base : Heap) (CX : CXT) (k : Nat) (f : Addr) (fd : FuncData) (ps : List Str) (sp : Sp) : Prop where
  len : ∀ vs H Q E, sp vs H Q E → vs.length = ps.length
  run : ∀ (A : Around) (outer : List Env) (s : Shared) (H : Hp) (args : Args) (us : List Value) (vs : List V) (Q : VK) (E : XK), Room k A → Env0 P w K mg base A outer s H → BindsTo s fd args (ps.zip us) → Vals vs us → sp vs H Q E →
    codeAny (model P w) A (.call (.ref f) args) (CR CX outer P w H s Q E) s
section
variable {X : Cx} {pins : List (Addr × Obj)} {σ : St} {H : Hp} {s s' : Shared}
/-- from a body: what a callee wants -/
theorem Inv.env0 (I : Inv X pins σ H s) : Env0 X.prog X.w X.K X.mg X.base X.A X.stack s H :=
  ⟨I.ok.frames, I.ok.mod, I.bs, Nat.le_trans I.ok.bsz I.sz, I.stack, I.stkFree, I.hok, I.bare⟩
/-- behind a call -/
theorem Inv.after {Q : VK} {u : Value} (I : Inv X pins σ H s) (h : CE X.stack X.prog X.w H s Q u s') : EP X pins σ Q u s' := by
  obtain ⟨v, H', os, bare, un, hok, r, q⟩ := h
  obtain ⟨hh, g, d, t, os'⟩ := s'
  obtain rfl : os' = s.os := os
  exact ⟨v, H', I.call (h' := hh) (g' := g) (d' := d) (t' := t) (ch := []) un hok bare (fun b z => absurd z (by simp)), r, q⟩
end
/-! ### calls -/
/-- f(..): the written arguments, then the defaults dvs; E: what is wanted of an exception -/
def tCall (sp : Sp) (dvs : List V) (E : XK) (t : TA) : TE := fun σ H Q => t σ H fun vs H1 => sp (vs ++ dvs) H1 Q E
/-- how the parameters are bound: us the positional arguments, kw the keywords' values by name, ds the defaults that fill up -/
def Binds (K : PySem.W.Frag) (fd : FuncData) (ps : List Str) (ds : List Value) : Prop :=
  ∀ (s : Shared) (us : List Value), K.In s.heap → (us ++ ds).length = ps.length → BindsTo s fd ⟨us, []⟩ (ps.zip (us ++ ds))
/-- every parameter is given -/
theorem Binds.all {K : PySem.W.Frag} {fd : FuncData} {ps : List Str} (h : ∀ us : List Value, us.length = ps.length → bindArgs fd ⟨us, []⟩ = pure (ps.zip us)) : Binds K fd ps [] := fun s us _ hl => by
  rw [List.append_nil] at hl ⊢
  exact .of_eq (h us hl)
/-- an exception of a callee reaches what this body wants of exceptions -/
def Passes (CX : CXT) (X : Cx) (E : XK) : Prop := ∀ (pins : List (Addr × Obj)) (σ : St) (H : Hp) (s : Shared) (e : Value) (s' : Shared), Inv X pins σ H s → CX X.stack H s E e s' → X.xe e s'
section
variable {X : Cx} {CX : CXT} {k : Nat} {f C : Addr} {fd : FuncData} {ps : List Str} {sp : Sp} {dvs : List V} {ds : List Value} {E : XK} {x m : Str} {p pos apos : Pos} {e o : Expr} {es : List Expr} {ta : TE} {t : TA}
/-- the callee runs -/
theorem run_fn {pins : List (Addr × Obj)} {σ : St} {H : Hp} {s : Shared} {Q : VK} {us : List Value} {vs : List V} (F : FnOk X.prog X.w X.K X.mg X.base CX k f fd ps sp) (hr : Room k X.A) (hb : Binds X.K fd ps ds) (hd : Vals dvs ds) (hx : Passes CX X E)
    (I : Inv X pins σ H s) (r : Vals vs us) (h : sp (vs ++ dvs) H Q E) : wpAny (model X.prog X.w) X.A (call (.ref f) us) (EP X pins σ Q) X.xe s := by
  have r2 : Vals (vs ++ dvs) (us ++ ds) := r.append hd
  have hl : (us ++ ds).length = ps.length := by rw [← r2.length]; exact F.len _ _ _ _ h
  refine wpAny_call (codeAny_mono (F.run X.A X.stack s H ⟨us, []⟩ (us ++ ds) (vs ++ dvs) Q E hr I.env0 (hb s us I.kIn hl) r2 h) fun r s' hq => ?_)
  cases r with
  | error e => exact hx pins σ H s e s' I hq
  | ok fl =>
    cases fl with
    | ret u => exact I.after hq
    | next => exact False.elim hq
    | brk => exact False.elim hq
    | cont => exact False.elim hq
theorem pe_call (F : FnOk X.prog X.w X.K X.mg X.base CX k f fd ps sp) (hr : Room k X.A) (hg : Gl X x) (hm : X.mg x = some (.ref f)) (hk : PySem.W.keepIn X.K (.ref f) = true) (hb : Binds X.K fd ps ds) (hd : Vals dvs ds) (hx : Passes CX X E)
    (ha : PA X (e :: es) t) (hdb : (x == ("__debug__" : Str)) = false := by decide) (he : starEach (e :: es) X.env = (false, eval e X.env) :: starEach es X.env := by rfl) (hpl : (backTo pos (starEach es X.env)).any (·.1) = false := by rfl) :
    PE X (.Call (.Name x p) (e :: es) [] pos) (tCall sp dvs E t) := by
  intro pins s σ H Q I h
  refine wpAny_Call_Name_kw (ld_glob I hg hm ?_ hdb)
  refine PySem.W.callWith_K (h₀ := X.base) I.ok.mod.kin hk (thn (ha pos pins s σ H _ I h) fun us s1 ⟨vs, H1, I1, r, q⟩ => ⟨I1.kIn, ?_⟩) he hpl
  exact run_fn F hr hb hd hx I1 r q
/-- what a class must have to be made -/
structure Mk (K : PySem.W.Frag) (C f : Addr) : Prop where
  makes : PySem.W.makesIn K C = true
  init : PySem.W.findIn K (.ref C) "__init__" = some (some (.ref f))
  fn : PySem.W.isFn K (.ref f) = true
  kp : PySem.W.keepIn K (.ref C) = true
end
/-! ### keywords -/
section
variable {X : Cx} {CX : CXT} {k : Nat} {f C : Addr} {fd : FuncData} {ps ks : List Str} {sp : Sp} {E : XK} {x m : Str} {p pos apos kpos : Pos} {e o : Expr} {es : List Expr} {kws : List Keyword} {te ta : TE} {t tk : TA} {nm : Option Str}
/-- how a call with keywords binds: g puts the positional values us and the keywords' values ws (names ks) in the parameters' order, defaults among them -/
structure KBinds (K : PySem.W.Frag) (fd : FuncData) (ps ks : List Str) (g : List Value → List Value → List Value) (gV : List V → List V → List V) : Prop where
  to : ∀ (s : Shared) (us ws : List Value), K.In s.heap → (g us ws).length = ps.length → BindsTo s fd ⟨us, ks.zip ws⟩ (ps.zip (g us ws))
  rel : ∀ {vs : List V} {us : List Value} {zs : List V} {ws : List Value}, Vals vs us → Vals zs ws → Vals (gV vs zs) (g us ws)
variable {g : List Value → List Value → List Value} {gV : List V → List V → List V}
end
/-! ### a def's body keeps its promise -/
/-- names: the parameters first -/
structure FnScope (N P : List Str) (sc : Scope) : Prop where
  kind : sc.kind = .function
  co : sc.isCoroutine = false
  gen : sc.isGenerator = false
  nd : N.Nodup
  pre : N.take P.length = P
  par : ∀ x ∈ P, sc.names.lookup x = some .local ∨ sc.names.lookup x = some .cell
  nofree : ∀ y ∈ sc.names, y.2 ≠ .free
theorem bindL_out {kindOf : Str → Option NameKind} {x : Str} : ∀ {binds : List (Str × Value)} {m : Str → Option Value}, (∀ v, (x, v) ∉ binds) → bindL kindOf binds m x = m x
  | [], _, _ => rfl
  | (n, v) :: r, m, h => by
    unfold bindL
    rw [bindL_out fun w hw => h w (List.mem_cons_of_mem _ hw)]
    split
    · have : x ≠ n := by rintro rfl; exact h v List.mem_cons_self
      simp [this]
    · rfl
theorem bindC_out {kindOf : Str → Option NameKind} {x : Str} : ∀ {binds : List (Str × Value)} {m : Str → Option Value}, (∀ v, (x, v) ∉ binds) → bindC kindOf binds m x = m x
  | [], _, _ => rfl
  | (n, v) :: r, m, h => by
    unfold bindC
    rw [bindC_out fun w hw => h w (List.mem_cons_of_mem _ hw)]
    split
    · rfl
    · have : x ≠ n := by rintro rfl; exact h v List.mem_cons_self
      simp [this]
theorem bindL_get {kindOf : Str → Option NameKind} {x : Str} {v : Value} : ∀ {P : List Str} {vs : List Value} {i : Nat} {m : Str → Option Value}, P.Nodup → P[i]? = some x → vs[i]? = some v → kindOf x = some .local →
    bindL kindOf (P.zip vs) m x = some v
  | [], _, _, _, _, h, _, _ => by simp at h
  | _ :: _, [], _, _, _, _, h, _ => by simp at h
  | p :: P, w :: vs, 0, m, nd, h1, h2, hk => by
    simp at h1 h2; subst h1; subst h2
    show bindL kindOf ((p, w) :: P.zip vs) m p = _
    unfold bindL
    rw [bindL_out fun v hv => (List.nodup_cons.mp nd).1 (List.of_mem_zip hv).1, if_pos hk]
    simp
  | p :: P, w :: vs, i + 1, m, nd, h1, h2, hk => by
    show bindL kindOf ((p, w) :: P.zip vs) m x = _
    unfold bindL
    exact bindL_get (i := i) (List.nodup_cons.mp nd).2 (by simpa using h1) (by simpa using h2) hk
theorem bindC_get {kindOf : Str → Option NameKind} {x : Str} {v : Value} : ∀ {P : List Str} {vs : List Value} {i : Nat} {m : Str → Option Value}, P.Nodup → P[i]? = some x → vs[i]? = some v → kindOf x ≠ some .local →
    bindC kindOf (P.zip vs) m x = some v
  | [], _, _, _, _, h, _, _ => by simp at h
  | _ :: _, [], _, _, _, _, h, _ => by simp at h
  | p :: P, w :: vs, 0, m, nd, h1, h2, hk => by
    simp at h1 h2; subst h1; subst h2
    show bindC kindOf ((p, w) :: P.zip vs) m p = _
    unfold bindC
    rw [bindC_out fun v hv => (List.nodup_cons.mp nd).1 (List.of_mem_zip hv).1, if_neg hk]
    simp
  | p :: P, w :: vs, i + 1, m, nd, h1, h2, hk => by
    show bindC kindOf ((p, w) :: P.zip vs) m x = _
    unfold bindC
    exact bindC_get (i := i) (List.nodup_cons.mp nd).2 (by simpa using h1) (by simpa using h2) hk
/-- the names' values at the entry -/
def start (N : List Str) (vs : List V) : St := vs.map some ++ List.replicate (N.length - vs.length) none
/-- the context of a def's body, at its entry; an exception leaves the frame, then lies as CX says -/
def cxOf (CX : CXT) (P : Program) (w : World) (K : PySem.W.Frag) (mg : Str → Option Value) (base : Heap) (N : List Str) (qual : Str) (scope : Scope) (f : Addr) (cd : Value) (A : Around) (outer : List Env) (s : Shared) (H : Hp) (E : XK) : Cx where
  prog := P
  w := w
  K := K
  mg := mg
  base := base
  A := A.deeper (envOfC qual scope s.heap.objs.size f cd)
  N := N
  s₀ := s
  H₀ := H
  env := envOfC qual scope s.heap.objs.size f cd
  outer := outer
  stack := envOfC qual scope s.heap.objs.size f cd :: outer
  ex := []
  calm := true
  fn := fun _ => true
  pn := []
  xe := fun e s' => wpAny (model P w) (A.deeper (envOfC qual scope s.heap.objs.size f cd)) (leaving (envOfC qual scope s.heap.objs.size f cd) e) (fun _ s'' => CX outer H s E e s'') (fun e' s'' => CX outer H s E e' s'') s'
theorem cell_has {sc : Scope} {n : Nat} {x : Str} (h : sc.names.lookup x = some .cell) : ∃ c, (cellsFrom n sc.names []).lookup x = some c := by
  have q := PySem.W.cellsFrom_some sc.names n [] (.inl h)
  exact Option.isSome_iff_exists.mp q
theorem inv_start {CX : CXT} {P : Program} {w : World} {K : PySem.W.Frag} {mg : Str → Option Value} {base : Heap} {N ps : List Str} {qual : Str} {scope : Scope} {f : Addr} {cd : Value} {A : Around} {outer : List Env} {s s1 : Shared} {H : Hp} {E : XK} {us : List Value} {vs : List V}
    (S : FnScope N ps scope) (hd : A.handled = none) (e0 : Env0 P w K mg base A outer s H) (hl : vs.length = ps.length) (r : Vals vs us)
    (x : InCallC s s.heap.objs.size (bindL (envOfC qual scope s.heap.objs.size f cd).kindOf (ps.zip us) fun _ => none) (cellsFrom (s.heap.objs.size + 1) scope.names []) (bindC (envOfC qual scope s.heap.objs.size f cd).kindOf (ps.zip us) fun _ => none) s1) :
    Inv (cxOf CX P w K mg base N qual scope f cd A outer s H E) [] (start N vs) H s1 := by
  have hpl : ps.length ≤ N.length := by have := congrArg List.length S.pre; rw [List.length_take] at this; omega
  obtain ⟨h1, tk, rfl, hk⟩ := x.done
  have noA : ∀ b : Addr, b ∉ (cxOf CX P w K mg base N qual scope f cd A outer s H E).ex := fun b z => absurd (show b ∈ ([] : List Addr) from z) (by simp)
  refine ⟨⟨e0.mod, S.kind, rfl, rfl, Nat.le_refl _, fun y z c h1 h2 => ?_, fun y hy => ?_, fun y c _ h => ?_, fun _ => hd, Around.frames_deeper e0.frames, .inr ⟨rfl, rfl⟩, fun b z => absurd z (noA b), e0.bs, e0.bsz, fun b _ _ => noA b, fun b z => absurd z (noA b), e0.funs, e0.frf⟩,
    rfl, e0.bare, Un.kept hk, ⟨_, x.toInCall.ns, fun i y v h1 h2 h3 => ?_⟩, fun y c h => ⟨_, x.cell y c h⟩, e0.hok.fresh (Nat.le_refl _), fun y c h => ?_, fun p hp => absurd (show p ∈ ([] : List (Addr × Obj)) from hp) (by simp), e0.hok.kept hk, ?_⟩
  · exact name_of_addr x.apart (PySem.mem_of_lookup h1) (PySem.mem_of_lookup h2)
  · have hy : scope.names.lookup y = some .cell ∨ scope.names.lookup y = some .free := hy
    rcases hy with hy | hy
    · exact cell_has hy
    · exact absurd rfl (S.nofree _ (PySem.mem_of_lookup hy))
  · exact Nat.le_of_lt (x.above y c (PySem.mem_of_lookup h))
  · have hi : i < vs.length := by
      unfold start at h2
      by_cases hi : i < vs.length
      · exact hi
      · rw [List.getElem?_append_right (by simpa using hi)] at h2
        rw [List.getElem?_replicate] at h2
        split at h2 <;> cases h2
    have ha : vs[i]? = some v := by
      unfold start at h2
      rw [List.getElem?_append_left (by simpa using hi), List.getElem?_map] at h2
      cases e : vs[i]? with
      | none => rw [e] at h2; cases h2
      | some a => rw [e] at h2; cases h2; rfl
    obtain ⟨u, hu, rv⟩ := r.get ha
    have hp : ps[i]? = some y := by
      rw [← S.pre, List.getElem?_take_of_lt (by omega)]; exact h1
    have ndP : ps.Nodup := by rw [← S.pre]; exact S.nd.sublist (List.take_sublist _ _)
    refine ⟨u, rv, ?_⟩
    rcases S.par y (List.mem_of_getElem? hp) with k | k
    · exact .inl ⟨k, bindL_get ndP hp hu k⟩
    · obtain ⟨c, e⟩ := cell_has (n := s.heap.objs.size + 1) k
      refine .inr ⟨.inl k, c, e, ?_⟩
      have q := x.cell y c e
      rw [bindC_get ndP hp hu (by show scope.names.lookup y ≠ _; rw [k]; decide)] at q
      exact q
  · exact e0.hok.fresh (Nat.le_of_lt (x.above y c (PySem.mem_of_lookup h)))
  · unfold start
    show _ = N.length
    rw [List.length_append, List.length_map, List.length_replicate]
    omega
/-- THE RULE: a def (or a method) of the text, by its body. The body's reading t is chosen for each entry; it is run at the parameters' values -/
theorem fn_of {CX : CXT} {P : Program} {w : World} {K : PySem.W.Frag} {mg : Str → Option Value} {base : Heap} {k : Nat} {f : Addr} {name qual : Str} {params : Arguments} {body : List Stmt} {scope : Scope} {dV kV doc pm cdv ct oc : Value} {an od : Option Addr}
    {osl : Array (Option Value)} {N ps : List Str} {sp : Sp} (lk : K.lookup f = some ⟨oc, od, .func (PySem.W.fnOf name qual params body scope dV kV doc pm an cdv ct), osl⟩) (hcd : PySem.W.codeIn K cdv qual = true) (S : FnScope N ps scope)
    (len : ∀ vs H Q E, sp vs H Q E → vs.length = ps.length)
    (hbody : ∀ (A : Around) (outer : List Env) (s : Shared) (H : Hp) (vs : List V) (Q : VK) (E : XK), Room k (A.deeper (envOfC qual scope s.heap.objs.size f cdv)) → sp vs H Q E →
      ∃ t, PSs (cxOf CX P w K mg base N qual scope f cdv A outer s H E) body t ∧ t { nx := fun _ H' => Q .non H', rt := Q } (start N vs) H) :
    FnOk P w K mg base CX (k + 1) f (PySem.W.fnOf name qual params body scope dV kV doc pm an cdv ct) ps sp := by
  refine ⟨len, fun A outer s H args us vs Q E hr e0 hb r hsp => ?_⟩
  have hl := len _ _ _ _ hsp
  have KX : K.In s.heap := e0.mod.kin.keeps fun b o e => (e0.bs b o e).1
  have lim : s.heap.NoLimit := e0.mod.nolimit.keeps fun b o e => (e0.bs b o e).1
  have hkind : ∀ y ∈ ps.zip us, scope.names.lookup y.1 = some .local ∨ (scope.names.lookup y.1 = some .cell ∧ ((cellsFrom (s.heap.objs.size + 1) scope.names []).lookup y.1).isSome = true) := fun ⟨n, v⟩ hy => by
    rcases S.par n (List.of_mem_zip hy).1 with q | q
    · exact .inl q
    · exact .inr ⟨q, PySem.W.cellsFrom_some _ _ _ (.inl q)⟩
  refine codeAny_call_function hr.depth (KX _ _ lk) rfl S.co S.gen rfl (PySem.W.codeRec_of KX hcd) (hb _ _ _ _ ?_)
  refine wpAny_newFunctionEnv_cells S.kind hkind fun env he s1 x => ?_
  subst he
  refine ⟨lim.keeps x.toInCall.keep, codeAny_func ?_⟩
  obtain ⟨t, ht, hq⟩ := hbody A outer s H vs Q E (hr.deeper _) hsp
  have I : Inv (cxOf CX P w K mg base N qual scope f cdv A outer s H E) [] (start N vs) H s1 := inv_start S hr.hd e0 hl r x
  refine wpAny_mono (ht [] s1 (start N vs) H _ I hq) (fun fl s' hs => ?_) fun e s' hs => hs
  have fin : ∀ {σ' : St} {H' : Hp} {v : V} {u : Value}, Inv (cxOf CX P w K mg base N qual scope f cdv A outer s H E) [] σ' H' s' → RelV v u → Q v H' → CE outer P w H s Q u s' :=
    fun {σ' H' v u} J rv q => ⟨v, H', J.os, J.bare, J.base, J.hok, rv, q⟩
  cases fl with
  | ret u =>
    obtain ⟨v, σ', H', J, rv, q⟩ := hs
    exact fin J rv q
  | next =>
    obtain ⟨σ', H', J, q⟩ := hs
    exact fin (v := V.non) (u := Value.none) J rfl q
  | brk =>
    obtain ⟨_, _, _, q⟩ := hs
    exact False.elim q
  | cont =>
    obtain ⟨_, _, _, q⟩ := hs
    exact False.elim q
end L2
namespace L2
open PySem PySem.Spec PyProof.Rows
section
variable {X : Cx} {x : Str} {p pos : Pos} {e : Expr} {es : List Expr} {t : TA} {id T : String} {r : List V → Hp → VK → Prop}
def tCB (r : List V → Hp → VK → Prop) (t : TA) : TE := fun σ H Q => t σ H fun vs H1 => r vs H1 Q
/-- f(e, ..), f a built-in function -/
theorem pe_callB (hc : CallR X (.builtin id) r) (hg : Gl X x) (hm : X.mg x = none) (hv : bootBuiltins x = some (.builtin id)) (ha : PA X (e :: es) t) (hn : x ≠ "__name__" := by decide) (hdb : (x == ("__debug__" : Str)) = false := by decide)
    (he : starEach (e :: es) X.env = (false, eval e X.env) :: starEach es X.env := by rfl) (hpl : (backTo pos (starEach es X.env)).any (·.1) = false := by rfl) : PE X (.Call (.Name x p) (e :: es) [] pos) (tCB r t) := by
  intro pins s σ H Q I h
  refine wpAny_Call_Name_kw (ld_blt I hg hm hv ?_ hn hdb)
  exact PyProof.Rows.callWith_builtin1 (thn (ha pos pins s σ H _ I h) fun us s1 ⟨vs, H1, I1, r1, q1⟩ => hc pins s1 σ H1 vs us Q I1 r1 q1) he hpl
/-- T(e, ..), T a built-in type -/
theorem pe_callTy (hc : CallR X (.type T) r) (hg : Gl X x) (hm : X.mg x = none) (hv : bootBuiltins x = some (.type T)) (ha : PA X (e :: es) t) (hn : x ≠ "__name__" := by decide) (hdb : (x == ("__debug__" : Str)) = false := by decide)
    (he : starEach (e :: es) X.env = (false, eval e X.env) :: starEach es X.env := by rfl) (hpl : (backTo pos (starEach es X.env)).any (·.1) = false := by rfl) : PE X (.Call (.Name x p) (e :: es) [] pos) (tCB r t) := by
  intro pins s σ H Q I h
  refine wpAny_Call_Name_kw (ld_blt I hg hm hv ?_ hn hdb)
  exact PyProof.Rows.callWith_type1 (thn (ha pos pins s σ H _ I h) fun us s1 ⟨vs, H1, I1, r1, q1⟩ => hc pins s1 σ H1 vs us Q I1 r1 q1) he hpl
end
end L2
namespace HT
open PySem PyProof.Rows
section
open PySem.SeqAt
open PySem.AutoSeq1 (wpAny_loadPart')
open PySem.MeetsSeq PySem.MeetsSeq2 PySem.MeetsSeq3
end
section
variable {prog : Program} {w : World} {A : Around} {E : Value → Shared → Prop} {s : Shared}
/-- t + u, t not empty -/
theorem cat_tup {t b : Addr} {vs ws : List Value} {Q : Value → Shared → Prop} (ht : IsTup s.heap t vs.toArray) (hb : IsTup s.heap b ws.toArray) (hv : vs ≠ [])
    (h1 : ws = [] → Q (.ref t) s) (h2 : ws ≠ [] → Q (.ref s.heap.objs.size) { s with heap := s.heap.push { cls := .type "tuple", data := .seq (vs ++ ws).toArray } })
    (hsz : vs.length + ws.length ≤ sizeLine) : wpAny (model prog w) A (binaryOp .Add (.ref t) (.ref b)) Q E s := by
  obtain ⟨⟨cls, dd, data, sl⟩, ho, hc, n, hd⟩ := id ht
  obtain ⟨⟨cls2, dd2, data2, sl2⟩, ho2, hc2, n2, hd2⟩ := id hb
  simp only at hc hd hc2 hd2
  subst hc hd hc2 hd2
  have e : vs.toArray ++ ws.toArray = (vs ++ ws).toArray := by simp
  by_cases hw : ws = []
  · exact concat_meets ⟨_, ho, rfl⟩ ⟨_, ho2, rfl⟩ noFill_tuple_add seq_tuple_add PySem.F.slot_tuple_add PySem.F.entry_tuple_add (PySem.F.args_tuple_add_2 _ _)
      (tuple_addW1 t b vs.toArray ws.toArray n n2 dd dd2 sl sl2 (by simpa using hv) (by simp [hw])) ⟨ho, ho2, h1 hw⟩
  · refine concat_meets ⟨_, ho, rfl⟩ ⟨_, ho2, rfl⟩ noFill_tuple_add seq_tuple_add PySem.F.slot_tuple_add PySem.F.entry_tuple_add (PySem.F.args_tuple_add_2 _ _)
      (tuple_addW2 t b vs.toArray ws.toArray n n2 dd dd2 sl sl2 (by simpa using hv) (by simpa using hw) (by rw [List.size_toArray, List.size_toArray]; exact hsz)) ⟨ho, ho2, ?_⟩
    rw [e]
    exact h2 hw
/-! ### t[a:b], not the whole -/
/-- a slice's bound as a place among n (d where it is left out) -/
def sIx (n d : Nat) : Option Int → Nat
  | none => d
  | some v => if v < 0 then (v + (n : Int)).toNat else min v.toNat n
theorem sIx_nat (n d k : Nat) : sIx n d (some (k : Int)) = min k n := by
  show (if (k : Int) < 0 then ((k : Int) + (n : Int)).toNat else min (k : Int).toNat n) = min k n
  rw [if_neg (by omega), Int.toNat_natCast]
theorem sIx_le (n d : Nat) (hd : d ≤ n) (o : Option Int) : sIx n d o ≤ n := by
  cases o with
  | none => exact hd
  | some v =>
    show (if v < 0 then (v + (n : Int)).toNat else min v.toNat n) ≤ n
    by_cases hv : v < 0
    · rw [if_pos hv]; omega
    · rw [if_neg hv]; exact Nat.min_le_right _ _
theorem clip_eq (v : Int) (n d : Nat) : (if v < 0 then max (v + (n : Int)) 0 else min v (n : Int)) = ((sIx n d (some v) : Nat) : Int) := by
  show (if v < 0 then max (v + (n : Int)) 0 else min v (n : Int)) = (((if v < 0 then (v + (n : Int)).toNat else min v.toNat n) : Nat) : Int)
  by_cases hv : v < 0
  · simp only [if_pos hv]; omega
  · simp only [if_neg hv]; omega
theorem adjust_gen (lo hi : Option Int) (n : Nat) : Builtin.Slice.sliceAdjust lo hi 1 (n : Int) = (((sIx n 0 lo : Nat) : Int), ((sIx n n hi : Nat) : Int)) := by
  have h1 : ¬ ((1 : Int) < 0) := by omega
  unfold Builtin.Slice.sliceAdjust
  simp only [h1, if_false]
  refine Prod.ext ?_ ?_
  · cases lo with
    | none => rfl
    | some v => exact clip_eq v n 0
  · cases hi with
    | none => rfl
    | some v => exact clip_eq v n n
theorem places_gen (i j : Nat) : Builtin.Slice.slicePlaces (i : Int) (j : Int) 1 = j - i := by
  unfold Builtin.Slice.slicePlaces
  have h1 : (1 : Int) > 0 := by omega
  simp only [h1, if_true, Int.ediv_one]
  split <;> omega
theorem slicePart_ {v : Value} {o : Option Int} {Q : Option Int → Shared → Prop} (p : IsPart v o) (h : Q o s) : wpAny (model prog w) A (Builtin.Slice.slicePartIndex v) Q E s := by
  cases p with
  | none => exact slicePart_none h
  | int i t => exact slicePart_int h
theorem sliceApplied_gen {sl : Addr} {vl vu : Value} {lo hi : Option Int} {n : Nat} {Q : Int × Int × Nat → Shared → Prop} (hs : s.heap.IsSliceOf sl vl vu .none) (pl : IsPart vl lo) (pu : IsPart vu hi)
    (h : Q (((sIx n 0 lo : Nat) : Int), 1, sIx n n hi - sIx n 0 lo) s) : wpAny (model prog w) A (Builtin.Slice.sliceApplied (.ref sl) (pure (n : Int))) Q E s := by
  obtain ⟨os, hos, hcs, hds⟩ := id hs
  unfold Builtin.Slice.sliceApplied Builtin.Slice.sliceFields
  refine wpAny_bind (wpAny_bind (wpAny_field hos hds (x := vl) rfl (wpAny_bind (wpAny_field hos hds (x := vu) rfl (wpAny_bind (wpAny_field hos hds (x := .none) rfl (wpAny_pure ?_)))))))
  refine wpAny_bind (slicePart_none ?_)
  show wpAny _ _ (if ((1 : Int) == 0) = true then _ else _) _ _ s
  rw [if_neg (by decide)]
  refine wpAny_bind (slicePart_ pl (wpAny_bind (slicePart_ pu (wpAny_bind (wpAny_pure ?_)))))
  show wpAny _ _ (match Builtin.Slice.sliceAdjust lo hi 1 (n : Int) with | (lo, hi) => pure (lo, (1 : Int), Builtin.Slice.slicePlaces lo hi 1)) _ _ s
  rw [adjust_gen lo hi n]
  show wpAny _ _ (pure (((sIx n 0 lo : Nat) : Int), (1 : Int), Builtin.Slice.slicePlaces ((sIx n 0 lo : Nat) : Int) ((sIx n n hi : Nat) : Int) 1)) _ _ s
  rw [places_gen]
  exact wpAny_pure h
theorem pick_gen (xs : Array Value) (i k : Nat) : ((List.range k).filterMap fun (m : Nat) => xs[((i : Int) + (m : Int) * 1).toNat]?).toArray = ((xs.toList.drop i).take k).toArray := by
  have e : (fun (m : Nat) => xs[((i : Int) + (m : Int) * 1).toNat]?) = fun m => xs[i + m]? := by
    funext m
    have : ((i : Int) + (m : Int) * 1).toNat = i + m := by omega
    rw [this]
  rw [e]
  have := pick_run xs i k
  rw [List.filterMap_map] at this
  have e2 : ((fun x => xs[x]?) ∘ fun x => i + x) = fun m => xs[i + m]? := rfl
  rw [e2] at this
  rw [this]
theorem getItem_tuple_cut {t sl : Addr} {items : Array Value} {vl vu : Value} {lo hi : Option Int} {Q : Value → Shared → Prop} (ht : IsTup s.heap t items) (hs : s.heap.IsSliceOf sl vl vu .none) (pl : IsPart vl lo) (pu : IsPart vu hi)
    (hw : ¬ (sIx items.size 0 lo = 0 ∧ sIx items.size items.size hi = items.size))
    (h : Q (.ref s.heap.objs.size) { s with heap := s.heap.push { cls := .type "tuple", data := .seq ((items.toList.drop (sIx items.size 0 lo)).take (sIx items.size items.size hi - sIx items.size 0 lo)).toArray } })
    (hsz : items.size ≤ sizeLine) : wpAny (model prog w) A (getItem (.ref t) (.ref sl)) Q E s := by
  have htake : sizeOk (.seq ((items.toList.drop (sIx items.size 0 lo)).take (sIx items.size items.size hi - sIx items.size 0 lo)).toArray) := by
    show ((items.toList.drop (sIx items.size 0 lo)).take (sIx items.size items.size hi - sIx items.size 0 lo)).toArray.size ≤ sizeLine
    rw [List.size_toArray, List.length_take, List.length_drop, Array.length_toList]
    omega
  have hj : sIx items.size items.size hi ≤ items.size := sIx_le _ _ (Nat.le_refl _) hi
  obtain ⟨os, hos, hcs, hds⟩ := id hs
  have hTs : s.TypeIs (.ref sl) "slice" := ⟨os, hos, hcs⟩
  unfold getItem
  try with_reducible refine wpAny_holding ?_
  first | refine wpAny_bind (wpAny_pure ?_) | skip
  refine wpAny_bind (wpAny_sequenceKey ht.typeIs (by decide) ?_)
  refine wpAny_bind (wpAny_callSpecial?_slot (name := Str.ofString "__getitem__") ht.typeIs PyProof.Rows.slot_tuple_getitem
    (wpAny_call_entry PyProof.Rows.slot_tuple_getitem ht.typeIs entry_tuple_getitem ?_ (args_tuple_getitem _ _)))
  show wpAny _ _ (Builtin.Tuple.tupleItemsOf (.ref t) >>= _) _ _ s
  refine wpAny_bind (tupleItemsOf_ ht ?_)
  refine wpAny_bind (wpAny_typeOf hTs ?_)
  rw [if_pos (by decide)]
  refine wpAny_bind (sliceApplied_gen hs pl pu ?_)
  have hno : ¬ ((((sIx items.size 0 lo : Nat) : Int) == 0 && (1 : Int) == 1 && (sIx items.size items.size hi - sIx items.size 0 lo) == items.size) = true) := by
    intro q
    rw [Bool.and_eq_true, Bool.and_eq_true] at q
    have q1 : ((sIx items.size 0 lo : Nat) : Int) = 0 := eq_of_beq q.1.1
    have q2 : sIx items.size items.size hi - sIx items.size 0 lo = items.size := eq_of_beq q.2
    exact hw ⟨by omega, by omega⟩
  show wpAny _ _ (if (((sIx items.size 0 lo : Nat) : Int) == 0 && (1 : Int) == 1 && (sIx items.size items.size hi - sIx items.size 0 lo) == items.size) = true then _ else _) _ _ s
  rw [if_neg hno, pick_gen]
  first
    | exact wpAny_bind (m := Builtin.Tuple.tupleExact _) (wpAny_newObj_type (wpAny_pure ⟨_, rfl, wpAny_pure h⟩) htake)
    | exact wpAny_bind (m := Builtin.Tuple.tupleExact _) (wpAny_newObj_type (wpAny_bind (wpAny_pure (wpAny_pure ⟨_, rfl, wpAny_pure h⟩))) htake)
    | exact wpAny_bind (wpAny_bind (m := Builtin.Tuple.tupleExact _) (wpAny_newObj_type (wpAny_pure (wpAny_pure ⟨_, rfl, wpAny_pure h⟩)) htake))
    | exact wpAny_bind (wpAny_bind (m := Builtin.Tuple.tupleExact _) (wpAny_newObj_type (wpAny_pure ⟨_, rfl, wpAny_pure h⟩) htake))
end
end HT
namespace L2
open PySem PySem.Spec PyProof.Rows
/-! ### the parts of a slice -/
abbrev TO := St → Hp → (Option Int → Hp → Prop) → Prop
/-- a slice's part (left out, or an int) -/
def PO (X : Cx) (e : Option Expr) (t : TO) : Prop :=
  ∀ (pins : List (Addr × Obj)) (s : Shared) (σ : St) (H : Hp) (Q : Option Int → Hp → Prop), Inv X pins σ H s → t σ H Q →
    wpAny (model X.prog X.w) X.A (evalPart e X.env) (fun u s' => ∃ o H', Inv X pins σ H' s' ∧ IsPart u o ∧ Q o H') X.xe s
def tNoPart : TO := fun _ H Q => Q none H
def tPart (t : TE) : TO := fun σ H Q => t σ H fun x H1 => ∃ i, x = .int i ∧ Q (some i) H1
section
variable {X : Cx} {e : Expr} {te : TE} {lo hi : Option Expr} {tl th : TO} {pos p2 : Pos}
theorem po_none : PO X none tNoPart := by
  intro pins s σ H Q I h
  rw [evalPart_none]
  exact wpAny_pure ⟨none, H, I, .none, h⟩
theorem po_some (h : PE X e te) : PO X (some e) (tPart te) := by
  intro pins s σ H Q I hw
  rw [evalPart_some]
  refine thn (h pins s σ H _ I hw) fun u s1 ⟨x, H1, I1, r1, q1⟩ => ?_
  obtain ⟨i, rfl, q⟩ := q1
  obtain ⟨t, rfl⟩ := r1
  exact ⟨some i, H1, I1, .int i t, q⟩
/-- what a slice of a value is, by values: the slice object stands at sl -/
def SlR (X : Cx) (r : V → Option Int → Option Int → Hp → VK → Prop) : Prop :=
  ∀ (pins : List (Addr × Obj)) (s : Shared) (σ : St) (H : Hp) (x : V) (v vl vu : Value) (lo hi : Option Int) (sl : Addr) (Q : VK), Inv X pins σ H s → RelV x v → s.heap.IsSliceOf sl vl vu .none → IsPart vl lo → IsPart vu hi → r x lo hi H Q →
    ∃ T id, typeLookup (.type T) "__getitem__" = pure (some (.builtin id)) ∧ s.TypeIs v T ∧ wpAny (model X.prog X.w) X.A (getItem v (.ref sl)) (EP X pins σ Q) X.xe s
def tSl (r : V → Option Int → Option Int → Hp → VK → Prop) (te : TE) (tl th : TO) : TE := fun σ H Q => te σ H fun x H1 => tl σ H1 fun l H2 => th σ H2 fun u H3 => r x l u H3 Q
/-- a[lo:hi], any a -/
theorem pe_slice {r : V → Option Int → Option Int → Hp → VK → Prop} (hr : SlR X r) (he : PE X e te) (hl : PO X lo tl) (hu : PO X hi th) : PE X (.Subscript e (.Slice lo hi none p2) pos) (tSl r te tl th) := by
  intro pins s σ H Q I h
  refine Subscript_ (thn (he pins s σ H _ I h) fun v s1 ⟨x, H1, I1, r1, q1⟩ => ?_)
  refine wpAny_Slice (thn (hl pins s1 σ H1 _ I1 q1) fun vl s2 ⟨l, H2, I2, pl, q2⟩ => thn (hu pins s2 σ H2 _ I2 q2) fun vu s3 ⟨u, H3, I3, pu, q3⟩ => ?_)
  rw [evalPart_none]
  refine wpAny_pure ?_
  have I4 : Inv X pins σ H3 { s3 with heap := s3.heap.push { cls := .type "slice", data := .fields #[vl, vu, .none] } } := I3.kept (t' := s3.toks) fun b ob q => Heap.get?_push_of_some _ q
  obtain ⟨T, id, hT, ht, hg⟩ := hr pins { s3 with heap := s3.heap.push { cls := .type "slice", data := .fields #[vl, vu, .none] } } σ H3 x v vl vu l u s3.heap.objs.size Q I4 r1 (Heap.IsSliceOf.new ..) pl pu q3
  show wpAny (model X.prog X.w) X.A (subscriptTail e (.Slice lo hi none p2) v (.ref s3.heap.objs.size)) (EP X pins σ Q) X.xe { s3 with heap := s3.heap.push { cls := .type "slice", data := .fields #[vl, vu, .none] } }
  exact tail_any (ops := [.ref s3.heap.objs.size, v]) ht hT hg (by with_unfolding_all rfl)
/-- the items of xs[lo:hi] -/
def cutV (xs : List V) (lo hi : Option Int) : List V := (xs.drop (HT.sIx xs.length 0 lo)).take (HT.sIx xs.length xs.length hi - HT.sIx xs.length 0 lo)
theorem cutV_length (xs : List V) (lo hi : Option Int) : (cutV xs lo hi).length ≤ xs.length := by
  unfold cutV
  rw [List.length_take, List.length_drop]
  omega
/-- t[lo:hi], not the whole of it (the whole would be t itself) -/
def rSlT (K : PySem.W.Frag) : V → Option Int → Option Int → Hp → VK → Prop := fun x lo hi H Q => ∃ a xs, x = .ref a ∧ SqT K H a xs ∧
  ¬ (HT.sIx xs.length 0 lo = 0 ∧ HT.sIx xs.length xs.length hi = xs.length) ∧ ∀ p, H p = none → Q (.ref p) (upd H p (.tup (cutV xs lo hi)))
theorem sl_tup : SlR X (rSlT X.K) := by
  intro pins s σ H x v vl vu lo hi sl Q I rx hs pl pu h
  obtain ⟨a, xs, rfl, hx, hw, q⟩ := h
  cases rx
  obtain ⟨its, r, ht, hz⟩ := I.tuple hx
  have hlen : its.toArray.size = xs.length := by rw [List.size_toArray]; exact r.length.symm
  refine ⟨"tuple", _, PyProof.Rows.slot_tuple_getitem.lookup, ht.typeIs, ?_⟩
  refine HT.getItem_tuple_cut ht hs pl pu (by rw [hlen]; exact hw) ?_ (by rw [hlen]; exact hz)
  rw [hlen]
  refine ⟨.ref s.heap.objs.size, _, I.laid (t' := s.toks) (o := .tup (cutV xs lo hi)) (fun b ob q => Heap.get?_push_of_some _ q) (Nat.le_refl _) ?_, rfl, q _ (I.hok.fresh (Nat.le_refl _))⟩
  exact ⟨Nat.le_trans (cutV_length xs lo hi) hz, _, (r.drop (HT.sIx xs.length 0 lo)).take (HT.sIx xs.length xs.length hi - HT.sIx xs.length 0 lo), IsTup.new _ _⟩
/-! ### t < u, t + u -/
/-- t + u, t not empty: u empty gives t itself -/
def rCatT (K : PySem.W.Frag) : R2 := fun x y H Q => ∃ a b xs ys, x = .ref a ∧ y = .ref b ∧ SqT K H a xs ∧ SqT K H b ys ∧ xs ≠ [] ∧ xs.length + ys.length ≤ sizeLine ∧
  (ys = [] → Q (.ref a) H) ∧ (ys ≠ [] → ∀ p, H p = none → Q (.ref p) (upd H p (.tup (xs ++ ys))))
theorem Vals.nil_iff {xs : List V} {us : List Value} (r : Vals xs us) : us = [] ↔ xs = [] := by
  cases r with
  | nil => simp
  | cons _ _ => simp
theorem op_catT : OpR X (binaryOp .Add) (rCatT X.K) := by
  intro pins s σ H x y v u Q I rx ry h
  obtain ⟨a, b, xs, ys, rfl, rfl, ha, hb, hx, hz, q1, q2⟩ := h
  cases rx
  cases ry
  obtain ⟨its, r1, p1, _⟩ := I.tuple ha
  obtain ⟨its2, r2, p2, _⟩ := I.tuple hb
  refine HT.cat_tup p1 p2 (fun z => hx (r1.nil_iff.mp z)) (fun z => ⟨.ref a, H, I, rfl, q1 (r2.nil_iff.mp z)⟩) (fun z => ?_) (by rw [← r1.length, ← r2.length]; exact hz)
  refine ⟨.ref s.heap.objs.size, _, I.laid (t' := s.toks) (o := .tup (xs ++ ys)) (fun b ob q => Heap.get?_push_of_some _ q) (Nat.le_refl _) ?_, rfl, q2 (fun w => z (r2.nil_iff.mpr w)) _ (I.hok.fresh (Nat.le_refl _))⟩
  exact ⟨by rw [List.length_append]; exact hz, _, r1.append r2, IsTup.new _ _⟩
end
end L2
namespace L2
open PySem PySem.Spec PyProof.Rows
/-! ### places -/
/-- the place that an index of any sign means -/
def ixN (n : Nat) (i : Int) : Option Nat := if 0 ≤ i then (if i < n then some i.toNat else none) else if -(n : Int) ≤ i then some (i + n).toNat else none
def atI {α : Type} (xs : List α) (i : Int) : Option α := (ixN xs.length i).bind fun j => xs[j]?
theorem ixN_seq {n : Nat} {i : Int} {j : Nat} (h : ixN n i = some j) : seqIndex? i n = some j ∧ j < n ∧ -(n : Int) ≤ i ∧ i < n := by
  unfold ixN at h
  by_cases h0 : 0 ≤ i
  · rw [if_pos h0] at h
    by_cases h1 : i < n
    · rw [if_pos h1] at h
      have e : i.toNat = j := Option.some.inj h
      exact ⟨by rw [seqIndex_of h0 h1, e], by omega, by omega, h1⟩
    · rw [if_neg h1] at h; cases h
  · rw [if_neg h0] at h
    by_cases h1 : -(n : Int) ≤ i
    · rw [if_pos h1] at h
      have e : (i + n).toNat = j := Option.some.inj h
      exact ⟨by rw [seqIndex_neg (by omega) h1, e], by omega, h1, by omega⟩
    · rw [if_neg h1] at h; cases h
theorem atI_get {α : Type} {xs : List α} {i : Int} {v : α} (h : atI xs i = some v) : ∃ j, seqIndex? i xs.length = some j ∧ xs[j]? = some v ∧ j < xs.length ∧ -(xs.length : Int) ≤ i ∧ i < xs.length := by
  unfold atI at h
  cases e : ixN xs.length i with
  | none => rw [e] at h; cases h
  | some j =>
    rw [e] at h
    obtain ⟨h1, h2, h3, h4⟩ := ixN_seq e
    exact ⟨j, h1, h, h2, h3, h4⟩
theorem atI_nat {α : Type} {xs : List α} {j : Nat} {v : α} (h : xs[j]? = some v) : atI xs (j : Int) = some v := by
  have hj : j < xs.length := (List.getElem?_eq_some_iff.mp h).1
  have e : ixN xs.length (j : Int) = some j := by
    unfold ixN
    rw [if_pos (by omega), if_pos (by omega)]; simp
  unfold atI; rw [e]; exact h
/-! ### what may be subscripted -/
/-- what stands as an index of a plain subscript -/
def PlainIx (b : Expr) : Prop := ∀ o i, subscripted b false o i = operate [o, i] (getItem o i)
/-- a subscript by values -/
def IxR (X : Cx) (r : R2) : Prop :=
  ∀ (value slice : Expr) (pins : List (Addr × Obj)) (s : Shared) (σ : St) (H : Hp) (x y : V) (v u : Value) (Q : VK), Inv X pins σ H s → RelV x v → RelV y u → r x y H Q →
    subscripted slice false v u = operate [v, u] (getItem v u) → wpAny (model X.prog X.w) X.A (subscriptTail value slice v u) (EP X pins σ Q) X.xe s
/-- a call of a builtin's method by values: the receiver, the arguments -/
def MtR (X : Cx) (id : String) (r : V → List V → Hp → VK → Prop) : Prop :=
  ∀ (pins : List (Addr × Obj)) (s : Shared) (σ : St) (H : Hp) (x : V) (xs : List V) (v : Value) (us : List Value) (Q : VK), Inv X pins σ H s → RelV x v → Vals xs us → r x xs H Q →
    wpAny (model X.prog X.w) X.A (call (.builtin id) (v :: us)) (EP X pins σ Q) X.xe s
section
variable {X : Cx} {a b : Expr} {ta tb : TE} {pos : Pos}
/-- a[b] -/
theorem pe_ix {r : R2} (hr : IxR X r) (ha : PE X a ta) (hb : PE X b tb) (hs : PlainIx b) : PE X (.Subscript a b pos) (tOp r ta tb) := by
  intro pins s σ H Q I h
  exact Subscript_ (binT ha hb I h fun v u s2 x y H2 I2 rx ry q => hr a b pins s2 σ H2 x y v u Q I2 rx ry q (hs _ _))
def rIxL (K : PySem.W.Frag) : R2 := fun x y H Q => ∃ p xs i v, x = .ref p ∧ y = .int i ∧ SqL K H p xs ∧ atI xs i = some v ∧ Q v H
def rIxT (K : PySem.W.Frag) : R2 := fun x y H Q => ∃ p xs i v, x = .ref p ∧ y = .int i ∧ SqT K H p xs ∧ atI xs i = some v ∧ Q v H
def rIxS : R2 := fun x y H Q => ∃ z i c, x = .str z ∧ y = .int i ∧ z.length ≤ sizeLine ∧ atI z.cps.toList i = some c ∧ Q (.str ⟨#[c]⟩) H
theorem ix_list : IxR X (rIxL X.K) := by
  intro value slice pins s σ H x y v u Q I rx ry h hs
  obtain ⟨p, xs, i, z, rfl, rfl, hq, he, q⟩ := h
  cases rx
  obtain ⟨t, rfl⟩ := ry
  obtain ⟨its, r, pl, hz⟩ := I.list hq
  obtain ⟨j, h1, h2, h3, h4, h5⟩ := atI_get he
  obtain ⟨w, ew, rw'⟩ := r.get h2
  have hl := r.length
  have hn := line63
  have fin : EP X pins σ Q w s := ⟨z, H, I, rw', q⟩
  by_cases h0 : 0 ≤ i
  · have hj : i.toNat = j := by
      rw [seqIndex_of h0 h5] at h1
      exact Option.some.inj h1
    exact item_listR pl.isList h0 (by omega) (by rw [hj]; simpa using ew) fin hs
  · have hj : (i + (its.toArray.size : Int)).toNat = j := by
      rw [seqIndex_neg (by omega) h4] at h1
      rw [List.size_toArray, ← hl]
      exact Option.some.inj h1
    exact subscriptTail_builtinR (x := w) pl.isList.typeIs slot_list_getitem.lookup
      (wpAny_getItem_list_neg (Q := fun r s' => r = w ∧ EP X pins σ Q r s') pl.isList (by omega) (by rw [List.size_toArray] <;> omega) (by omega) (by rw [hj]; simpa using ew) ⟨rfl, fin⟩) hs
theorem ix_tup : IxR X (rIxT X.K) := by
  intro value slice pins s σ H x y v u Q I rx ry h hs
  obtain ⟨p, xs, i, z, rfl, rfl, hq, he, q⟩ := h
  cases rx
  obtain ⟨t, rfl⟩ := ry
  obtain ⟨its, r, pl, hz⟩ := I.tuple hq
  obtain ⟨j, h1, h2, h3, h4, h5⟩ := atI_get he
  obtain ⟨w, ew, rw'⟩ := r.get h2
  have hl := r.length
  have hn := line63
  have fin : EP X pins σ Q w s := ⟨z, H, I, rw', q⟩
  exact subscriptTail_builtinR (x := w) pl.typeIs slot_tuple_getitem.lookup
    (getItem_tuple (j := j) (Q := fun r s' => r = w ∧ EP X pins σ Q r s') pl (by omega) (by omega) (by rw [List.size_toArray, ← hl]; exact h1) (by simpa using ew) ⟨rfl, fin⟩) hs
theorem ix_str : IxR X rIxS := by
  intro value slice pins s σ H x y v u Q I rx ry h hs
  obtain ⟨z, i, c, rfl, rfl, hz, he, q⟩ := h
  obtain ⟨t, rfl⟩ := rx
  obtain ⟨t', rfl⟩ := ry
  obtain ⟨j, h1, h2, h3, h4, h5⟩ := atI_get he
  have hl : z.cps.toList.length = z.length := by simp [Str.length]
  rw [hl] at h1 h4 h5
  have hn := line63
  exact tail_any (typeIs_str s z t) slot_str_getitem.lookup (getItem_str (c := c) (by
    have e1 : decide (i < -(2 ^ 63 : Int)) = false := decide_eq_false (by omega)
    have e2 : decide (i ≥ 2 ^ 63) = false := decide_eq_false (by omega)
    rw [e1, e2, Bool.or_false]) (by rw [h1]; simpa using h2) ⟨.str ⟨#[c]⟩, H, I.tok _, ⟨_, rfl⟩, q⟩) hs
/-! ### xs[i] = v, any sign -/
/-- the list's object behind a store -/
theorem mapSeq_set (its : List Value) (n j : Nat) (u : Value) : Obj.mapSeq (·.setIfInBounds j u) { cls := .type "list", data := .seq its.toArray n } = { cls := .type "list", data := .seq (its.set j u).toArray n } := by
  simp [Obj.mapSeq]
theorem Inv.lst {pins : List (Addr × Obj)} {σ : St} {H : Hp} {s : Shared} {p : Addr} {xs : List V} (I : Inv X pins σ H s) (h : H p = some (.lst xs)) :
    ∃ (its : List Value) (n : Nat), Vals xs its ∧ s.heap.get? p = some { cls := .type "list", data := .seq its.toArray n } ∧ xs.length ≤ sizeLine := by
  obtain ⟨z, its, n, r, e⟩ := I.hok p _ h
  exact ⟨its, n, r, e, z⟩
/-- the list at p is written by an update of its object -/
theorem Inv.lstUpd {pins : List (Addr × Obj)} {σ : St} {H : Hp} {s : Shared} {p : Addr} {xs ys : List V} {its its' : List Value} {n n' : Nat} {f : Obj → Obj} (I : Inv X pins σ H s) (h : H p = some (.lst xs))
    (ho : s.heap.get? p = some { cls := .type "list", data := .seq its.toArray n }) (hf : f { cls := .type "list", data := .seq its.toArray n } = { cls := .type "list", data := .seq its'.toArray n' }) (r : Vals ys its') (hz : ys.length ≤ sizeLine) (t : Nat) :
    Inv X pins σ (upd H p (.lst ys)) { s with heap := s.heap.update p f, toks := t } := by
  have e : (s.heap.update p f).get? p = some { cls := .type "list", data := .seq its'.toArray n' } := by
    rw [Heap.get?_update_self f ho (by rw [hf] <;> rfl), hf]
  refine I.write (x := p) (e := p) (by rw [h]; trivial) (.inl rfl) (fun b u hb q => (Heap.get?_update_other _ _ (Ne.symm hb)).trans q) ⟨_, e⟩ ?_
  exact ⟨hz, its', n', r, e⟩
def rSetL : V → V → V → Hp → (Hp → Prop) → Prop := fun o i v H Q => ∃ p xs k j, o = .ref p ∧ i = .int k ∧ H p = some (.lst xs) ∧ ixN xs.length k = some j ∧ Q (upd H p (.lst (xs.set j v)))
theorem set_list : PSet X rSetL := by
  intro pins s σ H o i v ov iv u Q I ro ri rv h
  obtain ⟨p, xs, k, j, rfl, rfl, hp, hj, q⟩ := h
  cases ro
  obtain ⟨t, rfl⟩ := ri
  obtain ⟨its, n, r, ho, hz⟩ := I.lst hp
  obtain ⟨h1, h2, h3, h4⟩ := ixN_seq hj
  have hl := r.length
  have hn := line63
  have I' : Inv X pins σ (upd H p (.lst (xs.set j v))) { s with heap := s.heap.update p (Obj.mapSeq (·.setIfInBounds j u)) } :=
    I.lstUpd hp ho (mapSeq_set its n j u) (r.set rv j) (by rw [List.length_set]; exact hz) s.toks
  by_cases h0 : 0 ≤ k
  · have hk : k.toNat = j := by
      rw [seqIndex_of h0 h4] at h1
      exact Option.some.inj h1
    exact PySem.W.ki_setAt ho h0 (by omega) (by rw [List.size_toArray, ← hl]; exact h4) (by rw [hk]; exact ⟨_, I', q⟩)
  · have hk : (k + (its.toArray.size : Int)).toNat = j := by
      rw [seqIndex_neg (by omega) h3] at h1
      rw [List.size_toArray, ← hl]
      exact Option.some.inj h1
    exact PySem.W.ki_setBack ho (by omega) (by rw [List.size_toArray, ← hl]; exact h3) (by omega) (by rw [hk]; exact ⟨_, I', q⟩)
/-! ### slices -/
theorem slice_bounds (lo hi : Option Int) (n : Nat) : (sliceBounds lo hi none n).1 = ((HT.sIx n 0 lo : Nat) : Int) ∧ (sliceBounds lo hi none n).2.1 = ((HT.sIx n n hi : Nat) : Int) ∧ (sliceBounds lo hi none n).2.2 = 1 := by
  refine ⟨?_, ?_, rfl⟩
  · cases lo with
    | none => simp [sliceBounds, HT.sIx]
    | some i =>
      simp only [sliceBounds, HT.sIx, Option.getD_none, show (1 : Int) > 0 by decide, if_true]
      by_cases h : i < 0
      · simp only [h, if_true] <;> omega
      · simp only [h, if_false] <;> omega
  · cases hi with
    | none => simp [sliceBounds, HT.sIx]
    | some i =>
      simp only [sliceBounds, HT.sIx, Option.getD_none, show (1 : Int) > 0 by decide, if_true]
      by_cases h : i < 0
      · simp only [h, if_true] <;> omega
      · simp only [h, if_false] <;> omega
theorem slicePick_cut (its : List Value) (lo hi : Option Int) : slicePick its.toArray lo hi none = ((its.drop (HT.sIx its.length 0 lo)).take (HT.sIx its.length its.length hi - HT.sIx its.length 0 lo)).toArray := by
  obtain ⟨h1, h2, h3⟩ := slice_bounds lo hi its.toArray.size
  unfold slicePick
  rw [h1, h2, h3]
  simp only [sliceRange_one, pick_run, List.size_toArray] <;> rfl
/-- xs[lo:hi] of a list: a new list -/
def rSlL (K : PySem.W.Frag) : V → Option Int → Option Int → Hp → VK → Prop := fun x lo hi H Q => ∃ a xs, x = .ref a ∧ SqL K H a xs ∧ ∀ p, H p = none → Q (.ref p) (upd H p (.lst (cutV xs lo hi)))
theorem sl_list : SlR X (rSlL X.K) := by
  intro pins s σ H x v vl vu lo hi sl Q I rx hs pl pu h
  obtain ⟨a, xs, rfl, hx, q⟩ := h
  cases rx
  obtain ⟨its, r, ht, hz⟩ := I.list hx
  have hlen := r.length
  refine ⟨"list", _, slot_list_getitem.lookup, ht.isList.typeIs, ?_⟩
  refine wpAny_getItem_list_slice ht.isList hs pl pu .none (by simp) ?_ (by rw [List.size_toArray] <;> omega)
  rw [slicePick_cut, ← hlen]
  refine ⟨.ref s.heap.objs.size, _, I.laid (t' := s.toks) (o := .lst (cutV xs lo hi)) (fun b ob q => Heap.get?_push_of_some _ q) (Nat.le_refl _) ?_, rfl, q _ (I.hok.fresh (Nat.le_refl _))⟩
  exact ⟨Nat.le_trans (cutV_length xs lo hi) hz, _, 0, (r.drop (HT.sIx xs.length 0 lo)).take (HT.sIx xs.length xs.length hi - HT.sIx xs.length 0 lo), Heap.get?_push_size _ rfl⟩
/-! ### in, not in: flat items -/
def flatV : V → Bool
  | .non => true
  | .bl _ => true
  | .int _ => true
  | .str _ => true
  | _ => false
/-- == of flat values -/
def eqV : V → V → Bool
  | .non, .non => true
  | .bl a, .bl b => a == b
  | .bl a, .int b => (if a then 1 else 0) == b
  | .int a, .bl b => a == (if b then 1 else 0)
  | .int a, .int b => a == b
  | .str a, .str b => a == b
  | _, _ => false
theorem eqAt_V {A : Around} {s : Shared} {y x : V} {u v : Value} (ry : RelV y u) (rx : RelV x v) (fy : flatV y = true) (fx : flatV x = true) : SeqAt.EqAt A s u v (eqV y x) := by
  cases y with
  | non =>
    cases ry
    cases x with
    | non => cases rx; exact SeqAt.EqAt.same _
    | bl b => cases rx; exact SeqAt.EqAt.none_bool b
    | int b => obtain ⟨t, rfl⟩ := rx; exact SeqAt.EqAt.none_int b t
    | str b => obtain ⟨t, rfl⟩ := rx; exact SeqAt.EqAt.none_str b t
    | _ => exact absurd (show false = true from fx) Bool.false_ne_true
  | bl a =>
    cases ry
    cases x with
    | non => cases rx; exact SeqAt.EqAt.bool_none a
    | bl b => cases rx; exact SeqAt.EqAt.bool_bool a b
    | int b => obtain ⟨t, rfl⟩ := rx; exact SeqAt.EqAt.bool_int a b t
    | str b => obtain ⟨t, rfl⟩ := rx; exact SeqAt.EqAt.bool_str a b t
    | _ => exact absurd (show false = true from fx) Bool.false_ne_true
  | int a =>
    obtain ⟨t', rfl⟩ := ry
    cases x with
    | non => cases rx; exact SeqAt.EqAt.int_none a t'
    | bl b => cases rx; exact SeqAt.EqAt.int_bool a t' b
    | int b => obtain ⟨t, rfl⟩ := rx; exact SeqAt.EqAt.int_int a t' b t
    | str b => obtain ⟨t, rfl⟩ := rx; exact SeqAt.EqAt.int_str a t' b t
    | _ => exact absurd (show false = true from fx) Bool.false_ne_true
  | str a =>
    obtain ⟨t', rfl⟩ := ry
    cases x with
    | non => cases rx; exact SeqAt.EqAt.str_none a t'
    | bl b => cases rx; exact SeqAt.EqAt.str_bool a t' b
    | int b => obtain ⟨t, rfl⟩ := rx; exact SeqAt.EqAt.str_int a t' b t
    | str b => obtain ⟨t, rfl⟩ := rx; exact SeqAt.EqAt.str_str a t' b t
    | _ => exact absurd (show false = true from fx) Bool.false_ne_true
  | _ => exact absurd (show false = true from fy) Bool.false_ne_true
/-- the items' answers, read off the values (a value's own answer does not lean on its token) -/
def eqU (x : V) (u : Value) : Bool := match u with
  | .none => eqV .non x
  | .bool b => eqV (.bl b) x
  | .int i _ => eqV (.int i) x
  | .str z _ => eqV (.str z) x
  | _ => false
theorem eqU_of {x y : V} {u : Value} (r : RelV y u) (f : flatV y = true) : eqU x u = eqV y x := by
  cases y with
  | non => cases r; rfl
  | bl b => cases r; rfl
  | int i => obtain ⟨t, rfl⟩ := r; rfl
  | str z => obtain ⟨t, rfl⟩ := r; rfl
  | _ => exact absurd (show false = true from f) Bool.false_ne_true
theorem any_eqU {x : V} : ∀ {xs : List V} {us : List Value}, Vals xs us → xs.all flatV = true → us.any (eqU x) = xs.any fun y => eqV y x
  | _, _, .nil, _ => rfl
  | y :: xs, u :: us, .cons r t, f => by
    rw [List.all_cons, Bool.and_eq_true] at f
    rw [List.any_cons, List.any_cons, eqU_of r f.1, any_eqU t f.2]
theorem mem_eqAt {A : Around} {s : Shared} {x : V} {v : Value} (rx : RelV x v) (fx : flatV x = true) : ∀ {xs : List V} {us : List Value}, Vals xs us → xs.all flatV = true → ∀ u ∈ us, SeqAt.EqAt A s u v (eqU x u)
  | _, _, .nil, _ => fun u hu => by cases hu
  | y :: xs, u :: us, .cons r t, f => fun u' hu => by
    rw [List.all_cons, Bool.and_eq_true] at f
    rcases List.mem_cons.mp hu with rfl | hu
    · rw [eqU_of r f.1]; exact eqAt_V r rx f.1 fx
    · exact mem_eqAt rx fx t f.2 u' hu
def inV (x : V) (xs : List V) : Bool := xs.any fun y => eqV y x
/-- x in a list or tuple of flat items -/
def rIn (K : PySem.W.Frag) (neg : Bool) : R2 := fun x y H Q => ∃ p xs, y = .ref p ∧ (SqL K H p xs ∨ SqT K H p xs) ∧ flatV x = true ∧ xs.all flatV = true ∧ Q (.bl (if neg then !inV x xs else inV x xs)) H
theorem op_in_seq : OpR X (compareOp .In) (rIn X.K false) := by
  intro pins s σ H x y v u Q I rx ry h
  obtain ⟨p, xs, rfl, hq, fx, fs, q⟩ := h
  cases ry
  rcases hq with hq | hq
  · obtain ⟨its, r, pl, hz⟩ := I.list hq
    refine SeqAt.in_listAt (eqU x) pl.isList (fun w hw => mem_eqAt rx fx r fs w (by simpa using hw)) ⟨.bl _, H, I, rfl, ?_⟩
    rw [show its.toArray.any (eqU x) = its.any (eqU x) by simp, any_eqU r fs]
    exact q
  · obtain ⟨its, r, pl, hz⟩ := I.tuple hq
    refine SeqAt.in_tupleAt (eqU x) pl (fun w hw => mem_eqAt rx fx r fs w (by simpa using hw)) ⟨.bl _, H, I, rfl, ?_⟩
    rw [show its.toArray.any (eqU x) = its.any (eqU x) by simp, any_eqU r fs]
    exact q
theorem op_notIn_seq : OpR X (compareOp .NotIn) (rIn X.K true) := by
  intro pins s σ H x y v u Q I rx ry h
  obtain ⟨p, xs, rfl, hq, fx, fs, q⟩ := h
  cases ry
  rcases hq with hq | hq
  · obtain ⟨its, r, pl, hz⟩ := I.list hq
    refine SeqAt.notIn_listAt (eqU x) pl.isList (fun w hw => mem_eqAt rx fx r fs w (by simpa using hw)) ⟨.bl _, H, I, rfl, ?_⟩
    rw [show its.toArray.any (eqU x) = its.any (eqU x) by simp, any_eqU r fs]
    exact q
  · obtain ⟨its, r, pl, hz⟩ := I.tuple hq
    refine SeqAt.notIn_tupleAt (eqU x) pl (fun w hw => mem_eqAt rx fx r fs w (by simpa using hw)) ⟨.bl _, H, I, rfl, ?_⟩
    rw [show its.toArray.any (eqU x) = its.any (eqU x) by simp, any_eqU r fs]
    exact q
/-! ### len, list(x), tuple(x) of any list or tuple that is read -/
theorem call_len_seq : CallR X (.builtin "len") (fun xs H Q => ∃ p ys, xs = [.ref p] ∧ (SqL X.K H p ys ∨ SqT X.K H p ys) ∧ Q (.int ys.length) H) := by
  intro pins s σ H xs us Q I r h
  obtain ⟨p, ys, rfl, hq, q⟩ := h
  obtain ⟨u, rfl, rx⟩ := vals1 r
  cases rx
  have hn := line63
  rcases hq with hq | hq
  · obtain ⟨its, r', pl, hz⟩ := I.list hq
    have hlen := r'.length
    exact Calls.call_len_list pl.isList (by simp only [List.size_toArray] <;> omega) ⟨.int ys.length, H, I.tok _, ⟨s.toks + 1, by rw [List.size_toArray, hlen]⟩, q⟩
  · obtain ⟨its, r', pl, hz⟩ := I.tuple hq
    have hlen := r'.length
    exact len_tuple pl (by simp only [List.size_toArray] <;> omega) ⟨.int ys.length, H, I.tok _, ⟨s.toks + 1, by rw [List.size_toArray, hlen]⟩, q⟩
theorem call_len_str : CallR X (.builtin "len") (fun xs H Q => ∃ z, xs = [.str z] ∧ z.length ≤ sizeLine ∧ Q (.int z.length) H) := by
  intro pins s σ H xs us Q I r h
  obtain ⟨z, rfl, hz, q⟩ := h
  obtain ⟨u, rfl, t, rfl⟩ := vals1 r
  have hn := line63
  exact len_str (by omega) ⟨.int z.length, H, I.tok _, ⟨_, rfl⟩, q⟩
theorem call_list_of : CallR X (.type "list") (fun xs H Q => ∃ p ys, xs = [.ref p] ∧ (SqL X.K H p ys ∨ SqT X.K H p ys) ∧ ∀ l, H l = none → Q (.ref l) (upd H l (.lst ys))) := by
  intro pins s σ H xs us Q I r h
  obtain ⟨p, ys, rfl, hq, q⟩ := h
  obtain ⟨u, rfl, rx⟩ := vals1 r
  cases rx
  have fin : ∀ (its : List Value), Vals ys its → ys.length ≤ sizeLine → ∀ (h' : Heap) (c' : Nat), (∀ b o', s.heap.get? b = some o' → h'.get? b = some o') →
      h'.get? s.heap.objs.size = some { cls := .type "list", dict := none, data := .seq its.toArray c', slots := #[] } → EP X pins σ Q (.ref s.heap.objs.size) { s with heap := h' } := fun its r' hz h' c' kp e =>
    ⟨.ref s.heap.objs.size, _, I.laid (t' := s.toks) kp (Nat.le_refl _) (show ObjOk X.prog X.w _ h' _ (.lst ys) from ⟨hz, its, c', r', e⟩), rfl, q _ (I.hok.fresh (Nat.le_refl _))⟩
  rcases hq with hq | hq
  · obtain ⟨its, r', pl, hz⟩ := I.list hq
    have hlen := r'.length
    obtain ⟨o, ho, hc, n, hd⟩ := pl.isList
    exact call_list_seq p (.inl rfl) ho hc hd (fun h' c' kp e => fin its r' hz h' c' kp e) (by simp only [List.size_toArray] <;> omega)
  · obtain ⟨its, r', pl, hz⟩ := I.tuple hq
    have hlen := r'.length
    obtain ⟨o, ho, hc, n, hd⟩ := pl
    exact call_list_seq p (.inr rfl) ho hc hd (fun h' c' kp e => fin its r' hz h' c' kp e) (by simp only [List.size_toArray] <;> omega)
theorem call_tuple_of : CallR X (.type "tuple") (fun xs H Q => ∃ p ys, xs = [.ref p] ∧ ((SqL X.K H p ys ∧ ∀ l, H l = none → Q (.ref l) (upd H l (.tup ys))) ∨ (SqT X.K H p ys ∧ Q (.ref p) H))) := by
  intro pins s σ H xs us Q I r h
  obtain ⟨p, ys, rfl, h⟩ := h
  obtain ⟨u, rfl, rx⟩ := vals1 r
  cases rx
  rcases h with ⟨hq, q⟩ | ⟨hq, q⟩
  · obtain ⟨its, r', pl, hz⟩ := I.list hq
    have hlen := r'.length
    refine call_tuple_list pl.isList (fun h' kp => ?_) (by simp only [List.size_toArray] <;> omega)
    have I1 : Inv X pins σ H { s with heap := h' } := I.kept (t' := s.toks) kp
    have I2 : Inv X pins σ (upd H h'.objs.size (.tup ys)) { s with heap := h'.push { cls := .type "tuple", data := .seq its.toArray } } :=
      I1.laid (t' := s.toks) (fun b o e => Heap.get?_push_of_some _ e) (Nat.le_refl _) (show ObjOk X.prog X.w _ _ _ (.tup ys) from ⟨hz, its, r', IsTup.new _ _⟩)
    exact ⟨.ref h'.objs.size, _, I2, rfl, q _ (I1.hok.fresh (Nat.le_refl _))⟩
  · obtain ⟨its, r', pl, hz⟩ := I.tuple hq
    exact call_tuple_same pl ⟨.ref p, H, I, rfl, q⟩
/-! ### the call of a builtin's method: o.m(..) -/
/-- the value is of that builtin type -/
def tyV (K : PySem.W.Frag) (T : String) (x : V) (H : Hp) : Prop := match x with
  | .str _ => T = "str"
  | .int _ => T = "int"
  | .ref p => (T = "list" ∧ ∃ xs, SqL K H p xs) ∨ (T = "tuple" ∧ ∃ o, K.lookup p = some o ∧ o.cls = .type "tuple" ∧ o.dict = none) ∨
      (T = "dict" ∧ ((∃ kvs, H p = some (.dK kvs)) ∨ ∃ kvs, H p = some (.dT kvs))) ∨ (T = "set" ∧ ∃ S n, H p = some (.set S n))
  | _ => False
theorem tyV_is {pins : List (Addr × Obj)} {σ : St} {H : Hp} {s : Shared} {T : String} {x : V} {v : Value} (I : Inv X pins σ H s) (r : RelV x v) (ty : tyV X.K T x H) :
    s.TypeIs v T ∧ ∀ a, v = .ref a → ∃ ob, s.heap.get? a = some ob ∧ ob.dict = none := by
  cases x with
  | str z =>
    obtain ⟨t, rfl⟩ := r
    cases (show T = "str" from ty)
    exact ⟨typeIs_str s z t, fun _ e => nomatch e⟩
  | int i =>
    obtain ⟨t, rfl⟩ := r
    cases (show T = "int" from ty)
    exact ⟨typeIs_int s i t, fun _ e => nomatch e⟩
  | ref p =>
    cases r
    rcases ty with ⟨rfl, xs, hq⟩ | ⟨rfl, o, hk, hc, hd⟩ | ⟨rfl, hk⟩ | ⟨rfl, S, n, hk⟩
    · obtain ⟨its, _, pl, _⟩ := I.list hq
      refine ⟨pl.isList.typeIs, fun a e => ?_⟩
      cases e
      obtain ⟨o, n, e, c, hd, _⟩ := pl
      exact ⟨o, e, hd⟩
    · refine ⟨⟨o, I.kIn p o hk, hc⟩, fun a e => ?_⟩
      cases e
      exact ⟨o, I.kIn _ o hk, hd⟩
    · have z : ∃ o, s.heap.get? p = some o ∧ o.ExactDict := by
        rcases hk with ⟨kvs, hk⟩ | ⟨kvs, hk⟩
        · obtain ⟨_, _, _, _, o, _, _, e, ex, _⟩ := I.hok p _ hk
          exact ⟨o, e, ex⟩
        · obtain ⟨_, _, _, _, o, _, _, e, ex, _⟩ := I.hok p _ hk
          exact ⟨o, e, ex⟩
      obtain ⟨o, e, ex⟩ := z
      refine ⟨⟨o, e, ex.1⟩, fun a e2 => ?_⟩
      cases e2
      exact ⟨o, e, ex.2.1⟩
    · obtain ⟨o, _, _, _, e, ex, _⟩ := I.hok p _ hk
      refine ⟨⟨o, e, ex.1⟩, fun a e2 => ?_⟩
      cases e2
      exact ⟨o, e, ex.2.1⟩
  | _ => exact False.elim ty
def tBM0 (K : PySem.W.Frag) (T : String) (r : V → List V → Hp → VK → Prop) (to : TE) : TE := fun σ H Q => to σ H fun x H1 => tyV K T x H1 ∧ r x [] H1 Q
def tBM (K : PySem.W.Frag) (T : String) (r : V → List V → Hp → VK → Prop) (to : TE) (t : TA) : TE := fun σ H Q => to σ H fun x H1 => tyV K T x H1 ∧ t σ H1 fun xs H2 => r x xs H2 Q
variable {o e : Expr} {es : List Expr} {to : TE} {t : TA} {name : Str} {apos cpos : Pos} {T id : String} {r : V → List V → Hp → VK → Prop}
theorem pe_bm0 (pa : PlainAttrs T) (slot : Slot T name id) (hty : typeOf (.builtin id) = pure (.type "method_descriptor")) (hm : MtR X id r) (ho : PE X o to)
    (hbase : attributeBase o name X.env (eval o X.env) = eval o X.env := by rfl) (hline : (apos.endLine == cpos.line) = true := by rfl) : PE X (.Call (.Attribute o name apos) [] [] cpos) (tBM0 X.K T r to) := by
  intro pins s σ H Q I h
  refine wpAny_Call_method0_late hbase hline (thn (ho pins s σ H _ I h) fun v s1 ⟨x, H1, I1, r1, ty, q1⟩ => ?_)
  obtain ⟨h1, h2⟩ := tyV_is I1 r1 ty
  exact ⟨T, id, pa, slot, hty, h1, h2, Calls.callWith_builtin rfl (PySem.evalArgs_none (hm pins s1 σ H1 x [] v [] Q I1 r1 .nil q1))⟩
theorem pe_bm (pa : PlainAttrs T) (slot : Slot T name id) (hty : typeOf (.builtin id) = pure (.type "method_descriptor")) (hm : MtR X id r) (ho : PE X o to) (ha : PA X (e :: es) t)
    (hbase : attributeBase o name X.env (eval o X.env) = eval o X.env := by rfl)
    (hfew : ((backTo cpos (starEach (e :: es) X.env)).all (fun x => !x.1) && (backToKw cpos (keywordEach [] X.env)).all (fun x => x.1.isSome)
      && decide ((e :: es).length + ([] : List Keyword).length + (if ([] : List Keyword).isEmpty then 0 else 1) < 30)) = true := by rfl)
    (hline : (apos.endLine == cpos.line) = true := by rfl) (hs : starEach (e :: es) X.env = (false, eval e X.env) :: starEach es X.env := by rfl) (hplain : (backTo cpos (starEach es X.env)).any (·.1) = false := by rfl) :
    PE X (.Call (.Attribute o name apos) (e :: es) [] cpos) (tBM X.K T r to t) := by
  intro pins s σ H Q I h
  refine wpAny_Call_method_late hbase hfew hline rfl (thn (ho pins s σ H _ I h) fun v s1 ⟨x, H1, I1, r1, ty, q1⟩ => ?_)
  obtain ⟨h1, h2⟩ := tyV_is I1 r1 ty
  refine ⟨T, id, pa, slot, hty, h1, h2, ?_⟩
  have hA := ha cpos pins s1 σ H1 _ I1 q1
  rw [hs] at hA ⊢
  refine Calls.callWith_builtin (by show (false || (backTo cpos (starEach es X.env)).any (·.1)) = false; rw [hplain] <;> rfl) (Calls.evalArgs_plain ?_)
  exact thn hA fun us s2 ⟨vs, H2, I2, r2, q2⟩ => hm pins s2 σ H2 x vs v us Q I2 r1 r2 q2
/- xs.append(e), list.index on a module's tuple .. are MtR facts of 06m -/
end
end L2
namespace L2
open PySem PySem.Spec PyProof.Rows
def MtM (X : Cx) (id : String) (r : V → List V → Hp → VK → Prop) : Prop :=
  ∀ (pins : List (Addr × Obj)) (s : Shared) (σ : St) (H : Hp) (x : V) (xs : List V) (v : Value) (us : List Value) (Q : VK), Inv X pins σ H s → RelV x v → Vals xs us → r x xs H Q →
    wpAny (model X.prog X.w) X.A (call (.builtin id) (v :: us)) (EP X pins σ Q) X.xe s
/-! ### lists of values -/
theorem Vals.one : ∀ {x : V} {us : List Value}, Vals [x] us → ∃ u, us = [u] ∧ RelV x u
  | _, _, .cons r .nil => ⟨_, rfl, r⟩
theorem Vals.eraseIdx : ∀ {xs : List V} {us : List Value} (i : Nat), Vals xs us → Vals (xs.eraseIdx i) (us.eraseIdx i)
  | _, _, _, .nil => .nil
  | _, _, 0, .cons _ t => t
  | _, _, i + 1, .cons r t => .cons r (Vals.eraseIdx i t)
section
variable {X : Cx} {pins : List (Addr × Obj)} {σ : St} {H : Hp} {s : Shared} {l b : Addr} {xs ys zs : List V}
/-! ### the two steps: a tracked list is rewritten, a new list is laid -/
theorem Inv.lset {its its' : List Value} {n : Nat} {f : Array Value → Array Value} {t' : Nat} (I : Inv X pins σ H s) (hH : H l = some (.lst xs))
    (e : s.heap.get? l = some { cls := .type "list", data := .seq its.toArray n }) (hf : f its.toArray = its'.toArray) (hv : Vals ys its') (hz : ys.length ≤ sizeLine) :
    Inv X pins σ (upd H l (.lst ys)) { s with heap := s.heap.update l (Obj.mapSeq f), toks := t' } := by
  have q := PySem.IsL.update e f
  rw [hf] at q
  refine I.write (x := l) (e := l) (by rw [hH]; exact trivial) (.inl rfl) (fun b' u hb hu => (Heap.get?_update_other s.heap (Obj.mapSeq f) (Ne.symm hb)).trans hu) ⟨_, q⟩ ?_
  exact ⟨hz, its', _, hv, q⟩
theorem Inv.lnew {its : List Value} {t' : Nat} (I : Inv X pins σ H s) (hv : Vals ys its) (hz : ys.length ≤ sizeLine) :
    Inv X pins σ (upd H s.heap.objs.size (.lst ys)) { s with heap := s.heap.push { cls := .type "list", data := .seq its.toArray }, toks := t' } :=
  I.laid (fun _ _ q => Heap.get?_push_of_some _ q) (Nat.le_refl _) ⟨hz, its, 0, hv, Heap.get?_push_size _ rfl⟩
theorem Inv.fresh (I : Inv X pins σ H s) : H s.heap.objs.size = none := I.hok.fresh (Nat.le_refl _)
theorem Inv.lstM (I : Inv X pins σ H s) (hH : H l = some (.lst xs)) : xs.length ≤ sizeLine ∧ ∃ (its : List Value) (n : Nat), Vals xs its ∧ xs.length = its.length ∧ s.heap.get? l = some { cls := .type "list", data := .seq its.toArray n } := by
  obtain ⟨z, its, n, r, e⟩ := I.hok l _ hH
  exact ⟨z, its, n, r, r.length, e⟩
theorem notLongL {n : Nat} (h : n ≤ sizeLine) : Builtin.List.listTooLong n = false := by
  unfold Builtin.List.listTooLong
  exact decide_eq_false (by omega)
end
section
variable {X : Cx}
/-! ### methods -/
def rAppend : V → List V → Hp → VK → Prop := fun x vs H Q => ∃ l xs y, x = .ref l ∧ vs = [y] ∧ H l = some (.lst xs) ∧ xs.length < sizeLine ∧ Q .non (upd H l (.lst (xs ++ [y])))
theorem mt_append : MtM X "list.append" rAppend := by
  intro pins s σ H x vs v us Q I rx rv h
  obtain ⟨l, xs, y, rfl, rfl, hH, hz, q⟩ := h
  cases rx
  obtain ⟨u, rfl, ru⟩ := rv.one
  obtain ⟨z, its, n, r, hl, e⟩ := I.lstM hH
  refine call_meets F.slot_list_append ⟨_, e, rfl⟩ F.entry_list_append (F.args_list_append_2 _ _) (PySem.list_append l its.toArray n u (by rw [List.size_toArray]; omega)) ⟨e, ?_⟩
  refine ⟨.non, _, I.lset (its' := its ++ [u]) hH e (by simp) (r.append (.cons ru .nil)) ?_, rfl, q⟩
  rw [List.length_append, List.length_singleton]
  omega
def rExtend : V → List V → Hp → VK → Prop := fun x vs H Q => ∃ l b xs zs, x = .ref l ∧ vs = [.ref b] ∧ H l = some (.lst xs) ∧ H b = some (.lst zs) ∧ xs.length + zs.length ≤ sizeLine ∧ Q .non (upd H l (.lst (xs ++ zs)))
theorem mt_extend : MtM X "list.extend" rExtend := by
  intro pins s σ H x vs v us Q I rx rv h
  obtain ⟨l, b, xs, zs, rfl, rfl, hH, hB, hz, q⟩ := h
  cases rx
  obtain ⟨u, rfl, ru⟩ := rv.one
  cases ru
  obtain ⟨z, its, n, r, hl, e⟩ := I.lstM hH
  obtain ⟨z2, its2, n2, r2, hl2, e2⟩ := I.lstM hB
  have hsz : its.toArray.size + its2.toArray.size ≤ sizeLine := by rw [List.size_toArray, List.size_toArray]; omega
  have hlong : ¬ (!its.toArray.isEmpty && Builtin.List.listTooLong (its.toArray.size + its2.toArray.size)) = true := by
    rw [notLongL hsz, Bool.and_false]
    exact Bool.false_ne_true
  refine call_meets F.slot_list_extend ⟨_, e, rfl⟩ F.entry_list_extend (F.args_list_extend_2 _ _)
    (AutoSeq1.list_extend_list_list_0 l its.toArray n b its2.toArray n2 hlong (by rw [List.size_toArray]; omega) (by omega)) ⟨e, e2, ?_⟩
  refine ⟨.non, _, I.lset (its' := its ++ its2) hH e (by simp) (r.append r2) ?_, rfl, q⟩
  rw [List.length_append]
  omega
/-! ### list + list, list += list, list * int -/
def rCat : R2 := fun x y H Q => ∃ l b xs zs, x = .ref l ∧ y = .ref b ∧ H l = some (.lst xs) ∧ H b = some (.lst zs) ∧ xs.length + zs.length ≤ sizeLine ∧ ∀ p, H p = none → Q (.ref p) (upd H p (.lst (xs ++ zs)))
theorem op_cat : OpR X (binaryOp .Add) rCat := by
  intro pins s σ H x y v u Q I rx ry h
  obtain ⟨l, b, xs, zs, rfl, rfl, hH, hB, hz, q⟩ := h
  cases rx
  cases ry
  obtain ⟨z, its, n, r, hl, e⟩ := I.lstM hH
  obtain ⟨z2, its2, n2, r2, hl2, e2⟩ := I.lstM hB
  refine PySem.P.add_list e e2 ?_ (by rw [List.size_toArray, List.size_toArray]; omega)
  have ea : its.toArray ++ its2.toArray = (its ++ its2).toArray := by simp
  rw [ea]
  exact ⟨.ref _, _, I.lnew (t' := s.toks) (r.append r2) (by rw [List.length_append]; omega), rfl, q _ I.fresh⟩
/-! ### del xs[i] -/
end
/-! ### xs[a:b] = ys -/
section
variable {prog : Program} {w : World} {A : Around} {E : Value → Shared → Prop} {s : Shared}
end
section
variable {X : Cx}
end
end L2
namespace Att
open PySem PySem.W PySem.Calls PyProof.Rows
/-! ### the script -/
theorem ints_of_wellAll {P : Params} {h : Heap} : ∀ (ns : List Int) (vs : List Value), WellAll P h vs (ns.map WData.int) → IntsAre vs ns := by
  intro ns
  induction ns with
  | nil =>
    intro vs w
    rw [List.map_nil] at w
    cases w
    exact .nil
  | cons n ns ih =>
    intro vs w
    rw [List.map_cons] at w
    cases w with
    | cons a b =>
      cases a
      exact .cons _ _ (ih _ b)
theorem script_of {l : OpenLaw} {n : Nat} (hn : l.most = some n) {P : Params} {h : Heap} {args : List WData} {vals : List Value}
    (hpre : l.row.toRowW.claim.pre args = true) (hwl : WellAll P h vals args) :
    ∃ a vs ns, vals = [Value.ref a] ∧ args = [WData.list (ns.map WData.int)] ∧ h.get? a = some { cls := .type "list", data := .seq vs.toArray } ∧ IntsAre vs ns ∧ ns.length ≤ n := by
  have hsh : WShape.hasAll [] args [.list .int] = true := (pre_splitW hpre).1
  have hc : l.pre.holds [] { args := args } = true := (pre_splitW hpre).2
  obtain ⟨d, r, rfl, h1, h2⟩ := hasAllW_cons hsh
  obtain rfl := hasAllW_nil h2
  obtain ⟨xs, rfl, h3⟩ := hasW_list h1
  obtain ⟨ns, rfl⟩ := items_int h3
  have hlen : ns.length ≤ n := by
    unfold OpenLaw.pre at hc
    have h4 : (WTm.not (.lt (.lit (.int (n : Int))) (.len (.arg 0)))).holds [] { args := [.list (ns.map .int)] } = true := by
      have h4 := (holds_andW hc).1
      rw [hn] at h4
      exact h4
    have h5 := condW_of h4 (w_not (w_lt w_lit (w_len_list (w_arg rfl))))
    rw [List.length_map] at h5
    refine Nat.le_of_not_lt fun q => ?_
    have q' : (n : Int) < ((ns.length : Nat) : Int) := by omega
    first
      | (rw [decide_eq_true q'] at h5; exact absurd h5 (by decide))
      | (simp at h5; omega)
  cases hwl with
  | cons w1 w2 =>
    cases w2
    cases w1 with
    | list ho hall => exact ⟨_, _, ns, rfl, rfl, ho, ints_of_wellAll ns _ hall, hlen⟩
theorem post_true (l : OpenLaw) (args : List WData) : l.row.toRowW.claim.post args (.bool true) args = true :=
  postW_of (r := l.row.toRowW) (X := (true == true))
    (show WShape.has [] (.bool true) .bool = true by first | rfl | decide | simp [WShape.has, WShape.arms, WShape.armsAll])
    (show (WTm.eq .res (.lit (.bool true))).value [] { args := args, res := some (.bool true), after := args } = some (.bool (true == true)) from w_eq_bool (w_res rfl) w_lit) rfl
/-! ### the attachment: holds_open's last premise (the goal 'hc' behind k_head) from a wpAny of the law's body -/
/-- the same from a codeAny of the CALL (for a layer whose function contracts speak of calls) -/
theorem attach_call {l : OpenLaw} {n : Nat} {q : Program} {loose : List Str} {XP : (Str → Option Value) → Heap → Prop} {YP : World → Heap → Prop} {d : DefRec}
    (hn : l.most = some n) (hdf : d.params.defaults = [])
    (call : ∀ (w : World) (s₀ s₁ : Shared) (mg mb : Str → Option Value) (fa : Addr) (o : Obj) (pm cd doc : Value) (a : Addr) (vs : List Value) (ns : List Int),
      Ground q loose [] XP w s₀ mg mb s₁.heap → YP w s₁.heap →
      s₁.heap.get? fa = some o → o.data = .func (docDef d.name d.params d.body d.scope pm cd doc) → s₁.heap.CodeRec cd d.name → mg d.name = some (.ref fa) →
      s₁.heap.get? a = some { cls := .type "list", data := .seq vs.toArray } → IntsAre vs ns → ns.length ≤ n → s₁.gens = #[] →
      codeAny (model l.prog w) callerA (.call (.ref fa) ⟨[.ref a], []⟩) (fun r s' => r = .ok (.ret (.bool true)) ∧ OldK s₁.heap s'.heap ∧ s'.os = s₁.os ∧ AllBare s'.gens) s₁) :
    WalkO q loose XP YP l.row.toRowW d [] (fun f vs => PySem.call f vs) := by
  intro w s₀ s₁ mg mb G Y fa o pm cd doc dV kV ho hd hcd hD hmg hg args vals as hpre hlay hrd hwl hlo
  obtain rfl : dV = .none := Dflts.none hD hdf
  obtain rfl : kV = .none := Dflts.noKw hD
  obtain ⟨a, vs, ns, rfl, rfl, hobj, hints, hlen⟩ := script_of hn hpre hwl
  refine enter_call (codeAny_mono (call w s₀ s₁ mg mb fa o pm cd doc a vs ns G Y ho (fd_plain hd) hcd hmg hobj hints hlen hg) fun r s' hq => ?_)
  obtain ⟨rfl, h2, h3, h4⟩ := hq
  exact ⟨.inl ⟨.bool true, .bool true, [], rfl, fun _ => rfl, .bool true, post_true l _, fun _ => ⟨List.Pairwise.nil, fun _ hm => (nomatch hm)⟩⟩, h2, h3, h4⟩
/-! ### rules over ANY heap (no ledger) from facts about the written part K: the library's own take a ledger (News) for what they write -/
section
variable {prog : Program} {w : World} {A : Around} {E : Value → Shared → Prop} {s : Shared} {K : Frag}
/-! the whole heap as the ledger: makes every rule that writes through a ledger a rule over any heap -/
def ledger (h : Heap) (L d : Addr) : List (Addr × Obj) := (List.range h.objs.size).filterMap fun a => if a = L ∨ a = d then none else (h.get? a).map fun o => (a, o)
end
end Att
namespace L2
open PySem PySem.Spec PyProof.Rows
theorem vals_ints : ∀ {vs : List Value} {ns : List Int}, IntsAre vs ns → Vals (ns.map V.int) vs
  | _, _, .nil => .nil
  | _, _, .cons n t h => .cons ⟨t, rfl⟩ (vals_ints h)
/-- nothing is tracked but the script, known to the object (or it is an object of the module) -/
def Only (H : Hp) : Prop := ∀ b, H b = none ∨ ∃ o xs, H b = some (.frz o (.lst xs))
/-- THE HEAD: the law's promise, at the heap behind the top. F, the promise of the law's def, may use that base is part of the heap (so K.In base, base.Ns mainGlobals mg stand in Mod) -/
theorem law_call {P : Program} {w : World} {K : PySem.W.Frag} {mg mb : Str → Option Value} {CX : CXT} {k : Nat} {fa a : Addr} {fd : FuncData} {x : Str} {sp : Sp} {s₁ : Shared} {vs : List Value} {ns : List Int}
    (KX : K.In s₁.heap) (hns : s₁.heap.Ns mainGlobals mg) (hb : s₁.heap.Ns builtinsNs mb) (hbb : ∀ x : Str, x ≠ "__name__" → mb x = bootBuiltins x) (hlim : s₁.heap.NoLimit) (hg : s₁.gens = #[])
    (ha : s₁.heap.get? a = some { cls := .type "list", data := .seq vs.toArray }) (hi : IntsAre vs ns) (hl : ns.length ≤ sizeLine) (hr : Room k callerA)
    (F : ∀ base : Heap, K.In base → base.Ns mainGlobals mg → FnOk P w K mg base CX k fa fd [x] sp) (hbind : ∀ (s : Shared) (u : Value), BindsTo s fd ⟨[u], []⟩ [(x, u)])
    (hsp : ∀ H : Hp, Only H → SqL K H a (ns.map V.int) → sp [.ref a] H (fun v _ => v = .bl true) fun _ _ _ => False)
    (hCX : ∀ H e s', CX [] H s₁ (fun _ _ _ => False) e s' → False) :
    codeAny (model P w) callerA (.call (.ref fa) ⟨[.ref a], []⟩) (fun r s' => r = .ok (.ret (.bool true)) ∧ OldK s₁.heap s'.heap ∧ s'.os = s₁.os ∧ AllBare s'.gens) s₁ := by
  have rv := vals_ints hi
  have lenV := hi.length
  -- from an abstract heap in which nothing but the script may be tracked
  have core : ∀ H : Hp, Only H → SqL K H a (ns.map V.int) → HOk P w H s₁.heap → (∀ b, H b ≠ none → b = a) → (H a ≠ none → K.lookup a = none) →
      codeAny (model P w) callerA (.call (.ref fa) ⟨[.ref a], []⟩) (fun r s' => r = .ok (.ret (.bool true)) ∧ OldK s₁.heap s'.heap ∧ s'.os = s₁.os ∧ AllBare s'.gens) s₁ := by
    intro H hO hS hok hA hK
    have base_of : ∀ {b : Addr} {o : Obj}, s₁.heap.get? b = some o → H b = none → (hidT s₁.heap H).get? b = some o := fun e n => hidT_get e n
    have noA : ∀ {b : Addr} {o : Obj} {es : Array DictEntry} {ep : Nat}, s₁.heap.get? b = some o → o.data = .dict es ep → H b = none := fun {b o es ep} e d => by
      cases q : H b with
      | none => rfl
      | some u =>
        have e' : b = a := hA b (by rw [q]; simp)
        subst e'
        rw [ha] at e; cases e
        have d' : Data.seq vs.toArray _ = Data.dict es ep := d
        cases d'
    have nsK : ∀ {b : Addr} {m : Str → Option Value}, s₁.heap.Ns b m → (hidT s₁.heap H).Ns b m := fun {b m} ⟨o, es, ep, e, d, r⟩ => ⟨o, es, ep, base_of e (noA e d), d, r⟩
    have hKb : K.In (hidT s₁.heap H) := fun b o e => base_of (KX b o e) (by
      cases q : H b with
      | none => rfl
      | some u =>
        have e' : b = a := hA b (by rw [q]; simp)
        subst e'
        rw [hK (by rw [q]; simp)] at e; cases e)
    have hM : Mod K mg (hidT s₁.heap H) := ⟨hKb, nsK hns, ⟨mb, nsK hb, hbb⟩, let ⟨mc, h1, h2⟩ := hlim; ⟨mc, nsK h1, h2⟩⟩
    have e0 : Env0 P w K mg (hidT s₁.heap H) callerA [] s₁ H := ⟨rfl, hM, fun b o e => of_hidT e, Nat.le_of_eq (hidT_size _ _), trivial, fun b hb => absurd (show b ∈ ([] : List Addr) from hb) (by simp), hok, .of_eq hg⟩
    refine codeAny_mono ((F _ hKb (nsK hns)).run callerA [] s₁ H ⟨[.ref a], []⟩ [.ref a] [.ref a] _ _ hr e0 (hbind s₁ (.ref a)) (.cons rfl .nil) (hsp H hO hS)) fun r s' h => ?_
    cases r with
    | error e => exact (hCX H e s' h).elim
    | ok fl =>
      cases fl with
      | next => exact False.elim h
      | brk => exact False.elim h
      | cont => exact False.elim h
      | ret u =>
        obtain ⟨v, H', os, bare, un, hok', r', q⟩ := h
        have q' : v = .bl true := q
        subst q'
        obtain rfl : u = Value.bool true := r'
        refine ⟨rfl, OldK.of_keep fun b o e => ?_, os, bare⟩
        cases q : H b with
        | none => exact un.keep b o e q (by intro z; exact absurd (show b ∈ ([] : List Addr) from z) (by simp)) (by simp)
        | some u =>
          rcases hO b with z | ⟨ob, xs, z⟩
          · rw [q] at z; cases z
          · have z2 := un.frzs b ob _ z
            obtain ⟨e1, _⟩ := hok b _ z
            obtain ⟨e2, _⟩ := hok' b _ z2
            rw [e] at e1; cases e1
            exact e2
  cases hk : K.lookup a with
  | some o =>
    -- the script is one of the module's own objects
    have e := KX a o hk
    rw [ha] at e
    cases e
    refine core (fun _ => none) (fun _ => .inl rfl) (.inr ⟨_, vs.toArray, _, hk, rfl, rfl, rfl, by rw [List.size_toArray, lenV]; exact hl, by simpa using rv⟩) (fun b u z => by have z' : (none : Option HO) = some u := z; cases z') (fun b z => absurd rfl z) fun z => absurd rfl z
  | none =>
    refine core (fun b => if b = a then some (.frz { cls := .type "list", data := .seq vs.toArray } (.lst (ns.map V.int))) else none) (fun b => ?_) (.inl (.inr ⟨{ cls := .type "list", data := .seq vs.toArray }, if_pos rfl⟩)) (fun b u z => ?_) (fun b z => ?_) fun _ => hk
    · by_cases hb : b = a
      · exact .inr ⟨_, _, if_pos hb⟩
      · exact .inl (if_neg hb)
    · by_cases hb : b = a
      · have z' := (if_pos hb).symm.trans z
        cases z'
        subst hb
        exact ⟨ha, by rw [List.length_map]; exact hl, vs, _, rv, ha⟩
      · have z' := (if_neg hb).symm.trans z
        cases z'
    · by_cases hb : b = a
      · exact hb
      · exact absurd (if_neg hb) z
end L2
namespace L2
open PySem PySem.Spec PyProof.Rows
abbrev KOf {K : PySem.W.Frag} {h : Heap} (_ : K.In h) : PySem.W.Frag := K
/-- the goal that k_head leaves (case hc), from the law's promise. F gives the function object fd (K's own) once, then the promise over every base -/
theorem walk_of {l : PySem.W.OpenLaw} {n k : Nat} {q : Program} {loose : List Str} {XP : (Str → Option Value) → Heap → Prop} {YP : World → Heap → Prop} {d : DefRec} {K : Params → PySem.W.Frag} {CX : World → CXT} {sp : World → Sp} {x : Str}
    (hn : l.most = some n) (hn2 : n ≤ sizeLine) (hdf : d.params.defaults = []) (hr : Room k callerA)
    (hY : ∀ (w : World) (h : Heap), YP w h → (K w.params).In h)
    (F : ∀ (w : World) (mg : Str → Option Value) (fa : Addr) (h : Heap), (K w.params).In h → h.Ns mainGlobals mg → mg d.name = some (.ref fa) →
      ∃ fd : FuncData, (∀ (s : Shared) (u : Value), BindsTo s fd ⟨[u], []⟩ [(x, u)]) ∧
        ∀ base : Heap, (K w.params).In base → base.Ns mainGlobals mg → FnOk l.prog w (K w.params) mg base (CX w) k fa fd [x] (sp w))
    (hsp : ∀ (w : World) (H : Hp) (a : Addr) (ns : List Int), ns.length ≤ n → Only H → SqL (K w.params) H a (ns.map V.int) → sp w [.ref a] H (fun v _ => v = .bl true) fun _ _ _ => False)
    (hCX : ∀ (w : World) (H : Hp) (s : Shared) (e : Value) (s' : Shared), CX w [] H s (fun _ _ _ => False) e s' → False) :
    PySem.W.WalkO q loose XP YP l.row.toRowW d [] (fun f vs => PySem.call f vs) := by
  refine Att.attach_call hn hdf fun w s₀ s₁ mg mb fa o pm cd doc a vs ns G Y ho hd hcd hmg hobj hints hlen hg => ?_
  have KX := hY w _ Y
  obtain ⟨fd, hb, hF⟩ := F w mg fa _ KX G.T.g hmg
  exact law_call KX G.T.g G.T.b G.T.builtins G.T.nolimit hg hobj hints (Nat.le_trans hlen hn2) hr hF hb (fun H hO hS => hsp w H a ns hlen hO hS) fun H e s' => hCX w H s₁ e s'
end L2
/- THE LAST THEOREM (shape; LID, My.* are yours):
   My.Adr: a structure of the addresses that your layer names (classes, functions); My.Txt K t: a structure (Prop) of the equations over K;
   My.txt_mk : {K} {implicit addresses ..} (e1 : nsIn K mainGlobals "law" = some (some (.ref f))) (e2 : K.lookup f = some ⟨oc, od, .func (fnOf "law" "law" params body scope dV kV doc pm an cdv ct), sl⟩) (e3 : codeIn K cdv "law" = true) .. : ∃ t, My.Txt K t
set_option maxRecDepth 100000 in
set_option maxHeartbeats 0 in
theorem PySem.Challenge.cw_LID_holds : PySem.Challenge.rw_LID.Holds := by
  w_on; o_law; k_head; (case hw => w_witness2)
  k_fill
  refine L2.walk_of (l := PySem.Challenge.rw_LID) (n := 63) (k := 40) (x := "script") (CX := fun w => ..) (sp := fun _ => My.sp_law) rfl (by decide) rfl ⟨rfl, by decide, by decide⟩ (fun w h Y => PySem.W.kIn_of Y) ?F ?S ?C
  case F =>
    intro w mg fa h KX G hmg
    have T : ∃ t, My.Txt (L2.KOf KX) t := by
      dsimp only [L2.KOf]                          -- K must stand as «<heap const> w.params» for k_is
      refine' My.txt_mk ?e1 ?e2 ?e3 ..
      (case e1 => PySem.W.k_is)                    -- in the order: a name -> its address -> its object -> its parts
      (case e2 => PySem.W.k_is)
      ..
    obtain ⟨t, T⟩ := T
    have e0 := hmg.symm.trans (PySem.W.mg_of KX G T.law)
    cases e0                                       -- fa is the law's own address
    exact ⟨_, fun s u => .of_eq rfl, fun base kb nb => My.law_fn T kb nb⟩     -- if «.of_eq rfl» comes too early: refine' ⟨_, ?b, fun base kb nb => My.law_fn T kb nb⟩; exact fun s u => .of_eq rfl
  case S => exact fun w H a ns hl hO hS => ..
  case C => exact ..
(the tactic k_is has no namespace: write k_is) -/
/-! SHORT WORDS over the layer: a def of the text, its body, what a loop and a test want. -/
namespace L2
open PySem PySem.Spec PyProof.Rows
/-! ### the text by places -/
def defArgs (s : Stmt) : Arguments := match s with
  | .FunctionDef _ a _ _ _ _ _ _ _ _ => a
  | _ => { posonlyargs := [], args := [], vararg := none, kwonlyargs := [], kw_defaults := [], kwarg := none, defaults := [] }
def defBody (s : Stmt) : List Stmt := match s with
  | .FunctionDef _ _ b _ _ _ _ _ _ _ => b
  | _ => []
def defScope (s : Stmt) : Scope := match s with
  | .FunctionDef _ _ _ _ _ _ sc _ _ _ => sc
  | _ => { kind := .function, names := [], isGenerator := false, isCoroutine := false }
/-! ### no exception leaves a def -/
abbrev CX0 : CXT := fun _ _ _ _ _ _ => False
abbrev E0 : XK := fun _ _ _ => False
theorem pass0 {X : Cx} : Passes CX0 X E0 := fun _ _ _ _ _ _ _ h => h.elim
/-! ### a def (or method) of the text as it stands behind the top -/
structure Fun (K : PySem.W.Frag) (x qual : Str) (st : Stmt) (f : Addr) (fd : FuncData) : Prop where
  ex : ∃ (oc : Value) (od : Option Addr) (kV doc pm : Value) (an : Option Addr) (cdv ct : Value) (osl : Array (Option Value)),
    fd = PySem.W.fnOf x qual (defArgs st) (defBody st) (defScope st) .none kV doc pm an cdv ct ∧ K.lookup f = some ⟨oc, od, .func fd, osl⟩ ∧ PySem.W.codeIn K cdv qual = true
  kp : PySem.W.keepIn K (.ref f) = true
section
variable {P : Program} {w : World} {K : PySem.W.Frag} {mg : Str → Option Value} {base : Heap}
/-- THE RULE for a def: its body as a term of rules, and the reading of that term -/
theorem Fun.ok {x qual : Str} {st : Stmt} {f : Addr} {fd : FuncData} {N ps : List Str} {k : Nat} {sp : Sp} (F : Fun K x qual st f fd) (S : FnScope N ps (defScope st)) (len : ∀ vs H Q E, sp vs H Q E → vs.length = ps.length)
    (hbody : ∀ (cdv : Value) (A : Around) (outer : List Env) (s : Shared) (H : Hp) (vs : List V) (Q : VK) (E : XK), Room k (A.deeper (envOfC qual (defScope st) s.heap.objs.size f cdv)) → sp vs H Q E →
      ∃ t, PSs (cxOf CX0 P w K mg base N qual (defScope st) f cdv A outer s H E).nox (defBody st) t ∧ t { nx := fun _ H' => Q .non H', rt := Q } (start N vs) H) : FnOk P w K mg base CX0 (k + 1) f fd ps sp := by
  obtain ⟨oc, od, kV, doc, pm, an, cdv, ct, osl, rfl, lk, hcd⟩ := F.ex
  refine fn_of lk hcd S len fun A outer s H vs Q E hr hsp => ?_
  obtain ⟨t, h, q⟩ := hbody cdv A outer s H vs Q E hr hsp
  exact ⟨t, h.nox, q⟩
/-- how its arguments bind (no defaults): h is «fun _ _ _ _ _ _ us hl => match us, hl with | [_, _], _ => rfl», one _ a parameter -/
theorem Fun.binds {x qual : Str} {st : Stmt} {f : Addr} {fd : FuncData} {ps : List Str} (F : Fun K x qual st f fd)
    (h : ∀ (kV doc pm : Value) (an : Option Addr) (cdv ct : Value) (us : List Value), us.length = ps.length → bindArgs (PySem.W.fnOf x qual (defArgs st) (defBody st) (defScope st) .none kV doc pm an cdv ct) ⟨us, []⟩ = pure (ps.zip us)) : Binds K fd ps [] := by
  obtain ⟨oc, od, kV, doc, pm, an, cdv, ct, osl, rfl, lk, hcd⟩ := F.ex
  exact .all (h kV doc pm an cdv ct)
theorem fun_mk {x qual : Str} {st : Stmt} {f : Addr} {oc : Value} {od an : Option Addr} {osl : Array (Option Value)} {kV doc pm cdv ct : Value} (l : K.lookup f = some ⟨oc, od, .func (PySem.W.fnOf x qual (defArgs st) (defBody st) (defScope st) .none kV doc pm an cdv ct), osl⟩)
    (c : PySem.W.codeIn K cdv qual = true) (k : PySem.W.keepIn K (.ref f) = true) : Fun K x qual st f (PySem.W.fnOf x qual (defArgs st) (defBody st) (defScope st) .none kV doc pm an cdv ct) := ⟨⟨oc, od, kV, doc, pm, an, cdv, ct, osl, rfl, l, c⟩, k⟩
end
theorem hu_of {A : Around} {k : Nat} (hr : Room k A) : A.units + 1 < cLine := Nat.lt_of_le_of_lt (Nat.add_le_add_left (by decide : 1 ≤ 64) _) hr.units
/-! ### expressions in short: the name that stands in the i-th slot -/
section
variable {X : Cx}
theorem pv (i : Nat) {x : Str} {pos : Pos} (hN : X.N[i]? = some x := by rfl) (hv : Vis X.env.scope x := by first | exact Or.inl rfl | exact Or.inr (Or.inl rfl) | exact Or.inr (Or.inr rfl)) (hd : (x == ("__debug__" : Str)) = false := by decide)
    (hcd : (x == ("__classdict__" : Str)) = false := by decide) : PE X (.Name x pos) (tVar i) := pe_var hN hv hd hcd
end
/-! ### tests -/
theorem iteF {A B : Prop} (h : B) : if false = true then A else B := by
  rw [if_neg Bool.false_ne_true]
  exact h
theorem iteT {A B : Prop} (h : A) : if true = true then A else B := by
  rw [if_pos rfl]
  exact h
theorem ite2 {c A B : Prop} [Decidable c] (h1 : c → A) (h2 : ¬ c → B) : if c then A else B := by
  by_cases h : c
  · rw [if_pos h]
    exact h1 h
  · rw [if_neg h]
    exact h2 h
/-! ### heaps -/
/-- all that was tracked is as it was -/
def Same (H H' : Hp) : Prop := ∀ b o, H b = some o → H' b = some o
theorem Same.refl (H : Hp) : Same H H := fun _ _ h => h
theorem Same.trans {H H1 H2 : Hp} (a : Same H H1) (b : Same H1 H2) : Same H H2 := fun c o h => b c o (a c o h)
theorem Same.free {H H' : Hp} (e : Same H H') {l : Addr} (h : H' l = Option.none) : H l = Option.none := by
  cases q : H l with
  | none => rfl
  | some o =>
    rw [e l o q] at h
    cases h
theorem Same.seq {K : PySem.W.Frag} {H H' : Hp} {a : Addr} {xs : List V} (e : Same H H') (h : SqL K H a xs) : SqL K H' a xs := by
  rcases h with (h | ⟨o, h⟩) | h
  · exact .inl (.inl (e _ _ h))
  · exact .inl (.inr ⟨o, e _ _ h⟩)
  · exact .inr h
end L2
/-! MY OWN ADDITIONS to the hand layer: comprehensions, a text's signs, join, all, slices of texts. -/
namespace L2
open PySem PySem.Spec PyProof.Rows
/-! ### the cells that a block takes along -/
def captFrom (env : Env) : List (Str × NameKind) → List (Str × Addr) → List (Str × Addr)
  | [], cs => cs
  | (n, k) :: r, cs => if (k == NameKind.free) = true then captFrom env r ((n, (env.cells.lookup n).getD 0) :: cs) else captFrom env r cs
theorem captFrom_loop {env : Env} : ∀ (names : List (Str × NameKind)) (cs : List (Str × Addr)), (∀ y ∈ names, y.2 = .free → (env.cells.lookup y.1).isSome = true) →
    (forIn names cs (fun x (cs : List (Str × Addr)) => (match x with | (name, kind) => if (kind == NameKind.free) = true then (do let a ← cellOf env name; pure (ForInStep.yield ((name, a) :: cs))) else pure (ForInStep.yield cs) : Sem (ForInStep (List (Str × Addr))))) : Sem (List (Str × Addr))) = pure (captFrom env names cs)
  | [], cs, _ => rfl
  | (n, k) :: r, cs, h => by
    have hr : ∀ y ∈ r, y.2 = .free → (env.cells.lookup y.1).isSome = true := fun y hy => h y (List.mem_cons_of_mem _ hy)
    rw [List.forIn_cons]
    by_cases hk : (k == NameKind.free) = true
    · have e : k = .free := by simpa using hk
      have hs := h (n, k) List.mem_cons_self e
      obtain ⟨a, ha⟩ := Option.isSome_iff_exists.mp hs
      simp only [hk, if_true, captFrom, cellOf, ha, Option.getD_some, pure_bind]
      exact captFrom_loop r _ hr
    · simp only [hk, captFrom, pure_bind, Bool.false_eq_true, if_false]
      exact captFrom_loop r _ hr
theorem closure_is {env : Env} {scope : Scope} (h : ∀ y ∈ scope.names, y.2 = .free → (env.cells.lookup y.1).isSome = true) : closureFor scope env = pure (captFrom env scope.names []) := by
  have e := captFrom_loop (env := env) scope.names [] h
  unfold closureFor
  simp only [bind_pure_comp, map_pure] at e ⊢
  rw [← e]
  simp
theorem capt_sub {env : Env} : ∀ {names : List (Str × NameKind)} {cs : List (Str × Addr)} {y : Str} {c : Addr}, (∀ z ∈ names, z.2 = .free → (env.cells.lookup z.1).isSome = true) → (∀ y c, cs.lookup y = some c → env.cells.lookup y = some c) →
    (captFrom env names cs).lookup y = some c → env.cells.lookup y = some c
  | [], _, _, _, _, hc, h => hc _ _ h
  | (n, k) :: r, cs, y, c, hn, hc, h => by
    have hr : ∀ z ∈ r, z.2 = .free → (env.cells.lookup z.1).isSome = true := fun z hz => hn z (List.mem_cons_of_mem _ hz)
    unfold captFrom at h
    by_cases hk : (k == NameKind.free) = true
    · rw [if_pos hk] at h
      have e : k = .free := by simpa using hk
      obtain ⟨a, ha⟩ := Option.isSome_iff_exists.mp (hn (n, k) List.mem_cons_self e)
      refine capt_sub hr (fun z d q => ?_) h
      rw [List.lookup_cons] at q
      cases hz : z == n with
      | true =>
        have ez : z = n := by simpa using hz
        rw [hz] at q
        simp only [ha, Option.getD_some] at q
        have ha' : env.cells.lookup n = some a := ha
        rw [ez, ha']
        exact q
      | false =>
        rw [hz] at q
        exact hc z d q
    · rw [if_neg hk] at h
      exact capt_sub hr hc h
theorem capt_has {env : Env} : ∀ {names : List (Str × NameKind)} {cs : List (Str × Addr)} {y : Str}, ((y, NameKind.free) ∈ names ∨ (cs.lookup y).isSome = true) → ((captFrom env names cs).lookup y).isSome = true
  | [], _, _, h => by
    rcases h with h | h
    · cases h
    · exact h
  | (n, k) :: r, cs, y, h => by
    unfold captFrom
    have key : ∀ a : Addr, (cs.lookup y).isSome = true → (List.lookup y ((n, a) :: cs)).isSome = true := fun a q => by
      rw [List.lookup_cons]
      cases y == n with
      | true => rfl
      | false => exact q
    by_cases hk : (k == NameKind.free) = true
    · rw [if_pos hk]
      refine capt_has ?_
      rcases h with h | h
      · rcases List.mem_cons.mp h with e | h
        · cases e
          refine .inr ?_
          rw [List.lookup_cons]
          simp
        · exact .inl h
      · exact .inr (key _ h)
    · rw [if_neg hk]
      refine capt_has ?_
      rcases h with h | h
      · rcases List.mem_cons.mp h with e | h
        · cases e
          exact absurd (by simp) hk
        · exact .inl h
      · exact .inr h
/-! ### the context of a block -/
def cxComp (X : Cx) (scope : Scope) (cl : List (Str × Addr)) (N : List Str) (C : Addr) (s₀ : Shared) (H₀ : Hp) (ex : List Addr) : Cx where
  prog := X.prog
  w := X.w
  K := X.K
  mg := X.mg
  base := X.base
  A := X.A
  N := N
  s₀ := s₀
  H₀ := H₀
  env := compEnvC scope cl C X.env
  outer := X.stack
  stack := X.stack
  ex := ex
  fn := fun _ => false
  calm := X.calm
  pn := []
  xe := fun _ _ => False
def compN (X : Cx) (x : Str) (caps : List Nat) : List Str := x :: caps.map fun i => X.N.getD i (Str.ofString "")
def compS (σ : St) (o : Option V) (caps : List Nat) : St := o :: caps.map fun i => (σ[i]?).join
def compOk (outer scope : Scope) (x : Str) (N : List Str) : Bool :=
  decide (scope.kind = .function) && scope.names.all (fun y => decide (y.2 ≠ .cell)) && scope.names.all (fun y => decide (y.2 = .local → scope.names.lookup y.1 = some .local)) && decide (scope.names.lookup x = some .local) &&
    scope.names.all (fun y => decide (y.2 = .free → (outer.names.lookup y.1 = some .cell ∨ outer.names.lookup y.1 = some .free))) && N.tail.all (fun y => decide (scope.names.lookup y = some .free)) && decide N.Nodup
structure CompOk (outer scope : Scope) (x : Str) (N : List Str) : Prop where
  kind : scope.kind = .function
  nocell : ∀ y ∈ scope.names, y.2 ≠ .cell
  locs : ∀ y ∈ scope.names, y.2 = .local → scope.names.lookup y.1 = some .local
  tgt : scope.names.lookup x = some .local
  frees : ∀ y ∈ scope.names, y.2 = .free → (outer.names.lookup y.1 = some .cell ∨ outer.names.lookup y.1 = some .free)
  caps : ∀ y ∈ N.tail, scope.names.lookup y = some .free
  nd : N.Nodup
theorem compOk_is {outer scope : Scope} {x : Str} {N : List Str} (h : compOk outer scope x N = true) : CompOk outer scope x N := by
  unfold compOk at h
  simp only [Bool.and_eq_true, List.all_eq_true, decide_eq_true_eq] at h
  obtain ⟨⟨⟨⟨⟨⟨h1, h2⟩, h3⟩, h4⟩, h5⟩, h6⟩, h7⟩ := h
  exact ⟨h1, h2, h3, h4, h5, h6, h7⟩
/-- a name's kind in the block -/
theorem relabel_kind {scope : Scope} {env : Env} {y : Str} {k' : NameKind} (h : (relabel scope env).names.lookup y = some k') : ∃ k, scope.names.lookup y = some k ∧ (k' = k ∨ (k = .free ∧ k' = .cell)) := by
  have go : ∀ (names : List (Str × NameKind)), (names.map fun (n, k) => if (k == NameKind.free && env.scope.kind == .function && env.kindOf n == some .cell) then (n, NameKind.cell) else (n, k)).lookup y = some k' →
      ∃ k, names.lookup y = some k ∧ (k' = k ∨ (k = .free ∧ k' = .cell)) := by
    intro names
    induction names with
    | nil => intro h; simp at h
    | cons a r ih =>
      obtain ⟨n, k⟩ := a
      intro h
      rw [List.map_cons] at h
      by_cases hc : (k == NameKind.free && env.scope.kind == .function && env.kindOf n == some .cell) = true
      · simp only [hc, if_true, List.lookup_cons] at h
        rw [List.lookup_cons]
        cases hy : y == n with
        | true =>
          rw [hy] at h
          have hk : k = .free := by
            simp only [Bool.and_eq_true, beq_iff_eq] at hc
            exact hc.1.1
          exact ⟨k, rfl, .inr ⟨hk, (Option.some.inj h).symm⟩⟩
        | false =>
          rw [hy] at h
          exact ih h
      · simp only [hc, Bool.false_eq_true, if_false, List.lookup_cons] at h
        rw [List.lookup_cons]
        cases hy : y == n with
        | true =>
          rw [hy] at h
          exact ⟨k, rfl, .inl (Option.some.inj h).symm⟩
        | false =>
          rw [hy] at h
          exact ih h
  exact go scope.names h
theorem relabel_free {scope : Scope} {env : Env} {y : Str} (h : scope.names.lookup y = some .free) : (relabel scope env).names.lookup y = some .cell ∨ (relabel scope env).names.lookup y = some .free := by
  have go : ∀ (names : List (Str × NameKind)), names.lookup y = some .free → (names.map fun (n, k) => if (k == NameKind.free && env.scope.kind == .function && env.kindOf n == some .cell) then (n, NameKind.cell) else (n, k)).lookup y = some .cell ∨
      (names.map fun (n, k) => if (k == NameKind.free && env.scope.kind == .function && env.kindOf n == some .cell) then (n, NameKind.cell) else (n, k)).lookup y = some .free := by
    intro names
    induction names with
    | nil => intro h; simp at h
    | cons a r ih =>
      obtain ⟨n, k⟩ := a
      intro h
      rw [List.map_cons]
      rw [List.lookup_cons] at h
      by_cases hc : (k == NameKind.free && env.scope.kind == .function && env.kindOf n == some .cell) = true
      · simp only [hc, if_true, List.lookup_cons]
        cases hy : y == n with
        | true => exact .inl rfl
        | false =>
          rw [hy] at h
          exact ih h
      · simp only [hc, Bool.false_eq_true, if_false, List.lookup_cons]
        cases hy : y == n with
        | true =>
          rw [hy] at h
          have h' : k = .free := Option.some.inj h
          exact .inr (by rw [h'])
        | false =>
          rw [hy] at h
          exact ih h
  exact go scope.names h
/-! ### tests of a block -/
def PTs (X : Cx) (ifs : List Expr) (t : TT) : Prop :=
  ∀ (pins : List (Addr × Obj)) (s : Shared) (σ : St) (H : Hp) (Q : Bool → Hp → Prop), Inv X pins σ H s → t σ H Q →
    wpAny (model X.prog X.w) X.A (forIn ifs true fun c r => if r = true then do let ok ← isTrue c X.env (eval c X.env); pure (ForInStep.yield ok) else pure (ForInStep.yield r)) (TP X pins σ Q) X.xe s
def tAll : TT := fun _ H Q => Q true H
theorem pts_nil {X : Cx} : PTs X [] tAll := fun _ _ _ H _ I h => wpAny_tests_nil ⟨H, I, h⟩
theorem pts_one {X : Cx} {c : Expr} {t : TT} (h : PT X c t) : PTs X [c] t := fun pins s σ H Q I hq => wpAny_tests_one (h pins s σ H Q I hq)
/-- the loop of a block, any target -/
theorem compLoop_any {prog : Program} {w : World} {A : Around} {R : Result → Shared → Prop} {s : Shared} {elt target iter : Expr} {ifs : List Expr} {scope : Scope} {pos : Pos} {it acc : Value} {env : Env} (I : Nat → Shared → Prop)
    (turn : ∀ n s, I n s → wpAny (model prog w) A (pyNext it) (fun r s₁ => match r with
      | none => R (.ok .next) s₁
      | some v => wpAny (model prog w) A (letOwnedTupleGo target it v) (fun _ s₁' => wpAny (model prog w) A (assign target env v) (fun _ s₂ =>
          wpAny (model prog w) A (forIn ifs true fun c r => if r = true then do let ok ← isTrue c env (eval c env); pure (ForInStep.yield ok) else pure (ForInStep.yield r)) (fun ok s₃ =>
            if ok = true then wpAny (model prog w) A (eval elt env) (fun x s₄ =>
              wpAny (model prog w) A (call (.builtin "list.append") [acc, x]) (fun _ s₅ => ∃ m, m < n ∧ I m s₅) (fun _ _ => False) s₄) (fun _ _ => False) s₃
            else ∃ m, m < n ∧ I m s₃) (fun _ _ => False) s₂) (fun _ _ => False) s₁') (fun _ _ => False) s₁) (fun _ _ => False) s)
    (n : Nat) (h : I n s) : codeAny (model prog w) A (.compLoop (.ListComp elt [⟨target, iter, ifs, 0⟩] scope pos) 0 it acc env) R s := by
  refine codeAny_loop rfl I (fun n s hI => ?_) n h
  show wpAny _ A ((compTurn (.ListComp elt [⟨target, iter, ifs, 0⟩] scope pos) 0 it acc env).onRaise (fun x => do noteFrame x env; theTreesLotGoes x)) _ _ s
  refine wpAny_noted ?_
  rw [compTurn_list]
  refine wpAny_bind (wpAny_standAt (wpAny_bind (wpAny_mono (turn n s hI) (fun r s₁ h₁ => ?_) fun _ _ h' => h'.elim)))
  cases r with
  | none => exact wpAny_pure h₁
  | some v =>
    refine wpAny_bind (wpAny_mono h₁ (fun _ s₁' h₁' => ?_) fun _ _ h' => h'.elim)
    refine wpAny_bind (wpAny_mono h₁' (fun _ s₂ h₂ => wpAny_bind (wpAny_mono h₂ (fun ok s₃ h₃ => ?_) fun _ _ h' => h'.elim)) fun _ _ h' => h'.elim)
    cases ok with
    | false => exact wpAny_pure ⟨rfl, h₃⟩
    | true =>
      exact wpAny_bind (wpAny_bind (wpAny_mono h₃ (fun x s₄ h₄ => wpAny_bind (wpAny_mono h₄ (fun _ s₅ h₅ => wpAny_pure (wpAny_pure ⟨rfl, h₅⟩)) fun _ _ h' => h'.elim)) fun _ _ h' => h'.elim))
/-! ### what a comprehension asks -/
def CompW (tt : TT) (te : TE) (caps : List Nat) (σ : St) (Q : VK) (J : It) (H1 : Hp) (D : Addr) : Prop :=
  ∃ W : Nat → Nat → List V → Hp → Prop, (∃ m, W 0 m [] (upd H1 D (.lst []))) ∧ ∀ i m ys H, W i m ys H →
    H D = some (.lst ys) ∧ ys.length < sizeLine ∧
    ((J.stop i H ∧ Q (.ref D) H) ∨ (J.go i H ∧ ∃ N : List V → Hp → Prop, (∀ zs H', N zs H' → ∃ m', m' < m ∧ W (i + 1) m' zs H') ∧ ∀ x H', J.yld i H x H' → tt (compS σ (some x) caps) H' fun b H2 =>
      if b = true then te (compS σ (some x) caps) H2 fun y H3 => H3 D = some (.lst ys) ∧ N (ys ++ [y]) (upd H3 D (.lst (ys ++ [y])))
      else N ys H2))
def tComp (wi : TI) (tt : TT) (te : TE) (caps : List Nat) : TE := fun σ H Q => wi σ H fun J H1 => ∀ D, H1 D = none → CompW tt te caps σ Q J H1 D
section
variable {X : Cx}
/-- the block's invariant at its start -/
theorem comp_start {scope : Scope} {x : Str} {caps : List Nat} {pins : List (Addr × Obj)} {σ : St} {H : Hp} {s3 : Shared} {h1 : Heap} {fp : List Addr} {m : Str → Option Value} {tk : Nat} (ok : CompOk X.env.scope scope x (compN X x caps)) (I : Inv X pins σ H s3)
    (hf : ∀ b ∈ fp, FpOk X pins H b) (hlt : ∀ b ∈ fp, b < s3.heap.objs.size) (hn : h1.Ns s3.heap.objs.size m) (keep : ∀ b o, s3.heap.get? b = some o → h1.get? b = some o) :
    Inv (cxComp X scope (captFrom X.env scope.names []) (compN X x caps) s3.heap.objs.size s3 H fp) [] (compS σ none caps) H { s3 with heap := h1, toks := tk } := by
  have hsome : ∀ z ∈ scope.names, z.2 = .free → (X.env.cells.lookup z.1).isSome = true := fun z hz hfr => by
    obtain ⟨c, e⟩ := I.ok.has z.1 (by
      rcases ok.frees z hz hfr with q | q
      · exact .inl q
      · exact .inr q)
    rw [e]; rfl
  have sub : ∀ y c, (captFrom X.env scope.names []).lookup y = some c → X.env.cells.lookup y = some c := fun y c h => capt_sub hsome (fun _ _ q => by simp at q) h
  have hC : H s3.heap.objs.size = none := I.hok.fresh (Nat.le_refl _)
  have cne : ∀ y c, X.env.cells.lookup y = some c → c < s3.heap.objs.size := fun y c e => by
    obtain ⟨v, z⟩ := I.cell y c e
    exact z.lt
  refine ⟨⟨I.ok.mod, ?_, I.ok.glob, I.ok.blt, Nat.le_refl _, fun y z c e1 e2 => I.ok.inj y z c (sub _ _ e1) (sub _ _ e2), fun y hy => ?_, fun y c hfn _ => ?_, I.ok.hd, I.ok.frames, .inl rfl, fun b hb => ⟨Nat.ne_of_lt (hlt b hb), fun y c e => (hf b hb).2.2.2.2.1 y c (sub _ _ e)⟩,
      I.bs, Nat.le_trans I.ok.bsz I.sz, fun b o e hb => ?_, fun b hb hfs => ?_, I.stack, I.stkFree⟩,
    rfl, I.bare, Un.kept keep, ⟨m, hn, fun i y v e1 e2 e3 => ?_⟩, fun y c e => ?_, hC, fun y c e => I.freeC y c (sub _ _ e), fun p hp => absurd (show p ∈ ([] : List (Addr × Obj)) from hp) (by simp), I.hok.kept keep, by simp [cxComp, compN, compS]⟩
  · show (relabel scope X.env).kind = .function
    exact ok.kind
  · have hy' : (relabel scope X.env).names.lookup y = some .cell ∨ (relabel scope X.env).names.lookup y = some .free := hy
    have fr : scope.names.lookup y = some .free := by
      rcases hy' with q | q
      · obtain ⟨k, e, z⟩ := relabel_kind q
        rcases z with z | ⟨z, _⟩
        · exact absurd z.symm (ok.nocell _ (PySem.mem_of_lookup e))
        · rw [e, z]
      · obtain ⟨k, e, z⟩ := relabel_kind q
        rcases z with z | ⟨_, z⟩
        · rw [e, z]
        · cases z
    exact Option.isSome_iff_exists.mp (capt_has (.inl (PySem.mem_of_lookup fr)))
  · exact absurd (show (fun _ => false) y = true from hfn) (by simp)
  · rcases (hf b hb).2.2.2.1 with z | z
    · exact I.ok.noex b o e z
    · exact absurd (Nat.lt_of_lt_of_le (Heap.lt_size e) (Nat.le_trans I.ok.bsz z)) (Nat.lt_irrefl _)
  · rcases List.mem_cons.mp (I.stkSub b hfs) with z | z
    · exact (hf b hb).2.1 z
    · exact (hf b hb).2.2.1 z
  · have e1' : (compN X x caps)[i]? = some y := e1
    cases i with
    | zero => simp [compS] at e2
    | succ i =>
      simp only [compN, List.getElem?_cons_succ, List.getElem?_map] at e1'
      simp only [compS, List.getElem?_cons_succ, List.getElem?_map] at e2
      cases hj : caps[i]? with
      | none => rw [hj] at e2; cases e2
      | some j =>
        rw [hj] at e1' e2
        simp only [Option.map_some, Option.some.injEq] at e1' e2
        cases hσ : σ[j]? with
        | none => rw [hσ] at e2; cases e2
        | some o =>
          rw [hσ] at e2
          have e2' : o = some v := e2
          subst e2'
          have hjl : j < X.N.length := by rw [← I.len]; exact (List.getElem?_eq_some_iff.mp hσ).1
          have eN : X.N[j]? = some y := by
            rw [List.getElem?_eq_getElem hjl]
            rw [List.getD_eq_getElem?_getD, List.getElem?_eq_getElem hjl] at e1'
            exact congrArg some e1'
          have hy : scope.names.lookup y = some .free := ok.caps y (by
            show y ∈ caps.map fun i => X.N.getD i (Str.ofString "")
            exact List.mem_map.mpr ⟨j, List.mem_of_getElem? hj, e1'⟩)
          have hk := ok.frees (y, .free) (PySem.mem_of_lookup hy) rfl
          obtain ⟨m', _, hl⟩ := I.loc
          obtain ⟨u, r, q⟩ := hl j y v eN hσ (.inr hk)
          refine ⟨u, r, .inr ⟨relabel_free hy, ?_⟩⟩
          rcases q with ⟨k, _⟩ | ⟨_, c, e, z⟩
          · have k' : X.env.scope.names.lookup y = some .local := k
            rw [k'] at hk
            rcases hk with hk | hk <;> cases hk
          · obtain ⟨c', e'⟩ := Option.isSome_iff_exists.mp (capt_has (env := X.env) (cs := []) (.inl (PySem.mem_of_lookup hy)))
            have ec := sub _ _ e'
            rw [e] at ec
            cases ec
            obtain ⟨o, ho, hd⟩ := z
            exact ⟨c, e', o, keep c o ho, hd⟩
  · obtain ⟨v, o, ho, hd⟩ := I.cell y c (sub _ _ e)
    exact ⟨v, o, keep c o ho, hd⟩
theorem comp_core {x : Str} {px pos p : Pos} {iter elt : Expr} {ifs : List Expr} {scope : Scope} {wi : TI} {tt : TT} {te : TE} {caps : List Nat} {use : Option (Value → Sem Unit)} {QQ : Value → Shared → Prop}
    (hc : X.calm = true) (ho : compOk X.env.scope scope x (compN X x caps) = true) (hi : PI X (.Name x px) iter wi)
    (ht : ∀ cl C s₀ H₀ ex, PTs (cxComp X scope cl (compN X x caps) C s₀ H₀ ex) ifs tt) (he : ∀ cl C s₀ H₀ ex, PE (cxComp X scope cl (compN X x caps) C s₀ H₀ ex) elt te)
    (hs : ∀ x, foldedSetIterable iter X.env x = pure x) {pins : List (Addr × Obj)} {s : Shared} {σ : St} {H : Hp} {Q : VK} (I : Inv X pins σ H s) (h : tComp wi tt te caps σ H Q)
    (fin : ∀ (D C : Addr) (H' : Hp) (s' : Shared) (m : Str → Option Value), Inv X pins σ H' s' → Q (.ref D) H' → s'.heap.Ns C m → FpOk X pins H' C → compPost (model X.prog X.w) X.A X.xe use QQ (.ref D) C (.ok .next) s') :
    wpAny (model X.prog X.w) X.A (comprehension (.ListComp elt [⟨.Name x px, iter, ifs, 0⟩] scope pos) scope X.env p (newList []) false (eval iter X.env) use) QQ X.xe s := by
  have ok := compOk_is ho
  have hsome : ∀ z ∈ scope.names, z.2 = .free → (X.env.cells.lookup z.1).isSome = true := fun z hz hfr => by
    obtain ⟨c, e⟩ := I.ok.has z.1 (by
      rcases ok.frees z hz hfr with q | q
      · exact .inl q
      · exact .inr q)
    rw [e]; rfl
  refine wpAny_comprehension_free (cl := captFrom X.env scope.names []) (use := use) rfl hs (closure_is hsome) ok.kind ok.locs (thn (hi pins s σ H _ I h) fun v s1 h1 => thn h1 fun itv s2 h2 => ?_)
  obtain ⟨it, fp, tn, J, H2, e, I2, T, st2, f2, rd⟩ := h2
  subst e
  refine wpAny_newObj_type (wpAny_newFunctionEnv ok.nocell (by intro y hy; simp at hy) (fun h₁ hns₁ hsb₁ => ?_) ok.kind)
  dsimp only at hns₁ hsb₁ ⊢
  have hD0 : H2 s2.heap.objs.size = none := I2.hok.fresh (Nat.le_refl _)
  obtain ⟨W, ⟨m0, w0⟩, turn⟩ := rd s2.heap.objs.size hD0
  have hfpl : ∀ b ∈ fp, b < s2.heap.objs.size := fun b hb => by
    obtain ⟨o, e, _⟩ := T.obj 0 _ st2 b hb
    exact Heap.lt_size e
  have hsz : (s2.heap.push { cls := .type "list", dict := none, data := .seq ([] : List Value).toArray }).objs.size = s2.heap.objs.size + 1 := Heap.size_push ..
  have I3 : Inv X pins σ (upd H2 s2.heap.objs.size (.lst [])) { s2 with heap := s2.heap.push { cls := .type "list", dict := none, data := .seq ([] : List Value).toArray } } :=
    I2.laid (t' := s2.toks) (fun b u e => Heap.get?_push_of_some _ e) (Nat.le_refl _) ⟨by simp, [], 0, .nil, Heap.get?_push_size _ rfl⟩
  have st3 : tn 0 (s2.heap.push { cls := .type "list", dict := none, data := .seq ([] : List Value).toArray }) := T.keep _ _ _ st2 fun b _ o e => Heap.get?_push_of_some _ e
  generalize hH3 : s2.heap.push { cls := .type "list", dict := none, data := .seq ([] : List Value).toArray } = h3 at hns₁ hsb₁ hsz I3 st3 ⊢
  generalize hHH : upd H2 s2.heap.objs.size (.lst []) = H3 at I3 w0
  have hlt3 : ∀ b ∈ fp, b < h3.objs.size := fun b hb => by rw [hsz]; exact Nat.lt_succ_of_lt (hfpl b hb)
  have f3 : ∀ b ∈ fp, FpOk X pins H3 b := fun b hb => ⟨by rw [← hHH, upd_ne (Nat.ne_of_lt (hfpl b hb))]; exact (f2 b hb).1, (f2 b hb).2⟩
  have keep : ∀ b o, h3.get? b = some o → h₁.get? b = some o := fun b o e => hsb₁.extBut b o (Nat.ne_of_lt (Heap.lt_size e)) (Heap.get?_push_of_some _ e)
  have I4 := comp_start (s3 := { s2 with heap := h3 }) (tk := s2.toks + ([] : List (Str × Value)).length) ok I3 f3 hlt3 hns₁ keep
  have st4 : tn 0 h₁ := T.keep _ _ _ st3 fun b _ o e => keep b o e
  generalize hX' : cxComp X scope (captFrom X.env scope.names []) (compN X x caps) ({ s2 with heap := h3 } : Shared).heap.objs.size { s2 with heap := h3 } H3 fp = X' at I4
  have eA : X'.A = X.A := by rw [← hX'] <;> rfl
  have eP : X'.prog = X.prog := by rw [← hX'] <;> rfl
  have ew : X'.w = X.w := by rw [← hX'] <;> rfl
  have eK : X'.K = X.K := by rw [← hX'] <;> rfl
  have ee : X'.env = compEnvC scope (captFrom X.env scope.names []) h3.objs.size X.env := by rw [← hX'] <;> rfl
  have ex : X'.xe = fun _ _ => False := by rw [← hX'] <;> rfl
  have eN : X'.N = compN X x caps := by rw [← hX'] <;> rfl
  have ec : X'.calm = true := by rw [← hX']; exact hc
  have efs : X'.fs = frs X.stack := by rw [← hX'] <;> rfl
  have hT' : PTs X' ifs tt := by rw [← hX']; exact ht _ _ _ _ _
  have hE' : PE X' elt te := by rw [← hX']; exact he _ _ _ _ _
  have leave : ∀ {σ' : St} {H' : Hp} {s' : Shared}, Inv X' [] σ' H' s' → Q (.ref s2.heap.objs.size) H' → compPost (model X.prog X.w) X.A X.xe use QQ (.ref s2.heap.objs.size) h3.objs.size (.ok .next) s' := fun {σ' H' s'} J q => by
    have un : Un (frs X.stack) fp H3 H' h3 s'.heap := by have z := J.base; rw [← hX'] at z; exact z
    have hos : s'.os = s2.os := by have z := J.os; rw [← hX'] at z; exact z
    have hk : HOk X.prog X.w H' s'.heap := by have z := J.hok; rw [eP, ew] at z; exact z
    have Jx := I3.call' (s' := s') (ch := fp) hos un hk J.bare fun b hb => ⟨(f3 b hb).2.2.2.1, (f3 b hb).2.1, (f3 b hb).2.2.2.2.1, (f3 b hb).2.2.2.2.2⟩
    obtain ⟨m, hn, _⟩ := J.loc
    have hn' : s'.heap.Ns h3.objs.size m := by rw [ee] at hn; exact hn
    have hfr : H' h3.objs.size = none := by have z := J.free; rw [ee] at z; exact z
    exact fin _ _ H' s' m Jx q hn' (I3.fpOk (Nat.le_refl _) hfr)
  have stat : ∀ {H' : Hp}, (∀ b ∈ fp, H' b = none) → ∀ b ∈ fp, FpOk X' [] H' b := fun {H'} hn b hb => by
    refine ⟨hn b hb, ?_, ?_, .inl ?_, fun y c e => ?_, fun p hp => ?_⟩
    · rw [ee]; exact Nat.ne_of_lt (hlt3 b hb)
    · rw [efs]
      intro z
      rcases List.mem_cons.mp (I3.stkSub b z) with z | z
      · exact (f3 b hb).2.1 z
      · exact (f3 b hb).2.2.1 z
    · rw [← hX']; exact hb
    · have e' : (captFrom X.env scope.names []).lookup y = some c := by rw [ee] at e; exact e
      exact (f3 b hb).2.2.2.2.1 y c (capt_sub hsome (fun _ _ q => by simp at q) e')
    · rw [← hX'] at hp
      exact absurd (show p ∈ ([] : List (Addr × Obj)) from hp) (by simp)
  have loop : ∀ s₃ : Shared, s₃ = { s2 with heap := h₁, toks := s2.toks + ([] : List (Str × Value)).length } →
      codeAny (model X.prog X.w) X.A (.compLoop (.ListComp elt [⟨.Name x px, iter, ifs, 0⟩] scope pos) 0 (.ref it) (.ref s2.heap.objs.size) (compEnvC scope (captFrom X.env scope.names []) h3.objs.size X.env))
        (compPost (model X.prog X.w) X.A X.xe use QQ (.ref s2.heap.objs.size) h3.objs.size) s₃ := by
    rintro s₃ rfl
    refine compLoop_any (fun n s' => ∃ i o H' ys, Inv X' [] (compS σ o caps) H' s' ∧ tn i s'.heap ∧ (∀ b ∈ fp, H' b = none) ∧ W i n ys H') ?_ m0 ⟨0, none, H3, [], I4, st4, fun b hb => (f3 b hb).1, w0⟩
    rintro n s' ⟨i, o, H', ys, J, st', fr', w'⟩
    obtain ⟨hDl, hlen, alt⟩ := turn i n ys H' w'
    rcases alt with ⟨stop, q⟩ | ⟨go, N, hN, step⟩
    · have z := T.done X' eP ew eK ec i [] s' _ H' (fun _ _ => False) J (stat fr') st' stop
      rw [eA] at z
      refine thn z fun r s4 ⟨hr, J4⟩ => ?_
      subst hr
      exact leave J4 q
    · have z := T.item X' eP ew eK ec i [] s' _ H' (fun _ _ => False) J (stat fr') st' go
      rw [eA] at z
      refine thn z fun r s4 ⟨u, hr, h4⟩ => ?_
      subst hr
      refine thn h4 fun _ s5 ⟨xv, H5, J5, r5, y5, st5, fr5⟩ => ?_
      have J5' := J5.pinned (stat fr5) (T.obj _ _ st5)
      have lx : (relabel scope X.env).names.lookup x = some .local := lookup_relabel_local ok.tgt
      have hg : PG X' (.Name x px) (gName 0) := pg_name (by rw [eN]; exact ok.nd) (by rw [eN] <;> rfl) (by rw [ee]; exact .inl lx) (by rw [ee]; exact .inr lx)
      have zg := hg _ s5 _ H5 xv u (fun σ6 H6 => σ6 = compS σ (some xv) caps ∧ H6 = H5) J5' r5 ⟨rfl, rfl⟩
      rw [eP, ew, eA, ee, ex] at zg
      refine thn zg fun _ s6 ⟨σ6, H6, J6, q6⟩ => ?_
      obtain ⟨e6, e6'⟩ := q6
      subst e6 e6'
      have zt := hT' _ s6 _ _ _ J6 (step xv _ y5)
      rw [eP, ew, eA, ee, ex] at zt
      refine thn zt fun b s7 ⟨H7, J7, q7⟩ => ?_
      have again : ∀ {H8 : Hp} {s8 : Shared} {ys' : List V}, Inv X' ([] ++ pinsAt fp s5.heap) (compS σ (some xv) caps) H8 s8 → N ys' H8 → ∃ m, m < n ∧ ∃ i o H' ys, Inv X' [] (compS σ o caps) H' s8 ∧ tn i s8.heap ∧ (∀ b ∈ fp, H' b = none) ∧ W i m ys H' := fun {H8 s8 ys'} J8 n8 => by
        obtain ⟨m', hm, w8⟩ := hN ys' H8 n8
        refine ⟨m', hm, i + 1, some xv, H8, ys', J8.unpinned, T.keep _ _ _ st5 fun b hb o e => (J8.pin (b, o) (List.mem_append_right _ (List.mem_append_right _ (mem_pinsAt hb e)))).1, fun b hb => ?_, w8⟩
        obtain ⟨o, e, d⟩ := T.obj _ _ st5 b hb
        exact (J8.pin (b, o) (List.mem_append_right _ (List.mem_append_right _ (mem_pinsAt hb e)))).2.1
      cases b with
      | false => exact again J7 q7
      | true =>
        have ze := hE' _ s7 _ H7 _ J7 q7
        rw [eP, ew, eA, ee, ex] at ze
        refine thn ze fun yv s8 ⟨y, H8, J8, r8, hD8, q8⟩ => ?_
        have za := mt_append (X := X') _ s8 _ H8 (.ref s2.heap.objs.size) [y] (.ref s2.heap.objs.size) [yv] (fun _ H9 => H9 = upd H8 s2.heap.objs.size (.lst (ys ++ [y]))) J8 rfl (.cons r8 .nil) ⟨_, ys, y, rfl, rfl, hD8, hlen, rfl⟩
        rw [eP, ew, eA, ex] at za
        refine thn za fun _ s9 ⟨_, H9, J9, _, q9⟩ => ?_
        subst q9
        exact again J9 q8
  exact codeAny_compStart_list (loop _ rfl) (T.self _ 0 _ _ _ st4 (loop _ rfl))
/-- [elt for x in iter (if ..)] as a value -/
theorem pe_comp {x : Str} {px pos : Pos} {iter elt : Expr} {ifs : List Expr} {scope : Scope} {wi : TI} {tt : TT} {te : TE} (caps : List Nat)
    (hc : X.calm = true) (ho : compOk X.env.scope scope x (compN X x caps) = true) (hi : PI X (.Name x px) iter wi)
    (ht : ∀ cl C s₀ H₀ ex, PTs (cxComp X scope cl (compN X x caps) C s₀ H₀ ex) ifs tt) (he : ∀ cl C s₀ H₀ ex, PE (cxComp X scope cl (compN X x caps) C s₀ H₀ ex) elt te)
    (hs : ∀ x, foldedSetIterable iter X.env x = pure x := by intro _; rfl) : PE X (.ListComp elt [⟨.Name x px, iter, ifs, 0⟩] scope pos) (tComp wi tt te caps) := by
  intro pins s σ H Q I h
  rw [eval_ListComp]
  refine comp_core (use := none) hc ho hi ht he hs I h fun D C H' s' m J q hn hf => ?_
  exact ⟨m, hn, fun h' sb => ⟨.ref D, H', J.turned (t' := s'.toks) (fun b o hb e => (sb.2 b hb).trans e) hf.1 hf.2.1 hf.2.2.2.1 hf.2.2.2.2.1 hf.2.2.2.2.2, rfl, q⟩⟩
/-- y = [elt for x in iter (if ..)], on one row -/
theorem ps_setc {i : Nat} {x y : Str} {px py pos spos : Pos} {iter elt : Expr} {ifs : List Expr} {scope : Scope} {wi : TI} {tt : TT} {te : TE} (caps : List Nat)
    (hN : X.N.Nodup) (hiy : X.N[i]? = some y) (hy : Loc X.env.scope y)
    (hc : X.calm = true) (ho : compOk X.env.scope scope x (compN X x caps) = true) (hi : PI X (.Name x px) iter wi)
    (ht : ∀ cl C s₀ H₀ ex, PTs (cxComp X scope cl (compN X x caps) C s₀ H₀ ex) ifs tt) (he : ∀ cl C s₀ H₀ ex, PE (cxComp X scope cl (compN X x caps) C s₀ H₀ ex) elt te)
    (hsw : swapsWith (.ListComp elt [⟨.Name x px, iter, ifs, 0⟩] scope pos) (some (.Name y py)) spos.line X.env = pure true := by rfl)
    (hs : ∀ x, foldedSetIterable iter X.env x = pure x := by intro _; rfl) (hf : X.fn y = true ∨ X.env.scope.names.lookup y = some .local := by first | exact .inl rfl | exact .inr rfl | assumption) :
    PS X (.Assign [.Name y py] (.ListComp elt [⟨.Name x px, iter, ifs, 0⟩] scope pos) spos) (tAsg (tComp wi tt te caps) (gName i)) := by
  intro pins s σ H D I h
  rw [exec_Assign_Name_used _ _ _ _ hsw]
  refine wpAny_bind (wpAny_standAt (wpAny_bind ?_))
  show wpAny _ X.A (do let _ ← comprehension (.ListComp elt [⟨.Name x px, iter, ifs, 0⟩] scope pos) scope X.env _ (newList []) false (eval iter X.env) (some (assign (.Name y py) X.env))) _ _ s
  refine wpAny_bind (wpAny_mono (comp_core (QQ := fun _ s' => SP X pins D .next s') (use := some (assign (.Name y py) X.env)) hc ho hi ht he hs I h fun D' C H' s' m J q hn hf' => ?_) (fun _ s' hq => wpAny_pure (wpAny_pure hq)) fun _ _ e => e)
  refine wpAny_assign_Name (store_ok2 (v := .ref D') J hN hiy hy rfl (fun s2 I2 hsb => ?_) hf)
  obtain ⟨a, sb, ha⟩ := hsb
  have hne : C ≠ a := by
    rcases ha with rfl | e
    · exact hf'.2.1
    · exact fun z => hf'.2.2.2.2.1 y a e z.symm
  exact ⟨m, hn.sameBut sb hne, fun h'' sb2 => ⟨_, H', I2.turned (t' := s2.toks) (fun b o hb e => (sb2.2 b hb).trans e) hf'.1 hf'.2.1 hf'.2.2.2.1 hf'.2.2.2.2.1 hf'.2.2.2.2.2, q⟩⟩
end
/-! ### the forms one uses: over a list that stays, a range, signs -/
section
variable {tt : TT} {te : TE} {caps : List Nat} {σ : St} {H1 : Hp} {Q : VK}
/-- n turns; at turn i the item at_ i -/
theorem comp_by {J : It} {D : Addr} (n : Nat) (hn : n < sizeLine) (at_ : Nat → V) (Pv : Nat → List V → Hp → Prop) (h0 : Pv 0 [] (upd H1 D (.lst [])))
    (hst : ∀ ys H, Pv n ys H → J.stop n H) (hgo : ∀ i ys H, Pv i ys H → i < n → J.go i H) (hy : ∀ i ys H x H', Pv i ys H → i < n → J.yld i H x H' → H' = H ∧ x = at_ i)
    (hD : ∀ i ys H, Pv i ys H → H D = some (.lst ys) ∧ ys.length ≤ i)
    (hs : ∀ i ys H, i < n → Pv i ys H → tt (compS σ (some (at_ i)) caps) H fun b H2 =>
      if b = true then te (compS σ (some (at_ i)) caps) H2 fun y H3 => H3 D = some (.lst ys) ∧ Pv (i + 1) (ys ++ [y]) (upd H3 D (.lst (ys ++ [y])))
      else Pv (i + 1) ys H2)
    (hd : ∀ ys H, Pv n ys H → Q (.ref D) H) : CompW tt te caps σ Q J H1 D := by
  refine ⟨fun i m ys H => m = n - i ∧ i ≤ n ∧ Pv i ys H, ⟨n, by simp, Nat.zero_le _, h0⟩, ?_⟩
  rintro i m ys H ⟨rfl, hi, p⟩
  obtain ⟨hDD, hl⟩ := hD i ys H p
  refine ⟨hDD, by omega, ?_⟩
  by_cases hlt : i < n
  · refine .inr ⟨hgo i ys H p hlt, Pv (i + 1), fun zs H' q => ⟨n - (i + 1), by omega, rfl, hlt, q⟩, fun x H' y => ?_⟩
    obtain ⟨e, e'⟩ := hy i ys H x H' p hlt y
    subst e e'
    exact hs i ys _ hlt p
  · have e : i = n := by omega
    subst e
    exact .inl ⟨hst ys H p, hd ys H p⟩
theorem comp_range {lo : Int} {n : Nat} {D : Addr} (hn : n < sizeLine) (Pv : Nat → List V → Hp → Prop) (h0 : Pv 0 [] (upd H1 D (.lst [])))
    (hD : ∀ i ys H, Pv i ys H → H D = some (.lst ys) ∧ ys.length ≤ i)
    (hs : ∀ i ys H, i < n → Pv i ys H → tt (compS σ (some (.int (lo + i))) caps) H fun b H2 =>
      if b = true then te (compS σ (some (.int (lo + i))) caps) H2 fun y H3 => H3 D = some (.lst ys) ∧ Pv (i + 1) (ys ++ [y]) (upd H3 D (.lst (ys ++ [y])))
      else Pv (i + 1) ys H2)
    (hd : ∀ ys H, Pv n ys H → Q (.ref D) H) : CompW tt te caps σ Q (Itr lo n) H1 D :=
  comp_by (J := Itr lo n) (Q := Q) (D := D) (H1 := H1) n hn (fun i => .int (lo + i)) Pv h0 (fun _ _ _ => Nat.le_refl _) (fun _ _ _ _ h => h) (fun _ _ _ _ _ _ _ y => y) hD hs hd
theorem comp_list {K : PySem.W.Frag} {a : Addr} {xs : List V} {D : Addr} (hn : xs.length < sizeLine) (Pv : Nat → List V → Hp → Prop) (h0 : Pv 0 [] (upd H1 D (.lst [])))
    (hl : ∀ i ys H, Pv i ys H → SqL K H a xs) (hD : ∀ i ys H, Pv i ys H → H D = some (.lst ys) ∧ ys.length ≤ i)
    (hs : ∀ i ys H, i < xs.length → Pv i ys H → tt (compS σ (some (xs.getD i .non)) caps) H fun b H2 =>
      if b = true then te (compS σ (some (xs.getD i .non)) caps) H2 fun y H3 => H3 D = some (.lst ys) ∧ Pv (i + 1) (ys ++ [y]) (upd H3 D (.lst (ys ++ [y])))
      else Pv (i + 1) ys H2)
    (hd : ∀ ys H, Pv xs.length ys H → Q (.ref D) H) : CompW tt te caps σ Q (Itl K a) H1 D :=
  comp_by (J := Itl K a) (Q := Q) (D := D) (H1 := H1) xs.length hn (fun i => xs.getD i .non) Pv h0 (fun ys H p => ⟨xs, hl _ ys H p, Nat.le_refl _⟩)
    (fun i ys H p h => ⟨xs, xs[i], hl i ys H p, by simp [h]⟩) (fun i ys H x H' p h y => ⟨y.1, by
      have z := y.2 xs (hl i ys H p)
      rw [List.getD_eq_getElem?_getD, z] <;> rfl⟩) hD hs hd
end
/-! ### the signs of a text -/
section
variable {X : Cx} {tg : Expr}
end
/-! ### join, all, isinstance -/
section
variable {X : Cx}
theorem strsAre_of {zs : List Str} : ∀ {us : List Value}, Vals (zs.map V.str) us → StrsAre us zs := by
  induction zs with
  | nil => intro us r; rw [List.map_nil] at r; cases r; exact .nil
  | cons z zs ih =>
    intro us r
    rw [List.map_cons] at r
    cases r with
    | cons r1 r2 =>
      obtain ⟨t, e⟩ := r1
      subst e
      exact .cons z t (ih r2)
def rJoin (K : PySem.W.Frag) : V → List V → Hp → VK → Prop := fun x vs H Q => ∃ sep l zs, x = .str sep ∧ vs = [.ref l] ∧ (SqL K H l (zs.map V.str) ∨ SqT K H l (zs.map V.str)) ∧ (zs.map (·.length)).sum + zs.length * sep.length ≤ 16777216 ∧ Q (.str (Txt.join sep zs)) H
theorem mt_join : MtR X "str.join" (rJoin X.K) := by
  intro pins s σ H x vs v us Q I rx rv h
  obtain ⟨sep, l, zs, rfl, rfl, hq, hz, q⟩ := h
  obtain ⟨t, rfl⟩ := rx
  obtain ⟨u, rfl, ru⟩ := vals1 rv
  cases ru
  rcases hq with hq | hq
  · obtain ⟨its, r', pl, _⟩ := I.list hq
    exact join_list (items := its.toArray) pl.isList (strsAre_of r') hz fun t' k => ⟨.str _, H, I.tok _, ⟨t', rfl⟩, q⟩
  · obtain ⟨its, r', pl, _⟩ := I.tuple hq
    exact join_tuple (items := its.toArray) pl (strsAre_of r') hz fun t' k => ⟨.str _, H, I.tok _, ⟨t', rfl⟩, q⟩
/-- isinstance(x, T), T a built-in name, where the type is T itself -/
theorem call_isinst : CallR X (.builtin "isinstance") (fun xs H Q => ∃ (x : V) (n : String) (t : Value) (b : Bool), xs = [x, .ty n] ∧ TyOf X.K H x t ∧ PySem.W.kitOne X.K t (.type n) = some b ∧ Q (.bl b) H) := by
  intro pins s σ H xs us Q I r h
  obtain ⟨x, n, t, b, rfl, ty, e, q⟩ := h
  obtain ⟨u, u2, rfl, rx, ru⟩ := vals2 r
  have e2 : u2 = Value.type n := ru
  subst e2
  exact isinst_ok I rx ty e fun tk => ⟨.bl b, H, I.tok _, rfl, q⟩
end
end L2
/-! MY OWN ADDITIONS, 2: slices of texts; data (texts, numbers, tuples of them) in the heap, and == of two of them. -/
namespace L2
open PySem PySem.Spec PyProof.Rows
section
variable {X : Cx}
def rSlS : V → Option Int → Option Int → Hp → VK → Prop := fun x lo hi H Q => ∃ z, x = .str z ∧ z.length ≤ sizeLine ∧ Q (.str (Txt.slice z lo hi)) H
theorem part_of {v : Value} {o : Option Int} (p : IsPart v o) : ∃ q : Option (Int × Tok), v = partValue q ∧ q.map (·.1) = o := by
  cases p with
  | none => exact ⟨none, rfl, rfl⟩
  | int i t => exact ⟨some (i, t), rfl, rfl⟩
theorem sl_str : SlR X rSlS := by
  intro pins s σ H x v vl vu lo hi sl Q I rx hs pl pu h
  obtain ⟨z, rfl, hz, q⟩ := h
  obtain ⟨t, rfl⟩ := rx
  obtain ⟨ql, rfl, el⟩ := part_of pl
  obtain ⟨qu, rfl, eu⟩ := part_of pu
  refine ⟨"str", _, F.slot_str_getitem.lookup, typeIs_str _ _ _, wpAny_getItem_str_slice (l := ql) (u := qu) (st := none) hs rfl ?_⟩
  have e : sliceMade z t ql qu none = if ((1 : Int) == 1 && (Builtin.Str.strSliceIndices lo hi 1 z.length).length == z.length) = true then .val (.str z t) else .str ⟨((Builtin.Str.strSliceIndices lo hi 1 z.length).filterMap (z.cps[·]?)).toArray⟩ := by
    unfold sliceMade slicePicked
    rw [el, eu]
    rfl
  rw [e]
  exact post_val_or_str ⟨Nat.le_trans (Txt.slice_le z lo hi) hz, fun t' k => ⟨.str (Txt.slice z lo hi), H, I.tok _, ⟨t', rfl⟩, q⟩⟩
theorem slice_to {z : Str} {j : Int} (h0 : 0 ≤ j) (h1 : j ≤ z.length) : (Txt.slice z none (some j)).cps.toList = z.cps.toList.take j.toNat := by
  have e := eq_of_beq (slice_closes_toL (x := z) h0 h1)
  rw [e]
  simp
theorem slice_mid {z : Str} {i j : Int} (h0 : 0 ≤ i) (h1 : i ≤ j) (h2 : j ≤ z.length) : (Txt.slice z (some i) (some j)).cps.toList = (z.cps.toList.drop i.toNat).take (j - i).toNat := by
  have e := eq_of_beq (slice_closesL (x := z) h0 h1 h2)
  rw [e]
end
/-! ### data -/
inductive Dt where
  | non | bl (b : Bool) | int (i : Int) | str (x : Str) | tup (ds : List Dt)
  deriving Inhabited
inductive IsD (K : PySem.W.Frag) (H : Hp) : Dt → V → Prop
  | non : IsD K H .non .non
  | bl (b : Bool) : IsD K H (.bl b) (.bl b)
  | int (i : Int) : IsD K H (.int i) (.int i)
  | str (x : Str) : IsD K H (.str x) (.str x)
  | tup {ds : List Dt} {xs : List V} {a : Addr} (h : SqT K H a xs) (l : ds.length = xs.length) (r : ∀ (i : Nat) (h1 : i < ds.length) (h2 : i < xs.length), IsD K H ds[i] xs[i]) : IsD K H (.tup ds) (.ref a)
mutual
def Dt.deep : Dt → Nat
  | .tup ds => Dt.deeps ds + 1
  | _ => 0
def Dt.deeps : List Dt → Nat
  | [] => 0
  | d :: r => max (Dt.deep d) (Dt.deeps r)
end
theorem deeps_get : ∀ {ds : List Dt} {i : Nat} (h : i < ds.length), (ds[i]).deep ≤ Dt.deeps ds
  | d :: r, 0, _ => by
    show d.deep ≤ max (Dt.deep d) (Dt.deeps r)
    omega
  | d :: r, i + 1, h => by
    have z := deeps_get (ds := r) (i := i) (by simpa using h)
    show (r[i]'(by simpa using h)).deep ≤ max (Dt.deep d) (Dt.deeps r)
    omega
/-! == of data, as Python answers -/
mutual
def eqD : Dt → Dt → Bool
  | .non, .non => true
  | .bl a, .bl b => a == b
  | .bl a, .int b => (if a then 1 else 0) == b
  | .int a, .bl b => a == (if b then 1 else 0)
  | .int a, .int b => a == b
  | .str a, .str b => a == b
  | .tup a, .tup b => eqDs a b
  | _, _ => false
def eqDs : List Dt → List Dt → Bool
  | [], [] => true
  | a :: r, b :: q => eqD a b && eqDs r q
  | _, _ => false
end
theorem eqDs_range : ∀ (a b : List Dt), ((List.range (min a.length b.length)).all (fun i => eqD (a.getD i .non) (b.getD i .non)) && a.length == b.length) = eqDs a b
  | [], [] => by unfold eqDs; rfl
  | [], b :: q => by unfold eqDs; simp
  | a :: r, [] => by unfold eqDs; simp
  | a :: r, b :: q => by
    have ih := eqDs_range r q
    rw [eqDs, ← ih]
    have e : min (a :: r).length (b :: q).length = min r.length q.length + 1 := by simp only [List.length_cons]; omega
    rw [e, List.range_succ_eq_map, List.all_cons, List.all_map]
    have e2 : ((a :: r).length == (b :: q).length) = (r.length == q.length) := by simp
    rw [e2, Bool.and_assoc]
    rfl
theorem isD_same {K : PySem.W.Frag} {H : Hp} {X : Cx} {pins : List (Addr × Obj)} {σ : St} {s : Shared} (I : Inv X pins σ H s) (hK : X.K = K) :
    ∀ (n : Nat) {d e : Dt} {x : V}, d.deep ≤ n → IsD K H d x → IsD K H e x → eqD d e = true := by
  subst hK
  intro n
  induction n with
  | zero =>
    intro d e x hd h1 h2
    cases h1 with
    | non => cases h2; rfl
    | bl a => cases h2; show (a == a) = true; exact beq_self_eq_true a
    | int a => cases h2; show (a == a) = true; exact beq_self_eq_true a
    | str a => cases h2; show (a == a) = true; exact beq_self_eq_true a
    | tup h l r => exact absurd hd (by simp [Dt.deep])
  | succ n ih =>
    intro d e x hd h1 h2
    cases h1 with
    | @tup ds xs a h l r =>
      cases h2 with
      | @tup es ys b h' l' r' =>
        have hx : xs = ys := I.tuple_inj h h'
        subst hx
        show eqDs ds es = true
        rw [← eqDs_range, Bool.and_eq_true, List.all_eq_true]
        refine ⟨fun j hj => ?_, by rw [l, l']; simp⟩
        have hj' := List.mem_range.mp hj
        have g1 : ds.getD j .non = ds[j]'(by omega) := by simp [List.getD_eq_getElem?_getD, (show j < ds.length by omega)]
        have g2 : es.getD j .non = es[j]'(by omega) := by simp [List.getD_eq_getElem?_getD, (show j < es.length by omega)]
        rw [g1, g2]
        refine ih ?_ (r j (by omega) (by omega)) (r' j (by omega) (by omega))
        have z := deeps_get (ds := ds) (i := j) (by omega)
        have hd' : Dt.deeps ds + 1 ≤ n + 1 := hd
        omega
    | non => exact ih (by simp [Dt.deep]) .non h2
    | bl a => exact ih (by simp [Dt.deep]) (.bl a) h2
    | int a => exact ih (by simp [Dt.deep]) (.int a) h2
    | str a => exact ih (by simp [Dt.deep]) (.str a) h2
theorem isD_eq {K : PySem.W.Frag} {H : Hp} {X : Cx} {pins : List (Addr × Obj)} {σ : St} {s : Shared} (I : Inv X pins σ H s) (hK : X.K = K) :
    ∀ (n : Nat) (A : Around) {d e : Dt} {x y : V} {u v : Value}, d.deep ≤ n → A.units + n < cLine → IsD K H d x → IsD K H e y → RelV x u → RelV y v → SeqAt.EqAt A s u v (eqD d e) := by
  subst hK
  intro n
  induction n with
  | zero =>
    intro A d e x y u v hd hu h1 h2 ru rv
    cases h1 with
    | non =>
      cases ru
      cases h2 with
      | non => cases rv; exact SeqAt.EqAt.same _
      | bl b => cases rv; exact SeqAt.EqAt.none_bool b
      | int b => obtain ⟨t, rfl⟩ := rv; exact SeqAt.EqAt.none_int b t
      | str b => obtain ⟨t, rfl⟩ := rv; exact SeqAt.EqAt.none_str b t
      | tup h l r => cases rv; obtain ⟨its, _, p, _⟩ := I.tuple h; exact SeqAt.EqAt.none_tuple p (by omega)
    | bl a =>
      cases ru
      cases h2 with
      | non => cases rv; exact SeqAt.EqAt.bool_none a
      | bl b => cases rv; exact SeqAt.EqAt.bool_bool a b
      | int b => obtain ⟨t, rfl⟩ := rv; exact SeqAt.EqAt.bool_int a b t
      | str b => obtain ⟨t, rfl⟩ := rv; exact SeqAt.EqAt.bool_str a b t
      | tup h l r => cases rv; obtain ⟨its, _, p, _⟩ := I.tuple h; exact SeqAt.EqAt.bool_tuple a p (by omega)
    | int a =>
      obtain ⟨t', rfl⟩ := ru
      cases h2 with
      | non => cases rv; exact SeqAt.EqAt.int_none a t'
      | bl b => cases rv; exact SeqAt.EqAt.int_bool a t' b
      | int b => obtain ⟨t, rfl⟩ := rv; exact SeqAt.EqAt.int_int a t' b t
      | str b => obtain ⟨t, rfl⟩ := rv; exact SeqAt.EqAt.int_str a t' b t
      | tup h l r => cases rv; obtain ⟨its, _, p, _⟩ := I.tuple h; exact SeqAt.EqAt.int_tuple a t' p (by omega)
    | str a =>
      obtain ⟨t', rfl⟩ := ru
      cases h2 with
      | non => cases rv; exact SeqAt.EqAt.str_none a t'
      | bl b => cases rv; exact SeqAt.EqAt.str_bool a t' b
      | int b => obtain ⟨t, rfl⟩ := rv; exact SeqAt.EqAt.str_int a t' b t
      | str b => obtain ⟨t, rfl⟩ := rv; exact SeqAt.EqAt.str_str a t' b t
      | tup h l r => cases rv; obtain ⟨its, _, p, _⟩ := I.tuple h; exact SeqAt.EqAt.str_tuple a t' p (by omega)
    | tup h l r => exact absurd hd (by simp [Dt.deep])
  | succ n ih =>
    intro A d e x y u v hd hu h1 h2 ru rv
    cases h1 with
    | @tup ds xs a h l r =>
      cases ru
      obtain ⟨its, r1, p1, _⟩ := I.tuple h
      cases h2 with
      | non => cases rv; exact SeqAt.EqAt.tuple_none p1 (by omega)
      | bl b => cases rv; exact SeqAt.EqAt.tuple_bool b p1 (by omega)
      | int b => obtain ⟨t, rfl⟩ := rv; exact SeqAt.EqAt.tuple_int b t p1 (by omega)
      | str b => obtain ⟨t, rfl⟩ := rv; exact SeqAt.EqAt.tuple_str b t p1 (by omega)
      | @tup es ys b h' l' r' =>
        cases rv
        obtain ⟨its2, r2, p2, _⟩ := I.tuple h'
        have len1 := r1.length
        have len2 := r2.length
        have key : SeqAt.RcAt A s (.ref a) (.ref b) ((List.range (min its.toArray.size its2.toArray.size)).all (fun i => eqD (ds.getD i .non) (es.getD i .non)) && its.toArray.size == its2.toArray.size) := by
          refine SeqAt.RcAt.tuples p1 p2 (by omega) fun j j1 j2 => ?_
          have j1' : j < its.length := by simpa using j1
          have j2' : j < its2.length := by simpa using j2
          have hx := r j (by omega) (by omega)
          have hy := r' j (by omega) (by omega)
          obtain ⟨u1, e1, q1⟩ := r1.get (i := j) (x := xs[j]) (by simp)
          obtain ⟨u2, e2, q2⟩ := r2.get (i := j) (x := ys[j]) (by simp)
          have c1 : its.toArray[j] = u1 := by
            have z := List.getElem?_eq_some_iff.mp e1
            simpa using z.2
          have c2 : its2.toArray[j] = u2 := by
            have z := List.getElem?_eq_some_iff.mp e2
            simpa using z.2
          rw [c1, c2]
          have g1 : ds.getD j .non = ds[j] := by simp [List.getD_eq_getElem?_getD, (show j < ds.length by omega)]
          have g2 : es.getD j .non = es[j] := by simp [List.getD_eq_getElem?_getD, (show j < es.length by omega)]
          rw [g1, g2]
          refine ih A.in1 ?_ (by show A.units + 1 + n < cLine; omega) hx hy q1 q2
          have z := deeps_get (ds := ds) (i := j) (by omega)
          have hd' : Dt.deeps ds + 1 ≤ n + 1 := hd
          omega
        have e0 : ((List.range (min its.toArray.size its2.toArray.size)).all (fun i => eqD (ds.getD i .non) (es.getD i .non)) && its.toArray.size == its2.toArray.size) = eqD (.tup ds) (.tup es) := by
          rw [List.size_toArray, List.size_toArray, ← len1, ← len2, ← l, ← l']
          rw [eqDs_range]
          rfl
        rw [e0] at key
        by_cases hab : a = b
        · subst hab
          have hx : xs = ys := I.tuple_inj h h'
          subst hx
          have ed : eqD (.tup ds) (.tup es) = true := isD_same I rfl (n + 1) hd (.tup h l r) (.tup h' l' r')
          rw [ed]
          exact SeqAt.EqAt.same _
        · exact SeqAt.EqAt.of_refs hab key
    | non => exact ih A (by simp [Dt.deep]) (by omega) .non h2 ru rv
    | bl a => exact ih A (by simp [Dt.deep]) (by omega) (.bl a) h2 ru rv
    | int a => exact ih A (by simp [Dt.deep]) (by omega) (.int a) h2 ru rv
    | str a => exact ih A (by simp [Dt.deep]) (by omega) (.str a) h2 ru rv
/-- two data compared -/
def rEqD (K : PySem.W.Frag) : R2 := fun x y H Q => ∃ d e, IsD K H d x ∧ IsD K H e y ∧ d.deep ≤ 20 ∧ (∃ ds, d = .tup ds) ∧ (∃ es, e = .tup es) ∧ Q (.bl (eqD d e)) H
theorem op_eqD {X : Cx} (hu : X.A.units + 64 < cLine) : OpR X (compareOp .Eq) (rEqD X.K) := by
  intro pins s σ H x y v u Q I rx ry h
  obtain ⟨d, e, h1, h2, hd, ⟨ds, rfl⟩, ⟨es, rfl⟩, q⟩ := h
  cases h1 with
  | @tup _ xs a g1 l1 r1 =>
    cases h2 with
    | @tup _ ys b g2 l2 r2 =>
      cases rx
      cases ry
      obtain ⟨its, rv1, p1, _⟩ := I.tuple g1
      obtain ⟨its2, rv2, p2, _⟩ := I.tuple g2
      have len1 := rv1.length
      have len2 := rv2.length
      refine SeqAt.eq_tupleAt (e := fun i => eqD (ds.getD i .non) (es.getD i .non)) p1 p2 (by omega) (fun j j1 j2 => ?_) ?_
      · have j1' : j < its.length := by simpa using j1
        have j2' : j < its2.length := by simpa using j2
        obtain ⟨u1, e1, q1⟩ := rv1.get (i := j) (x := xs[j]) (by simp)
        obtain ⟨u2, e2, q2⟩ := rv2.get (i := j) (x := ys[j]) (by simp)
        have c1 : its.toArray[j] = u1 := by
          have z := List.getElem?_eq_some_iff.mp e1
          simpa using z.2
        have c2 : its2.toArray[j] = u2 := by
          have z := List.getElem?_eq_some_iff.mp e2
          simpa using z.2
        rw [c1, c2]
        have g1 : ds.getD j .non = ds[j] := by simp [List.getD_eq_getElem?_getD, (show j < ds.length by omega)]
        have g2 : es.getD j .non = es[j] := by simp [List.getD_eq_getElem?_getD, (show j < es.length by omega)]
        rw [g1, g2]
        refine isD_eq I rfl 20 X.A.in1 ?_ (by show X.A.units + 1 + 20 < cLine; omega) (r1 j (by omega) (by omega)) (r2 j (by omega) (by omega)) q1 q2
        have z := deeps_get (ds := ds) (i := j) (by omega)
        have hd' : Dt.deeps ds + 1 ≤ 20 := hd
        omega
      · refine ⟨.bl _, H, I, rfl, ?_⟩
        rw [List.size_toArray, List.size_toArray, ← len1, ← len2, ← l1, ← l2, eqDs_range]
        exact q
/-- data stay data while the heap grows -/
theorem IsD.mono {K : PySem.W.Frag} {H H' : Hp} (e : ∀ a xs, SqT K H a xs → SqT K H' a xs) {d : Dt} {x : V} (h : IsD K H d x) : IsD K H' d x := by
  induction h with
  | non => exact .non
  | bl b => exact .bl b
  | int i => exact .int i
  | str z => exact .str z
  | tup h l r ih => exact .tup (e _ _ h) l ih
theorem SqT.same {K : PySem.W.Frag} {H H' : Hp} (e : Same H H') {a : Addr} {xs : List V} (h : SqT K H a xs) : SqT K H' a xs := by
  rcases h with (h | ⟨o, h⟩) | h
  · exact .inl (.inl (e _ _ h))
  · exact .inl (.inr ⟨o, e _ _ h⟩)
  · exact .inr h
theorem IsD.same {K : PySem.W.Frag} {H H' : Hp} (e : Same H H') {d : Dt} {x : V} (h : IsD K H d x) : IsD K H' d x := h.mono fun _ _ q => q.same e
end L2
/-! MY OWN ADDITIONS, 3: exceptions of the program's own classes: raised, passed on by calls, caught. -/
namespace L2
open PySem PySem.Spec PyProof.Rows
/-! ### how an exception flies -/
structure Fly (P : Program) (w : World) (outer : List Env) (H : Hp) (s : Shared) (x : Addr) (cls : Value) (H' : Hp) (s' : Shared) : Prop where
  os : s'.os = s.os
  bare : AllBare s'.gens
  ex : ∃ (B : Heap) (a0 : Value), Heap.FlyingW B outer x cls a0 s'.heap ∧ HOk P w H' B ∧ (∀ b o, s.heap.get? b = some o → H b = none → b ∉ frs outer → B.get? b = some o) ∧
    (∀ b o, s.heap.get? b = some o → b ∉ frs outer → ∃ o', B.get? b = some o')
  slot : ∀ b o, s.heap.get? b = some o → H b = none → b ∈ frs outer → ∃ sl, s'.heap.get? b = some { o with slots := sl }
  free : ∀ b o, s.heap.get? b = some o → H b = none → H' b = none
  tups : ∀ b xs, H b = some (.tup xs) → H' b = some (.tup xs)
  frzs : ∀ b o u, H b = some (.frz o u) → H' b = some (.frz o u)
  tbls : ∀ b ps, H b = some (.tbl ps) → ∃ more, H' b = some (.tbl (ps ++ more))
def CXE (P : Program) (w : World) : CXT := fun outer H s E e s' => ∃ (x : Addr) (cls : Value) (H' : Hp), e = .ref x ∧ Fly P w outer H s x cls H' s' ∧ E cls none H'
section
variable {P : Program} {w : World} {K : PySem.W.Frag} {mg : Str → Option Value} {base : Heap} {N : List Str} {qual : Str} {scope : Scope} {f : Addr} {cd : Value} {A : Around} {outer : List Env} {s₀ : Shared} {H₀ : Hp} {E : XK}
abbrev cxE (P : Program) (w : World) (K : PySem.W.Frag) (mg : Str → Option Value) (base : Heap) (N : List Str) (qual : Str) (scope : Scope) (f : Addr) (cd : Value) (A : Around) (outer : List Env) (s : Shared) (H : Hp) (E : XK) : Cx :=
  cxOf (CXE P w) P w K mg base N qual scope f cd A outer s H E
theorem frs_cons (env : Env) (l : List Env) {a : Addr} (h : env.frame = some a) : frs (env :: l) = a :: frs l := by
  unfold frs
  rw [List.filterMap_cons, h]
/-- objects with a frame's shape keep their data -/
theorem slots_of {h h' : Heap} {l : List Env} {B : Heap} (sm : h.UpToSlots h') (fl : h.FunFrames B l) {b : Addr} {o : Obj} (hb : b ∈ frs l) (e : h.get? b = some o) : ∃ sl, h'.get? b = some { o with slots := sl } := by
  obtain ⟨_, o', e', hd⟩ := fl.mem hb
  rw [e] at e'
  cases e'
  exact sm b o e hd
/-- an exception of a callee leaves this body too -/
theorem passE : Passes (CXE P w) (cxE P w K mg base N qual scope f cd A outer s₀ H₀ E) E := by
  intro pins σ H s e s' I h
  obtain ⟨x, cls, H', rfl, F, hE⟩ := h
  obtain ⟨B, a0, fl, hok, kp, th⟩ := F.ex
  have hfr : (cxE P w K mg base N qual scope f cd A outer s₀ H₀ E).env.frame = some s₀.heap.objs.size := rfl
  have st : frs (cxE P w K mg base N qual scope f cd A outer s₀ H₀ E).stack = s₀.heap.objs.size :: frs outer := frs_cons _ _ hfr
  have old : ∀ b o, s₀.heap.get? b = some o → b ∉ frs outer → b ∉ frs (cxE P w K mg base N qual scope f cd A outer s₀ H₀ E).stack := fun b o q hb hm => by
    rw [st] at hm
    rcases List.mem_cons.mp hm with z | z
    · exact Nat.ne_of_lt (Heap.lt_size q) z
    · exact hb z
  refine wpAny_leaves_onW (L := s₀.heap.objs.size) I.ok.frames hfr fl fun h1 fl1 sm1 => ?_
  refine ⟨x, cls, H', rfl, ⟨F.os.trans I.os, F.bare, ⟨B, a0, fl1, hok, fun b o q n hb => ?_, fun b o q hb => ?_⟩, fun b o q n hb => ?_, fun b o q n => ?_, fun b xs q => F.tups b xs (I.base.tups b xs q), fun b o u q => F.frzs b o u (I.base.frzs b o u q), fun b ps q => ?_⟩, hE⟩
  · exact kp b o (I.base.keep b o q n hb (by intro z; cases z)) (I.base.free b o q n (by intro z; cases z)) (old b o q hb)
  · obtain ⟨o', q'⟩ := I.base.there b o q (by intro z; cases z)
    exact th b o' q' (old b o q hb)
  · obtain ⟨sl, q1⟩ := I.base.slot b o q n hb (by intro z; cases z)
    obtain ⟨sl2, q2⟩ := F.slot b _ q1 (I.base.free b o q n (by intro z; cases z)) (by rw [st]; exact List.mem_cons_of_mem _ hb)
    obtain ⟨sl3, q3⟩ := slots_of (l := (cxE P w K mg base N qual scope f cd A outer s₀ H₀ E).stack) sm1 fl.2.2.1 (by rw [st]; exact List.mem_cons_of_mem _ hb) q2
    exact ⟨sl3, q3⟩
  · obtain ⟨o', q'⟩ := I.base.there b o q (by intro z; cases z)
    exact F.free b o' q' (I.base.free b o q n (by intro z; cases z))
  · obtain ⟨m1, e1⟩ := I.base.tbls b ps q
    obtain ⟨m2, e2⟩ := F.tbls b _ e1
    exact ⟨m1 ++ m2, by rw [e2, Array.append_assoc]⟩
/-- an exception that was just made leaves this body -/
theorem made_leaves {pins : List (Addr × Obj)} {σ : St} {H : Hp} {s : Shared} {h1 : Heap} {e : Addr} {cls : Value} {vs : List Value} (I : Inv (cxE P w K mg base N qual scope f cd A outer s₀ H₀ E) pins σ H s) (hx : Heap.MadeExcOf s.heap h1 e cls vs) (hE : E cls none H) :
    (cxE P w K mg base N qual scope f cd A outer s₀ H₀ E).xe (.ref e) { s with heap := h1 } := by
  have hfr : (cxE P w K mg base N qual scope f cd A outer s₀ H₀ E).env.frame = some s₀.heap.objs.size := rfl
  have st : frs (cxE P w K mg base N qual scope f cd A outer s₀ H₀ E).stack = s₀.heap.objs.size :: frs outer := frs_cons _ _ hfr
  have old : ∀ b o, s₀.heap.get? b = some o → b ∉ frs outer → b ∉ frs (cxE P w K mg base N qual scope f cd A outer s₀ H₀ E).stack := fun b o q hb hm => by
    rw [st] at hm
    rcases List.mem_cons.mp hm with z | z
    · exact Nat.ne_of_lt (Heap.lt_size q) z
    · exact hb z
  have hin : ∀ env ∈ (cxE P w K mg base N qual scope f cd A outer s₀ H₀ E).stack, ∀ b, env.frame = some b → b ∈ frs (cxE P w K mg base N qual scope f cd A outer s₀ H₀ E).stack := fun env he b hb => List.mem_filterMap.mpr ⟨env, he, hb⟩
  have hB : (PySem.W.hideAll s.heap (frs (cxE P w K mg base N qual scope f cd A outer s₀ H₀ E).stack)).StaysIn s.heap := fun b o q => PySem.W.of_hideAll _ q
  have get : ∀ b o, s.heap.get? b = some o → b ∉ frs (cxE P w K mg base N qual scope f cd A outer s₀ H₀ E).stack → (PySem.W.hideAll s.heap (frs (cxE P w K mg base N qual scope f cd A outer s₀ H₀ E).stack)).get? b = some o := fun b o q hb => PySem.W.hideAll_get _ q hb
  refine wpAny_leaves_madeW (base := PySem.W.hideAll s.heap (frs (cxE P w K mg base N qual scope f cd A outer s₀ H₀ E).stack)) (h := s.heap) (L := s₀.heap.objs.size) I.ok.frames hfr hB (PySem.W.funFrames_hide I.stack hin) hx fun h2 t fl ht hn sm => ?_
  have hok : HOk P w H (PySem.W.hideAll s.heap (frs (cxE P w K mg base N qual scope f cd A outer s₀ H₀ E).stack)) := fun b o q => by
    refine (I.hok b o q).stay (fun c u hc r => get c u r fun hm => ?_) (fun _ r => r) fun _ _ r => r
    have z := I.stkFree c hm
    rcases hc with rfl | hc
    · rw [q] at z; cases z
    · rw [hc] at z; cases z
  refine ⟨e, cls, H, rfl, ⟨I.os, I.bare, ⟨_, _, fl, hok, fun b o q n hb => ?_, fun b o q hb => ?_⟩, fun b o q n hb => ?_, fun b o q n => I.base.free b o q n (by intro z; cases z), I.base.tups, I.base.frzs, I.base.tbls⟩, hE⟩
  · exact get b o (I.base.keep b o q n hb (by intro z; cases z)) (old b o q hb)
  · obtain ⟨o', q'⟩ := I.base.there b o q (by intro z; cases z)
    exact ⟨o', get b o' q' (old b o q hb)⟩
  · obtain ⟨sl, q1⟩ := I.base.slot b o q n hb (by intro z; cases z)
    have q2 := hx.keeps b _ q1
    have hbs : b ∈ frs (cxE P w K mg base N qual scope f cd A outer s₀ H₀ E).stack := by rw [st]; exact List.mem_cons_of_mem _ hb
    obtain ⟨_, o3, e3, hd⟩ := I.stack.mem hbs
    rw [q1] at e3
    cases e3
    obtain ⟨sl3, q3⟩ := sm b _ q2 hd
    exact ⟨sl3, q3⟩
end
/-! ### an own exception class, by the fragment -/
theorem exc_at {K : PySem.W.Frag} {h : Heap} {C : Addr} {bmB : List Value} {newId : String} (X : K.In h) (q : PySem.W.excIn K C bmB newId = true) :
    ∃ (bm : List Value) (Nn : Addr) (n1 n2 : Str) (bs : List Value) (hd : Bool) (sn : List Str) (sub : List Value) (ab : Bool) (col : Option Bool) (dd : Option Addr) (k0 k1 k2 k3 k5 : Option Value) (mN : Str → Option Value),
      h.get? C = some (excClassObj n1 n2 C Nn bs bm hd sn sub ab col dd k0 k1 k2 k3 k5 newId) ∧ h.Ns Nn mN ∧ mN "__init__" = none ∧ OwnTail h bmB bm := by
  unfold PySem.W.excIn at q
  split at q
  · rename_i dd cdat sl look
    split at q
    · rename_i C1 bm k0 k1 k2 k3 nn k5 emro esl
      simp only [Bool.and_eq_true, beq_iff_eq, Bool.not_eq_true'] at q
      obtain ⟨⟨⟨⟨⟨q1, q2⟩, q3⟩, q4⟩, q5⟩, q6⟩ := q
      subst q1
      subst q2
      obtain ⟨c1, c2, c3, c4, c5, c6, c7, c8, c9, c10, c11⟩ := cdat
      dsimp only at emro q3 q5 q6
      subst emro
      subst q3
      obtain ⟨sll⟩ := sl
      have es : sll = [k0, k1, k2, k3, some (.builtin nn), k5] := esl
      subst es
      exact ⟨bm, c4, c1, c5, c2, c6, c7, c8, c9, c10, dd, k0, k1, k2, k3, k5, _, X _ _ look, .of_isNs (PySem.W.isNs_of_in X q5), PySem.W.nsMap_none_of_in X q5 q6, PySem.W.tail_of_in X q4⟩
    · cases q
  · cases q
abbrev bmV : List Value := [.type "ValueError", .type "Exception", .type "BaseException", .type "object"]
abbrev newV : String := "ValueError.__new__"
section
variable {P : Program} {w : World} {K : PySem.W.Frag} {mg : Str → Option Value} {base : Heap} {N : List Str} {qual : Str} {scope : Scope} {f : Addr} {cd : Value} {A : Around} {outer : List Env} {s₀ : Shared} {H₀ : Hp} {E : XK}
/-- raise C(..): an own class under ValueError -/
def tRaise (C : Addr) (E : XK) (ta : TA) : TS := fun _ σ H => ta σ H fun vs H1 => vs.length ≤ sizeLine ∧ E (.ref C) none H1
theorem ps_raise {C : Addr} {x : Str} {np cpos pos : Pos} {e : Expr} {es : List Expr} {t : TA} (ex : PySem.W.excIn K C bmV newV = true) (hm : mg x = some (.ref C)) (hg : Gl (cxE P w K mg base N qual scope f cd A outer s₀ H₀ E) x)
    (ha : PA (cxE P w K mg base N qual scope f cd A outer s₀ H₀ E) (e :: es) t) (hdb : (x == ("__debug__" : Str)) = false := by decide)
    (he : starEach (e :: es) (cxE P w K mg base N qual scope f cd A outer s₀ H₀ E).env = (false, eval e (cxE P w K mg base N qual scope f cd A outer s₀ H₀ E).env) :: starEach es (cxE P w K mg base N qual scope f cd A outer s₀ H₀ E).env := by rfl)
    (hpl : (backTo cpos (starEach es (cxE P w K mg base N qual scope f cd A outer s₀ H₀ E).env)).any (·.1) = false := by rfl) :
    PS (cxE P w K mg base N qual scope f cd A outer s₀ H₀ E) (.Raise (some (.Call (.Name x np) (e :: es) [] cpos)) none pos) (tRaise C E t) := by
  intro pins s σ H D I h
  obtain ⟨bm, Nn, n1, n2, bs, hd, sn, sub, ab, col, dd, k0, k1, k2, k3, k5, mN, gC, gN, gi, gT⟩ := exc_at I.mod.kin ex
  refine wpAny_Raise_call_subU (C := C) (nm := n1) (q := n2) (N := Nn) (bs := bs) (bm := bm) (hdct := hd) (sn := sn) (sub := sub) (ab := ab) (col := col) (dd := dd) (k0 := k0) (k1 := k1) (k2 := k2) (k3 := k3) (k5 := k5) (mN := mN)
    PySem.F.excBase_ValueError (by decide +kernel) PySem.F.excBase_ValueError (gT.hasType (by decide +kernel)) (I.ok.hd rfl) (by rw [he]; show (false || (backTo cpos (starEach es (cxE P w K mg base N qual scope f cd A outer s₀ H₀ E).env)).any (·.1)) = false; rw [hpl]; rfl) gi (ld_glob I hg hm ⟨rfl, ?_⟩ hdb)
  have hA := ha cpos pins s σ H _ I h
  rw [he] at hA ⊢
  refine Calls.evalArgs_plain (thn hA fun us s2 ⟨vs, H2, I2, r2, hz, q2⟩ => ⟨rfl, ?_, I2.bk _ _ gC, gN.keeps I2.bk, gT.keeps I2.bk, fun h' x' hx => made_leaves I2 hx q2⟩)
  show us.length ≤ sizeLine
  rw [← r2.length]
  exact hz
/-- THE RULE for a def that may raise -/
theorem Fun.okE {x qual : Str} {st : Stmt} {f : Addr} {fd : FuncData} {N ps : List Str} {k : Nat} {sp : Sp} (F : Fun K x qual st f fd) (S : FnScope N ps (defScope st)) (len : ∀ vs H Q E, sp vs H Q E → vs.length = ps.length)
    (hbody : ∀ (cdv : Value) (A : Around) (outer : List Env) (s : Shared) (H : Hp) (vs : List V) (Q : VK) (E : XK), Room k (A.deeper (envOfC qual (defScope st) s.heap.objs.size f cdv)) → sp vs H Q E →
      ∃ t, PSs (cxE P w K mg base N qual (defScope st) f cdv A outer s H E) (defBody st) t ∧ t { nx := fun _ H' => Q .non H', rt := Q } (start N vs) H) : FnOk P w K mg base (CXE P w) (k + 1) f fd ps sp := by
  obtain ⟨oc, od, kV, doc, pm, an, cdv, ct, osl, rfl, lk, hcd⟩ := F.ex
  refine fn_of lk hcd S len fun A outer s H vs Q E hr hsp => ?_
  exact hbody cdv A outer s H vs Q E hr hsp
theorem passLoop : PassesOwn (model P w) (cxE P w K mg base N qual scope f cd A outer s₀ H₀ E).A (cxE P w K mg base N qual scope f cd A outer s₀ H₀ E).env (cxE P w K mg base N qual scope f cd A outer s₀ H₀ E).xe := by
  intro e s' h
  have z := PassesOwn.leaving (M := model P w) (A := (cxE P w K mg base N qual scope f cd A outer s₀ H₀ E).A) (env := (cxE P w K mg base N qual scope f cd A outer s₀ H₀ E).env) (Q₁ := fun e s'' => CXE P w outer H₀ s₀ E e s'') (E₁ := fun e' s'' => CXE P w outer H₀ s₀ E e' s'')
  exact z e s' h
end
/-! ### try .. except of own classes -/
/-- where an exception lands again in this frame -/
theorem Inv.land {X : Cx} {pins pins' : List (Addr × Obj)} {σ : St} {H H' : Hp} {s s' : Shared} {h6 : Heap} {x : Addr} {cls : Value} (I : Inv X pins' σ H s) (hp : ∀ p ∈ pins, p ∈ X.pn ++ pins') (hex : X.ex = []) (hfn : ∀ y, X.fn y = true)
    (hst : X.stack = X.env :: X.outer ∧ X.env.frame = some X.env.locals) (F : Fly X.prog X.w X.stack H s x cls H' s') {B : Heap} {a0 : Value} (fl : Heap.FlyingW B X.stack x cls a0 s'.heap) (hok : HOk X.prog X.w H' B)
    (kp : ∀ b o, s.heap.get? b = some o → H b = none → b ∉ frs X.stack → B.get? b = some o) (th : ∀ b o, s.heap.get? b = some o → b ∉ frs X.stack → ∃ o', B.get? b = some o') (sm : s'.heap.UpToSlots h6) (hB : B.StaysIn h6) :
    Inv X pins σ H' { s' with heap := h6 } := by
  have hfrs : frs X.stack = X.env.locals :: X.fs := by rw [hst.1]; exact frs_cons _ _ hst.2
  have nex : ∀ b : Addr, b ∉ X.ex := fun b z => by rw [hex] at z; cases z
  have nst : ∀ b, b ≠ X.env.locals → b ∉ X.fs → b ∉ frs X.stack := fun b h1 h2 hm => by
    rw [hfrs] at hm
    rcases List.mem_cons.mp hm with z | z
    · exact h1 z
    · exact h2 z
  have neL : ∀ b o, X.s₀.heap.get? b = some o → b ≠ X.env.locals := fun b o e => Nat.ne_of_lt (Nat.lt_of_lt_of_le (Heap.lt_size e) I.ok.above)
  have cnf : ∀ y c, X.env.cells.lookup y = some c → c ∉ X.fs := fun y c e hm => by
    obtain ⟨_, o, ho, _⟩ := I.ok.funs.mem hm
    exact absurd (Nat.lt_of_lt_of_le (Heap.lt_size ho) (I.ok.cab y c (hfn y) e)) (Nat.lt_irrefl _)
  have cellK : ∀ y c v, X.env.cells.lookup y = some c → s.heap.IsCell c v → h6.IsCell c v := fun y c v e ⟨o, ho, hd⟩ => ⟨o, hB _ _ (kp c o ho (I.freeC y c e) (nst c (I.cne y c e) (cnf y c e))), hd⟩
  refine ⟨I.ok, F.os.trans I.os, F.bare, ⟨fun b o e n hb hx => ?_, fun b o e n hb hx => ?_, fun b o e n hx => ?_, fun b o e hx => ?_, fun b xs e => F.tups b xs (I.base.tups b xs e), fun b o u e => F.frzs b o u (I.base.frzs b o u e), fun b ps e => ?_⟩, ?_, fun y c e => ?_, ?_, fun y c e => ?_, fun p hpm => ?_, hok.kept hB, I.len⟩
  · exact hB _ _ (kp b o (I.base.keep b o e n hb hx) (I.base.free b o e n hx) (nst b (neL b o e) hb))
  · obtain ⟨sl, e1⟩ := I.base.slot b o e n hb hx
    have hm : b ∈ frs X.stack := by rw [hfrs]; exact List.mem_cons_of_mem _ hb
    obtain ⟨sl2, e2⟩ := F.slot b _ e1 (I.base.free b o e n hx) hm
    obtain ⟨sl3, e3⟩ := slots_of sm fl.2.2.1 hm e2
    exact ⟨sl3, e3⟩
  · obtain ⟨o', e1⟩ := I.base.there b o e hx
    exact F.free b o' e1 (I.base.free b o e n hx)
  · obtain ⟨o', e1⟩ := I.base.there b o e hx
    by_cases hb : b ∈ X.fs
    · have hm : b ∈ frs X.stack := by rw [hfrs]; exact List.mem_cons_of_mem _ hb
      obtain ⟨_, o2, e2, hd⟩ := fl.2.2.1.mem hm
      obtain ⟨sl, e3⟩ := sm b o2 e2 hd
      exact ⟨_, e3⟩
    · obtain ⟨o2, e2⟩ := th b o' e1 (nst b (neL b o e) hb)
      exact ⟨o2, hB _ _ e2⟩
  · obtain ⟨m1, e1⟩ := I.base.tbls b ps e
    obtain ⟨m2, e2⟩ := F.tbls b _ e1
    exact ⟨m1 ++ m2, by rw [e2, Array.append_assoc]⟩
  · obtain ⟨m, hn, hl⟩ := I.loc
    have hm : X.env.locals ∈ frs X.stack := by rw [hfrs]; exact List.mem_cons_self
    have hn1 : s'.heap.Ns X.env.locals m := by
      obtain ⟨o, es, ep, ho, r⟩ := hn
      obtain ⟨sl, e⟩ := F.slot _ o ho I.free hm
      exact ⟨_, es, ep, e, r⟩
    refine ⟨m, sm.ns hn1, fun i y v e1 e2 e3 => ?_⟩
    obtain ⟨u, r, l⟩ := hl i y v e1 e2 e3
    refine ⟨u, r, ?_⟩
    rcases l with l | ⟨k, c, e, z⟩
    · exact .inl l
    · exact .inr ⟨k, c, e, cellK y c _ e z⟩
  · obtain ⟨v, z⟩ := I.cell y c e
    exact ⟨v, cellK y c v e z⟩
  · obtain ⟨m, ⟨o, _, _, ho, _⟩, _⟩ := I.loc
    exact F.free _ o ho I.free
  · obtain ⟨v, o, ho, _⟩ := I.cell y c e
    exact F.free c o ho (I.freeC y c e)
  · have hpm' : p ∈ X.pn ++ pins' := (List.mem_append.mp hpm).elim (fun z => List.mem_append_left _ z) (hp p)
    obtain ⟨e, n, ne, nf, d⟩ := I.pin p hpm'
    exact ⟨hB _ _ (kp p.1 p.2 e n (nst p.1 ne nf)), F.free p.1 p.2 e n, ne, nf, d⟩
/-- only what does not bear on the memory changes -/
theorem Cx.Ok.cx {X : Cx} (ok : X.Ok) {A' : Around} {cm : Bool} {pn : List (Addr × Obj)} {xe : Value → Shared → Prop} (hf : A'.frames = X.A.frames) (hh : cm = true → A'.handled = none) :
    Cx.Ok { X with A := A', calm := cm, pn := pn, xe := xe } :=
  ⟨ok.mod, ok.kind, ok.glob, ok.blt, ok.above, ok.inj, ok.has, ok.cab, hh, hf.trans ok.frames, ok.stk, ok.exf, ok.bs, ok.bsz, ok.noex, ok.exfs, ok.funs, ok.frf⟩
theorem Inv.cx {X : Cx} {pins pins' : List (Addr × Obj)} {σ : St} {H : Hp} {s : Shared} (I : Inv X pins σ H s) {A' : Around} {cm : Bool} {pn : List (Addr × Obj)} {xe : Value → Shared → Prop} (hf : A'.frames = X.A.frames) (hh : cm = true → A'.handled = none)
    (hp : ∀ p ∈ pn ++ pins', p ∈ X.pn ++ pins) : Inv { X with A := A', calm := cm, pn := pn, xe := xe } pins' σ H s :=
  ⟨I.ok.cx hf hh, I.os, I.bare, I.base, I.loc, I.cell, I.free, I.freeC, fun p q => I.pin p (hp p q), I.hok, I.len⟩
/-- the context of a try's body: R: what is wanted of an exception of the class -/
abbrev pnCx (X : Cx) (pn : List (Addr × Obj)) : Cx := { X with pn := X.pn ++ pn }
abbrev tryCx (X : Cx) (pn : List (Addr × Obj)) (R : Value → St → Hp → Prop) : Cx :=
  { X with pn := X.pn ++ pn, xe := fun e s' => ∃ (pins' : List (Addr × Obj)) (σ : St) (H : Hp) (s : Shared) (H' : Hp) (x : Addr) (cls : Value), Inv (pnCx X pn) pins' σ H s ∧ e = .ref x ∧ Fly X.prog X.w X.stack H s x cls H' s' ∧ R cls σ H' }
/-- the context of a handler's suite, which raises nothing -/
abbrev suiteCx (X : Cx) (x : Addr) : Cx := { X with A := X.A.mark (some (.ref x)), calm := false, xe := fun _ _ => False }
section
variable {X : Cx} {k : Nat} {f C : Addr} {fd : FuncData} {ps : List Str} {sp : Sp} {dvs : List V} {ds : List Value} {x : Str} {p pos : Pos} {e : Expr} {es : List Expr} {t : TA} {pn : List (Addr × Obj)} {R : Value → St → Hp → Prop}
/-- f(..) in a try's body -/
def tCallX (sp : Sp) (dvs : List V) (R : Value → St → Hp → Prop) (t : TA) : TE := fun σ H Q => t σ H fun vs H1 => sp (vs ++ dvs) H1 Q fun cls _ H' => R cls σ H'
theorem run_fnX {pins : List (Addr × Obj)} {σ : St} {H : Hp} {s : Shared} {Q : VK} {us : List Value} {vs : List V} (F : FnOk X.prog X.w X.K X.mg X.base (CXE X.prog X.w) k f fd ps sp) (hr : Room k X.A) (hb : Binds X.K fd ps ds) (hd : Vals dvs ds)
    (I : Inv (tryCx X pn R) pins σ H s) (r : Vals vs us) (h : sp (vs ++ dvs) H Q fun cls _ H' => R cls σ H') : wpAny (model X.prog X.w) X.A (call (.ref f) us) (EP (tryCx X pn R) pins σ Q) (tryCx X pn R).xe s := by
  have r2 : Vals (vs ++ dvs) (us ++ ds) := r.append hd
  have hl : (us ++ ds).length = ps.length := by rw [← r2.length]; exact F.len _ _ _ _ h
  refine wpAny_call (codeAny_mono (F.run X.A X.stack s H ⟨us, []⟩ (us ++ ds) (vs ++ dvs) Q _ hr I.env0 (hb s us I.kIn hl) r2 h) fun r s' hq => ?_)
  cases r with
  | error e =>
    obtain ⟨x, cls, H', ee, F', hE⟩ := hq
    exact ⟨pins, σ, H, s, H', x, cls, I.cx rfl I.ok.hd fun _ q => q, ee, F', hE⟩
  | ok fl =>
    cases fl with
    | ret u => exact I.after hq
    | next => exact False.elim hq
    | brk => exact False.elim hq
    | cont => exact False.elim hq
theorem pe_callX (F : FnOk X.prog X.w X.K X.mg X.base (CXE X.prog X.w) k f fd ps sp) (hr : Room k X.A) (hg : Gl X x) (hm : X.mg x = some (.ref f)) (hk : PySem.W.keepIn X.K (.ref f) = true) (hb : Binds X.K fd ps ds) (hd : Vals dvs ds)
    (ha : PA (tryCx X pn R) (e :: es) t) (hdb : (x == ("__debug__" : Str)) = false := by decide) (he : starEach (e :: es) X.env = (false, eval e X.env) :: starEach es X.env := by rfl) (hpl : (backTo pos (starEach es X.env)).any (·.1) = false := by rfl) :
    PE (tryCx X pn R) (.Call (.Name x p) (e :: es) [] pos) (tCallX sp dvs R t) := by
  intro pins s σ H Q I h
  refine wpAny_Call_Name_kw (ld_glob I hg hm ?_ hdb)
  refine PySem.W.callWith_K (h₀ := X.base) I.ok.mod.kin hk (thn (ha pos pins s σ H _ I h) fun us s1 ⟨vs, H1, I1, r, q⟩ => ⟨I1.kIn, ?_⟩) he hpl
  exact run_fnX F hr hb hd I1 r q
end
/-- an exception is in the handlers' hands -/
structure Lit (X : Cx) (pins : List (Addr × Obj)) (σ : St) (H : Hp) (x : Addr) (cls : Value) (B : Heap) (a0 : Value) (s : Shared) : Prop where
  fl : Heap.FlyingW B X.stack x cls a0 s.heap
  land : ∀ h', s.heap.UpToSlots h' → B.StaysIn h' → Inv X pins σ H { s with heap := h' }
def PH (X : Cx) (hs : List ExceptHandler) (th : Value → TS) : Prop :=
  ∀ (pins : List (Addr × Obj)) (s : Shared) (σ : St) (H : Hp) (D : Ends) (x : Addr) (cls : Value) (B : Heap) (a0 : Value), Lit X pins σ H x cls B a0 s → th cls D σ H → wpAny (model X.prog X.w) X.A (handleBy (.ref x) X.env hs) (SP X pins D) X.xe s
/-- one handler of an own class; the others -/
def tH (K : PySem.W.Frag) (C : Value) (ts : TS) (tr : Value → TS) : Value → TS := fun cls D σ H => ∃ b, PySem.W.exmOne K cls C = some b ∧ (b = true → ts D σ H) ∧ (b = false → tr cls D σ H)
def tH0 : Value → TS := fun _ _ _ _ => False
theorem ph_nil {X : Cx} : PH X [] tH0 := fun _ _ _ _ _ _ _ _ _ _ h => False.elim h
theorem SP.cx {X X' : Cx} {pins pins' : List (Addr × Obj)} {D : Ends} {f : Flow} {s : Shared} (h : SP X pins D f s) (hI : ∀ σ H, Inv X pins σ H s → Inv X' pins' σ H s) : SP X' pins' D f s := by
  cases f with
  | next => obtain ⟨σ, H, I, q⟩ := h; exact ⟨σ, H, hI _ _ I, q⟩
  | brk => obtain ⟨σ, H, I, q⟩ := h; exact ⟨σ, H, hI _ _ I, q⟩
  | cont => obtain ⟨σ, H, I, q⟩ := h; exact ⟨σ, H, hI _ _ I, q⟩
  | ret u => obtain ⟨v, σ, H, I, r, q⟩ := h; exact ⟨v, σ, H, hI _ _ I, r, q⟩
theorem ph_cons {X : Cx} {C : Value} {nm : Str} {np pos : Pos} {b₀ : Stmt} {body : List Stmt} {rest : List ExceptHandler} {ts : TS} {tr : Value → TS} (hg : Gl X nm) (hm : X.mg nm = some C) (hs : ∀ a, PSs (suiteCx X a) (b₀ :: body) ts) (hr : PH X rest tr)
    (hdb : (nm == ("__debug__" : Str)) = false := by decide) : PH X (.ExceptHandler (some (.Name nm np)) none (b₀ :: body) pos :: rest) (tH X.K C ts tr) := by
  intro pins s σ H D x cls B a0 L h
  obtain ⟨b, eb, ht, hf⟩ := h
  have I : Inv X pins σ H s := L.land s.heap (Heap.UpToSlots.of_keeps fun _ _ q => q) L.fl.1
  have Is : Inv (suiteCx X x) pins σ H s := I.cx rfl (fun z => nomatch z) fun _ q => q
  obtain ⟨oe, he, hc⟩ := L.fl.there
  have lt : PySem.W.Looks (model X.prog X.w) s.heap (typeOf (.ref x)) cls := by
    subst hc
    exact (PySem.W.Looks.ld he).andThen .now
  refine wpAny_handleBy_cons (codeAny_handlers_test (ld_glob (X := suiteCx X x) Is hg hm ((PySem.W.exm_one I.kIn lt eb).here ?_) hdb)) (by intro q; cases q)
  cases b with
  | false => exact hr pins s σ H D x cls B a0 L (hf rfl)
  | true =>
    refine codeAny_handlers_suite (lands_againW L.fl fun h' fl' sm => ?_)
    have I' : Inv (suiteCx X x) pins σ H { s with heap := h' } := (L.land h' sm fl'.1).cx rfl (fun z => nomatch z) fun _ q => q
    refine wpAny_mono (hs x pins _ σ H D I' (ht rfl)) (fun fw s2 q => ?_) fun _ _ z => False.elim z
    exact SP.cx q fun _ _ J => J.cx (X := suiteCx X x) rfl I.ok.hd fun _ q => q
/-- try .. except -/
def tTry (tb : (Value → St → Hp → Prop) → TS) (th : Value → TS) : TS := fun D σ H => tb (fun cls σ' H' => th cls D σ' H') D σ H
theorem ps_try {X : Cx} {body : List Stmt} {h₀ : ExceptHandler} {hs : List ExceptHandler} {pos : Pos} {tb : (Value → St → Hp → Prop) → TS} {th : Value → TS} (hb : ∀ pn R, PSs (tryCx X pn R) body (tb R)) (hh : PH X (h₀ :: hs) th)
    (hst : X.stack = X.env :: X.outer := by rfl) (hfr : X.env.frame = some X.env.locals := by rfl) (hex : X.ex = [] := by rfl) (hfn : ∀ y, X.fn y = true := by intro y; rfl) : PS X (.Try body (h₀ :: hs) [] [] pos) (tTry tb th) := by
  intro pins s σ H D I h
  refine wpAny_Try_except (wpAny_mono (hb pins _ [] s σ H D (I.cx rfl I.ok.hd fun p q => by rw [List.append_nil] at q; exact q) h) (fun fw s1 q => ?_) fun e s1 q => ?_)
  · have q' : SP X pins D fw s1 := SP.cx q fun σ' H' J => J.cx (X := tryCx X pins _) (A' := X.A) rfl I.ok.hd fun p z => by rw [List.append_nil]; exact z
    cases fw with
    | next => exact wpAny_execs_nil q'
    | brk => exact q'
    | cont => exact q'
    | ret u => exact q'
  · obtain ⟨pins', σ', H1, s0, H', x, cls, I', rfl, F, hR⟩ := q
    obtain ⟨B, a0, fl, hok, kp, tr⟩ := F.ex
    refine wpAny_looks_onW (base := B) (outer := X.outer) (L := X.env.locals) (cls := cls) (a0 := a0) (by rw [I.ok.frames, hst]) hfr (by rw [← hst]; exact fl) fun h1 held sm1 => ?_
    refine wpAny_landsW held fun h2 fl2 sm2 => ?_
    refine hh pins _ σ' H' D x cls B a0 ⟨by rw [hst]; exact fl2, fun h3 sm3 st3 => ?_⟩ hR
    have J : Inv (pnCx X pins) [] σ' H' { s1 with heap := h3 } := Inv.land (X := pnCx X pins) I' (fun p z => nomatch z) hex hfn ⟨hst, hfr⟩ F fl hok kp tr ((sm1.trans sm2).trans sm3) st3
    exact J.cx rfl I.ok.hd fun p z => by rw [List.append_nil]; exact z
end L2
namespace L2
open PySem PySem.Spec PyProof.Rows
/-! ### callees in one piece -/
/-- the def under this name keeps this promise -/
def Cal (P : Program) (w : World) (K : PySem.W.Frag) (mg : Str → Option Value) (base : Heap) (x : Str) (k : Nat) (ps : List Str) (sp : Sp) : Prop :=
  ∃ f fd, FnOk P w K mg base CX0 k f fd ps sp ∧ Binds K fd ps [] ∧ PySem.W.keepIn K (.ref f) = true ∧ mg x = some (.ref f)
section
variable {X : Cx} {k : Nat} {C : Addr} {ps : List Str} {sp : Sp} {x m : Str} {p pos apos : Pos} {e o : Expr} {es : List Expr} {ta : TE} {t : TA}
theorem pe_callC (c : Cal X.prog X.w X.K X.mg X.base x k ps sp) (hr : Room k X.A) (hg : Gl X x) (ha : PA X (e :: es) t) (hdb : (x == ("__debug__" : Str)) = false := by decide) (he : starEach (e :: es) X.env = (false, eval e X.env) :: starEach es X.env := by rfl) (hpl : (backTo pos (starEach es X.env)).any (·.1) = false := by rfl) :
    PE X (.Call (.Name x p) (e :: es) [] pos) (tCall sp [] E0 t) := by
  obtain ⟨f, fd, F, b, kp, mg⟩ := c
  exact pe_call F hr hg mg kp b .nil pass0 ha hdb he hpl
/-- text.isupper() -/
def rUpper : V → List V → Hp → VK → Prop := fun x vs H Q => ∃ z, x = .str z ∧ vs = [] ∧ Q (.bl (Txt.isupper z)) H
theorem mt_isupper : MtR X "str.isupper" rUpper := by
  intro pins s σ H x xs v us Q I rx rs h
  obtain ⟨z, rfl, rfl, q⟩ := h
  obtain ⟨t, rfl⟩ := (show ∃ t, v = Value.str z t from rx)
  cases rs
  exact SC.isupper ⟨.bl (Txt.isupper z), H, I, rfl, q⟩
end
end L2
/-! MY OWN ADDITIONS, 5: texts split and stripped, a text's number -/
namespace L2
open PySem PySem.Spec PyProof.Rows
section
variable {X : Cx}
end
end L2
/-! MY OWN ADDITIONS, 6: tuple.index -/
namespace L2
open PySem PySem.Spec PyProof.Rows
end L2
/-! MY OWN ADDITIONS, 7: comprehensions that only pick and change values -/
namespace L2
open PySem PySem.Spec PyProof.Rows
theorem comp_fm {tt : TT} {te : TE} {caps : List Nat} {σ : St} {H1 : Hp} {Q : VK} {K : PySem.W.Frag} {a : Addr} {xs : List V} {D : Addr} (hn : xs.length < sizeLine) (hD0 : H1 D = none) (hl : SqL K H1 a xs) (kp : V → Bool) (f : V → V)
    (ht : ∀ x H' R, x ∈ xs → Same H1 H' → (∀ H'', Same H' H'' → R (kp x) H'') → tt (compS σ (some x) caps) H' R)
    (he : ∀ x H' R, x ∈ xs → kp x = true → Same H1 H' → (∀ H'', Same H' H'' → R (f x) H'') → te (compS σ (some x) caps) H' R)
    (hd : ∀ H', Same H1 H' → H' D = some (.lst ((xs.filter kp).map f)) → Q (.ref D) H') : CompW tt te caps σ Q (Itl K a) H1 D := by
  refine comp_list (K := K) (a := a) (xs := xs) hn (fun i ys H' => Same H1 H' ∧ H' D = some (.lst ys) ∧ ys = ((xs.take i).filter kp).map f) ⟨fun b o e => by rw [upd_ne (ne_of_none e hD0)]; exact e, upd_same, rfl⟩
    (fun i ys H' p => p.1.seq hl) (fun i ys H' p => ⟨p.2.1, ?_⟩) (fun i ys H' hi p => ?_) (fun ys H' p => ?_)
  · rw [p.2.2, List.length_map]
    refine Nat.le_trans (List.length_filter_le _ _) ?_
    rw [List.length_take]
    omega
  · have hx : xs.getD i .non = xs[i] := by rw [List.getD_eq_getElem?_getD, List.getElem?_eq_getElem hi]; rfl
    rw [hx]
    have hm : xs[i] ∈ xs := List.getElem_mem hi
    have step : ∀ b, kp xs[i] = b → ((xs.take (i + 1)).filter kp).map f = ((xs.take i).filter kp).map f ++ (if b = true then [f xs[i]] else []) := fun b hb => by
      rw [List.take_succ_eq_append_getElem hi, List.filter_append, List.map_append]
      cases b with
      | true => rw [if_pos rfl]; simp [hb]
      | false => rw [if_neg (by decide)]; simp [hb]
    refine ht _ _ _ hm p.1 fun H2 s2 => ?_
    cases hb : kp xs[i] with
    | true =>
      refine iteT ?_
      refine he _ _ _ hm hb (Same.trans p.1 s2) fun H3 s3 => ?_
      refine ⟨s3 _ _ (s2 _ _ p.2.1), fun b o e => ?_, upd_same, ?_⟩
      · rw [upd_ne (ne_of_none e hD0)]
        exact s3 _ _ (s2 _ _ (p.1 _ _ e))
      · rw [step true hb, if_pos rfl, p.2.2]
    | false =>
      refine iteF ⟨Same.trans p.1 s2, s2 _ _ p.2.1, ?_⟩
      rw [step false hb, if_neg (by decide), List.append_nil]
      exact p.2.2
  · rw [p.2.2, List.take_length] at p
    exact hd H' p.1 p.2.1
end L2
/-! MY OWN ADDITIONS, 8: a tuple's slice, also the whole one -/
namespace HT
open PySem PySem.Spec PyProof.Rows
section
variable {prog : Program} {w : World} {A : Around} {E : Value → Shared → Prop} {s : Shared}
theorem getItem_tuple_all {t sl : Addr} {items : Array Value} {vl vu : Value} {lo hi : Option Int} {Q : Value → Shared → Prop} (ht : IsTup s.heap t items) (hs : s.heap.IsSliceOf sl vl vu .none) (pl : IsPart vl lo) (pu : IsPart vu hi)
    (hw : sIx items.size 0 lo = 0 ∧ sIx items.size items.size hi = items.size) (h : Q (.ref t) s) : wpAny (model prog w) A (getItem (.ref t) (.ref sl)) Q E s := by
  obtain ⟨os, hos, hcs, hds⟩ := id hs
  have hTs : s.TypeIs (.ref sl) "slice" := ⟨os, hos, hcs⟩
  unfold getItem
  try with_reducible refine wpAny_holding ?_
  first | refine wpAny_bind (wpAny_pure ?_) | skip
  refine wpAny_bind (wpAny_sequenceKey ht.typeIs (by decide) ?_)
  refine wpAny_bind (wpAny_callSpecial?_slot (name := Str.ofString "__getitem__") ht.typeIs PyProof.Rows.slot_tuple_getitem
    (wpAny_call_entry PyProof.Rows.slot_tuple_getitem ht.typeIs entry_tuple_getitem ?_ (args_tuple_getitem _ _)))
  show wpAny _ _ (Builtin.Tuple.tupleItemsOf (.ref t) >>= _) _ _ s
  refine wpAny_bind (tupleItemsOf_ ht ?_)
  refine wpAny_bind (wpAny_typeOf hTs ?_)
  rw [if_pos (by decide)]
  refine wpAny_bind (sliceApplied_gen hs pl pu ?_)
  have hyes : (((sIx items.size 0 lo : Nat) : Int) == 0 && (1 : Int) == 1 && (sIx items.size items.size hi - sIx items.size 0 lo) == items.size) = true := by
    rw [hw.1, hw.2]
    simp
  show wpAny _ _ (if (((sIx items.size 0 lo : Nat) : Int) == 0 && (1 : Int) == 1 && (sIx items.size items.size hi - sIx items.size 0 lo) == items.size) = true then _ else _) _ _ s
  rw [if_pos hyes]
  unfold Builtin.Tuple.tupleIsExact
  refine wpAny_bind (wpAny_bind (wpAny_typeOf ht.typeIs (wpAny_pure ?_)))
  rw [if_pos (by decide)]
  refine wpAny_bind (wpAny_rule ?_)
  first
    | exact wpAny_pure ⟨_, rfl, wpAny_pure h⟩
    | exact wpAny_bind (wpAny_pure (wpAny_pure ⟨_, rfl, wpAny_pure h⟩))
end
end HT
namespace L2
open PySem PySem.Spec PyProof.Rows
section
variable {X : Cx}
/-- a slice of a tuple: the tuple itself where it is whole -/
def rSlA (K : PySem.W.Frag) : V → Option Int → Option Int → Hp → VK → Prop := fun x lo hi H Q => ∃ a xs, x = .ref a ∧ SqT K H a xs ∧ ∀ p H', Same H H' → SqT K H' p (cutV xs lo hi) → Q (.ref p) H'
theorem sl_tupA : SlR X (rSlA X.K) := by
  intro pins s σ H x v vl vu lo hi sl Q I rx hs pl pu h
  obtain ⟨a, xs, rfl, hx, q⟩ := h
  by_cases hw : HT.sIx xs.length 0 lo = 0 ∧ HT.sIx xs.length xs.length hi = xs.length
  · cases rx
    obtain ⟨its, r, ht, hz⟩ := I.tuple hx
    have hlen : its.toArray.size = xs.length := by rw [List.size_toArray]; exact r.length.symm
    refine ⟨"tuple", _, PyProof.Rows.slot_tuple_getitem.lookup, ht.typeIs, ?_⟩
    refine HT.getItem_tuple_all ht hs pl pu (by rw [hlen]; exact hw) ⟨.ref a, H, I, rfl, q a H (Same.refl H) ?_⟩
    unfold cutV
    rw [hw.1, hw.2, List.drop_zero, Nat.sub_zero, List.take_length]
    exact hx
  · exact sl_tup pins s σ H (.ref a) v vl vu lo hi sl Q I rx hs pl pu ⟨a, xs, rfl, hx, hw, fun p hp => q p _ (fun b o e => by rw [upd_ne (ne_of_none e hp)]; exact e) (SqT.of upd_same)⟩
end
end L2
/-! MY OWN ADDITIONS, 9: list.extend(tuple) -/
namespace L2
open PySem PySem.Spec PyProof.Rows
section
variable {X : Cx}
end
end L2
/-! MY OWN ADDITIONS, 10: rules that name the fragment themselves, for a comprehension's elements -/
namespace L2
open PySem PySem.Spec PyProof.Rows
section
variable {X : Cx} {K : PySem.W.Frag} {o e : Expr} {f : Str} {pos : Pos} {ta : TE}
def rLenK (K : PySem.W.Frag) : List V → Hp → VK → Prop := fun xs H Q => ∃ p ys, xs = [.ref p] ∧ (SqL K H p ys ∨ SqT K H p ys) ∧ Q (.int ys.length) H
theorem call_len_K (hK : X.K = K) : CallR X (.builtin "len") (rLenK K) := by
  subst hK
  exact call_len_seq
end
end L2
namespace L2
open PySem PySem.Spec PyProof.Rows
/-! ### lists of pairs as tables -/
section
variable {κ : Type} [DecidableEq κ]
def valV (kvs : List (κ × V)) (k : κ) : Option V := (kvs.find? fun kv => decide (kv.1 = k)).map (·.2)
/-- in its place, or at the end -/
def putK (kvs : List (κ × V)) (k : κ) (v : V) : List (κ × V) :=
  if (kvs.any fun kv => decide (kv.1 = k)) = true then kvs.map (fun kv => if kv.1 = k then (kv.1, v) else kv) else kvs ++ [(k, v)]
theorem valV_pos {p : κ × V} {r : List (κ × V)} {k : κ} (e : p.1 = k) : valV (p :: r) k = some p.2 := by simp [valV, List.find?_cons, e]
theorem valV_neg {p : κ × V} {r : List (κ × V)} {k : κ} (e : ¬ p.1 = k) : valV (p :: r) k = valV r k := by simp [valV, List.find?_cons, e]
theorem valV_any (k : κ) : ∀ kvs : List (κ × V), (kvs.any fun kv => decide (kv.1 = k)) = (valV kvs k).isSome
  | [] => rfl
  | p :: r => by
    rw [List.any_cons]
    by_cases e : p.1 = k
    · simp only [valV_pos e, decide_eq_true e, Bool.true_or, Option.isSome_some]
    · rw [valV_neg e, decide_eq_false e, Bool.false_or]; exact valV_any k r
theorem length_putK (kvs : List (κ × V)) (k : κ) (v : V) : (putK kvs k v).length ≤ kvs.length + 1 := by
  unfold putK
  split
  · rw [List.length_map]; omega
  · rw [List.length_append, List.length_cons, List.length_nil]; omega
theorem putK_new {kvs : List (κ × V)} {k : κ} (v : V) (h : valV kvs k = none) : putK kvs k v = kvs ++ [(k, v)] := by
  unfold putK
  rw [valV_any, h]
  exact if_neg (by decide)
theorem RelO.isSome_eq {o : Option V} {u : Option Value} (r : RelO o u) : o.isSome = u.isSome := by
  cases o with
  | none => cases u with
    | none => rfl
    | some _ => exact (show False from r).elim
  | some _ => cases u with
    | none => exact (show False from r).elim
    | some _ => rfl
theorem RelO.getD {o : Option V} {u : Option Value} {d : V} {d' : Value} (r : RelO o u) (rd : RelV d d') : RelV (o.getD d) (u.getD d') := by
  cases o with
  | none => cases u with
    | none => exact rd
    | some _ => exact (show False from r).elim
  | some _ => cases u with
    | none => exact (show False from r).elim
    | some _ => exact r
/-- raw tables of the same keys -/
theorem KV.val {kvs : List (κ × V)} {vs : List (κ × Value)} (r : KV kvs vs) (k : κ) : RelO (valV kvs k) (valueAt vs k) := by
  unfold KV at r
  induction r with
  | nil => exact True.intro
  | @cons p q ps qs h t ih =>
    obtain ⟨h1, h2⟩ := h
    by_cases e : p.1 = k
    · have e' : q.1 = k := h1.symm.trans e
      have b : valueAt (q :: qs) k = some q.2 := by simp [valueAt, List.find?_cons, e']
      rw [valV_pos e, b]; exact h2
    · have e' : ¬ q.1 = k := fun z => e (h1.trans z)
      have b : valueAt (q :: qs) k = valueAt qs k := by simp [valueAt, List.find?_cons, e']
      rw [valV_neg e, b]; exact ih
theorem KV.any {kvs : List (κ × V)} {vs : List (κ × Value)} (r : KV kvs vs) (k : κ) : (kvs.any fun kv => decide (kv.1 = k)) = vs.any fun kv => decide (kv.1 = k) := by
  unfold KV at r
  induction r with
  | nil => rfl
  | cons h t ih => rw [List.any_cons, List.any_cons, ih, h.1]
theorem KV.repl {kvs : List (κ × V)} {vs : List (κ × Value)} (r : KV kvs vs) (k : κ) {y : V} {u : Value} (ry : RelV y u) :
    KV (kvs.map fun kv => if kv.1 = k then (kv.1, y) else kv) (vs.map fun kv => if kv.1 = k then (kv.1, u) else kv) := by
  unfold KV at r ⊢
  induction r with
  | nil => exact .nil
  | @cons p q ps qs h t ih =>
    rw [List.map_cons, List.map_cons]
    refine .cons ?_ ih
    obtain ⟨h1, h2⟩ := h
    by_cases e : p.1 = k
    · rw [if_pos e, if_pos (h1.symm.trans e)]; exact ⟨h1, ry⟩
    · rw [if_neg e, if_neg (fun z => e (h1.trans z))]; exact ⟨h1, h2⟩
theorem KV.put {kvs : List (κ × V)} {vs : List (κ × Value)} (r : KV kvs vs) (k : κ) {y : V} {u : Value} (ry : RelV y u) : KV (putK kvs k y) (stored vs k u) := by
  unfold putK stored
  rw [r.any k]
  by_cases e : (vs.any fun kv => decide (kv.1 = k)) = true
  · rw [if_pos e, if_pos e]; exact r.repl k ry
  · rw [if_neg e, if_neg e]; exact Paired.snoc r ⟨rfl, ry⟩
theorem KV.length {kvs : List (κ × V)} {vs : List (κ × Value)} (r : KV kvs vs) : kvs.length = vs.length := Paired.length r
end
/-! ### a tracked dict, its keys ints and texts or tuples of these -/
theorem kV_is {P : Program} {w : World} {k : Key} {u : Value} (r : RelV (kV k) u) : (mixKind P w).is k u = true := by
  cases k with
  | inl i => obtain ⟨t, e⟩ := (show ∃ t, u = Value.int i t from r); subst e; exact mixKind_int P w i t
  | inr x => obtain ⟨t, e⟩ := (show ∃ t, u = Value.str x t from r); subst e; exact mixKind_str P w x t
theorem items_are {P : Program} {w : World} : ∀ {ks : List Key} {us : List Value}, Vals (ks.map kV) us → ItemsAre (mixKind P w) ks us
  | [], _, r => by rw [List.map_nil] at r; cases r; exact .nil
  | k :: ks, _, r => by
    rw [List.map_cons] at r
    cases r with
    | cons h t => exact .cons (kV_is h) (items_are t)
/-- raw entries of a dict with tuple keys -/
abbrev KT (H : Hp) : List (List Key × V) → List (List Key × Addr × Value) → Prop := Paired fun p q => p.1 = q.1 ∧ H q.2.1 = some (.tup (p.1.map kV)) ∧ RelV p.2 q.2.2
theorem KT.val {H : Hp} {kvs : List (List Key × V)} {xs : List (List Key × Addr × Value)} (r : KT H kvs xs) (k : List Key) : RelO (valV kvs k) ((atKey xs k).map (·.2)) := by
  induction r with
  | nil => exact True.intro
  | @cons p q ps qs h t ih =>
    obtain ⟨h1, _, h2⟩ := h
    by_cases e : p.1 = k
    · have e' : q.1 = k := h1.symm.trans e
      have b : atKey (q :: qs) k = some q.2 := by simp [atKey, List.find?_cons, e']
      rw [valV_pos e, b]; exact h2
    · have e' : ¬ q.1 = k := fun z => e (h1.trans z)
      have b : atKey (q :: qs) k = atKey qs k := by simp [atKey, List.find?_cons, e']
      rw [valV_neg e, b]; exact ih
theorem KT.keeps {H H' : Hp} {kvs : List (List Key × V)} {xs : List (List Key × Addr × Value)} (r : KT H kvs xs) (ht : ∀ b ys, H b = some (.tup ys) → H' b = some (.tup ys)) : KT H' kvs xs :=
  Paired.mapP r fun _ _ z => ⟨z.1, ht _ _ z.2.1, z.2.2⟩
section
variable {P : Program} {w : World} {H : Hp} {h : Heap} {a : Addr}
theorem rd_of {u : HO} (ok : HOk P w H h) (e : Rd H a u) : ObjOk P w H h a u := e.ok ok
theorem dk_rd {kvs : List (Key × V)} (ok : HOk P w H h) (e : Rd H a (.dK kvs)) : kvs.length ≤ sizeLine ∧ (a == sysModules) = false ∧ ∃ vs, KV kvs vs ∧ h.DictOf (mixKind P w) a vs :=
  show ObjOk P w H h a (.dK kvs) from rd_of ok e
theorem dk_of {kvs : List (Key × V)} (ok : HOk P w H h) (e : H a = some (.dK kvs)) : kvs.length ≤ sizeLine ∧ (a == sysModules) = false ∧ ∃ vs, KV kvs vs ∧ h.DictOf (mixKind P w) a vs := dk_rd ok (.inl e)
/-- a tracked tuple of ints and texts is a key -/
theorem key_of {ks : List Key} (ok : HOk P w H h) (e : H a = some (.tup (ks.map kV))) : (tupleKind (mixKind P w)).is h ks a := by
  obtain ⟨_, its, r, o, h1, h2, n, h3⟩ := (show ObjOk P w H h a (.tup (ks.map kV)) from ok a _ e)
  exact ⟨o, its.toArray, n, h1, h2, h3, by simpa using items_are r⟩
theorem dt_rd {kvs : List (List Key × V)} (ok : HOk P w H h) (e : Rd H a (.dT kvs)) : kvs.length ≤ sizeLine ∧ (a == sysModules) = false ∧
    ∃ xs, KT H kvs xs ∧ h.DictOfH (tupleKind (mixKind P w)) a xs := by
  obtain ⟨z, y, xs, r, o, es, ep, h1, h2, h3, h4, h5⟩ := (show ObjOk P w H h a (.dT kvs) from rd_of ok e)
  refine ⟨z, y, xs, r, o, es, ep, h1, h2, h3, h4, fun x hx => ?_, h5⟩
  have all : ∀ {l : List (List Key × V)} {m : List (List Key × Addr × Value)}, KT H l m → ∀ x ∈ m, (tupleKind (mixKind P w)).is h x.1 x.2.1 := by
    intro l m q
    induction q with
    | nil => intro x hx; exact nomatch hx
    | @cons p q ps qs hq t ih =>
      intro x hx
      rcases List.mem_cons.mp hx with e | hx
      · subst e
        exact key_of ok (by rw [← hq.1]; exact hq.2.1)
      · exact ih x hx
  exact all r x hx
end
/-- what the dict at a holds at the key y -/
def DGet (H : Hp) (a : Addr) (y : V) (r : Option V) : Prop :=
  (∃ kvs k, Rd H a (.dK kvs) ∧ y = kV k ∧ r = valV kvs k) ∨ ∃ kvs k b, Rd H a (.dT kvs) ∧ y = .ref b ∧ H b = some (.tup (k.map kV)) ∧ r = valV kvs k
theorem DGet.k {H : Hp} {a : Addr} {kvs : List (Key × V)} {k : Key} (e : H a = some (.dK kvs)) : DGet H a (kV k) (valV kvs k) := .inl ⟨kvs, k, .inl e, rfl, rfl⟩
section
variable {X : Cx} {pins : List (Addr × Obj)} {σ : St} {H : Hp} {s : Shared} {a : Addr} {y v : V} {u r : Value} {o : Option V} {A : Around} {E : Value → Shared → Prop}
theorem Inv.big (I : Inv X pins σ H s) : sysModules < s.heap.objs.size := by
  have h : mainGlobals < s.heap.objs.size := (I.mod.glob.keeps I.bk).lt
  exact Nat.lt_trans (by decide) h
/-- d[y], there -/
theorem d_getItem {Q : Value → Shared → Prop} (hu : A.units + 1 < cLine) (I : Inv X pins σ H s) (g : DGet H a y (some v)) (ry : RelV y u) (h : ∀ w' s', Inv X pins σ H s' → RelV v w' → Q w' s') :
    wpAny (model X.prog X.w) A (getItem (.ref a) u) Q E s := by
  rcases g with ⟨kvs, k, e, ey, l⟩ | ⟨kvs, k, b, e, ey, eb, l⟩
  · subst ey
    obtain ⟨z, hd, vs, rel, dd⟩ := dk_rd I.hok e
    obtain ⟨w', hw, rw'⟩ := RelO.some_of (v := v) (o := valueAt vs k) (by rw [l]; exact rel.val k)
    exact wpAny_getItem_of (kV_is ry) dd.mapOf hw (h w' _ (I.tok _) rw')
  · subst ey
    cases (show u = Value.ref b from ry)
    obtain ⟨z, hd, xs, rel, dd⟩ := dt_rd I.hok e
    obtain ⟨w', hw, rw'⟩ := RelO.some_of (v := v) (o := (atKey xs k).map (·.2)) (by rw [l]; exact rel.val k)
    obtain ⟨p, hp, hp2⟩ := Option.map_eq_some_iff.mp hw
    refine wpAny_getItem_heap (tupleKind_room_in1 hu) (key_of I.hok eb) dd hp ?_
    rw [hp2]
    exact h w' _ (I.tok _) rw'
theorem d_notIn {Q : Value → Shared → Prop} (hu : A.units + 1 < cLine) (I : Inv X pins σ H s) (g : DGet H a y o) (ry : RelV y u) (h : ∀ s', Inv X pins σ H s' → Q (.bool (!o.isSome)) s') :
    wpAny (model X.prog X.w) A (compareOp .NotIn u (.ref a)) Q E s := by
  rcases g with ⟨kvs, k, e, ey, l⟩ | ⟨kvs, k, b, e, ey, eb, l⟩
  · subst ey
    obtain ⟨z, hd, vs, rel, dd⟩ := dk_rd I.hok e
    refine wpAny_notIn_of (kV_is ry) hd dd.mapOf ?_
    rw [← (rel.val k).isSome_eq, ← l]
    exact h _ (I.tok _)
  · subst ey
    cases (show u = Value.ref b from ry)
    obtain ⟨z, hd, xs, rel, dd⟩ := dt_rd I.hok e
    refine wpAny_notIn_heap (tupleKind_room_in1 hu) (key_of I.hok eb) hd dd ?_
    have q := (rel.val k).isSome_eq
    rw [Option.isSome_map] at q
    rw [← q, ← l]
    exact h _ (I.tok _)
/-- a dict's object is replaced -/
theorem d_write {h' : Heap} {t' : Nat} {ob : HO} (I : Inv X pins σ H s) (mu : Mut (H a)) (hs : Heap.SameBut a s.heap h') (he : ∃ q, h'.get? a = some q) (new : ObjOk X.prog X.w (upd H a ob) h' a ob) :
    Inv X pins σ (upd H a ob) { s with heap := h', toks := t' } :=
  I.write (x := a) (e := a) mu (.inl rfl) (fun b q hb z => (hs.2 b hb).trans z) he new
theorem dk_new {P : Program} {w : World} {H' : Hp} {h' : Heap} {kvs : List (Key × V)} {vs : List (Key × Value)} (z : kvs.length ≤ sizeLine) (hd : (a == sysModules) = false) (rel : KV kvs vs) (dd : h'.DictOf (mixKind P w) a vs) :
    ObjOk P w H' h' a (.dK kvs) := ⟨z, hd, vs, rel, dd⟩
end
section
variable {X : Cx} {pins : List (Addr × Obj)} {σ : St} {H : Hp} {s : Shared} {a : Addr} {kvs : List (Key × V)} {k : Key} {u : Value} {A : Around} {E : Value → Shared → Prop}
end
/-! ### readings and rules -/
/-- the element of a subscription, not a slice -/
def NoSl (i : Expr) : Prop := ∀ ov iv, subscripted i false ov iv = operate [ov, iv] (getItem ov iv)
theorem subD_of {prog : Program} {w : World} {A : Around} {E : Value → Shared → Prop} {s : Shared} {env : Env} {value slice : Expr} {pos : Pos} {T id : String} {Q : Value → Shared → Prop}
    (hl : typeLookup (.type T) "__getitem__" = pure (some (.builtin id))) (hs : NoSl slice)
    (h : wpAny (model prog w) A (eval value env) (fun o s₁ => wpAny (model prog w) A (eval slice env) (fun i s₂ => s₂.TypeIs o T ∧ wpAny (model prog w) A (getItem o i) Q E s₂) E s₁) E s) :
    wpAny (model prog w) A (eval (.Subscript value slice pos) env) Q E s := by
  refine Subscript_ (wpAny_mono h (fun o s₁ h₁ => wpAny_mono h₁ (fun i s₂ h₂ => ?_) fun _ _ x => x) fun _ _ x => x)
  obtain ⟨hT, h₂⟩ := h₂
  unfold subscriptTail
  refine wpAny_bind ?_
  rw [getitemInPython_of_ne hT.not_modules]
  refine wpAny_bind (wpAny_specialOf hT hl ?_)
  have fin : wpAny (model prog w) A (subscripted slice false o i) (fun r s₃ => wpAny (model prog w) A (letTemporaryGo value o r >>= fun _ => pure r) Q E s₃) E s₂ := by
    rw [hs o i]
    exact wpAny_operating (wpAny_mono h₂ (fun r s₃ h₃ => wpAny_bind (wpAny_letTemporaryGo (wpAny_pure h₃))) fun _ _ x => x)
  first
    | exact wpAny_pure (wpAny_bind fin)
    | exact wpAny_bind (wpAny_pure (wpAny_bind fin))
    | exact wpAny_bind fin
theorem dict_typeIs {X : Cx} {pins : List (Addr × Obj)} {σ : St} {H : Hp} {s : Shared} {a : Addr} {y : V} {o : Option V} (I : Inv X pins σ H s) (g : DGet H a y o) : s.TypeIs (.ref a) "dict" := by
  rcases g with ⟨kvs, k, e, _, _⟩ | ⟨kvs, k, b, e, _, _, _⟩
  · obtain ⟨_, _, vs, _, dd⟩ := dk_rd I.hok e
    exact dd.typeIs
  · obtain ⟨_, _, xs, _, dd⟩ := dt_rd I.hok e
    exact dd.typeIs
/-- d[y] -/
def tDGet (td ty : TE) : TE := fun σ H Q => td σ H fun x H1 => ty σ H1 fun y H2 => ∃ a v, x = .ref a ∧ DGet H2 a y (some v) ∧ Q v H2
def tDNotIn (ty td : TE) : TE := fun σ H Q => ty σ H fun y H1 => td σ H1 fun x H2 => ∃ a o, x = .ref a ∧ DGet H2 a y o ∧ Q (.bl (!o.isSome)) H2
section
variable {X : Cx} {o i e value : Expr} {pos pos' tpos : Pos} {td ty tv : TE}
theorem pe_dget (hu : X.A.units + 1 < cLine) (ho : PE X o td) (hi : PE X i ty) (hs : NoSl i) : PE X (.Subscript o i pos) (tDGet td ty) := by
  intro pins s σ H Q I h
  refine subD_of PySem.F.slot_dict_getitem.lookup hs (thn (ho pins s σ H _ I h) fun u s1 ⟨x, H1, I1, rx, q1⟩ => thn (hi pins s1 σ H1 _ I1 q1) fun iv s2 ⟨y, H2, I2, ry, a, v, ex, g, q2⟩ => ?_)
  subst ex
  obtain rfl : u = Value.ref a := rx
  exact ⟨dict_typeIs I2 g, d_getItem hu I2 g ry fun w' s3 I3 rw' => ⟨v, H2, I3, rw', q2⟩⟩
theorem pc_dnotin (hu : X.A.units + 1 < cLine) (hi : PE X i ty) (ho : PE X o td) : PC X .NotIn i o (tDNotIn ty td) := by
  intro pins s σ H Q I h
  refine thn (hi pins s σ H _ I h) fun iv s1 ⟨y, H1, I1, ry, q1⟩ => thn (ho pins s1 σ H1 _ I1 q1) fun u s2 ⟨x, H2, I2, rx, a, ov, ex, g, q2⟩ => ?_
  subst ex
  obtain rfl : u = Value.ref a := rx
  exact d_notIn hu I2 g ry fun s3 I3 => ⟨.bl (!ov.isSome), H2, I3, rfl, q2⟩
end
/-! ### displays -/
section
variable {X : Cx} {pos : Pos}
end
abbrev VV : List (V × V) → List (Value × Value) → Prop := Paired fun p q => RelV p.1 q.1 ∧ RelV p.2 q.2
def mergeK (kvs more : List (Key × V)) : List (Key × V) := more.foldl (fun acc kv => putK acc kv.1 kv.2) kvs
/-! ### methods -/
/-- a method call o.m(e) of a built-in, with one argument: what must be seen of the text -/
structure M1 (X : Cx) (o : Expr) (m : Str) (apos : Pos) (e : Expr) (cpos : Pos) : Prop where
  base : attributeBase o m X.env (eval o X.env) = eval o X.env
  few : ((backTo cpos (starEach [e] X.env)).all (fun x => !x.1) && (backToKw cpos (keywordEach [] X.env)).all (fun x => x.1.isSome)
    && decide (([e] : List Expr).length + ([] : List Keyword).length + (if ([] : List Keyword).isEmpty then 0 else 1) < 30)) = true
  line : (apos.endLine == cpos.line) = true
  trees : backTo cpos (starEach [e] X.env) = [(false, eval e X.env)]
structure M2 (X : Cx) (o : Expr) (m : Str) (apos : Pos) (e f : Expr) (cpos : Pos) : Prop where
  base : attributeBase o m X.env (eval o X.env) = eval o X.env
  few : ((backTo cpos (starEach [e, f] X.env)).all (fun x => !x.1) && (backToKw cpos (keywordEach [] X.env)).all (fun x => x.1.isSome)
    && decide (([e, f] : List Expr).length + ([] : List Keyword).length + (if ([] : List Keyword).isEmpty then 0 else 1) < 30)) = true
  line : (apos.endLine == cpos.line) = true
  trees : backTo cpos (starEach [e, f] X.env) = [(false, eval e X.env), (false, eval f X.env)]
/-- a is a dict, whatever its keys -/
def IsDc (H : Hp) (a : Addr) : Prop := (∃ kvs, Rd H a (.dK kvs)) ∨ ∃ kvs, Rd H a (.dT kvs)
theorem isDc_at {X : Cx} {pins : List (Addr × Obj)} {σ : St} {H : Hp} {s : Shared} {a : Addr} (I : Inv X pins σ H s) (d : IsDc H a) :
    s.TypeIs (.ref a) "dict" ∧ (∀ b, Value.ref a = .ref b → ∃ ob, s.heap.get? b = some ob ∧ ob.dict = none) ∧ (a == sysModules) = false := by
  rcases d with ⟨kvs, e⟩ | ⟨kvs, e⟩
  · obtain ⟨_, hd, vs, _, dd⟩ := dk_rd I.hok e
    refine ⟨dd.typeIs, fun b q => ?_, hd⟩
    cases q
    obtain ⟨ob, _, _, h1, h2, _⟩ := dd
    exact ⟨ob, h1, h2.2.1⟩
  · obtain ⟨_, hd, xs, _, dd⟩ := dt_rd I.hok e
    refine ⟨dd.typeIs, fun b q => ?_, hd⟩
    cases q
    obtain ⟨ob, _, _, h1, h2, _⟩ := dd
    exact ⟨ob, h1, h2.2.1⟩
section
variable {X : Cx} {pins : List (Addr × Obj)} {σ : St} {H : Hp} {s : Shared} {a : Addr} {y d : V} {u r : Value} {o : Option V} {A : Around} {E : Value → Shared → Prop}
/-- d.get(y, x) -/
theorem d_get2 {Q : Value → Shared → Prop} (hu : A.units + 1 < cLine) (I : Inv X pins σ H s) (g : DGet H a y o) (ry : RelV y u) (rd : RelV d r) (h : ∀ w' s', Inv X pins σ H s' → RelV (o.getD d) w' → Q w' s') :
    wpAny (model X.prog X.w) A (call (.builtin "dict.get") [.ref a, u, r]) Q E s := by
  rcases g with ⟨kvs, k, e, ey, l⟩ | ⟨kvs, k, b, e, ey, eb, l⟩
  · subst ey
    obtain ⟨z, hd, vs, rel, dd⟩ := dk_rd I.hok e
    refine call_meetsIn PySem.F.slot_dict_get dd.typeIs PySem.F.entry_dict_get (PySem.F.args_dict_get_3 _ _ _) (meets_dict_get_default (mixKind X.prog X.w) a (kV_is ry) hd r) ⟨_, dd.mapOf, h _ _ (I.tok _) ?_⟩
    rw [l]
    exact (rel.val k).getD rd
  · subst ey
    cases (show u = Value.ref b from ry)
    obtain ⟨z, hd, xs, rel, dd⟩ := dt_rd I.hok e
    refine call_meetsIn PySem.F.slot_dict_get dd.typeIs PySem.F.entry_dict_get (PySem.F.args_dict_get_3 _ _ _) (meetsH_dict_get_default (tupleKind (mixKind X.prog X.w)) a b hd r) ⟨tupleKind_room_in1 hu, k, xs, key_of I.hok eb, dd, h _ _ (I.tok _) ?_⟩
    rw [l]
    exact (rel.val k).getD rd
end
def tDGet2 (td ty tx : TE) : TE := fun σ H Q => td σ H fun x H1 => ∃ a, x = .ref a ∧ IsDc H1 a ∧ ty σ H1 fun y H2 => tx σ H2 fun z H3 => ∃ o, DGet H3 a y o ∧ Q (o.getD z) H3
section
variable {X : Cx} {o e f : Expr} {apos cpos : Pos} {td ty tx : TE}
theorem pe_dget2 (hu : X.A.units + 1 < cLine) (ho : PE X o td) (he : PE X e ty) (hf : PE X f tx) (m : M2 X o "get" apos e f cpos) : PE X (.Call (.Attribute o "get" apos) [e, f] [] cpos) (tDGet2 td ty tx) := by
  intro pins s σ H Q I h
  refine wpAny_Call_method m.base m.few m.line PySem.F.plainAttrs_dict PySem.F.slot_dict_get PySem.F.type_dict_get (thn (ho pins s σ H _ I h) fun u s1 ⟨x, H1, I1, rx, a, ex, d, q1⟩ => ?_)
  subst ex
  obtain rfl : u = Value.ref a := rx
  obtain ⟨t1, t2, _⟩ := isDc_at I1 d
  refine ⟨t1, t2, ?_⟩
  rw [m.trees]
  refine Calls.callWith_builtin rfl (Calls.evalArgs_plain (Calls.spliced_cons (thn (he pins s1 σ H1 _ I1 q1) fun iv s2 ⟨y, H2, I2, ry, q2⟩ =>
    Calls.spliced_cons (thn (hf pins s2 σ H2 _ I2 q2) fun fv s3 ⟨z, H3, I3, rz, ov, g, q3⟩ => Calls.spliced_nil ?_))))
  exact d_get2 hu I3 g ry rz fun w' s4 I4 rw' => ⟨_, H3, I4, rw', q3⟩
end
/-! ### dict(d): a copy -/
section
variable {X : Cx} {pins : List (Addr × Obj)} {σ : St} {H : Hp} {s : Shared} {a : Addr} {kvs : List (Key × V)} {A : Around} {E : Value → Shared → Prop}
end
section
variable {X : Cx} {pins : List (Addr × Obj)} {σ : St} {H : Hp} {s : Shared} {a : Addr} {y : V} {u : Value} {A : Around} {E : Value → Shared → Prop}
end
end L2
namespace L2
open PySem PySem.Spec PyProof.Rows
section
variable {X : Cx}
end
/-! ### a dict's pairs: keys that differ -/
section
variable {κ : Type} [DecidableEq κ]
theorem valV_in {kvs : List (κ × V)} {k : κ} {v : V} (h : valV kvs k = some v) : k ∈ kvs.map (·.1) := by
  have q : (kvs.any fun kv => decide (kv.1 = k)) = true := by
    rw [valV_any, h]
    all_goals rfl
  obtain ⟨p, hp, e⟩ := List.any_eq_true.mp q
  exact List.mem_map.mpr ⟨p, hp, of_decide_eq_true e⟩
end
end L2
/-! MY OWN ADDITIONS: dict(list of pairs) -/
namespace L2
open PySem PySem.Spec PyProof.Rows
theorem noKeys {prog : Program} {w : World} {A : Around} {E : Value → Shared → Prop} {s : Shared} {a : Addr} {o : Obj} {xs : Array Value} {k : Nat} {Q : Option Value → Shared → Prop}
    (hx : s.heap.get? a = some o) (hc : o.cls = .type "list") (hdat : o.data = .seq xs k) (hd : o.dict = none) (hA : A.handled = none)
    (h : ∀ h' tk e, Heap.NewExcOf s.heap h' e "AttributeError" → Q none { s with heap := h', toks := tk }) :
    wpAny (model prog w) A (getAttr? (.ref a) "keys") Q E s := by
  obtain ⟨c, dct, dat, sl⟩ := o
  simp only at hc hdat hd
  subst hc hdat hd
  obtain ⟨hp, g, d, tk, os⟩ := s
  have hT : ∀ tk', (⟨hp, g, d, tk', os⟩ : Shared).TypeIs (.ref a) "list" := fun _ => ⟨_, hx, rfl⟩
  have f1 := sub_AttributeError
  have f3 := PySem.F.slot_list_getattribute.lookup
  have f4 := PySem.F.slot_list_getattribute.bind (.ref a)
  have f5 := am_list_getattr_none
  have hmiss : typeLookup (.type "list") "keys" = pure none := by rw [typeLookup_type, builtinLookup_eq_fast]; kernel_rfl
  unfold getAttr? getAttrBy? getAttrBy
  repeat (any_goals (first | assumption | exact hT _ | ((with_reducible show wpAny _ _ (call (Value.builtin "list.__getattribute__") _ _) _ _ _); refine call_meets PySem.F.slot_list_getattribute (hT _) am_entry_list_getattribute (PySem.F.args_list_getattribute_2 _ _) (meets_getattribute_miss_list a xs k sl "keys" _ hmiss (by decide +kernel) (by decide)) ⟨hx, hA, fun h' tk' e hx' => ?_⟩) | wp_step))
  obtain ⟨t', u', he⟩ := hx'.there
  show wpAny _ _ (getattributeRaised _ _ _ _ _ _ _) _ _ _
  unfold getattributeRaised
  repeat (any_goals (first | assumption | wp_step))
  exact h _ _ _ hx'.of
end L2
namespace L2
open PySem PySem.Spec PyProof.Rows
theorem entry_dul : entryFor table "dict.update.loop" = some Builtin.«dict.update.loop» := entryFor_of_tree (by kernel_rfl)
theorem plain_dul : plainId "dict.update.loop" = true := by decide +kernel
theorem paired_at {α β : Type} {F : α → β → Prop} : ∀ {l1 : List α} {l2 : List β}, Paired F l1 l2 → ∀ i (h1 : i < l1.length) (h2 : i < l2.length), F l1[i] l2[i]
  | _, _, .cons h _, 0, _, _ => h
  | _, _, .cons _ t, i + 1, h1, h2 => paired_at t i (by simpa using h1) (by simpa using h2)
theorem mergeK_len : ∀ (ps : List (Key × V)), (mergeK [] ps).length ≤ ps.length := by
  have key : ∀ (ps acc : List (Key × V)), (mergeK acc ps).length ≤ acc.length + ps.length := by
    intro ps
    induction ps with
    | nil => intro acc; exact Nat.le_refl _
    | cons p r ih =>
      intro acc
      have z := ih (putK acc p.1 p.2)
      have z2 : (putK acc p.1 p.2).length ≤ acc.length + 1 := length_putK acc p.1 p.2
      show (mergeK (putK acc p.1 p.2) r).length ≤ _
      rw [List.length_cons]
      omega
  intro ps
  have z := key ps []
  simpa using z
section
variable {X : Cx} {pins : List (Addr × Obj)} {σ : St} {H : Hp} {s : Shared} {a it l : Addr} {ys : List V} {its : List Value} {ps : List (Key × V)}
/-- the items are pairs -/
def PrsAt (K : PySem.W.Frag) (H : Hp) (ps : List (Key × V)) (ys : List V) : Prop := Paired (fun (p : Key × V) (y : V) => ∃ t, y = .ref t ∧ SqT K H t [kV p.1, p.2]) ps ys
theorem dp_loop {A : Around} {R : Result → Shared → Prop} (I : Inv X pins σ H s) (hh : A.handled = none) (hl : s.heap.IsList l its.toArray) (rv : Vals ys its) (hP : PrsAt X.K H ps ys) (hlen : ps.length ≤ 100000)
    (ha : s.heap.objs.size ≤ a) (hit0 : s.heap.objs.size ≤ it) (hne : a ≠ it)
    (fin : ∀ h' tk vs, (∀ b o, s.heap.get? b = some o → h'.get? b = some o) → h'.DictOf (mixKind X.prog X.w) a vs → KV (mergeK [] ps) vs → R (.ok (.ret .none)) { s with heap := h', toks := tk }) :
    ∀ (k i : Nat) (h' : Heap) (tk : Nat) (vs : List (Key × Value)), its.length - i = k → i ≤ its.length → (∀ b o, s.heap.get? b = some o → h'.get? b = some o) → h'.IsListIter it l i → h'.DictOf (mixKind X.prog X.w) a vs → KV (mergeK [] (ps.take i)) vs →
      wpAny (model X.prog X.w) A.in1 (Builtin.«dict.update.loop» ⟨[.ref a, .ref it, rawInt (i : Int), .none], []⟩) (fun fin s' => match fin with | .done f => R (.ok f) s' | .again c' => c'.quiet = true ∧ codeAny (model X.prog X.w) A c' R s') (fun e s' => R (.error e) s') { s with heap := h', toks := tk } := by
  have hl1 := rv.length
  have hl2 := Paired.length hP
  have lt : ∀ b o, s.heap.get? b = some o → b ≠ a ∧ b ≠ it := fun b o q => by
    exact ⟨Nat.ne_of_lt (Nat.lt_of_lt_of_le (Heap.lt_size q) ha), Nat.ne_of_lt (Nat.lt_of_lt_of_le (Heap.lt_size q) hit0)⟩
  obtain ⟨ol, hol, hlr⟩ := id hl
  intro k
  induction k with
  | zero =>
    intro i h' tk vs hk hi kp hit hD hK
    obtain rfl : i = its.length := by omega
    unfold Builtin.«dict.update.loop»
    dsimp only [rawInt]
    refine wpAny_bind (wpAny_pyNext_list_end (s := { s with heap := h', toks := tk }) (A := A.in1) hh hit (show h'.IsList l its.toArray from ⟨ol, kp _ _ hol, hlr⟩) (by simp) fun h2 hext => ?_)
    dsimp only
    have hD2 : h2.DictOf (mixKind X.prog X.w) a vs := hD.extBut hext hne
    show wpAny _ _ (Builtin.Dict.addKeywords a [] >>= _) _ _ _
    refine wpAny_bind (wpAny_pure (wpAny_pure ?_))
    exact fin h2 tk vs (fun b o q => hext b o (lt b o q).2 (kp b o q)) hD2 (by rw [← hl1, ← hl2, List.take_length] at hK; exact hK)
  | succ k ih =>
    intro i h' tk vs hk hi kp hit hD hK
    have hi1 : i < its.length := by omega
    have hip : i < ps.length := by omega
    unfold Builtin.«dict.update.loop»
    dsimp only [rawInt]
    refine wpAny_bind (wpAny_pyNext_list_item (s := { s with heap := h', toks := tk }) (x := its[i]) hit (show h'.IsList l its.toArray from ⟨ol, kp _ _ hol, hlr⟩) (by simp [hi1]) fun h1 hit1' hsb => ?_)
    dsimp only
    have kp1 : ∀ b o, s.heap.get? b = some o → h1.get? b = some o := fun b o q => (hsb.2 b (lt b o q).2).trans (kp b o q)
    have I1 : Inv X pins σ H { s with heap := h1, toks := tk } := I.kept kp1
    have hD1 : h1.DictOf (mixKind X.prog X.w) a vs := hD.sameBut hsb hne
    obtain ⟨u1, f1, q1⟩ := rv.get (i := i) (x := ys[i]'(by omega)) (by simp)
    have eu : its[i] = u1 := (List.getElem?_eq_some_iff.mp f1).2
    obtain ⟨t, et, hq⟩ : ∃ t, ys[i]'(by omega) = .ref t ∧ SqT X.K H t [kV (ps[i]).1, (ps[i]).2] := by
      have z := hP
      unfold PrsAt at z
      exact paired_at z i hip (by omega)
    rw [et] at q1
    have eu2 : its[i] = .ref t := by rw [eu]; exact q1
    rw [eu2]
    obtain ⟨itt, rt, pl, _⟩ := I1.tuple hq
    obtain ⟨uk, uv, rfl, rk, rvv⟩ := vals2 rt
    obtain ⟨ot, hot, hct, n, hdt⟩ := id pl
    have hTt : Shared.TypeIs { s with heap := h1, toks := tk } (.ref t) "tuple" := ⟨ot, hot, hct⟩
    refine wpAny_bind (wpAny_holding (wpAny_bind ?_))
    have hpi : ∀ {E' : Value → Shared → Prop} {Q' : List Value → Shared → Prop}, Q' [uk, uv] { s with heap := h1, toks := tk } → wpAny (model X.prog X.w) A.in1 (Builtin.Dict.pairItems (.ref t)) Q' E' { s with heap := h1, toks := tk } := fun {E' Q'} hq' => by
      unfold Builtin.Dict.pairItems
      refine wpAny_bind (wpAny_typeOf hTt ?_)
      rw [if_pos (by decide)]
      refine wpAny_bind (wpAny_seqItems hot hdt (wpAny_pure ?_))
      exact hq'
    refine wpAny_tryCatch (hpi ?_)
    dsimp only
    have hsz : vs.length ≤ sizeLine := by
      have z := hK.length
      have z2 := mergeK_len (ps.take i)
      rw [List.length_take] at z2
      exact Nat.le_trans (show vs.length ≤ 100000 by omega) (show 100000 ≤ sizeLine by rw [sizeLine_eq]; decide)
    refine wpAny_holding (wpAny_dictSet_pairs (hsz := hsz) (kV_is rk) hD1 fun h2 hD2 hsb2 => ?_)
    have kp2 : ∀ b o, s.heap.get? b = some o → h2.get? b = some o := fun b o q => (hsb2.2 b (lt b o q).1).trans (kp1 b o q)
    have hit2 : h2.IsListIter it l (i + 1) := by
      obtain ⟨o, ho, r⟩ := hit1'
      exact ⟨o, (hsb2.2 it (Ne.symm hne)).trans ho, r⟩
    refine wpAny_pure ?_
    refine ⟨plainId_quiet plain_dul _, codeAny_builtin entry_dul ?_⟩
    rw [Around.under_plainId plain_dul _]
    refine ih (i + 1) h2 (tk + 1) _ (by omega) (by omega) kp2 hit2 hD2 ?_
    rw [List.take_succ_eq_append_getElem hip]
    unfold mergeK
    rw [List.foldl_append]
    exact hK.put _ rvv
/-- dict(list of pairs) -/
theorem call_dict_pairs (hc : X.calm = true) : CallR X (.type "dict") (fun xs H Q => ∃ (l : Addr) (ys : List V) (ps : List (Key × V)), xs = [.ref l] ∧ H l = some (.lst ys) ∧ PrsAt X.K H ps ys ∧ ps.length ≤ 100000 ∧ ∀ d, H d = none → Q (.ref d) (upd H d (.dK (mergeK [] ps)))) := by
  intro pins s σ H xs us Q I r h
  obtain ⟨l, ys, ps, rfl, hl, hP, hlen, q⟩ := h
  obtain ⟨u, rfl, ru⟩ := vals1 r
  cases (show u = Value.ref l from ru)
  have hh := I.ok.hd hc
  obtain ⟨hz, its, n, rv, hg⟩ := (show ObjOk X.prog X.w H s.heap l (.lst ys) from I.hok l _ hl)
  have hf : H s.heap.objs.size = none := I.hok.fresh (Nat.le_refl _)
  refine callType_codes (Q₁ := fun obj s₁ => obj = .ref s.heap.objs.size ∧ s₁ = { s with heap := s.heap.push { cls := .type "dict", data := .dict #[] } }) PySem.F.kt_called_dict (PySem.F.kt_typeCall_dict_1 _) PySem.F.entry_dict_init (kt_code_dict_new _ ⟨rfl, rfl⟩) ?_
  rintro obj s₁ ⟨rfl, rfl⟩
  have hnew : (s.heap.push { cls := .type "dict", data := .dict #[] }).DictOf (mixKind X.prog X.w) s.heap.objs.size [] := Heap.DictOf.new s.heap
  refine ⟨hnew.typeIs, PySem.F.args_dict_init_2 _ _, ?_⟩
  unfold Builtin.«dict.__init__»
  refine wpAny_bind ?_
  unfold Builtin.Dict.selfAndRest
  refine wpAny_bind (wpAny_notOrdered_dict hnew.typeIs ?_)
  show wpAny _ _ (pure (s.heap.objs.size, [Value.ref l])) _ _ _
  refine wpAny_pure ?_
  show wpAny _ _ (Builtin.Dict.updateFrom "dict.__init__" s.heap.objs.size (.ref l) [] .none) _ _ _
  unfold Builtin.Dict.updateFrom
  have hg1 : (s.heap.push { cls := .type "dict", data := .dict #[] }).get? l = some { cls := .type "list", data := .seq its.toArray n } := Heap.get?_push_of_some _ hg
  refine wpAny_bind (wpAny_typeOf (T := "list") ⟨_, hg1, rfl⟩ ?_)
  rw [if_pos (by decide)]
  refine wpAny_bind (noKeys hg1 rfl rfl rfl hh fun h1 tk1 e hx => ?_)
  rw [if_pos (show (none : Option Value).isNone = true from rfl)]
  refine wpAny_bind (wpAny_rule ?_)
  have hg2 := hx.keeps _ _ hg1
  have hd2 : h1.DictOf (mixKind X.prog X.w) s.heap.objs.size [] := by
    obtain ⟨o, es, ep, ho, r⟩ := hnew
    exact ⟨o, es, ep, hx.keeps _ _ ho, r⟩
  have hsz1 : s.heap.objs.size < h1.objs.size := by
    obtain ⟨o, es, ep, ho, r⟩ := hd2
    exact Heap.lt_size ho
  have hL1 : h1.IsList l its.toArray := ⟨_, hg2, rfl, n, rfl⟩
  refine wpAny_bind (wpAny_pyIter_list (s := { s with heap := h1, toks := tk1 }) hL1 ?_)
  refine wpAny_pure ⟨plainId_quiet plain_dul _, codeAny_builtin entry_dul ?_⟩
  rw [Around.under_plainId plain_dul _]
  have kp0 : ∀ b o, s.heap.get? b = some o → (h1.push { cls := .type "list_iterator", data := .fields #[.ref l, .int 0 0] }).get? b = some o := fun b o q => Heap.get?_push_of_some _ (hx.keeps _ _ (Heap.get?_push_of_some _ q))
  refine dp_loop (A := X.A.in1) (its := its) (a := s.heap.objs.size) (it := h1.objs.size) I hh ⟨_, hg, rfl, n, rfl⟩ rv hP hlen (Nat.le_refl _) (Nat.le_of_lt hsz1) (Nat.ne_of_lt hsz1) (fun h' tk vs kp hD hK => ?_)
    its.length 0 (h1.push { cls := .type "list_iterator", data := .fields #[.ref l, .int 0 0] }) tk1 [] (by omega) (Nat.zero_le _) kp0 ⟨_, Heap.get?_push_size _ rfl, rfl, rfl⟩ (hd2.push _) .nil
  refine ⟨rfl, .ref s.heap.objs.size, upd H s.heap.objs.size (.dK (mergeK [] ps)), I.laid (t' := tk) kp (Nat.le_refl _) ?_, rfl, q _ hf⟩
  refine ⟨Nat.le_trans (mergeK_len ps) (Nat.le_trans hlen (by rw [sizeLine_eq]; decide)), ?_, vs, hK, hD⟩
  exact beq_eq_false_iff_ne.mpr (Nat.ne_of_gt I.big)
end
end L2
namespace L2
open PySem PySem.Spec PyProof.Rows
section
variable {X : Cx}
theorem is_kV {P : Program} {w : World} {k : Key} {u : Value} (r : (mixKind P w).is k u = true) : RelV (kV k) u := by
  rcases keyIs_shape (k := k) (v := u) r with ⟨i, t, rfl, rfl⟩ | ⟨x, t, rfl, rfl⟩
  · exact ⟨t, rfl⟩
  · exact ⟨t, rfl⟩
end
end L2
namespace K02
open PySem
/-! ### pieces of a text, as lists of codes -/
abbrev aSmall : Str := "abcdefghijklmnopqrstuvwxyz"
abbrev aGreat : Str := "ABCDEFGHIJKLMNOPQRSTUVWXYZ"
abbrev aFig : Str := "0123456789"
def isAl (c : Nat) : Bool := decide (c ∈ aSmall.cps.toList) || (decide (c ∈ aGreat.cps.toList) || decide (c ∈ aFig.cps.toList))
def shut (cur : List Nat) (r : List (List Nat)) : List (List Nat) := if cur = [] then r else cur :: r
def toksF : List Nat → List Nat → List (List Nat)
  | [], cur => shut cur []
  | c :: r, cur => if isAl c = true then toksF r (cur ++ [c]) else shut cur (if c = 32 then toksF r [] else [c] :: toksF r [])
def toks (l : List Nat) : List (List Nat) := toksF l []
/-! ### the loop of pieces -/
/-! ### arguments -/
def nameC (p : List Nat) : Bool := decide (1 ≤ p.length) && (decide (p.length ≤ 12) && p.all isAl)
def argsL : List (List Nat) → Option (List (List Nat) × Nat)
  | n :: m :: r => if nameC n = true then (if m = [41] then some ([n], 2) else if m = [44] then (argsL r).map fun q => (n :: q.1, q.2 + 2) else none) else none
  | _ => none
def between : List (List Nat) → List (List Nat)
  | [] => []
  | [a] => [a, [41]]
  | a :: r => a :: [44] :: between r
end K02
/-! ### books: what a text tells, how it lies in the memory -/
namespace Bk
open PySem L2 K02
abbrev Cs := List Nat
/-- a text by its codes -/
abbrev S (p : Cs) : Str := ⟨p.toArray⟩
abbrev tx (p : Cs) : V := .str (S p)
theorem S_codes (p : Cs) : (S p).cps.toList = p := by simp
theorem S_of (x : Str) : S x.cps.toList = x := by cases x; simp
theorem S_len (p : Cs) : (S p).length = p.length := by simp [Str.length]
theorem len_is (x : Str) : x.cps.toList.length = x.length := by simp [Str.length]
theorem S_inj {a b : Cs} (h : S a = S b) : a = b := by
  have e := congrArg (fun s : Str => s.cps.toList) h
  simpa using e
/-- one fact, one kind, one look, one rule -/
structure Fc where
  k : Cs
  as : List Cs
structure Kd where
  n : Cs
  c : Nat
  l : Bool
structure Lk where
  same : Bool
  l : Cs
  r : Cs
structure Rl where
  title : Cs
  take : List Fc
  keep : List Fc
  looks : List Lk
  put : List Fc
  tell : List (Cs × Cs)
/-- nothing that came since H0 is lost, and tuples stay -/
structure Kp (H0 H H' : Hp) : Prop where
  new : ∀ b o, H0 b = none → H b = some o → H' b = some o
  tup : ∀ b xs, H b = some (.tup xs) → H' b = some (.tup xs)
  frz : ∀ b o u, H b = some (.frz o u) → H' b = some (.frz o u)
  dom : ∀ b, H' b = none → H b = none
theorem Kp.trans {H0 H H1 H2 : Hp} (a : Kp H0 H H1) (b : Kp H0 H1 H2) : Kp H0 H H2 :=
  ⟨fun c o n h => b.new c o n (a.new c o n h), fun c xs h => b.tup c xs (a.tup c xs h), fun c o u h => b.frz c o u (a.frz c o u h), fun c h => a.dom c (b.dom c h)⟩
theorem Kp.same {H0 H H' : Hp} (s : Same H H') : Kp H0 H H' := ⟨fun b o _ h => s b o h, fun b xs h => s b _ h, fun b o u h => s b _ h, fun b h => by
  cases e : H b with
  | none => rfl
  | some o => rw [s b o e] at h; cases h⟩
/-- a thing that stood at H0 and is no tuple is written -/
theorem Kp.upd {H0 H : Hp} {l : Addr} {o o' u0 : HO} (h0 : H0 l = some u0) (h : H l = some o) (nt : ∀ xs, o ≠ .tup xs) (nf : ∀ ob u, o ≠ .frz ob u) : Kp H0 H (upd H l o') := by
  refine ⟨fun b u n e => ?_, fun b xs e => ?_, fun b ob u e => ?_, fun b e => ?_⟩
  · rw [upd_ne (fun z => by rw [z, h0] at n; cases n)]; exact e
  · rw [upd_ne (fun z => by rw [z, h] at e; exact nt xs (Option.some.inj e))]; exact e
  · rw [upd_ne (fun z => by rw [z, h] at e; exact nf ob u (Option.some.inj e))]; exact e
  · by_cases z : b = l
    · rw [z, upd_same] at e; cases e
    · rw [upd_ne z] at e; exact e
theorem Kp.older {H0 H1 H H' : Hp} (k : Kp H0 H H') (d : ∀ b, H1 b = none → H0 b = none) : Kp H1 H H' := ⟨fun b o n h => k.new b o (d b n) h, k.tup, k.frz, k.dom⟩
theorem SqT.keep {K : PySem.W.Frag} {H0 H H' : Hp} (k : Kp H0 H H') {a : Addr} {xs : List V} (h : SqT K H a xs) : SqT K H' a xs := by
  rcases h with (h | ⟨o, h⟩) | h
  · exact .inl (.inl (k.tup _ _ h))
  · exact .inl (.inr ⟨o, k.frz _ _ _ h⟩)
  · exact .inr h
/-- a fact, a kind, a pair in the memory -/
def Fact (K : PySem.W.Frag) (H : Hp) (f : Fc) (v : V) : Prop := ∃ t t2, v = .ref t ∧ SqT K H t [tx f.k, .ref t2] ∧ SqT K H t2 (f.as.map tx)
def Kind (K : PySem.W.Frag) (H : Hp) (k : Kd) (v : V) : Prop := ∃ t, v = .ref t ∧ SqT K H t [tx k.n, .int k.c, .bl k.l]
def Pair (K : PySem.W.Frag) (H : Hp) (p : Cs × Cs) (v : V) : Prop := ∃ t, v = .ref t ∧ SqT K H t [tx p.1, tx p.2]
theorem Fact.keep {K : PySem.W.Frag} {H0 H H' : Hp} {f : Fc} {v : V} (k : Kp H0 H H') (h : Fact K H f v) : Fact K H' f v := by
  obtain ⟨t, t2, e, h1, h2⟩ := h
  exact ⟨t, t2, e, SqT.keep k h1, SqT.keep k h2⟩
/-- a list, made since H0, of such things -/
def Lst (α : Type) (R : Hp → α → V → Prop) (H0 H : Hp) (v : V) (xs : List α) : Prop := ∃ l vs, v = .ref l ∧ H0 l = none ∧ H l = some (.lst vs) ∧ Paired (R H) xs vs
theorem Lst.older {α : Type} {R : Hp → α → V → Prop} {H0 H1 H : Hp} {v : V} {xs : List α} (d : ∀ b, H1 b = none → H0 b = none) (h : Lst α R H1 H v xs) : Lst α R H0 H v xs := by
  obtain ⟨l, vs, e, n, h1, h2⟩ := h
  exact ⟨l, vs, e, d l n, h1, h2⟩
/-- an instance, made since H0, of the class at C -/
def Ins (C : Addr) (H0 H : Hp) (v : V) (F : List (Str × V) → Prop) : Prop := ∃ a dx fs, v = .ref a ∧ H0 a = none ∧ H a = some (.ins C dx fs) ∧ F fs
/-- the three classes of a text -/
structure Cl where
  same : Addr
  unlike : Addr
  rule : Addr
  book : Addr
def Cl.look (c : Cl) (b : Bool) : Addr := if b = true then c.same else c.unlike
def LookO (c : Cl) (H0 H : Hp) (k : Lk) (v : V) : Prop := Ins (c.look k.same) H0 H v fun fs => fs.lookup ("left" : Str) = some (tx k.l) ∧ fs.lookup ("right" : Str) = some (tx k.r) ∧ fs.lookup ("holds" : Str) = none ∧ fs.lookup ("word" : Str) = none
def great (x : Cs) : Bool := decide (x.headD 0 ∈ aGreat.cps.toList)
/-- each once, in the order in which they first stand there -/
def once : List Cs → List Cs → List Cs
  | [], acc => acc
  | x :: r, acc => once r (if x ∈ acc then acc else acc ++ [x])
def opens (fs : List Fc) : List Cs := once ((fs.flatMap (·.as)).filter great) []
def Facts (K : PySem.W.Frag) := Lst Fc (Fact K)
def Pairs (K : PySem.W.Frag) := Lst (Cs × Cs) (Pair K)
def Kinds (K : PySem.W.Frag) := Lst Kd (Kind K)
def Texts (H0 H : Hp) (v : V) (xs : List Cs) : Prop := ∃ l, v = .ref l ∧ H0 l = none ∧ H l = some (.lst (xs.map tx))
def Looks (c : Cl) (H0 H : Hp) (v : V) (xs : List Lk) : Prop := ∃ l vs, v = .ref l ∧ H0 l = none ∧ H l = some (.lst vs) ∧ Paired (LookO c H0 H) xs vs
structure RuleF (K : PySem.W.Frag) (c : Cl) (H0 H : Hp) (r : Rl) (fs : List (Str × V)) : Prop where
  title : fs.lookup ("title" : Str) = some (tx r.title)
  taken : ∃ v, fs.lookup ("taken" : Str) = some v ∧ Facts K H0 H v r.take
  kept : ∃ v, fs.lookup ("kept" : Str) = some v ∧ Facts K H0 H v r.keep
  looks : ∃ v, fs.lookup ("looks" : Str) = some v ∧ Looks c H0 H v r.looks
  given : ∃ v, fs.lookup ("given" : Str) = some v ∧ Facts K H0 H v r.put
  told : ∃ v, fs.lookup ("told" : Str) = some v ∧ Pairs K H0 H v r.tell
  names : ∃ v, fs.lookup ("names" : Str) = some v ∧ Texts H0 H v (opens (r.take ++ r.keep))
  calls : fs.lookup ("calls" : Str) = none
def RuleO (K : PySem.W.Frag) (c : Cl) (H0 H : Hp) (r : Rl) (v : V) : Prop := Ins c.rule H0 H v (RuleF K c H0 H r)
/-- a list of rules -/
def Rules (K : PySem.W.Frag) (c : Cl) (H0 H : Hp) (v : V) (xs : List Rl) : Prop := ∃ l vs, v = .ref l ∧ H0 l = none ∧ H l = some (.lst vs) ∧ Paired (RuleO K c H0 H) xs vs
/-- a book -/
structure BookF (K : PySem.W.Frag) (c : Cl) (H0 H : Hp) (ks : List Kd) (rs : List Rl) (fs : List (Str × V)) : Prop where
  kinds : ∃ v, fs.lookup ("kinds" : Str) = some v ∧ Kinds K H0 H v ks
  rules : ∃ v, fs.lookup ("rules" : Str) = some v ∧ Rules K c H0 H v rs
/-! ### the pieces that write them -/
def smallC (p : Cs) : Bool := nameC p && decide (p.headD 0 ∈ aSmall.cps.toList)
inductive FactP : List Cs → Fc → Prop
  | bare {k : Cs} (hk : smallC k = true) : FactP [k] ⟨k, []⟩
  | empty {k : Cs} (hk : smallC k = true) : FactP [k, [40], [41]] ⟨k, []⟩
  | args {k : Cs} {as : List Cs} (hk : smallC k = true) (h0 : as ≠ []) (h : ∀ a ∈ as, nameC a = true) : FactP (k :: [40] :: between as) ⟨k, as⟩
inductive RowP : List Cs → List Fc → Prop
  | one {ps : List Cs} {f : Fc} (h : FactP ps f) : RowP ps [f]
  | more {ps r : List Cs} {f : Fc} {fs : List Fc} (h : FactP ps f) (t : RowP r fs) : RowP (ps ++ [44] :: r) (f :: fs)
def glue (m : Cs) : List (List Cs) → List Cs
  | [] => []
  | [q] => q
  | q :: r => q ++ m :: glue m r
end Bk
namespace Bk
open PySem L2 K02
/-! ### promises of the readers, for texts that are in order -/
theorem head_at {x : Str} (h : 1 ≤ x.length) : atI x.cps.toList (0 : Int) = some (x.cps.toList.headD 0) := by
  have e := len_is x
  cases q : x.cps.toList with
  | nil => rw [q] at e; simp at e; omega
  | cons a r => exact atI_nat (j := 0) rfl
theorem sz {n : Nat} (h : n ≤ 100000) : n ≤ sizeLine := by rw [sizeLine_eq]; omega
theorem szl {n : Nat} (h : n ≤ 100000) : n < sizeLine := by rw [sizeLine_eq]; omega
theorem same_new {H : Hp} {p : Addr} (h : H p = none) (o : HO) : Same H (upd H p o) := fun b u q => by rw [upd_ne (ne_of_none q h)]; exact q
theorem Same.upd_new {H H' : Hp} {p : Addr} (e : Same H H') (h : H p = none) (o : HO) : Same H (upd H' p o) := fun b u q => by
  rw [upd_ne (ne_of_none q h)]
  exact e b u q
theorem mid {a b : Int} (h : 0 < b) : 0 ≤ a % b ∧ a % b < b := ⟨Int.emod_nonneg a (by omega), Int.emod_lt_of_pos a h⟩
theorem getD_get {l : List Nat} {i : Nat} (h : i < l.length) : l[i]? = some (l.getD i 0) := by
  rw [List.getD_eq_getElem?_getD, List.getElem?_eq_getElem h]
  rfl
theorem str_at {x : Str} {i : Int} (h0 : 0 ≤ i) (h1 : i < x.length) : atI x.cps.toList i = some (x.cps.toList.getD i.toNat 0) := by
  have hl := len_is x
  have hk : i.toNat < x.cps.toList.length := by omega
  have z := atI_nat (xs := x.cps.toList) (j := i.toNat) (v := x.cps.toList.getD i.toNat 0) (getD_get hk)
  rw [show ((i.toNat : Nat) : Int) = i by omega] at z
  exact z
def spGreat : Sp := fun vs H Q _ => ∃ p : Cs, vs = [tx p] ∧ p ≠ [] ∧ p.length ≤ 1000 ∧ Q (.bl (great p)) H
def okS (m : Str) (c : Nat) : Bool := isAl c || (decide (c ∈ m.cps.toList) || c == 32)
/-- the fact at the head of pieces: kind, arguments, how many pieces -/
inductive FactAt : List Cs → Cs → List Cs → Nat → Prop
  | bare {k : Cs} {r : List Cs} (hk : smallC k = true) (h : r.getD 0 [] ≠ [40]) : FactAt (k :: r) k [] 1
  | empty {k : Cs} {r : List Cs} (hk : smallC k = true) : FactAt (k :: [40] :: [41] :: r) k [] 3
  | args {k : Cs} {r as : List Cs} {n : Nat} (hk : smallC k = true) (h0 : r.getD 0 [] ≠ [41]) (h : argsL r = some (as, n)) : FactAt (k :: [40] :: r) k as (n + 2)
theorem slice_S {x : Str} {p n : Nat} (h : p + n ≤ x.length) : Txt.slice x (some (p : Int)) (some ((p + n : Nat) : Int)) = S ((x.cps.toList.drop p).take n) := by
  have e := slice_mid (z := x) (i := p) (j := ((p + n : Nat) : Int)) (by omega) (by omega) (by omega)
  rw [← S_of (Txt.slice x (some (p : Int)) (some ((p + n : Nat) : Int))), e, show ((p : Int)).toNat = p by omega, show (((p + n : Nat) : Int) - (p : Int)).toNat = n by omega]
end Bk
namespace Bk
open PySem L2 K02
/-! ### lines -/
/-- is a line told: its first sign that is no blank -/
def told (p : Cs) : Bool := match p.dropWhile (· == 32) with
  | [] => false
  | c :: _ => !(c == 35)
abbrev aLine : Str := "(),:;="
/-! ### kinds -/
abbrev cs (s : Str) : Cs := s.cps.toList
abbrev kwPassing : Cs := [112, 97, 115, 115, 105, 110, 103]
abbrev kwLasting : Cs := [108, 97, 115, 116, 105, 110, 103]
abbrev kwRule : Cs := [114, 117, 108, 101]
abbrev kwTake : Cs := [116, 97, 107, 101]
abbrev kwKeep : Cs := [107, 101, 101, 112]
abbrev kwLook : Cs := [108, 111, 111, 107]
abbrev kwPut : Cs := [112, 117, 116]
abbrev kwTell : Cs := [116, 101, 108, 108]
def kindP (k : Kd) : List Cs := [if k.l = true then kwLasting else kwPassing, k.n, [48 + k.c]]
end Bk
namespace Bk
open PySem L2 K02
/-- a comprehension whose elements are made anew -/
theorem comp_rel {tt : TE} {caps : List Nat} {σ : St} {H1 : Hp} {Q : VK} {K : PySem.W.Frag} {a : Addr} {xs : List V} {D : Addr} {β : Type} (bs : List β) (Out : Hp → Hp → β → V → Prop)
    (keep : ∀ H0 H H' b y, Kp H0 H H' → Out H0 H b y → Out H0 H' b y) (older : ∀ H0 H2 H b y, (∀ c, H2 c = none → H0 c = none) → Out H2 H b y → Out H0 H b y)
    (hn : xs.length < sizeLine) (hD0 : H1 D = none) (hl : SqL K H1 a xs) (hb : bs.length = xs.length)
    (he : ∀ (i : Nat) x b H' R, xs[i]? = some x → bs[i]? = some b → Same H1 H' → (∀ y H'', Same H' H'' → Out H' H'' b y → R y H'') → tt (compS σ (some x) caps) H' R)
    (hd : ∀ H' ys, Same H1 H' → H' D = some (.lst ys) → Paired (Out H1 H') bs ys → Q (.ref D) H') : CompW tAll tt caps σ Q (Itl K a) H1 D := by
  have s0 : Same H1 (upd H1 D (.lst [])) := same_new hD0 _
  have dom0 : ∀ c, upd H1 D (.lst []) c = none → H1 c = none := fun c h => s0.free h
  refine comp_list (K := K) (a := a) (xs := xs) hn (fun i ys H' => Same H1 H' ∧ H' D = some (.lst ys) ∧ (∀ c, H' c = none → upd H1 D (.lst []) c = none) ∧ Paired (Out (upd H1 D (.lst [])) H') (bs.take i) ys) ⟨s0, upd_same, fun _ h => h, .nil⟩
    (fun i ys H' p => p.1.seq hl) (fun i ys H' p => ⟨p.2.1, ?_⟩) (fun i ys H' hi p => ?_) (fun ys H' p => ?_)
  · have z := Paired.length p.2.2.2
    rw [List.length_take] at z
    omega
  · have hx : xs.getD i .non = xs[i] := by rw [List.getD_eq_getElem?_getD, List.getElem?_eq_getElem hi]; rfl
    rw [hx]
    have hib : i < bs.length := by omega
    refine he i xs[i] bs[i] H' _ (List.getElem?_eq_getElem hi) (List.getElem?_eq_getElem hib) p.1 fun y H2 s2 ho => ?_
    have hD2 := s2 _ _ p.2.1
    have kp : Kp (upd H1 D (.lst [])) H2 (upd H2 D (.lst (ys ++ [y]))) := Kp.upd upd_same hD2 (by intro xs z; cases z) (by intro o u z; cases z)
    refine ⟨hD2, Same.upd_new (Same.trans p.1 s2) hD0 _, upd_same, fun c h => ?_, ?_⟩
    · have h2 := kp.dom c h
      exact p.2.2.1 c (s2.free h2)
    · rw [List.take_succ_eq_append_getElem hib]
      refine (L2.Paired.mapP p.2.2.2 fun b v z => keep _ _ _ _ _ kp (keep _ _ _ _ _ (Kp.same s2) z)).snoc ?_
      exact keep _ _ _ _ _ kp (older _ _ _ _ _ p.2.2.1 ho)
  · have z := p.2.2.2
    rw [List.take_of_length_le (by omega)] at z
    exact hd H' ys p.1 p.2.1 (L2.Paired.mapP z fun b v h => older _ _ _ _ _ (fun c h => by
      by_cases e : c = D
      · rw [e]; exact hD0
      · exact dom0 c h) h)
/-! ### parted -/
theorem paired_mono {α β : Type} {R R' : α → β → Prop} : ∀ {l1 : List α} {l2 : List β}, Paired R l1 l2 → (∀ a b, b ∈ l2 → R a b → R' a b) → Paired R' l1 l2
  | _, _, .nil, _ => .nil
  | _, _, .cons r t, h => .cons (h _ _ List.mem_cons_self r) (paired_mono t fun a b hb => h a b (List.mem_cons_of_mem _ hb))
/-- rows of pieces -/
def RowAt (H0 H : Hp) (row : List Cs) (v : V) : Prop := ∃ b, v = .ref b ∧ H0 b = none ∧ H b = some (.lst (row.map tx))
def Rows (H0 H : Hp) (v : V) (rows : List (List Cs)) : Prop := ∃ l vs, v = .ref l ∧ H0 l = none ∧ H l = some (.lst vs) ∧ Paired (RowAt H0 H) rows vs
/-! ### looks and pairs -/
abbrev kwSame : Cs := [115, 97, 109, 101]
abbrev kwUnlike : Cs := [117, 110, 108, 105, 107, 101]
def lookP (k : Lk) : List Cs := [k.l, if k.same = true then kwSame else kwUnlike, k.r]
def pairP (p : Cs × Cs) : List Cs := [p.1, [61], p.2]
structure LTxt (K : PySem.W.Frag) (C : Addr) : Prop where
  cl : Cls K C
  nL : NoAttr K C "left"
  nR : NoAttr K C "right"
end Bk
namespace Bk
open PySem L2 K02
/-! ### parts of a rule -/
inductive Pt where
  | fs (l : List Fc)
  | lk (l : List Lk)
  | pr (l : List (Cs × Cs))
def PartAt (K : PySem.W.Frag) (c : Cl) (H0 H : Hp) (v : V) : Pt → Prop
  | .fs l => Facts K H0 H v l
  | .lk l => Looks c H0 H v l
  | .pr l => Pairs K H0 H v l
theorem LookO.older {c : Cl} {H0 H1 H : Hp} {x : Lk} {v : V} (d : ∀ b, H1 b = none → H0 b = none) (h : LookO c H1 H x v) : LookO c H0 H x v := by
  obtain ⟨a, dx, fs, e, n, r⟩ := h
  exact ⟨a, dx, fs, e, d a n, r⟩
theorem Looks.older {c : Cl} {H0 H1 H : Hp} {xs : List Lk} {v : V} (d : ∀ b, H1 b = none → H0 b = none) (h : Looks c H1 H v xs) : Looks c H0 H v xs := by
  obtain ⟨l, vs, e, n, h1, h2⟩ := h
  exact ⟨l, vs, e, d l n, h1, L2.Paired.mapP h2 fun _ _ z => z.older d⟩
theorem PartAt.older {K : PySem.W.Frag} {c : Cl} {H0 H1 H : Hp} {v : V} (d : ∀ b, H1 b = none → H0 b = none) : ∀ {p : Pt}, PartAt K c H1 H v p → PartAt K c H0 H v p
  | .fs _, h => Lst.older d h
  | .lk _, h => Looks.older d h
  | .pr _, h => Lst.older d h
def wordAt : Nat → Cs
  | 0 => kwTake
  | 1 => kwKeep
  | 2 => kwLook
  | 3 => kwPut
  | _ => kwTell
/-- the pieces that write a part -/
inductive PartP : Nat → List Cs → Pt → Prop
  | fs {n : Nat} {ps : List Cs} {l : List Fc} (hn : n = 0 ∨ n = 1 ∨ n = 3) (h : RowP ps l) : PartP n ps (.fs l)
  | lk {l : List Lk} (h0 : l ≠ []) (hl : l.length ≤ 1000) (h : ∀ k ∈ l, nameC k.l = true ∧ nameC k.r = true) : PartP 2 (glue [44] (l.map lookP)) (.lk l)
  | pr {l : List (Cs × Cs)} (h0 : l ≠ []) (hl : l.length ≤ 1000) (h : ∀ k ∈ l, nameC k.1 = true ∧ nameC k.2 = true) : PartP 4 (glue [44] (l.map pairP)) (.pr l)
/-- one part with its place among the words, and its pieces -/
structure Pr where
  n : Nat
  ps : List Cs
  p : Pt
def Inc : Nat → List Pr → Prop
  | _, [] => True
  | m, x :: r => m ≤ x.n ∧ x.n < 5 ∧ Inc (x.n + 1) r
structure RuleP (title : Cs) (L : List Pr) : Prop where
  tt : smallC title = true
  ne : L ≠ []
  inc : Inc 0 L
  ok : ∀ x ∈ L, PartP x.n x.ps x.p
  hd : ∃ x ∈ L, x.n = 0 ∨ x.n = 1
  no : ∀ x ∈ L, [59] ∉ x.ps
def rulePs (title : Cs) (L : List Pr) : List Cs := kwRule :: title :: [58] :: glue [59] (L.map fun x => wordAt x.n :: x.ps)
theorem valV_none {kvs : List (Key × V)} {k : Key} (h : ∀ p ∈ kvs, p.1 ≠ k) : valV kvs k = none := by
  cases e : valV kvs k with
  | none => rfl
  | some v =>
    obtain ⟨p, hp, hk⟩ := List.mem_map.mp (valV_in e)
    exact absurd hk (h p hp)
end Bk
namespace Bk
open PySem L2 K02
/-! ### open names -/
def FactOk (f : Fc) : Prop := smallC f.k = true ∧ f.as.length ≤ 20000 ∧ ∀ a ∈ f.as, nameC a = true
/-! ### a rule's parts -/
def findN (n : Nat) (L : List Pr) : Option Pr := L.find? fun x => x.n == n
def fsOf (n : Nat) (L : List Pr) : List Fc := match findN n L with
  | some ⟨_, _, .fs l⟩ => l
  | _ => []
def lkOf (L : List Pr) : List Lk := match findN 2 L with
  | some ⟨_, _, .lk l⟩ => l
  | _ => []
def prOf (L : List Pr) : List (Cs × Cs) := match findN 4 L with
  | some ⟨_, _, .pr l⟩ => l
  | _ => []
def rlOf (title : Cs) (L : List Pr) : Rl := ⟨title, fsOf 0 L, fsOf 1 L, lkOf L, fsOf 3 L, prOf L⟩
/-- what a class of rules must have -/
structure RTxt (K : PySem.W.Frag) (C : Addr) : Prop where
  cl : Cls K C
  n1 : NoAttr K C "title"
  n2 : NoAttr K C "taken"
  n3 : NoAttr K C "kept"
  n4 : NoAttr K C "looks"
  n5 : NoAttr K C "given"
  n6 : NoAttr K C "told"
  n7 : NoAttr K C "names"
structure BTxt (K : PySem.W.Frag) (C : Addr) : Prop where
  cl : Cls K C
  n1 : NoAttr K C "kinds"
  n2 : NoAttr K C "rules"
structure RlOk (r : Rl) : Prop where
  heads : ∀ f ∈ r.take ++ r.keep, FactOk f
  few : (r.take ++ r.keep).length ≤ 20000
  fewA : ((r.take ++ r.keep).flatMap (·.as)).length ≤ 20000
theorem paired_app {α β : Type} {R : α → β → Prop} : ∀ {a1 a2 : List α} {b1 b2 : List β}, Paired R a1 b1 → Paired R a2 b2 → Paired R (a1 ++ a2) (b1 ++ b2)
  | _, _, _, _, .nil, h => h
  | _, _, _, _, .cons r t, h => .cons r (paired_app t h)
end Bk
namespace Bk
open PySem L2 K02
theorem inV_map (a : Cs) (l : List Cs) : inV (tx a) (l.map tx) = decide (a ∈ l) := by
  unfold inV
  rw [List.any_map, Bool.eq_iff_iff, List.any_eq_true, decide_eq_true_eq]
  constructor
  · rintro ⟨x, hx, h⟩
    have e : (S x == S a) = true := h
    rw [S_inj (eq_of_beq e)] at hx
    exact hx
  · intro h
    exact ⟨a, h, (show (S a == S a) = true from beq_self_eq_true _)⟩
theorem flat_map (l : List Cs) : (l.map tx).all flatV = true := by
  rw [List.all_map, List.all_eq_true]
  intro x _
  rfl
/-- a comprehension with a test, elements made anew -/
theorem comp_relF {tt : TT} {te : TE} {caps : List Nat} {σ : St} {H1 : Hp} {Q : VK} {K : PySem.W.Frag} {a : Addr} {xs : List V} {D : Addr} {β γ : Type} (bs : List β) (kp : β → Bool) (g : β → γ) (Out : Hp → Hp → γ → V → Prop)
    (keep : ∀ H0 H H' b y, Kp H0 H H' → Out H0 H b y → Out H0 H' b y) (older : ∀ H0 H2 H b y, (∀ c, H2 c = none → H0 c = none) → Out H2 H b y → Out H0 H b y)
    (hn : xs.length < sizeLine) (hD0 : H1 D = none) (hl : SqL K H1 a xs) (hb : bs.length = xs.length)
    (ht : ∀ (i : Nat) x b H' R, xs[i]? = some x → bs[i]? = some b → Same H1 H' → (∀ H'', Same H' H'' → R (kp b) H'') → tt (compS σ (some x) caps) H' R)
    (he : ∀ (i : Nat) x b H' R, xs[i]? = some x → bs[i]? = some b → kp b = true → Same H1 H' → (∀ y H'', Same H' H'' → Out H' H'' (g b) y → R y H'') → te (compS σ (some x) caps) H' R)
    (hd : ∀ H' ys, Same H1 H' → H' D = some (.lst ys) → Paired (Out H1 H') ((bs.filter kp).map g) ys → Q (.ref D) H') : CompW tt te caps σ Q (Itl K a) H1 D := by
  have s0 : Same H1 (upd H1 D (.lst [])) := same_new hD0 _
  have dom0 : ∀ c, upd H1 D (.lst []) c = none → H1 c = none := fun c h => s0.free h
  refine comp_list (K := K) (a := a) (xs := xs) hn (fun i ys H' => Same H1 H' ∧ H' D = some (.lst ys) ∧ (∀ c, H' c = none → upd H1 D (.lst []) c = none) ∧ Paired (Out (upd H1 D (.lst [])) H') (((bs.take i).filter kp).map g) ys) ⟨s0, upd_same, fun _ h => h, .nil⟩
    (fun i ys H' p => p.1.seq hl) (fun i ys H' p => ⟨p.2.1, ?_⟩) (fun i ys H' hi p => ?_) (fun ys H' p => ?_)
  · have z := Paired.length p.2.2.2
    rw [List.length_map] at z
    have z2 := List.length_filter_le kp (bs.take i)
    rw [List.length_take] at z2
    omega
  · have hx : xs.getD i .non = xs[i] := by rw [List.getD_eq_getElem?_getD, List.getElem?_eq_getElem hi]; rfl
    rw [hx]
    have hib : i < bs.length := by omega
    refine ht i xs[i] bs[i] H' _ (List.getElem?_eq_getElem hi) (List.getElem?_eq_getElem hib) p.1 fun H1' s1' => ?_
    have hD1 := s1' _ _ p.2.1
    have dom1 : ∀ c, H1' c = none → upd H1 D (.lst []) c = none := fun c h => p.2.2.1 c (s1'.free h)
    cases hk : kp bs[i] with
    | false =>
      refine iteF ⟨Same.trans p.1 s1', hD1, dom1, ?_⟩
      rw [List.take_succ_eq_append_getElem hib, List.filter_append]
      have e : [bs[i]].filter kp = [] := by simp [hk]
      rw [e, List.append_nil]
      exact L2.Paired.mapP p.2.2.2 fun b v z => keep _ _ _ _ _ (Kp.same s1') z
    | true =>
      refine iteT ?_
      refine he i xs[i] bs[i] H1' _ (List.getElem?_eq_getElem hi) (List.getElem?_eq_getElem hib) hk (Same.trans p.1 s1') fun y H2 s2 ho => ?_
      have hD2 := s2 _ _ hD1
      have kp2 : Kp (upd H1 D (.lst [])) H2 (upd H2 D (.lst (ys ++ [y]))) := Kp.upd upd_same hD2 (by intro xs z; cases z) (by intro o u z; cases z)
      refine ⟨hD2, Same.upd_new (Same.trans (Same.trans p.1 s1') s2) hD0 _, upd_same, fun c h => ?_, ?_⟩
      · exact dom1 c (s2.free (kp2.dom c h))
      · rw [List.take_succ_eq_append_getElem hib, List.filter_append]
        have e : [bs[i]].filter kp = [bs[i]] := by simp [hk]
        rw [e, List.map_append]
        refine (L2.Paired.mapP p.2.2.2 fun b v z => keep _ _ _ _ _ kp2 (keep _ _ _ _ _ (Kp.same (Same.trans s1' s2)) z)).snoc ?_
        exact keep _ _ _ _ _ kp2 (older _ _ _ _ _ dom1 ho)
  · have z := p.2.2.2
    rw [List.take_of_length_le (by omega)] at z
    exact hd H' ys p.1 p.2.1 (L2.Paired.mapP z fun b v h => older _ _ _ _ _ (fun c h => by
      by_cases e : c = D
      · rw [e]; exact hD0
      · exact dom0 c h) h)
theorem paired_tx : ∀ {l : List Cs} {ys : List V}, Paired (fun b y => y = tx b) l ys → ys = l.map tx
  | _, _, .nil => rfl
  | _, _, .cons r t => by rw [r, paired_tx t]; rfl
/-! ### one line heard -/
def KdOk (k : Kd) : Prop := smallC k.n = true ∧ k.c ≤ 4
structure HearIn (K : PySem.W.Frag) (c : Cl) (H0 H : Hp) (lk lr : Addr) (ks : List Kd) (rs : List Rl) (kvs rvs : List V) : Prop where
  hk : H lk = some (.lst kvs)
  pk : Paired (Kind K H) ks kvs
  hr : H lr = some (.lst rvs)
  pr : Paired (RuleO K c H0 H) rs rvs
  ne : lk ≠ lr
  ok : ∃ u, H0 lk = some u
  or : ∃ u, H0 lr = some u
  dom : ∀ b, H b = none → H0 b = none
  fk : ks.length ≤ 10000
  fr : rs.length ≤ 10000
theorem RuleO.older {K : PySem.W.Frag} {c : Cl} {H0 H1 H : Hp} {r : Rl} {v : V} (d : ∀ b, H1 b = none → H0 b = none) (h : RuleO K c H1 H r v) : RuleO K c H0 H r v := by
  obtain ⟨a, dx, fs, e, n, h1, ⟨t1, ⟨v2, e2, h2⟩, ⟨v3, e3, h3⟩, ⟨v4, e4, h4⟩, ⟨v5, e5, h5⟩, ⟨v6, e6, h6⟩, ⟨v7, e7, h7⟩, h8⟩⟩ := h
  refine ⟨a, dx, fs, e, d a n, h1, ⟨t1, ⟨v2, e2, Lst.older d h2⟩, ⟨v3, e3, Lst.older d h3⟩, ⟨v4, e4, Looks.older d h4⟩, ⟨v5, e5, Lst.older d h5⟩, ⟨v6, e6, Lst.older d h6⟩, ⟨v7, e7, ?_⟩, h8⟩⟩
  obtain ⟨l, el, nl, hl⟩ := h7
  exact ⟨l, el, d l nl, hl⟩
/-- what was there when a new thing came stands apart from it -/
theorem PartAt.apart {K : PySem.W.Frag} {c : Cl} {H0 H : Hp} {v : V} {x : Addr} {o : HO} (hx : H x = none) {p : Pt} (h : PartAt K c H0 H v p) : PartAt K c (upd H0 x o) H v p := by
  have key : ∀ b u, H b = some u → H0 b = none → upd H0 x o b = none := fun b u e n => by rw [upd_ne (ne_of_none e hx)]; exact n
  cases p with
  | fs l =>
    obtain ⟨l, vs, e, n, h1, h2⟩ := h
    exact ⟨l, vs, e, key _ _ h1 n, h1, h2⟩
  | pr l =>
    obtain ⟨l, vs, e, n, h1, h2⟩ := h
    exact ⟨l, vs, e, key _ _ h1 n, h1, h2⟩
  | lk l =>
    obtain ⟨l, vs, e, n, h1, h2⟩ := h
    exact ⟨l, vs, e, key _ _ h1 n, h1, L2.Paired.mapP h2 fun k y z => by
      obtain ⟨a, dx, fs, e, n, z1, z2⟩ := z
      exact ⟨a, dx, fs, e, key _ _ z1 n, z1, z2⟩⟩
theorem RuleF.older {K : PySem.W.Frag} {c : Cl} {H0 H1 H : Hp} {r : Rl} {fs : List (Str × V)} (d : ∀ b, H1 b = none → H0 b = none) (h : RuleF K c H1 H r fs) : RuleF K c H0 H r fs := by
  obtain ⟨t1, ⟨v2, e2, h2⟩, ⟨v3, e3, h3⟩, ⟨v4, e4, h4⟩, ⟨v5, e5, h5⟩, ⟨v6, e6, h6⟩, ⟨v7, e7, h7⟩, h8⟩ := h
  refine ⟨t1, ⟨v2, e2, Lst.older d h2⟩, ⟨v3, e3, Lst.older d h3⟩, ⟨v4, e4, Looks.older d h4⟩, ⟨v5, e5, Lst.older d h5⟩, ⟨v6, e6, Lst.older d h6⟩, ⟨v7, e7, ?_⟩, h8⟩
  obtain ⟨l, el, nl, hl⟩ := h7
  exact ⟨l, el, d l nl, hl⟩
/-! ### the second go -/
/-- the facts fit the kinds -/
def FactFits (ks : List Kd) (f : Fc) : Prop := ∃ k ∈ ks, k.n = f.k ∧ f.as.length = k.c
def spCheckT (K : PySem.W.Frag) : Sp := fun vs H Q _ => ∃ (ll lf : Addr) (fvs : List V) (ls : List Cs) (fs : List Fc), vs = [.ref ll, .ref lf] ∧ H ll = some (.lst (ls.map tx)) ∧ H lf = some (.lst fvs) ∧ Paired (Fact K H) fs fvs ∧ (∀ f ∈ fs, f.k ∉ ls) ∧ Q .non H
def saidOf (r : Rl) : List Cs := (r.looks.flatMap fun k => [k.l, k.r]) ++ ((r.put.flatMap (·.as)) ++ (r.tell.flatMap fun p => [p.1, p.2]))
/-- a rule in order -/
structure RlGood (ks : List Kd) (r : Rl) : Prop where
  fits : ∀ f ∈ r.take ++ r.keep ++ r.put, FactFits ks f
  takes : ∀ f ∈ r.take, f.k ∉ (ks.filter (·.l)).map (·.n)
  calls : r.take = [] → ∀ f ∈ r.put, f.k ∈ (ks.filter (·.l)).map (·.n)
  said : ∀ a ∈ saidOf r, great a = true → a ∈ opens (r.take ++ r.keep)
  names : ∀ a ∈ saidOf r, nameC a = true
  few : (saidOf r).length ≤ 20000
  fewF : (r.take ++ r.keep ++ r.put).length ≤ 20000
theorem mergeK_nodup : ∀ (ps acc : List (Key × V)), ((acc ++ ps).map (·.1)).Nodup → mergeK acc ps = acc ++ ps
  | [], acc, _ => by show acc = acc ++ []; rw [List.append_nil]
  | p :: r, acc, h => by
    have hn : valV acc p.1 = none := valV_none fun q hq e => by
      rw [List.map_append, List.map_cons, List.nodup_append] at h
      exact h.2.2 q.1 (List.mem_map.mpr ⟨q, hq, rfl⟩) p.1 List.mem_cons_self e
    have ih := mergeK_nodup r (acc ++ [p]) (by rw [List.append_assoc]; exact h)
    show mergeK (putK acc p.1 p.2) r = _
    rw [putK_new _ hn, ih, List.append_assoc]
    rfl
def kdEnt (k : Kd) : Key × V := (Sum.inr (S k.n), .int k.c)
theorem paired_mapL {K : PySem.W.Frag} {H : Hp} : ∀ {ks : List Kd} {ys : List V}, Paired (fun (k : Kd) (y : V) => ∃ t, y = .ref t ∧ SqT K H t [tx k.n, .int k.c]) ks ys → PrsAt K H (ks.map kdEnt) ys
  | _, _, .nil => .nil
  | _, _, .cons r t => .cons r (paired_mapL t)
theorem kdEnt_nodup {ks : List Kd} (h : (ks.map (·.n)).Nodup) : ((ks.map kdEnt).map (·.1)).Nodup := by
  rw [List.map_map]
  have e : ((fun p : Key × V => p.1) ∘ kdEnt) = (fun n : Cs => (Sum.inr (S n) : Key)) ∘ (fun k : Kd => k.n) := rfl
  rw [e, ← List.map_map]
  exact List.pairwise_map.mpr (List.Pairwise.imp (fun hne e => hne (S_inj (Sum.inr.inj e))) h)
end Bk
namespace Bk
open PySem L2 K02
/-! ### a whole book -/
inductive It where
  | kind (k : Kd)
  | rule (title : Cs) (L : List Pr)
def It.ps : It → List Cs
  | .kind k => kindP k
  | .rule t L => rulePs t L
def ksOf : List It → List Kd
  | [] => []
  | .kind k :: r => k :: ksOf r
  | .rule _ _ :: r => ksOf r
def rsOf : List It → List Rl
  | [] => []
  | .kind _ :: r => rsOf r
  | .rule t L :: r => rlOf t L :: rsOf r
def ItOk : It → Prop
  | .kind k => KdOk k
  | .rule t L => RuleP t L ∧ RlOk (rlOf t L)
/-- the told lines with what they tell -/
structure BookT (ls : List Cs) (its : List (Cs × It)) : Prop where
  lines : ls.filter told = its.map (·.1)
  ok : ∀ x ∈ its, x.1.all (okS aLine) = true ∧ toks x.1 = x.2.ps ∧ ItOk x.2
  nk : ((ksOf (its.map (·.2))).map (·.n)).Nodup
  nr : ((rsOf (its.map (·.2))).map (·.title)).Nodup
  good : ∀ r ∈ rsOf (its.map (·.2)), RlGood (ksOf (its.map (·.2))) r
  few : its.length < 10000
end Bk
/-! MY OWN ADDITIONS: sep.join(..).replace(a, b) of written texts -/
namespace L2
open PySem PySem.Spec PyProof.Rows
section
variable {X : Cx}
end
end L2
/-! MY OWN ADDITIONS: != of data trees, of a list and the empty one -/
namespace L2
open PySem PySem.Spec PyProof.Rows
/-- isinstance(t, tuple), t any tuple -/
theorem call_isinstT {X : Cx} : CallR X (.builtin "isinstance") (fun xs H Q => ∃ (a : Addr) (ys : List V) (n : String) (b : Bool), xs = [.ref a, .ty n] ∧ SqT X.K H a ys ∧ PySem.W.kitOne X.K (.type "tuple") (.type n) = some b ∧ Q (.bl b) H) := by
  intro pins s σ H xs us Q I r h
  obtain ⟨a, ys, n, b, rfl, g, e, q⟩ := h
  obtain ⟨u, u2, rfl, rx, ru⟩ := vals2 r
  have e2 : u2 = Value.type n := ru
  subst e2
  cases (show u = Value.ref a from rx)
  obtain ⟨its, _, ⟨o, h1, h2, _⟩, _⟩ := I.tuple g
  exact PySem.W.kia_one PySem.W.kitx_tuple I.kIn ⟨o, h1, h2⟩ e (fun z => nomatch z) fun tk => ⟨.bl b, H, I.tok _, rfl, q⟩
end L2
namespace Bk
open PySem L2 K02
/-! ### what the laws draw -/
abbrev aAll : Str := "abcdefghijklmnopqrstuvwxyz0123456789ABCDEFGHIJKLMNOPQRSTUVWXYZ"
abbrev aSF : Str := "abcdefghijklmnopqrstuvwxyz0123456789"
theorem app_S (a b : List Nat) : S a ++ S b = S (a ++ b) := by
  rw [← S_of (S a ++ S b), PySem.W.KT.app_list, S_codes, S_codes]
theorem join_S (cs : List Nat) : Txt.join (Str.ofString "") (cs.map fun c => S [c]) = S cs := by
  show Builtin.Str.glued (Str.ofString "") _ = _
  rw [StrLaws.glued_eq_join]
  have e := PyProof.Rows.join_nil_signs (S cs)
  unfold PyProof.Rows.signs at e
  rw [S_codes] at e
  exact e
theorem len_sum : ∀ {as : List (List Nat)} {B : Nat}, (∀ a ∈ as, a.length ≤ B) → ((as.map S).map (·.length)).sum ≤ as.length * B
  | [], _, _ => by simp
  | a :: r, B, h => by
    have z := h a (by simp)
    have ih := len_sum (as := r) (B := B) fun x hx => h x (List.mem_cons_of_mem _ hx)
    rw [List.map_cons, List.map_cons, List.sum_cons, S_len, List.length_cons, Nat.add_mul]
    omega
theorem all_al : aAll.cps.toList.all isAl = true := by decide +kernel
theorem all_len : aAll.length = 62 := by decide +kernel
def spCell (K : PySem.W.Frag) : Sp := fun vs H Q _ => ∃ (a : Addr) (ns : List Int) (k : Int), vs = [.ref a, .int k] ∧ SqL K H a (ns.map V.int) ∧ 0 ≤ k ∧ ∀ v : Int, Q (.int v) H
def spMix : Sp := fun vs H Q _ => ∃ c k : Int, vs = [.int c, .int k] ∧ 0 ≤ k ∧ k ≤ 100 ∧ ∀ (v : Int) (H' : Hp), Same H H' → 0 ≤ v → Q (.int v) H'
def Good (fs : List Nat) (z : List Nat) : Prop := nameC z = true ∧ z.headD 0 ∈ fs
def spNames : Sp := fun vs H Q _ => ∃ (c : Int) (n : Nat) (fs : List Nat), vs = [.int c, .int n, tx fs] ∧ n ≤ 10 ∧ 10 ≤ fs.length ∧ fs.length ≤ 62 ∧ fs.all isAl = true ∧ fs.Nodup ∧
  ∀ (l : Addr) (zs : List (List Nat)) (H' : Hp), Same H H' → H l = none → H' l = some (.lst (zs.map tx)) → zs.length = n → (∀ z ∈ zs, Good fs z) → zs.Nodup → Q (.ref l) H'
def spSome (fs : List Nat) : Sp := fun vs H Q _ => ∃ (c : Int) (n : Nat), vs = [.int c, .int n] ∧ n ≤ 10 ∧
  ∀ (l : Addr) (zs : List (List Nat)) (H' : Hp), Same H H' → H l = none → H' l = some (.lst (zs.map tx)) → zs.length = n → (∀ z ∈ zs, Good fs z) → zs.Nodup → Q (.ref l) H'
def spLaw (K : PySem.W.Frag) : Sp := fun vs H Q _ => ∃ (a : Addr) (ns : List Int), vs = [.ref a] ∧ SqL K H a (ns.map V.int) ∧ ns.length ≤ 63 ∧ ∀ H', Q (.bl true) H'
theorem good_of {fs : List Nat} {c : Nat} {r : List Nat} (hc : c ∈ fs) (hf : fs.all isAl = true) (hr : r.all isAl = true) (hl : r.length ≤ 11) : Good fs ([c] ++ r) := by
  refine ⟨?_, hc⟩
  show nameC (c :: r) = true
  unfold nameC
  rw [List.all_eq_true] at hf
  have z : (c :: r).all isAl = true := by rw [List.all_cons, hf c hc, hr]; rfl
  rw [z]
  simp
  omega
theorem sign_of {x : Str} {i : Int} (h0 : 0 ≤ i) (h1 : i < x.length) : ∃ c, atI x.cps.toList i = some c ∧ c ∈ x.cps.toList := by
  have hl := len_is x
  exact ⟨_, str_at h0 h1, List.mem_of_getElem? (getD_get (by omega))⟩
theorem slice_S0 {T : List Nat} {n : Nat} (h : n ≤ T.length) : Txt.slice (S T) none (some (n : Int)) = S (T.take n) := by
  have e := slice_to (z := S T) (j := (n : Int)) (by omega) (by rw [S_len]; omega)
  rw [← S_of (Txt.slice (S T) none (some (n : Int))), e, S_codes, show ((n : Int)).toNat = n by omega]
/-- names of a drawn form: each once -/
theorem nodup_map_range {α : Type} {n : Nat} {g : Nat → α} (h : ∀ i j, i < n → j < n → g i = g j → i = j) : ((List.range n).map g).Nodup := by
  rw [List.nodup_iff_pairwise_ne, List.pairwise_map]
  refine List.Pairwise.imp_of_mem ?_ (List.nodup_range (n := n))
  intro a b ha hb hne e
  exact hne (h a b (List.mem_range.mp ha) (List.mem_range.mp hb) e)
theorem nodup_getD {l : List Nat} (h : l.Nodup) {i j : Nat} (hi : i < l.length) (hj : j < l.length) (e : l.getD i 0 = l.getD j 0) : i = j := by
  rw [List.getD_eq_getElem?_getD, List.getD_eq_getElem?_getD, List.getElem?_eq_getElem hi, List.getElem?_eq_getElem hj] at e
  have e : l[i] = l[j] := e
  have p := List.pairwise_iff_getElem.mp h
  rcases Nat.lt_trichotomy i j with z | z | z
  · exact absurd e (p i j hi hj z)
  · exact z
  · exact absurd e.symm (p j i hj hi z)
theorem mod_inj {a : Int} {m i j : Nat} (hi : i < m) (hj : j < m) (e : ((a + (0 + (i : Int))) % (m : Int)).toNat = ((a + (0 + (j : Int))) % (m : Int)).toNat) : i = j := by
  have m0 : (0 : Int) < m := by omega
  have h1 := Int.emod_nonneg (a + (0 + (i : Int))) (b := (m : Int)) (by omega)
  have h2 := Int.emod_nonneg (a + (0 + (j : Int))) (b := (m : Int)) (by omega)
  have e' : (a + (0 + (i : Int))) % (m : Int) = (a + (0 + (j : Int))) % (m : Int) := by omega
  have e3 : ((i : Int) - (j : Int)) % (m : Int) = 0 := by
    have z := Int.emod_eq_emod_iff_emod_sub_eq_zero.mp e'
    have z2 : a + (0 + (i : Int)) - (a + (0 + (j : Int))) = (i : Int) - (j : Int) := by omega
    rw [z2] at z
    exact z
  obtain ⟨k, hk⟩ := Int.dvd_of_emod_eq_zero e3
  have hk1 : k = 0 := by
    rcases Int.lt_trichotomy k 0 with h | h | h
    · have : (m : Int) * k ≤ -(m : Int) := by
        have := Int.mul_le_mul_of_nonneg_left (show k ≤ -1 by omega) (Int.le_of_lt m0)
        omega
      omega
    · exact h
    · have : (m : Int) ≤ (m : Int) * k := by
        have := Int.mul_le_mul_of_nonneg_left (show 1 ≤ k by omega) (Int.le_of_lt m0)
        omega
      omega
  rw [hk1] at hk
  omega
theorem kit_self {K : PySem.W.Frag} {t : Value} : PySem.W.kitOne K t t = some true := by
  unfold PySem.W.kitOne
  rw [if_pos (beq_self_eq_true t)]
end Bk
namespace Bk
open PySem L2 K02
/-! ### texts joined by one sign; lines of kinds; remarks -/
end Bk
namespace Bk
open PySem L2 K02
end Bk
namespace Bk
open PySem L2 K02
end Bk
/-! MY OWN ADDITIONS: for i, x in enumerate(list) -/
namespace L2
open PySem PySem.Spec PyProof.Rows
section
variable {X : Cx} {pins : List (Addr × Obj)} {σ : St} {H : Hp} {s : Shared} {h' : Heap}
end
end L2
/-! MY OWN ADDITIONS: list(reversed(list)) -/
namespace L2
open PySem PySem.Spec PyProof.Rows
section
variable {prog : Program} {w : World} {A : Around} {E : Value → Shared → Prop} {s : Shared}
end
section
variable {X : Cx}
end
end L2
/-! MY OWN ADDITIONS: text * int, list.count, != of lists of ints -/
namespace L2
open PySem PySem.Spec PyProof.Rows
section
variable {X : Cx}
end
end L2
/-! MY OWN ADDITIONS: a comprehension whose target is captured by a block inside it -/
namespace L2
open PySem PySem.Spec PyProof.Rows
structure CompOk2 (outer scope : Scope) (x : Str) (N : List Str) : Prop where
  kind : scope.kind = .function
  one : scope.names.filter (fun y => y.2 == .cell) = [(x, .cell)]
  locs : ∀ y ∈ scope.names, y.2 = .local → scope.names.lookup y.1 = some .local
  tgt : scope.names.lookup x = some .cell
  frees : ∀ y ∈ scope.names, y.2 = .free → (outer.names.lookup y.1 = some .cell ∨ outer.names.lookup y.1 = some .free)
  caps : ∀ y ∈ N.tail, scope.names.lookup y = some .free
  nd : N.Nodup
section
variable {X : Cx}
end
end L2
/-! MY OWN ADDITIONS: comprehensions with any target; zip(list, list); sum(list) -/
namespace L2
open PySem PySem.Spec PyProof.Rows
structure CompOks (outer scope : Scope) (xs : List Str) (N : List Str) : Prop where
  kind : scope.kind = .function
  nocell : ∀ y ∈ scope.names, y.2 ≠ .cell
  locs : ∀ y ∈ scope.names, y.2 = .local → scope.names.lookup y.1 = some .local
  tgt : ∀ x ∈ xs, scope.names.lookup x = some .local
  frees : ∀ y ∈ scope.names, y.2 = .free → (outer.names.lookup y.1 = some .cell ∨ outer.names.lookup y.1 = some .free)
  caps : ∀ y ∈ N.drop xs.length, scope.names.lookup y = some .free
  nd : N.Nodup
section
variable {X : Cx}
end
end L2
/-! MY OWN ADDITIONS: zip(list, list), sum(list) -/
namespace L2
open PySem PySem.Spec PyProof.Rows
section
variable {X : Cx}
end
end L2
/-! MY OWN ADDITIONS: min(list, key=f) -/
namespace L2
open PySem PySem.Spec PyProof.Rows
section
variable {X : Cx} {pins : List (Addr × Obj)} {σ : St}
end
end L2
/-! MY OWN ADDITIONS: products and quotients of great numbers; min(list, key=f) -/
namespace L2
open PySem PySem.Spec PyProof.Rows
section
variable {X : Cx}
end
end L2
/-! MY OWN ADDITIONS: == of lists of ints -/
namespace L2
open PySem PySem.Spec PyProof.Rows
end L2
/-! MY OWN ADDITIONS, 4: the sort's questions, answered by any order: what comes out is sorted. -/
namespace L2
open PySem PySem.W PyProof.Rows
/-- every question is about numbers below n; answered by lt, the end is as Q wants -/
def Asks {α : Type} (lt : Nat → Nat → Bool) (n : Nat) : KasT α → (α → Prop) → Prop
  | .ret a, Q => Q a
  | .ask i j k, Q => i < n ∧ j < n ∧ Asks lt n (k (lt i j)) Q
theorem Asks.mono {α : Type} {lt : Nat → Nat → Bool} {n : Nat} {Q Q' : α → Prop} (hq : ∀ a, Q a → Q' a) : ∀ {t : KasT α}, Asks lt n t Q → Asks lt n t Q'
  | .ret _, h => hq _ h
  | .ask _ _ _, ⟨h1, h2, h3⟩ => ⟨h1, h2, Asks.mono hq h3⟩
theorem Asks.bind {α β : Type} {lt : Nat → Nat → Bool} {n : Nat} {f : α → KasT β} {Q : β → Prop} : ∀ {t : KasT α}, Asks lt n t (fun a => Asks lt n (f a) Q) → Asks lt n (t.bind f) Q
  | .ret _, h => h
  | .ask _ _ _, ⟨h1, h2, h3⟩ => ⟨h1, h2, Asks.bind h3⟩
theorem Asks.wp {α : Type} {lt : Nat → Nat → Bool} {n : Nat} {Q : α → Prop} {cmp : Nat → Nat → (Bool → Shared → Prop) → Shared → Prop} {R : α → Shared → Prop} {s : Shared} (hc : ∀ i j C, i < n → j < n → C (lt i j) s → cmp i j C s) (hq : ∀ a, Q a → R a s) :
    ∀ {t : KasT α}, Asks lt n t Q → t.kasWp cmp R s
  | .ret _, h => hq _ h
  | .ask _ _ _, ⟨h1, h2, h3⟩ => hc _ _ _ h1 h2 (Asks.wp hc hq h3)
structure WO (lt : Nat → Nat → Bool) : Prop where
  asym : ∀ a b, lt a b = true → lt b a = false
  tr : ∀ a b c, lt b a = false → lt c b = false → lt c a = false
theorem WO.irr {lt : Nat → Nat → Bool} (W : WO lt) (a : Nat) : lt a a = false := by
  cases h : lt a a with
  | false => rfl
  | true => have := W.asym a a h; rw [h] at this; exact this
theorem WO.up {lt : Nat → Nat → Bool} (W : WO lt) {a b c : Nat} (h1 : lt a b = true) (h2 : lt c b = false) : lt a c = true := by
  cases h : lt a c with
  | true => rfl
  | false => have := W.tr b c a h2 h; rw [h1] at this; exact this.symm
/-- the first m places rise; fall -/
def Ris (lt : Nat → Nat → Bool) (p : Array Nat) (m : Nat) : Prop := ∀ i j, i < j → j < m → lt (p.getD j 0) (p.getD i 0) = false
def Fal (lt : Nat → Nat → Bool) (p : Array Nat) (m : Nat) : Prop := ∀ i j, i < j → j < m → lt (p.getD i 0) (p.getD j 0) = false
/-- an arrangement of the numbers below n -/
def Arr (n : Nat) (p : Array Nat) : Prop := p.size = n ∧ p.toList.Perm (List.range n)
theorem Arr.lt {n : Nat} {p : Array Nat} (h : Arr n p) {k : Nat} (hk : k < n) : p.getD k 0 < n := by
  have hs : k < p.size := by rw [h.1]; exact hk
  have e : p.getD k 0 = p[k] := by simp [Array.getD, hs]
  rw [e]
  have m : p[k] ∈ p.toList := by simp
  exact List.mem_range.mp (h.2.mem_iff.mp m)
theorem Arr.of {n : Nat} {p q : Array Nat} (h : Arr n p) (hp : q.Perm p) : Arr n q := ⟨hp.size_eq.trans h.1, (Array.perm_iff_toList_perm.mp hp).trans h.2⟩
theorem getD_rev {p : Array Nat} {i j : Nat} (hj : j ≤ p.size) (k : Nat) : (kas_rev p i j).getD k 0 = if i ≤ k ∧ k < j then p.getD (i + j - 1 - k) 0 else p.getD k 0 := by
  rw [Array.getD_eq_getD_getElem?, Array.getD_eq_getD_getElem?, Array.getD_eq_getD_getElem?]
  unfold kas_rev
  rw [getElem?_mirror_all hj k]
  split <;> rfl
theorem getD_bub {p : Array Nat} {src d : Nat} (hs : src < p.size) (hd : d ≤ src) (k : Nat) : (bubble p src d).getD k 0 = if k = src - d then p.getD src 0 else if src - d < k ∧ k ≤ src then p.getD (k - 1) 0 else p.getD k 0 := by
  rw [Array.getD_eq_getD_getElem?, Array.getD_eq_getD_getElem?, Array.getD_eq_getD_getElem?, Array.getD_eq_getD_getElem?]
  rw [getElem?_bubble hs d hd k]
  split
  · rfl
  · split <;> rfl
theorem Arr.rev {n : Nat} {p : Array Nat} (h : Arr n p) (i j : Nat) : Arr n (kas_rev p i j) := h.of (mirror_perm _ _ _ _)
theorem Arr.bub {n : Nat} {p : Array Nat} (h : Arr n p) (i j : Nat) : Arr n (bubble p i j) := h.of (bubble_perm _ _ _)
section
variable {lt : Nat → Nat → Bool} {n : Nat} (W : WO lt)
include W
theorem Ris.more {p : Array Nat} {m : Nat} (h : Ris lt p m) (h1 : 1 ≤ m) (hl : lt (p.getD m 0) (p.getD (m - 1) 0) = false) : Ris lt p (m + 1) := fun i j hij hj => by
  by_cases e : j = m
  · subst e
    by_cases e2 : i = j - 1
    · subst e2; exact hl
    · exact W.tr _ _ _ (h i (j - 1) (by omega) (by omega)) hl
  · exact h i j hij (by omega)
theorem Fal.more {p : Array Nat} {m : Nat} (h : Fal lt p m) (h1 : 1 ≤ m) (hl : lt (p.getD (m - 1) 0) (p.getD m 0) = false) : Fal lt p (m + 1) := fun i j hij hj => by
  by_cases e : j = m
  · subst e
    by_cases e2 : i = j - 1
    · subst e2; exact hl
    · exact W.tr _ _ _ hl (h i (j - 1) (by omega) (by omega))
  · exact h i j hij (by omega)
theorem asc_ok {p : Array Nat} (hp : Arr n p) : ∀ (f m : Nat), 1 ≤ m → m + f ≤ n → Ris lt p m →
    Asks lt n (kas_asc p f m) (fun r => m ≤ r ∧ r ≤ m + f ∧ Ris lt p r ∧ (r < m + f → lt (p.getD r 0) (p.getD (r - 1) 0) = true))
  | 0, m, _, _, h => ⟨Nat.le_refl _, Nat.le_refl _, h, fun z => absurd z (by omega)⟩
  | f + 1, m, h1, h2, h => by
    refine ⟨hp.lt (by omega), hp.lt (by omega), ?_⟩
    cases e : lt (p.getD m 0) (p.getD (m - 1) 0) with
    | true => exact ⟨Nat.le_refl _, by omega, h, fun _ => e⟩
    | false =>
      show Asks lt n (kas_asc p f (m + 1)) _
      exact (asc_ok hp f (m + 1) (by omega) (by omega) (h.more W h1 e)).mono fun r ⟨a, b, c, d⟩ => ⟨by omega, by omega, c, fun z => d (by omega)⟩
/-- a run of equals at the end of the falling part -/
def Eqs (lt : Nat → Nat → Bool) (p : Array Nat) (a b : Nat) : Prop := ∀ i j, a ≤ i → i < b → a ≤ j → j < b → lt (p.getD i 0) (p.getD j 0) = false
omit W in
theorem Fal.rev {p : Array Nat} {a m : Nat} (hm : m ≤ p.size) (h : Fal lt p m) (he : Eqs lt p a m) : Fal lt (kas_rev p a m) m := fun i j hij hj => by
  rw [getD_rev hm, getD_rev hm]
  by_cases h1 : a ≤ i
  · rw [if_pos ⟨h1, by omega⟩, if_pos ⟨by omega, hj⟩]
    exact he _ _ (by omega) (by omega) (by omega) (by omega)
  · rw [if_neg (by omega)]
    by_cases h2 : a ≤ j
    · rw [if_pos ⟨h2, hj⟩]
      exact h _ _ (by omega) (by omega)
    · rw [if_neg (by omega)]
      exact h i j hij hj
theorem desc_ok : ∀ (f : Nat) (p : Array Nat) (m q : Nat), Arr n p → q + 1 ≤ m → m + f = n → Fal lt p m → Eqs lt p (m - (q + 1)) m →
    Asks lt n (kas_desc f p m q) (fun r => Arr n r.1 ∧ r.2.1 ≤ n ∧ r.2.2 + 1 ≤ r.2.1 ∧ Fal lt r.1 r.2.1 ∧ Eqs lt r.1 (r.2.1 - (r.2.2 + 1)) r.2.1)
  | 0, p, m, q, hp, hq, hm, h, he => ⟨hp, by show m ≤ n; omega, hq, h, he⟩
  | f + 1, p, m, q, hp, hq, hm, h, he => by
    refine ⟨hp.lt (by omega), hp.lt (by omega), ?_⟩
    have hsz : m ≤ p.size := by rw [hp.1]; omega
    cases e : lt (p.getD m 0) (p.getD (m - 1) 0) with
    | true =>
      show Asks lt n (if q > 0 then _ else _) _
      split
      · have hr := h.rev hsz he
        have e1 : (kas_rev p (m - (q + 1)) m).getD m 0 = p.getD m 0 := by rw [getD_rev hsz, if_neg (by omega)]
        have hl : lt ((kas_rev p (m - (q + 1)) m).getD (m - 1) 0) ((kas_rev p (m - (q + 1)) m).getD m 0) = false := by
          rw [e1, getD_rev hsz, if_pos ⟨by omega, by omega⟩]
          have e2 : m - (q + 1) + m - 1 - (m - 1) = m - (q + 1) := by omega
          rw [e2]
          exact W.tr _ _ _ (W.asym _ _ e) (he (m - (q + 1)) (m - 1) (by omega) (by omega) (by omega) (by omega))
        refine desc_ok f _ (m + 1) 0 (hp.rev _ _) (by omega) (by omega) (hr.more W (by omega) hl) fun i j a1 a2 a3 a4 => ?_
        obtain rfl : i = j := by omega
        exact W.irr _
      · refine desc_ok f p (m + 1) 0 hp (by omega) (by omega) (h.more W (by omega) (W.asym _ _ e)) fun i j a1 a2 a3 a4 => ?_
        obtain rfl : i = j := by omega
        exact W.irr _
    | false =>
      show Asks lt n (.ask (p.getD (m - 1) 0) (p.getD m 0) _) _
      refine ⟨hp.lt (by omega), hp.lt (by omega), ?_⟩
      cases e2 : lt (p.getD (m - 1) 0) (p.getD m 0) with
      | true => exact ⟨hp, by show m ≤ n; omega, hq, h, he⟩
      | false =>
        show Asks lt n (kas_desc f p (m + 1) (q + 1)) _
        refine desc_ok f p (m + 1) (q + 1) hp (by omega) (by omega) (h.more W (by omega) e2) fun i j a1 a2 a3 a4 => ?_
        by_cases c1 : i = m
        · subst c1
          by_cases c2 : j = i
          · subst c2; exact W.irr _
          · exact W.tr _ _ _ (he j (i - 1) (by omega) (by omega) (by omega) (by omega) |> fun z => he (i - 1) j (by omega) (by omega) (by omega) (by omega)) e
        · by_cases c2 : j = m
          · subst c2
            exact W.tr _ _ _ e2 (he i (j - 1) (by omega) (by omega) (by omega) (by omega))
          · exact he i j (by omega) (by omega) (by omega) (by omega)
theorem tail3_ok {p : Array Nat} {m : Nat} (hp : Arr n p) (h1 : 1 ≤ m) (hm : m ≤ n) (h : Fal lt p m) : Asks lt n (kas_tail3 m n p) (fun r => Arr n r.2 ∧ 1 ≤ r.1 ∧ r.1 ≤ n ∧ Ris lt r.2 r.1) := by
  have hsz : m ≤ p.size := by rw [hp.1]; exact hm
  have hr : Ris lt (kas_rev p 0 m) m := fun i j hij hj => by
    rw [getD_rev hsz, getD_rev hsz, if_pos ⟨by omega, hj⟩, if_pos ⟨by omega, by omega⟩]
    exact h _ _ (by omega) (by omega)
  refine Asks.bind ((asc_ok W (hp.rev 0 m) (n - m) m h1 (by omega) hr).mono fun r ⟨a, b, c, _⟩ => ?_)
  exact ⟨hp.rev 0 m, by show 1 ≤ r; omega, by show r ≤ n; omega, c⟩
theorem descPart_ok {p : Array Nat} {m : Nat} (hp : Arr n p) (hm : m + 1 ≤ n) (h : Fal lt p (m + 1)) : Asks lt n (kas_descPart m n p) (fun r => Arr n r.2 ∧ 1 ≤ r.1 ∧ r.1 ≤ n ∧ Ris lt r.2 r.1) := by
  refine Asks.bind ((desc_ok W (n - (m + 1)) p (m + 1) 0 hp (by omega) (by omega) h fun i j a1 a2 a3 a4 => ?_).mono fun r ⟨a, b, c, d, e⟩ => ?_)
  · obtain rfl : i = j := by omega
    exact W.irr _
  · split
    · exact tail3_ok W (a.rev _ _) (by omega) b (d.rev (by rw [a.1]; exact b) e)
    · exact tail3_ok W a (by omega) b d
theorem count_ok {p : Array Nat} (hp : Arr n p) (h1 : 1 ≤ n) : Asks lt n (kas_count n p) (fun r => Arr n r.2 ∧ 1 ≤ r.1 ∧ r.1 ≤ n ∧ Ris lt r.2 r.1) := by
  refine Asks.bind ((asc_ok W hp (n - 1) 1 (Nat.le_refl _) (by omega) fun i j a b => absurd a (by omega)).mono fun m ⟨a, b, c, d⟩ => ?_)
  split
  · exact ⟨hp, a, by show m ≤ n; omega, c⟩
  · rename_i hne
    have hne' : m ≠ n := fun z => hne (beq_iff_eq.mpr z)
    have hd := d (by omega)
    split
    · refine ⟨hp.lt (by omega), hp.lt (by omega), ?_⟩
      cases e : lt (p.getD 0 0) (p.getD (m - 1) 0) with
      | true => exact ⟨hp, a, by show m ≤ n; omega, c⟩
      | false =>
        show Asks lt n (kas_descPart m n (kas_rev p 0 m)) _
        have hsz : m ≤ p.size := by rw [hp.1]; omega
        have all : Eqs lt p 0 m := fun i j _ hi _ hj => by
          have z1 : lt (p.getD (m - 1) 0) (p.getD j 0) = false := by
            by_cases cj : j = m - 1
            · subst cj; exact W.irr _
            · exact c j (m - 1) (by omega) (by omega)
          have z2 : lt (p.getD i 0) (p.getD 0 0) = false := by
            by_cases ci : i = 0
            · subst ci; exact W.irr _
            · exact c 0 i (by omega) hi
          exact W.tr _ _ _ (W.tr _ _ _ z1 e) z2
        have hf : Fal lt (kas_rev p 0 m) m := Fal.rev hsz (fun i j hij hj => all i j (by omega) (by omega) (by omega) hj) all
        refine descPart_ok W (hp.rev 0 m) (by omega) (hf.more W a ?_)
        rw [getD_rev hsz, getD_rev hsz, if_pos ⟨by omega, by omega⟩, if_neg (by omega)]
        have e2 : 0 + m - 1 - (m - 1) = 0 := by omega
        rw [e2]
        exact W.tr _ _ _ (W.asym _ _ hd) e
    · obtain rfl : m = 1 := by omega
      refine descPart_ok W hp (by omega) fun i j hij hj => ?_
      obtain rfl : i = 0 := by omega
      obtain rfl : j = 1 := by omega
      exact W.asym _ _ hd
theorem place_ok {p : Array Nat} {k : Nat} (hp : Arr n p) (hk : k < n) (h : Ris lt p k) : ∀ (f l r : Nat), l ≤ r → r ≤ k → r - l ≤ f → (∀ i, i < l → lt (p.getD k 0) (p.getD i 0) = false) → (∀ i, r ≤ i → i < k → lt (p.getD k 0) (p.getD i 0) = true) →
    Asks lt n (kas_place p k f l r) (fun x => x ≤ k ∧ (∀ i, i < x → lt (p.getD k 0) (p.getD i 0) = false) ∧ ∀ i, x ≤ i → i < k → lt (p.getD k 0) (p.getD i 0) = true)
  | 0, l, r, a, b, c, d, e => by
    obtain rfl : l = r := by omega
    exact ⟨b, d, e⟩
  | f + 1, l, r, a, b, c, d, e => by
    show Asks lt n (if l ≥ r then _ else _) _
    split
    · obtain rfl : l = r := by omega
      exact ⟨b, d, e⟩
    · refine ⟨hp.lt hk, hp.lt (by omega), ?_⟩
      cases q : lt (p.getD k 0) (p.getD ((l + r) / 2) 0) with
      | true =>
        refine place_ok hp hk h f l ((l + r) / 2) (by omega) (by omega) (by omega) d fun i h1 h2 => ?_
        by_cases c1 : i = (l + r) / 2
        · subst c1; exact q
        · exact W.up q (h _ i (by omega) h2)
      | false =>
        refine place_ok hp hk h f ((l + r) / 2 + 1) r (by omega) b (by omega) (fun i h1 => ?_) e
        by_cases c1 : i = (l + r) / 2
        · subst c1; exact q
        · exact W.tr _ _ _ (h i ((l + r) / 2) (by omega) (by omega)) q
theorem bin_ok : ∀ (f : Nat) (p : Array Nat) (k : Nat), Arr n p → k + f = n → Ris lt p k → Asks lt n (kas_bin f p k) (fun q => Arr n q ∧ Ris lt q n)
  | 0, p, k, hp, hk, h => by
    obtain rfl : k = n := by omega
    exact ⟨hp, h⟩
  | f + 1, p, k, hp, hk, h => by
    refine Asks.bind ((place_ok W hp (by omega) h k 0 k (Nat.zero_le _) (Nat.le_refl _) (by omega) (fun i z => absurd z (by omega)) fun i z1 z2 => absurd z1 (by omega)).mono fun l ⟨a, b, c⟩ => ?_)
    have hs : k < p.size := by rw [hp.1]; omega
    refine bin_ok f _ (k + 1) (hp.bub _ _) (by omega) fun i j hij hj => ?_
    have e : k - (k - l) = l := by omega
    rw [getD_bub hs (by omega), getD_bub hs (by omega), e]
    by_cases j1 : j = l
    · rw [if_pos j1, if_neg (by omega), if_neg (by omega)]
      exact b i (by omega)
    · rw [if_neg j1]
      by_cases j2 : l < j ∧ j ≤ k
      · rw [if_pos j2]
        by_cases i1 : i = l
        · rw [if_pos i1]
          exact W.asym _ _ (c (j - 1) (by omega) (by omega))
        · rw [if_neg i1]
          by_cases i2 : l < i ∧ i ≤ k
          · rw [if_pos i2]; exact h _ _ (by omega) (by omega)
          · rw [if_neg i2]; exact h _ _ (by omega) (by omega)
      · rw [if_neg j2, if_neg (by omega), if_neg (by omega)]
        exact h i j hij (by omega)
/-- THE SORT: an arrangement that rises -/
theorem sort_ok (h1 : 1 ≤ n) : Asks lt n (kas_sort n) (fun p => Arr n p ∧ Ris lt p n) := by
  have h0 : Arr n (List.toArray (List.range n)) := ⟨by simp, by simp⟩
  refine Asks.bind ((count_ok W h0 h1).mono fun r ⟨a, b, c, d⟩ => ?_)
  have hm : max r.1 1 = r.1 := by omega
  split
  · rw [hm]
    exact bin_ok W _ _ _ a (by omega) d
  · have e : r.1 = n := by omega
    rw [e] at d
    exact ⟨a, d⟩
end
end L2
namespace L2
open PySem PySem.W PySem.Calls PyProof.Rows
section
variable {prog : Program} {w : World} {A : Around} {E : Value → Shared → Prop} {s : Shared}
/-- list.sort() by any order, the memory told exactly -/
theorem srt_list_sort {a : Addr} {vs : List Value} {n : Nat} {κ : SortKind} {lt : Nat → Nat → Bool} {P : PySem.Fin → Shared → Prop} (W : WO lt) (ho : s.heap.get? a = some (seqObj "list" vs.toArray n)) (h64 : vs.length < 64)
    (hk : 2 ≤ vs.length → ∀ h', (∀ b o, b ≠ a → s.heap.get? b = some o → h'.get? b = some o) → ∀ Q : SortKind → Shared → Prop, Q κ { s with heap := h' } → wpAny (model prog w) A (keyKind' vs.toArray) Q (fun _ _ => False) { s with heap := h' })
    (hc : ∀ h', (∀ b o, b ≠ a → s.heap.get? b = some o → h'.get? b = some o) → ∀ i j (C : Bool → Shared → Prop), i < vs.length → j < vs.length → C (lt i j) { s with heap := h' } →
      wpAny (model prog w) A (keyLt' κ (vs.getD i Value.none) (vs.getD j Value.none)) C (fun _ _ => False) { s with heap := h' })
    (fin : ∀ p h' c, Arr vs.length p → Ris lt p vs.length → (∀ b o, b ≠ a → s.heap.get? b = some o → h'.get? b = some o) → h'.get? a = some (seqObj "list" (List.toArray (p.toList.map fun i => vs.getD i Value.none)) c) → P (.done (.ret .none)) { s with heap := h' }) :
    wpAny (model prog w) A (Builtin.«list.sort» ⟨[.ref a], []⟩) P E s := by
  have ha : a < s.heap.objs.size := Heap.lt_size ho
  obtain ⟨e1, ho1⟩ : ∃ e1, (s.heap.update a (Obj.mapSeq fun _ => (#[] : Array Value))).get? a = some (seqObj "list" #[] e1) := ⟨_, get?_update_seq ho fun _ => #[]⟩
  have ho6 : (((s.heap.update a (Obj.mapSeq fun _ => (#[] : Array Value))).push (seqObj "tuple" vs.toArray 0)).push (seqObj "list" #[] 0)).get? a = some (seqObj "list" #[] e1) := by
    rw [Heap.get?_push_ne _ _ _ (by rw [size_push', Heap.size_update]; exact Nat.ne_of_lt (Nat.lt_succ_of_lt ha)), Heap.get?_push_ne _ _ _ (by rw [Heap.size_update]; exact Nat.ne_of_lt ha)]
    exact ho1
  have keep : ∀ b o, b ≠ a → s.heap.get? b = some o → (((s.heap.update a (Obj.mapSeq fun _ => (#[] : Array Value))).push (seqObj "tuple" vs.toArray 0)).push (seqObj "list" #[] 0)).get? b = some o := fun b o hb q => by
    have hlt : b < s.heap.objs.size := Heap.lt_size q
    rw [Heap.get?_push_ne _ _ _ (by rw [size_push', Heap.size_update]; exact Nat.ne_of_lt (Nat.lt_succ_of_lt hlt)), Heap.get?_push_ne _ _ _ (by rw [Heap.size_update]; exact Nat.ne_of_lt hlt), Heap.get?_update_ne _ _ _ _ hb]
    exact q
  have fin' : ∀ p (arr : Array Value), Arr vs.length p → Ris lt p vs.length → arr = List.toArray (p.toList.map fun i => vs.getD i Value.none) → P (.done (.ret .none)) { s with heap := ((((s.heap.update a (Obj.mapSeq fun _ => (#[] : Array Value))).push (seqObj "tuple" vs.toArray 0)).push (seqObj "list" #[] 0))).update a (Obj.mapSeq fun _ => arr) } := fun p arr h1 h2 h3 => by
    subst h3
    refine fin p _ _ h1 h2 (fun b o hb q => ?_) (get?_update_seq ho6 fun _ => _)
    rw [Heap.get?_update_ne _ _ _ _ hb]
    exact keep b o hb q
  rw [list_sort_plain]
  refine wpAny_bind (listItems_at ho rfl ?_)
  refine wpAny_bind (listUpdate_at ho rfl ?_ (by rw [List.size_toArray, sizeLine_eq]; omega) (Nat.zero_le _))
  refine wpAny_bind (seqEpoch_at ho1 rfl ?_)
  refine wpAny_bind (wpAny_newTuple ?_ (by show vs.length ≤ _; rw [sizeLine_eq]; omega))
  refine wpAny_bind (wpAny_newList ?_ (Nat.zero_le _))
  refine wpAny_holding ?_
  show wpAny (model prog w) A _ P E { s with heap := ((s.heap.update a (Obj.mapSeq fun _ => (#[] : Array Value))).push (seqObj "tuple" vs.toArray 0)).push (seqObj "list" #[] 0) }
  dsimp only
  by_cases h2 : vs.toArray.size < 2
  · rw [if_pos h2, if_pos h2]
    refine wpAny_bind (wpAny_pure ?_)
    rw [StateT.run_pure]
    refine wpAny_bind (wpAny_pure ?_)
    dsimp only
    have hr : (List.range vs.length).map (fun i => vs.getD i Value.none) = vs := by
      apply List.ext_getElem (by simp)
      intro i a1 a2
      simp [a2]
    refine wpAny_bind (seqEpoch_at ho6 rfl ?_)
    refine wpAny_bind (listUpdate_at ho6 rfl ?_ (hsz2 := by rw [Array.size_map]; show (pairsOf vs).size ≤ _; rw [pairsOf_size, sizeLine_eq]; omega))
    simp only [bne_self_eq_false, Bool.false_eq_true, if_false]
    refine wpAny_pure (fin' (List.toArray (List.range vs.length)) _ ⟨by simp, by simp⟩ (fun i j h1 h3 => ?_) ?_)
    · rw [List.size_toArray] at h2; omega
    · show Array.map (·.2) (pairsOf vs) = _
      apply Array.toList_inj.mp
      rw [Array.toList_map, pairsOf_toList]
      show _ = (List.range vs.length).map (fun i => vs.getD i Value.none)
      rw [hr]
      exact List.map_snd_zip (by simp)
  · rw [if_neg h2, if_neg h2]
    rw [List.size_toArray] at h2
    refine wpAny_bind (wpAny_mono (hk (by omega) _ keep _ ?_) (fun κ' s' hq => hq) fun _ _ x => x.elim)
    refine wpAny_bind (wpAny_mono (kat_run (κ := κ) (Q := fun st' s' => ∃ p : Array Nat, arrOf st' = p.map (kas_item (vs.toArray.zip vs.toArray)) ∧ failedOf st' = none ∧ Arr vs.length p ∧ Ris lt p vs.length ∧ s' = { s with heap := ((s.heap.update a (Obj.mapSeq fun _ => (#[] : Array Value))).push (seqObj "tuple" vs.toArray 0)).push (seqObj "list" #[] 0) })
      (G := fun p s' => Arr vs.length p ∧ Ris lt p vs.length ∧ s' = { s with heap := ((s.heap.update a (Obj.mapSeq fun _ => (#[] : Array Value))).push (seqObj "tuple" vs.toArray 0)).push (seqObj "list" #[] 0) })
      rfl (by omega) h64 (fun p' st' s' a1 a2 a3 a4 => ⟨p', a2, a3, a4.1, a4.2.1, a4.2.2⟩) ((sort_ok W (n := vs.length) (by omega)).wp (fun i j C h3 h4 h5 => hc _ keep i j C h3 h4 h5) fun p hp => ⟨hp.1, hp.2, rfl⟩)) ?_ fun _ _ e => e)
    rintro ⟨⟨⟩, st'⟩ s' ⟨p, har, hf, hp, hri, rfl⟩
    dsimp only
    have hout := kat_snds (ks := vs) rfl har
    have hsz : (List.toArray (p.toList.map fun i => vs.getD i Value.none)).size = vs.length := by rw [List.size_toArray, List.length_map, Array.length_toList, hp.1]
    rw [hout]
    refine wpAny_bind (seqEpoch_at ho6 rfl ?_)
    refine wpAny_bind (listUpdate_at ho6 rfl ?_ (Nat.zero_le _) (Nat.le_trans (Nat.le_of_eq hsz) (by rw [sizeLine_eq]; omega)))
    rw [hf]
    simp only [bne_self_eq_false, Bool.false_eq_true, if_false]
    exact wpAny_pure (fin' p _ hp hri rfl)
/-- sorted(xs) -/
theorem srt_sorted {l : Addr} {vs : List Value} {κ : SortKind} {lt : Nat → Nat → Bool} {Q : Value → Shared → Prop} (W : WO lt) (hl : s.heap.IsList l vs.toArray) (h64 : vs.length < 64)
    (hk : 2 ≤ vs.length → ∀ h', (∀ b o, s.heap.get? b = some o → h'.get? b = some o) → ∀ Q : SortKind → Shared → Prop, Q κ { s with heap := h' } → wpAny (model prog w) A.in1.in1 (keyKind' vs.toArray) Q (fun _ _ => False) { s with heap := h' })
    (hc : ∀ h', (∀ b o, s.heap.get? b = some o → h'.get? b = some o) → ∀ i j (C : Bool → Shared → Prop), i < vs.length → j < vs.length → C (lt i j) { s with heap := h' } →
      wpAny (model prog w) A.in1.in1 (keyLt' κ (vs.getD i Value.none) (vs.getD j Value.none)) C (fun _ _ => False) { s with heap := h' })
    (fin : ∀ p D h' c, Arr vs.length p → Ris lt p vs.length → (∀ b o, s.heap.get? b = some o → h'.get? b = some o) → s.heap.objs.size ≤ D → h'.get? D = some (seqObj "list" (List.toArray (p.toList.map fun i => vs.getD i Value.none)) c) → Q (.ref D) { s with heap := h' }) :
    wpAny (model prog w) A (call (.builtin "sorted") [.ref l]) Q E s := by
  refine Calls.call_function_entry kind_sorted plain_sorted entry_sorted (args_sorted1 _) ?_
  unfold Builtin.«sorted»
  refine wpAny_bind (m := checkCount "sorted" 1 1 _) (wpAny_pure ?_)
  refine wpAny_bind (collect_list hl ?_ (by rw [sizeLine_eq]; omega))
  refine wpAny_bind (wpAny_newList ?_ (by rw [sizeLine_eq]; omega))
  have hsz : ((s.heap.push (seqObj "list" #[] 0)).update s.heap.objs.size (Obj.mapSeq (· ++ vs.toArray))).objs.size = s.heap.objs.size + 1 := by
    rw [Heap.size_update, size_push']
  have hoL : (((s.heap.push (seqObj "list" #[] 0)).update s.heap.objs.size (Obj.mapSeq (· ++ vs.toArray))).push (seqObj "list" vs.toArray 0)).get? (s.heap.objs.size + 1) = some (seqObj "list" vs.toArray 0) := by
    rw [← hsz]; exact Heap.get?_push_size _ rfl
  have keep : ∀ b o, s.heap.get? b = some o → (((s.heap.push (seqObj "list" #[] 0)).update s.heap.objs.size (Obj.mapSeq (· ++ vs.toArray))).push (seqObj "list" vs.toArray 0)).get? b = some o := fun b o q => by
    have hlt : b < s.heap.objs.size := Heap.lt_size q
    rw [Heap.get?_push_ne _ _ _ (by rw [hsz]; exact Nat.ne_of_lt (Nat.lt_succ_of_lt hlt)), Heap.get?_update_ne _ _ _ _ (Nat.ne_of_lt hlt), Heap.get?_push_ne _ _ _ (Nat.ne_of_lt hlt)]
    exact q
  have nD : ∀ b o, s.heap.get? b = some o → b ≠ s.heap.objs.size + 1 := fun b o q => Nat.ne_of_lt (Nat.lt_succ_of_lt (Heap.lt_size q))
  show wpAny _ _ _ _ _ { s with heap := ((s.heap.push (seqObj "list" #[] 0)).update s.heap.objs.size (Obj.mapSeq (· ++ vs.toArray))).push (seqObj "list" vs.toArray 0) }
  rw [hsz]
  refine wpAny_bind (wpAny_holding (wpAny_call_entry slot_list_sort ⟨_, hoL, rfl⟩ entry_list_sort ?body (args_list_sort _)))
  case body =>
    refine srt_list_sort (κ := κ) (lt := lt) (s := { s with heap := ((s.heap.push (seqObj "list" #[] 0)).update s.heap.objs.size (Obj.mapSeq (· ++ vs.toArray))).push (seqObj "list" vs.toArray 0) }) W hoL h64
      (fun h2 h' k => hk h2 h' fun b o q => k b o (nD b o q) (keep b o q)) (fun h' k => hc h' fun b o q => k b o (nD b o q) (keep b o q)) fun p h' c hp hr k e => ?_
    exact ⟨_, rfl, wpAny_pure ⟨_, rfl, fin p _ h' c hp hr (fun b o q => k b o (nD b o q) (keep b o q)) (Nat.le_succ _) e⟩⟩
end
end L2
/-! MY OWN ADDITIONS, 5: data that can be sorted (ints, texts, tuples of such), their order, and < as Python answers -/
namespace L2
open PySem PySem.W PySem.Calls PyProof.Rows
inductive Tr where
  | int (i : Int) | str (x : Str) | tup (l : List Tr)
  deriving Inhabited
mutual
def Tr.toD : Tr → Dt
  | .int i => .int i
  | .str x => .str x
  | .tup l => .tup (Tr.toDs l)
def Tr.toDs : List Tr → List Dt
  | [] => []
  | a :: r => a.toD :: Tr.toDs r
end
theorem toDs_length : ∀ (l : List Tr), (Tr.toDs l).length = l.length
  | [] => by unfold Tr.toDs; rfl
  | a :: r => by unfold Tr.toDs; simp [toDs_length r]
theorem toDs_get : ∀ (l : List Tr) (i : Nat) (h : i < l.length) (h' : i < (Tr.toDs l).length), (Tr.toDs l)[i] = (l[i]).toD
  | a :: r, 0, _, _ => by simp [Tr.toDs]
  | a :: r, i + 1, h, h' => by
    have := toDs_get r i (by simpa using h) (by rw [toDs_length]; simpa using h)
    simp only [Tr.toDs, List.getElem_cons_succ]
    exact this
def eqT (a b : Tr) : Bool := eqD a.toD b.toD
mutual
theorem eqT_iff : ∀ (a b : Tr), eqD a.toD b.toD = true ↔ a = b
  | .int a, .int b => by simp [Tr.toD, eqD]
  | .int a, .str b => by simp [Tr.toD, eqD]
  | .int a, .tup b => by simp [Tr.toD, eqD]
  | .str a, .int b => by simp [Tr.toD, eqD]
  | .str a, .str b => by simp [Tr.toD, eqD]
  | .str a, .tup b => by simp [Tr.toD, eqD]
  | .tup a, .int b => by simp [Tr.toD, eqD]
  | .tup a, .str b => by simp [Tr.toD, eqD]
  | .tup a, .tup b => by
    have h := eqTs_iff a b
    simp only [Tr.toD, eqD, Tr.tup.injEq]
    exact h
theorem eqTs_iff : ∀ (a b : List Tr), eqDs (Tr.toDs a) (Tr.toDs b) = true ↔ a = b
  | [], [] => by simp [Tr.toDs, eqDs]
  | [], b :: q => by simp [Tr.toDs, eqDs]
  | a :: r, [] => by simp [Tr.toDs, eqDs]
  | a :: r, b :: q => by
    have h1 := eqT_iff a b
    have h2 := eqTs_iff r q
    simp only [Tr.toDs, eqDs, Bool.and_eq_true, List.cons.injEq, h1, h2]
end
theorem eqT_true {a b : Tr} (h : eqT a b = true) : a = b := (eqT_iff a b).mp h
theorem eqT_self (a : Tr) : eqT a a = true := (eqT_iff a a).mpr rfl
theorem eqT_ne {a b : Tr} (h : a ≠ b) : eqT a b = false := by
  cases e : eqT a b with
  | false => rfl
  | true => exact absurd (eqT_true e) h
mutual
def ltT : Tr → Tr → Bool
  | .int a, .int b => decide (a < b)
  | .int _, _ => true
  | .str a, .str b => decide (a.cps.toList < b.cps.toList)
  | .str _, .tup _ => true
  | .str _, .int _ => false
  | .tup a, .tup b => ltTs a b
  | .tup _, _ => false
def ltTs : List Tr → List Tr → Bool
  | [], [] => false
  | [], _ :: _ => true
  | _ :: _, [] => false
  | a :: r, b :: q => if eqT a b = true then ltTs r q else ltT a b
end
mutual
theorem ltT_irr : ∀ (a : Tr), ltT a a = false
  | .int a => by simp [ltT]
  | .str a => by simp [ltT]
  | .tup a => by simp only [ltT]; exact ltTs_irr a
theorem ltTs_irr : ∀ (a : List Tr), ltTs a a = false
  | [] => by simp [ltTs]
  | a :: r => by
    simp only [ltTs, eqT_self, if_true]
    exact ltTs_irr r
end
theorem str_tri {a b : Str} (h : a ≠ b) : a.cps.toList < b.cps.toList ∨ b.cps.toList < a.cps.toList := by
  by_cases h1 : a.cps.toList < b.cps.toList
  · exact .inl h1
  · by_cases h2 : b.cps.toList < a.cps.toList
    · exact .inr h2
    · have e := List.le_antisymm (List.not_lt.mp h2) (List.not_lt.mp h1)
      exact absurd (by cases a; cases b; simpa using e) h
mutual
theorem ltT_tri : ∀ (a b : Tr), a ≠ b → ltT a b = true ∨ ltT b a = true
  | .int a, .int b, h => by
    have h' : a ≠ b := fun e => h (by rw [e])
    simp only [ltT, decide_eq_true_eq]
    omega
  | .int a, .str b, h => by simp [ltT]
  | .int a, .tup b, h => by simp [ltT]
  | .str a, .int b, h => by simp [ltT]
  | .str a, .str b, h => by
    have h' : a ≠ b := fun e => h (by rw [e])
    simp only [ltT, decide_eq_true_eq]
    exact str_tri h'
  | .str a, .tup b, h => by simp [ltT]
  | .tup a, .int b, h => by simp [ltT]
  | .tup a, .str b, h => by simp [ltT]
  | .tup a, .tup b, h => by
    simp only [ltT]
    exact ltTs_tri a b fun e => h (by rw [e])
theorem ltTs_tri : ∀ (a b : List Tr), a ≠ b → ltTs a b = true ∨ ltTs b a = true
  | [], [], h => absurd rfl h
  | [], b :: q, h => by simp [ltTs]
  | a :: r, [], h => by simp [ltTs]
  | a :: r, b :: q, h => by
    simp only [ltTs]
    by_cases e : a = b
    · subst e
      simp only [eqT_self, if_true]
      exact ltTs_tri r q fun z => h (by rw [z])
    · rw [eqT_ne e, eqT_ne (Ne.symm e)]
      simp only [Bool.false_eq_true, if_false]
      exact ltT_tri a b e
end
mutual
theorem ltT_trans : ∀ (a b c : Tr), ltT a b = true → ltT b c = true → ltT a c = true
  | .int a, .int b, .int c, h1, h2 => by simp only [ltT, decide_eq_true_eq] at *; omega
  | .int a, _, .str c, h1, h2 => by simp [ltT]
  | .int a, _, .tup c, h1, h2 => by simp [ltT]
  | .int a, .str b, .int c, h1, h2 => by simp [ltT] at h2
  | .int a, .tup b, .int c, h1, h2 => by simp [ltT] at h2
  | .str a, .int b, c, h1, h2 => by simp [ltT] at h1
  | .str a, .str b, .int c, h1, h2 => by simp [ltT] at h2
  | .str a, .str b, .str c, h1, h2 => by simp only [ltT, decide_eq_true_eq] at *; exact List.lt_trans h1 h2
  | .str a, .str b, .tup c, h1, h2 => by simp [ltT]
  | .str a, .tup b, .int c, h1, h2 => by simp [ltT] at h2
  | .str a, .tup b, .str c, h1, h2 => by simp [ltT] at h2
  | .str a, .tup b, .tup c, h1, h2 => by simp [ltT]
  | .tup a, .int b, c, h1, h2 => by simp [ltT] at h1
  | .tup a, .str b, c, h1, h2 => by simp [ltT] at h1
  | .tup a, .tup b, .int c, h1, h2 => by simp [ltT] at h2
  | .tup a, .tup b, .str c, h1, h2 => by simp [ltT] at h2
  | .tup a, .tup b, .tup c, h1, h2 => by
    simp only [ltT] at *
    exact ltTs_trans a b c h1 h2
theorem ltTs_trans : ∀ (a b c : List Tr), ltTs a b = true → ltTs b c = true → ltTs a c = true
  | [], [], _, h1, _ => by simp [ltTs] at h1
  | [], _ :: _, [], _, h2 => by simp [ltTs] at h2
  | [], _ :: _, _ :: _, _, _ => by simp [ltTs]
  | _ :: _, [], _, h1, _ => by simp [ltTs] at h1
  | _ :: _, _ :: _, [], _, h2 => by simp [ltTs] at h2
  | a :: r, b :: q, c :: t, h1, h2 => by
    simp only [ltTs] at h1 h2 ⊢
    by_cases e1 : a = b
    · subst e1
      simp only [eqT_self, if_true] at h1
      by_cases e2 : a = c
      · subst e2
        simp only [eqT_self, if_true] at h2 ⊢
        exact ltTs_trans r q t h1 h2
      · rw [eqT_ne e2] at h2 ⊢
        exact h2
    · rw [eqT_ne e1] at h1
      simp only [Bool.false_eq_true, if_false] at h1
      by_cases e2 : b = c
      · subst e2
        rw [eqT_ne e1]
        exact h1
      · rw [eqT_ne e2] at h2
        simp only [Bool.false_eq_true, if_false] at h2
        have h3 := ltT_trans a b c h1 h2
        have e3 : a ≠ c := fun z => by
          subst z
          have := ltT_irr a
          rw [h3] at this
          cases this
        rw [eqT_ne e3]
        exact h3
end
theorem ltT_wo (f : Nat → Tr) : WO (fun i j => ltT (f i) (f j)) := by
  have asym : ∀ a b, ltT a b = true → ltT b a = false := fun a b h => by
    cases e : ltT b a with
    | false => rfl
    | true => have z := ltT_trans a b a h e; rw [ltT_irr] at z; cases z
  refine ⟨fun a b h => asym _ _ h, fun a b c h1 h2 => ?_⟩
  cases e : ltT (f c) (f a) with
  | false => rfl
  | true =>
    by_cases e1 : f a = f b
    · rw [e1] at e; rw [e] at h2; cases h2
    · rcases ltT_tri _ _ e1 with q | q
      · rw [ltT_trans _ _ _ e q] at h2; cases h2
      · rw [q] at h1; cases h1
/-- two lists of the same trees that both rise are one -/
theorem sorted_one {a b : List Tr} (p : a.Perm b) (ha : a.Pairwise fun x y => ltT y x = false) (hb : b.Pairwise fun x y => ltT y x = false) : a = b :=
  List.Perm.eq_of_pairwise (fun x y _ _ h1 h2 => by
    by_cases e : x = y
    · exact e
    · rcases ltT_tri _ _ e with q | q
      · rw [q] at h2; cases h2
      · rw [q] at h1; cases h1) ha hb p
end L2
namespace L2
open PySem PySem.W PySem.Calls PyProof.Rows
/-- u < v answers b, the state untouched -/
def LtAt (A : Around) (s : Shared) (u v : Value) (b : Bool) : Prop :=
  ∀ (prog : Program) (w : World) (E : Value → Shared → Prop) (Q : Value → Shared → Prop), Q (.bool b) s → wpAny (model prog w) A (richCompare .Lt u v) Q E s
inductive Duo (A : Around) (s : Shared) : List Value → List Value → Bool → Prop
  | nn : Duo A s [] [] false
  | nc {w : Value} {ws : List Value} : Duo A s [] (w :: ws) true
  | cn {v : Value} {vs : List Value} : Duo A s (v :: vs) [] false
  | eq {v w : Value} {vs ws : List Value} {r : Bool} (e : SeqAt.EqAt A s v w true) (h : Duo A s vs ws r) : Duo A s (v :: vs) (w :: ws) r
  | ne {v w : Value} {vs ws : List Value} {r : Bool} (e : SeqAt.EqAt A s v w false) (h : LtAt A s v w r) : Duo A s (v :: vs) (w :: ws) r
section
open PySem.SeqAt
open PySem.AutoSeq1 (wpAny_loadPart')
open PySem.MeetsSeq PySem.MeetsSeq2 PySem.MeetsSeq3
theorem tuple_lt_duo (l b : Addr) (items items2 : Array Value) (n n2 : Nat) (dd dd2 : Option Addr) (sl sl2 : Array (Option Value)) (r : Bool) :
    Meets (Builtin.«tuple.__lt__» ⟨[.ref l, .ref b], []⟩)
      (fun A R s => s.heap.get? l = some { cls := .type "tuple", dict := dd, data := .seq items n, slots := sl } ∧ s.heap.get? b = some { cls := .type "tuple", dict := dd2, data := .seq items2 n2, slots := sl2 } ∧
        Duo A.in1 s items.toList items2.toList r ∧ R (.ok (.ret (.bool r))) s) :=
  .of_wp fun prog w A R s h => by
    obtain ⟨hp, g, d, tk, os⟩ := s; obtain ⟨hl, hb, hd, h⟩ := h
    have f2 := AutoSeq1.sub_tuple_tuple
    wp_walk using wpAny_loadPart' hl, wpAny_loadPart' hb, wpAny_forIn_list _ (fun rest b s' => b.1 = none ∧ s' = ⟨hp, g, d, tk, os⟩ ∧ ∃ (vs ws : List Value), rest = vs.zip ws ∧
      Duo A.in1 ⟨hp, g, d, tk, os⟩ vs ws r ∧ vs.length + items2.size = ws.length + items.size) _
    case turn =>
      rintro ⟨y, x⟩ rest b s' ⟨hb', rfl, vs, ws, hz, hdu, hlen⟩
      cases hdu with
      | nn => cases hz
      | nc => cases hz
      | cn => rw [List.zip_nil_right] at hz; cases hz
      | @eq v w' vs' ws' _ e hr =>
        rw [List.zip_cons_cons] at hz
        injection hz with hyx hrest
        injection hyx with hy hx
        subst hy hx
        simp only [List.length_cons] at hlen
        refine wpAny_bind (e prog w _ _ ?_)
        wp_walk
        exact ⟨rfl, rfl, _, _, hrest, hr, by omega⟩
      | @ne v w' vs' ws' _ e hr =>
        rw [List.zip_cons_cons] at hz
        injection hz with hyx hrest
        injection hyx with hy hx
        subst hy hx
        refine wpAny_bind (e prog w _ _ ?_)
        have hri := hr prog w
        wp_walk using hri
        exact ⟨_, rfl, by simpa using h⟩
    case fin =>
      rintro ⟨b1, b2⟩ s' ⟨hb', rfl, vs, ws, hz, hdu, hlen⟩
      simp only at hb'
      subst hb'
      have hv : r = decide (items.size < items2.size) := by
        cases hdu with
        | nn => simp only [List.length_nil] at hlen; exact (decide_eq_false (by omega)).symm
        | nc => simp only [List.length_nil, List.length_cons] at hlen; exact (decide_eq_true (by omega)).symm
        | cn => simp only [List.length_nil, List.length_cons] at hlen; exact (decide_eq_false (by omega)).symm
        | eq e hr => rw [List.zip_cons_cons] at hz; cases hz
        | ne e hr => rw [List.zip_cons_cons] at hz; cases hz
      rw [hv] at h
      wp_walk
      exact ⟨_, rfl, by simpa [Builtin.Tuple.tupleCompareSizes] using h⟩
    case h =>
      exact ⟨rfl, rfl, items.toList, items2.toList, rfl, hd, by simp; omega⟩
end
theorem lt_tup_duo {A : Around} {s : Shared} {l b : Addr} {items items2 : Array Value} {r : Bool} (hl : IsTup s.heap l items) (hb : IsTup s.heap b items2) (hu : A.units < cLine) (hd : Duo A.in1 s items.toList items2.toList r) : LtAt A s (.ref l) (.ref b) r := by
  intro prog w E Q h
  obtain ⟨⟨cls, dd, data, sl⟩, ho, hc, n, hda⟩ := id hl
  obtain ⟨⟨cls2, dd2, data2, sl2⟩, ho2, hc2, n2, hd2⟩ := id hb
  simp only at hc hda hc2 hd2
  subst hc hda hc2 hd2
  exact richCompare_meets_room (op := .Lt) ⟨_, ho, rfl⟩ ⟨_, ho2, rfl⟩ PySem.F.slot_tuple_lt PySem.F.entry_tuple_lt (PySem.F.args_tuple_lt_2 _ _) (tuple_lt_duo l b items items2 n n2 dd dd2 sl sl2 r)
    ⟨ho, ho2, hd, show Value.bool r ≠ Value.notImplemented ∧ Q (.bool r) s from ⟨(fun x => nomatch x), h⟩⟩ hu
end L2
namespace L2
open PySem PySem.W PySem.Calls PyProof.Rows
/-! trees that Python compares: of one shape as far as both go -/
mutual
def shT : Tr → Tr → Bool
  | .int _, .int _ => true
  | .str _, .str _ => true
  | .tup a, .tup b => shTs a b
  | _, _ => false
def shTs : List Tr → List Tr → Bool
  | a :: r, b :: q => shT a b && shTs r q
  | _, _ => true
end
theorem duo_of {A : Around} {s : Shared} : ∀ (a b : List Tr) (vs ws : List Value), vs.length = a.length → ws.length = b.length → shTs a b = true →
    (∀ j (h1 : j < a.length) (h2 : j < b.length) (h3 : j < vs.length) (h4 : j < ws.length), SeqAt.EqAt A s vs[j] ws[j] (eqT a[j] b[j]) ∧ (shT a[j] b[j] = true → LtAt A s vs[j] ws[j] (ltT a[j] b[j]))) → Duo A s vs ws (ltTs a b)
  | [], [], [], [], _, _, _, _ => by simp only [ltTs]; exact .nn
  | [], b :: q, [], w :: ws, _, _, _, _ => by simp only [ltTs]; exact .nc
  | a :: r, [], v :: vs, [], _, _, _, _ => by simp only [ltTs]; exact .cn
  | a :: r, b :: q, v :: vs, w :: ws, l1, l2, hs, h => by
    simp only [shTs, Bool.and_eq_true] at hs
    obtain ⟨h0, h0'⟩ := h 0 (by simp) (by simp) (by simp) (by simp)
    have h0 : SeqAt.EqAt A s v w (eqT a b) := h0
    have h0' : shT a b = true → LtAt A s v w (ltT a b) := h0'
    simp only [ltTs]
    cases e : eqT a b with
    | true =>
      rw [e] at h0
      simp only [if_true]
      exact .eq h0 (duo_of r q vs ws (by simpa using l1) (by simpa using l2) hs.2 fun j a1 a2 a3 a4 => h (j + 1) (by simpa using a1) (by simpa using a2) (by simpa using a3) (by simpa using a4))
    | false =>
      rw [e] at h0
      simp only [Bool.false_eq_true, if_false]
      exact .ne h0 (h0' hs.1)
  | [], [], _ :: _, _, l, _, _, _ => by simp at l
  | [], [], [], _ :: _, _, l, _, _ => by simp at l
  | [], _ :: _, _ :: _, _, l, _, _, _ => by simp at l
  | [], _ :: _, [], [], _, l, _, _ => by simp at l
  | _ :: _, _, [], _, l, _, _, _ => by simp at l
  | _ :: _, [], _ :: _, _ :: _, _, l, _, _ => by simp at l
  | _ :: _, _ :: _, _ :: _, [], _, l, _, _ => by simp at l
theorem isT_lt {K : PySem.W.Frag} {H : Hp} {X : Cx} {pins : List (Addr × Obj)} {σ : St} {s : Shared} (I : Inv X pins σ H s) (hK : X.K = K) :
    ∀ (n : Nat) (A : Around) {a b : Tr} {x y : V} {u v : Value}, a.toD.deep ≤ n → A.units + n + 20 < cLine → shT a b = true → IsD K H a.toD x → IsD K H b.toD y → RelV x u → RelV y v → LtAt A s u v (ltT a b) := by
  subst hK
  intro n
  induction n with
  | zero =>
    intro A a b x y u v hd hu hs h1 h2 ru rv
    cases a with
    | int i =>
      cases b with
      | int j =>
        simp only [Tr.toD] at h1 h2
        cases h1; cases h2
        obtain ⟨t, rfl⟩ := ru
        obtain ⟨t', rfl⟩ := rv
        simp only [ltT]
        exact fun prog w E Q h => (PyProof.Rows.lt_int h : wpAny (model prog w) A (compareOp .Lt _ _) Q E s)
      | str j => simp [shT] at hs
      | tup j => simp [shT] at hs
    | str i =>
      cases b with
      | int j => simp [shT] at hs
      | str j =>
        simp only [Tr.toD] at h1 h2
        cases h1; cases h2
        obtain ⟨t, rfl⟩ := ru
        obtain ⟨t', rfl⟩ := rv
        simp only [ltT]
        exact fun prog w E Q h => (PyProof.Rows.lt_str h : wpAny (model prog w) A (compareOp .Lt _ _) Q E s)
      | tup j => simp [shT] at hs
    | tup i => simp only [Tr.toD, Dt.deep] at hd; omega
  | succ n ih =>
    intro A a b x y u v hd hu hs h1 h2 ru rv
    cases a with
    | int i => exact ih A (by simp [Tr.toD, Dt.deep]) (by omega) hs h1 h2 ru rv
    | str i => exact ih A (by simp [Tr.toD, Dt.deep]) (by omega) hs h1 h2 ru rv
    | tup i =>
      cases b with
      | int j => simp [shT] at hs
      | str j => simp [shT] at hs
      | tup j =>
        simp only [Tr.toD] at h1 h2 hd
        simp only [shT] at hs
        cases h1 with
        | @tup ds xs p h l r =>
          cases h2 with
          | @tup es ys q h' l' r' =>
            cases ru; cases rv
            obtain ⟨its, r1, p1, _⟩ := I.tuple h
            obtain ⟨its2, r2, p2, _⟩ := I.tuple h'
            have len1 := r1.length
            have len2 := r2.length
            simp only [ltT]
            have k1 := toDs_length i
            have k2 := toDs_length j
            refine lt_tup_duo p1 p2 (by omega) ?_
            rw [List.toList_toArray, List.toList_toArray]
            refine duo_of i j its its2 (by omega) (by omega) hs fun c c1 c2 c3 c4 => ?_
            have hx := r c (by omega) (by omega)
            have hy := r' c (by omega) (by omega)
            rw [toDs_get i c c1] at hx
            rw [toDs_get j c c2] at hy
            obtain ⟨u1, e1, q1⟩ := r1.get (i := c) (x := xs[c]'(by omega)) (by simp)
            obtain ⟨u2, e2, q2⟩ := r2.get (i := c) (x := ys[c]'(by omega)) (by simp)
            have g1 : its[c] = u1 := (List.getElem?_eq_some_iff.mp e1).2
            have g2 : its2[c] = u2 := (List.getElem?_eq_some_iff.mp e2).2
            rw [g1, g2]
            have z := deeps_get (ds := Tr.toDs i) (i := c) (by omega)
            rw [toDs_get i c c1] at z
            have hd' : Dt.deeps (Tr.toDs i) + 1 ≤ n + 1 := hd
            exact ⟨isD_eq I rfl n A.in1 (by omega) (by show A.units + 1 + n < cLine; omega) hx hy q1 q2, fun hsh => ih A.in1 (by omega) (by show A.units + 1 + n + 20 < cLine; omega) hsh hx hy q1 q2⟩
end L2
namespace L2
open PySem PySem.W PySem.Calls PyProof.Rows
section
variable {prog : Program} {w : World} {A : Around} {E : Value → Shared → Prop} {s : Shared} {Q : Bool → Shared → Prop}
theorem katlex_tail : ∀ (a b : List Tr) (vs ws : List Value) (i : Nat), 0 < i → vs.length = a.length → ws.length = b.length → shTs a b = true →
    (∀ j (h1 : j < a.length) (h2 : j < b.length) (h3 : j < vs.length) (h4 : j < ws.length), SeqAt.EqAt A s vs[j] ws[j] (eqT a[j] b[j]) ∧ (shT a[j] b[j] = true → LtAt A s vs[j] ws[j] (ltT a[j] b[j]))) →
    ∀ fin, fin = decide (vs.length < ws.length) → Q (ltTs a b) s → KatLex prog w A true fin Q (vs.zip ws) i s
  | [], [], [], [], i, _, _, _, _, _, fin, hf, h => by simp only [ltTs] at h; simp at hf; subst hf; exact kat_nil h
  | [], b :: q, [], w' :: ws, i, _, _, _, _, _, fin, hf, h => by simp only [ltTs] at h; simp at hf; subst hf; exact kat_nil h
  | a :: r, [], v :: vs, [], i, _, _, _, _, _, fin, hf, h => by simp only [ltTs] at h; simp at hf; subst hf; exact kat_nil h
  | a :: r, b :: q, v :: vs, w' :: ws, i, hi, l1, l2, hs, hx, fin, hf, h => by
    simp only [shTs, Bool.and_eq_true] at hs
    obtain ⟨h0, h0'⟩ := hx 0 (by simp) (by simp) (by simp) (by simp)
    have h0 : SeqAt.EqAt A s v w' (eqT a b) := h0
    have h0' : shT a b = true → LtAt A s v w' (ltT a b) := h0'
    simp only [ltTs] at h
    rw [List.zip_cons_cons]
    refine kat_cons (h0 prog w _ _ ?_)
    cases e : eqT a b with
    | true =>
      rw [e] at h
      simp only [if_true] at h
      exact kat_yes (katlex_tail r q vs ws (i + 1) (by omega) (by simpa using l1) (by simpa using l2) hs.2 (fun j a1 a2 a3 a4 => hx (j + 1) (by simpa using a1) (by simpa using a2) (by simpa using a3) (by simpa using a4)) fin (by simpa using hf) h)
    | false =>
      rw [e] at h
      simp only [Bool.false_eq_true, if_false] at h
      refine kat_no ?_
      have ei : (true && i == 0) = false := by
        simp only [Bool.true_and, beq_eq_false_iff_ne]
        omega
      rw [ei]
      exact kat_one _ _ (h0' hs.1 prog w _ _ h)
  | [], [], _ :: _, _, _, _, l, _, _, _, _, _, _ => by simp at l
  | [], [], [], _ :: _, _, _, _, l, _, _, _, _, _ => by simp at l
  | [], _ :: _, _ :: _, _, _, _, l, _, _, _, _, _, _ => by simp at l
  | [], _ :: _, [], [], _, _, _, l, _, _, _, _, _ => by simp at l
  | _ :: _, _, [], _, _, _, l, _, _, _, _, _, _ => by simp at l
  | _ :: _, [], _ :: _, _ :: _, _, _, _, l, _, _, _, _, _ => by simp at l
  | _ :: _, _ :: _, _ :: _, [], _, _, _, l, _, _, _, _, _ => by simp at l
/-- the first places: plain texts or plain ints -/
theorem katlex_top {a b : Tr} {r q : List Tr} {v w' : Value} {vs ws : List Value} (l1 : vs.length = r.length) (l2 : ws.length = q.length) (hs : shTs (a :: r) (b :: q) = true)
    (h1 : (∃ x y t u, a = .str x ∧ b = .str y ∧ v = .str x t ∧ w' = .str y u) ∨ (∃ x y t u, a = .int x ∧ b = .int y ∧ v = .int x t ∧ w' = .int y u)) (h0 : SeqAt.EqAt A s v w' (eqT a b))
    (hx : ∀ j (h1 : j < r.length) (h2 : j < q.length) (h3 : j < vs.length) (h4 : j < ws.length), SeqAt.EqAt A s vs[j] ws[j] (eqT r[j] q[j]) ∧ (shT r[j] q[j] = true → LtAt A s vs[j] ws[j] (ltT r[j] q[j])))
    {fin : Bool} (hf : fin = decide (vs.length < ws.length)) (h : Q (ltTs (a :: r) (b :: q)) s) : KatLex prog w A true fin Q ((v :: vs).zip (w' :: ws)) 0 s := by
  simp only [shTs, Bool.and_eq_true] at hs
  simp only [ltTs] at h
  rw [List.zip_cons_cons]
  refine kat_cons (h0 prog w _ _ ?_)
  cases e : eqT a b with
  | true =>
    rw [e] at h
    simp only [if_true] at h
    exact kat_yes (katlex_tail r q vs ws 1 (by omega) l1 l2 hs.2 hx fin hf h)
  | false =>
    rw [e] at h
    simp only [Bool.false_eq_true, if_false] at h
    refine kat_no ?_
    show wpAny (model prog w) A (oneLt' true v w') Q _ s
    rcases h1 with ⟨x, y, t, u, rfl, rfl, rfl, rfl⟩ | ⟨x, y, t, u, rfl, rfl, rfl, rfl⟩
    · simp only [ltT] at h
      exact oneLt_str h
    · simp only [ltT] at h
      exact oneLt_int h
end
/-- by what a tuple begins: 1: a text, 2: an int -/
def hdK : Tr → Nat
  | .tup (.str _ :: _) => 1
  | .tup (.int _ :: _) => 2
  | _ => 0
theorem hdK_1 {t : Tr} (h : hdK t = 1) : ∃ x r, t = .tup (.str x :: r) := by
  match t, h with
  | .tup (.str x :: r), _ => exact ⟨x, r, rfl⟩
  | .tup (.int _ :: _), h => simp [hdK] at h
  | .tup (.tup _ :: _), h => simp [hdK] at h
  | .tup [], h => simp [hdK] at h
  | .int _, h => simp [hdK] at h
  | .str _, h => simp [hdK] at h
theorem hdK_2 {t : Tr} (h : hdK t = 2) : ∃ x r, t = .tup (.int x :: r) := by
  match t, h with
  | .tup (.str x :: r), h => simp [hdK] at h
  | .tup (.int x :: r), _ => exact ⟨x, r, rfl⟩
  | .tup (.tup _ :: _), h => simp [hdK] at h
  | .tup [], h => simp [hdK] at h
  | .int _, h => simp [hdK] at h
  | .str _, h => simp [hdK] at h
/-- a list of values that are the trees -/
def Ts (K : PySem.W.Frag) (H : Hp) (ts : List Tr) (ys : List V) : Prop := ts.length = ys.length ∧ ∀ (i : Nat) (h1 : i < ts.length) (h2 : i < ys.length), IsD K H (ts[i]).toD ys[i]
def srtT (ts : List Tr) : List Tr := ts.mergeSort fun x y => !ltT y x
theorem ltT_total (a b : Tr) : ((!ltT b a) || (!ltT a b)) = true := by
  cases h : ltT b a with
  | false => rfl
  | true =>
    have z : ltT a b = false := (ltT_wo fun i => if i = 0 then b else a).asym 0 1 h
    rw [z]; rfl
theorem srtT_perm (ts : List Tr) : (srtT ts).Perm ts := List.mergeSort_perm _ _
theorem srtT_sorted (ts : List Tr) : (srtT ts).Pairwise fun x y => ltT y x = false := by
  have h := List.pairwise_mergeSort (le := fun x y => !ltT y x) (fun a b c h1 h2 => by
    simp only [Bool.not_eq_true'] at *
    exact (ltT_wo fun i => if i = 0 then a else if i = 1 then b else c).tr 0 1 2 h1 h2) ltT_total ts
  exact h.imp fun z => by simpa using z
theorem srtT_eq {ts ts' : List Tr} (p : ts'.Perm ts) (h : ts'.Pairwise fun x y => ltT y x = false) : ts' = srtT ts := sorted_one (p.trans (srtT_perm ts).symm) h (srtT_sorted ts)
/-- sorted of two arrangements of the same is the same -/
theorem srtT_congr {a b : List Tr} (p : a.Perm b) : srtT a = srtT b := srtT_eq ((srtT_perm a).trans p) (srtT_sorted a)
/-! ### sorted(xs) of a list of tuples -/
def rSortT (K : PySem.W.Frag) : List V → Hp → VK → Prop := fun xs H Q => ∃ a ys ts k, xs = [.ref a] ∧ SqL K H a ys ∧ Ts K H ts ys ∧ ys.length < 64 ∧ (k = 1 ∨ k = 2) ∧ (∀ t ∈ ts, hdK t = k ∧ t.toD.deep ≤ 18) ∧ (∀ t ∈ ts, ∀ u ∈ ts, shT t u = true) ∧
  ∀ p ys', H p = none → Ts K H (srtT ts) ys' → Q (.ref p) (upd H p (.lst ys'))
theorem katTups_of {h : Heap} : ∀ {vs fs : List Value}, vs.length = fs.length → (∀ i (h1 : i < vs.length) (h2 : i < fs.length), ∃ a o xs n, vs[i] = .ref a ∧ h.get? a = some o ∧ o.cls = .type "tuple" ∧ o.data = .seq xs n ∧ xs[0]? = some fs[i]) → KatTups h vs fs
  | [], [], _, _ => .nil
  | [], _ :: _, l, _ => by simp at l
  | _ :: _, [], l, _ => by simp at l
  | v :: vs, f :: fs, l, hh => by
    obtain ⟨a, o, xs, n, e, e1, e2, e3, e4⟩ := hh 0 (by simp) (by simp)
    have e : v = .ref a := e
    have e4 : xs[0]? = some f := e4
    subst e
    exact .cons e1 e2 e3 e4 (katTups_of (by simpa using l) fun i h1 h2 => hh (i + 1) (by simpa using h1) (by simpa using h2))
theorem vals_map {ys : List V} {its : List Value} (r : Vals ys its) : ∀ (p : List Nat), Vals (p.map fun i => ys.getD i .non) (p.map fun i => its.getD i Value.none)
  | [] => .nil
  | i :: p => by
    refine .cons ?_ (vals_map r p)
    cases e : ys[i]? with
    | none =>
      have e2 := r.none_of e
      simp only [List.getD_eq_getElem?_getD, e, e2, Option.getD_none]
      rfl
    | some x =>
      obtain ⟨u, e2, q⟩ := r.get e
      simp only [List.getD_eq_getElem?_getD, e, e2, Option.getD_some]
      exact q
section
variable {X : Cx}
/-- a tuple that begins with a text or an int, laid open -/
theorem tup_open {k : Nat} (hk : k = 1 ∨ k = 2) {t : Tr} (ht : hdK t = k) : ∃ a r, t = .tup (a :: r) ∧ ((k = 1 ∧ ∃ x, a = .str x) ∨ (k = 2 ∧ ∃ x, a = .int x)) := by
  rcases hk with rfl | rfl
  · obtain ⟨x, r, rfl⟩ := hdK_1 ht
    exact ⟨_, r, rfl, .inl ⟨rfl, x, rfl⟩⟩
  · obtain ⟨x, r, rfl⟩ := hdK_2 ht
    exact ⟨_, r, rfl, .inr ⟨rfl, x, rfl⟩⟩
theorem tup_vals {pins : List (Addr × Obj)} {σ : St} {H : Hp} {s : Shared} (I : Inv X pins σ H s) {a : Tr} {r : List Tr} {x : V} {vx : Value} (h : IsD X.K H (Tr.tup (a :: r)).toD x) (rx : RelV x vx) :
    ∃ (p : Addr) (y : V) (ys : List V) (v : Value) (vs : List Value), vx = .ref p ∧ IsTup s.heap p (v :: vs).toArray ∧ IsD X.K H a.toD y ∧ RelV y v ∧ ys.length = r.length ∧ vs.length = r.length ∧ Vals ys vs ∧ ∀ j (h1 : j < r.length) (h2 : j < ys.length), IsD X.K H (r[j]).toD ys[j] := by
  simp only [Tr.toD, Tr.toDs] at h
  cases h with
  | @tup ds xs p g l rr =>
    cases rx
    obtain ⟨its, r1, p1, _⟩ := I.tuple g
    have kl := toDs_length r
    match xs, its, l, r1, p1, rr with
    | y :: ys, v :: vs, l, .cons q1 q2, p1, rr =>
      have hl : ys.length = r.length := by simp only [List.length_cons] at l; omega
      refine ⟨p, y, ys, v, vs, rfl, p1, rr 0 (by simp) (by simp), q1, hl, by rw [← q2.length]; exact hl, q2, fun j h1 h2 => ?_⟩
      have z := rr (j + 1) (by simp only [List.length_cons]; omega) (by simp only [List.length_cons]; omega)
      simp only [List.getElem_cons_succ] at z
      rw [toDs_get r j h1] at z
      exact z
    | [], _, l, _, _, _ => simp at l
theorem cmp_tup {pins : List (Addr × Obj)} {σ : St} {H : Hp} {s : Shared} (I : Inv X pins σ H s) {A : Around} (hA : A.units + 45 < cLine) {k : Nat} (hk : k = 1 ∨ k = 2) {t u : Tr} {x y : V} {vx vy : Value} (ht : hdK t = k) (hu : hdK u = k) (dt : t.toD.deep ≤ 18) (hs : shT t u = true)
    (h1 : IsD X.K H t.toD x) (h2 : IsD X.K H u.toD y) (rx : RelV x vx) (ry : RelV y vy) {prog : Program} {w : World} {C : Bool → Shared → Prop} {E : Value → Shared → Prop} (hC : C (ltT t u) s) : wpAny (model prog w) A (keyLt' (tuples' true) vx vy) C E s := by
  obtain ⟨a, r, rfl, ka⟩ := tup_open hk ht
  obtain ⟨b, q, rfl, kb⟩ := tup_open hk hu
  obtain ⟨p1, y1, ys1, v1, vs1, rfl, t1, d1, e1, l1, m1, w1, g1⟩ := tup_vals I h1 rx
  obtain ⟨p2, y2, ys2, v2, vs2, rfl, t2, d2, e2, l2, m2, w2, g2⟩ := tup_vals I h2 ry
  obtain ⟨o1, ho1, _, n1, hd1⟩ := t1
  obtain ⟨o2, ho2, _, n2, hd2⟩ := t2
  simp only [shT] at hs
  simp only [ltT] at hC
  have hda : a.toD.deep ≤ 17 ∧ Dt.deeps (Tr.toDs r) ≤ 17 := by
    simp only [Tr.toD, Tr.toDs, Dt.deep, Dt.deeps] at dt
    omega
  refine kat_lt ho1 hd1 ho2 hd2 ?_
  rw [List.toList_toArray, List.toList_toArray]
  refine katlex_top (a := a) (b := b) (r := r) (q := q) m1 m2 hs ?_ (isD_eq I rfl 17 A hda.1 (by omega) d1 d2 e1 e2) (fun j c1 c2 c3 c4 => ?_) (by simp) hC
  · rcases ka with ⟨rfl, x0, rfl⟩ | ⟨rfl, x0, rfl⟩
    · rcases kb with ⟨_, y0, rfl⟩ | ⟨z, _⟩
      · simp only [Tr.toD] at d1 d2
        cases d1; cases d2
        obtain ⟨t1, rfl⟩ := e1
        obtain ⟨t2, rfl⟩ := e2
        exact .inl ⟨x0, y0, t1, t2, rfl, rfl, rfl, rfl⟩
      · cases z
    · rcases kb with ⟨z, _⟩ | ⟨_, y0, rfl⟩
      · cases z
      · simp only [Tr.toD] at d1 d2
        cases d1; cases d2
        obtain ⟨t1, rfl⟩ := e1
        obtain ⟨t2, rfl⟩ := e2
        exact .inr ⟨x0, y0, t1, t2, rfl, rfl, rfl, rfl⟩
  · obtain ⟨u1, f1, q1⟩ := w1.get (i := j) (x := ys1[j]'(by omega)) (by simp)
    obtain ⟨u2, f2, q2⟩ := w2.get (i := j) (x := ys2[j]'(by omega)) (by simp)
    have z1 : vs1[j] = u1 := (List.getElem?_eq_some_iff.mp f1).2
    have z2 : vs2[j] = u2 := (List.getElem?_eq_some_iff.mp f2).2
    rw [z1, z2]
    have zz := deeps_get (ds := Tr.toDs r) (i := j) (by rw [toDs_length]; exact c1)
    rw [toDs_get r j c1] at zz
    exact ⟨isD_eq I rfl 17 A (by omega) (by omega) (g1 j c1 (by omega)) (g2 j c2 (by omega)) q1 q2, fun hsh => isT_lt I rfl 17 A (by omega) (by omega) hsh (g1 j c1 (by omega)) (g2 j c2 (by omega)) q1 q2⟩
theorem call_sortedT (hu : X.A.units + 64 < cLine) : CallR X (.builtin "sorted") (rSortT X.K) := by
  intro pins s σ H xs us Q I rx h
  obtain ⟨a, ys, ts, k, rfl, hq, ⟨hl, hT⟩, h64, hk, hd, hsh, q⟩ := h
  obtain ⟨u, rfl, ru⟩ := vals1 rx
  cases ru
  obtain ⟨its, r, pl, hz⟩ := I.list hq
  have hlen := r.length
  have at_ : ∀ i (hi : i < its.length), ∃ u, its[i] = u ∧ RelV (ys[i]'(by omega)) u := fun i hi => by
    obtain ⟨u1, f1, q1⟩ := r.get (i := i) (x := ys[i]'(by omega)) (by simp)
    exact ⟨u1, (List.getElem?_eq_some_iff.mp f1).2, q1⟩
  refine srt_sorted (κ := tuples' true) (lt := fun i j => ltT (ts.getD i (.int 0)) (ts.getD j (.int 0))) (ltT_wo _) pl.isList (by omega) (fun h2 h' kp Q' hQ => ?_) (fun h' kp i j C hi hj hC => ?_) fun p D h' c hp hr kp hD e => ?_
  · have I' : Inv X pins σ H { s with heap := h' } := I.kept (t' := s.toks) kp
    have hf : ∀ i : _root_.Fin its.length, ∃ f : Value, (∃ a o xs n, its[i.1] = .ref a ∧ h'.get? a = some o ∧ o.cls = .type "tuple" ∧ o.data = .seq xs n ∧ xs[0]? = some f) ∧ ((k = 1 → typeOf f = pure (.type "str")) ∧ (k = 2 → typeOf f = pure (.type "int"))) := fun ⟨i, hi⟩ => by
      obtain ⟨u, eu, ru⟩ := at_ i hi
      have hm := (hd _ (List.getElem_mem (show i < ts.length by omega))).1
      obtain ⟨c, cs, ec, kc⟩ := tup_open hk hm
      have hTi := hT i (by omega) (by omega)
      rw [ec] at hTi
      obtain ⟨p1, y1, ys1, v1, vs1, e1, ⟨o1, ho1, hc1, n1, hd1⟩, d1, rv, _⟩ := tup_vals I' hTi ru
      refine ⟨v1, ⟨p1, o1, _, n1, by show its[i] = _; rw [eu, e1], ho1, hc1, hd1, by simp⟩, ?_⟩
      rcases kc with ⟨rfl, x, rfl⟩ | ⟨rfl, x, rfl⟩
      · simp only [Tr.toD] at d1
        cases d1
        obtain ⟨t1, rfl⟩ := rv
        exact ⟨fun _ => rfl, fun z => by cases z⟩
      · simp only [Tr.toD] at d1
        cases d1
        obtain ⟨t1, rfl⟩ := rv
        exact ⟨(fun z => by cases z), fun _ => rfl⟩
    obtain ⟨f, hf⟩ := Classical.skolem.mp hf
    have kt : KatTups h' its (List.ofFn f) := katTups_of (by simp) fun i h1 h2 => by
      rw [List.getElem_ofFn]
      exact (hf ⟨i, h1⟩).1
    rcases hk with rfl | rfl
    · refine kat_kind (s := { s with heap := h' }) (T := .type "str") kt (by simp; omega) (fun v hv => ?_) (by decide) ?_
      · obtain ⟨i, rfl⟩ := (List.mem_ofFn (f := f) (a := v)).mp hv
        exact Looks.of_pure ((hf i).2.1 rfl)
      · exact hQ
    · refine kat_kind (s := { s with heap := h' }) (T := .type "int") kt (by simp; omega) (fun v hv => ?_) (by decide) ?_
      · obtain ⟨i, rfl⟩ := (List.mem_ofFn (f := f) (a := v)).mp hv
        exact Looks.of_pure ((hf i).2.2 rfl)
      · exact hQ
  · have I' : Inv X pins σ H { s with heap := h' } := I.kept (t' := s.toks) kp
    obtain ⟨u1, eu1, ru1⟩ := at_ i hi
    obtain ⟨u2, eu2, ru2⟩ := at_ j hj
    have g1 : its.getD i Value.none = u1 := by rw [← eu1]; simp [hi]
    have g2 : its.getD j Value.none = u2 := by rw [← eu2]; simp [hj]
    have i1 : i < ts.length := by omega
    have j1 : j < ts.length := by omega
    have t1 : ts.getD i (.int 0) = ts[i] := by simp [i1]
    have t2 : ts.getD j (.int 0) = ts[j] := by simp [j1]
    rw [g1, g2]
    have hC : C (ltT (ts.getD i (.int 0)) (ts.getD j (.int 0))) _ := hC
    rw [t1, t2] at hC
    exact cmp_tup I' (A := X.A.in1.in1) (by show X.A.units + 1 + 1 + 45 < cLine; omega) hk (hd _ (List.getElem_mem i1)).1 (hd _ (List.getElem_mem j1)).1 (hd _ (List.getElem_mem i1)).2 (hsh _ (List.getElem_mem i1) _ (List.getElem_mem j1)) (hT i i1 (by omega)) (hT j j1 (by omega)) ru1 ru2 hC
  · have hpl : p.toList.Perm (List.range its.length) := hp.2
    have e1 : (List.range its.length).map (fun i => ts.getD i (.int 0)) = ts := by
      apply List.ext_getElem (by simp; omega)
      intro i a1 a2
      simp [a2]
    have hts : p.toList.map (fun i => ts.getD i (.int 0)) = srtT ts := by
      refine srtT_eq ?_ ?_
      · have z := hpl.map (fun i => ts.getD i (.int 0))
        rw [e1] at z
        exact z
      · rw [List.pairwise_map, List.pairwise_iff_getElem]
        intro i j hi hj hij
        have hi' : i < p.size := by simpa using hi
        have hj' : j < p.size := by simpa using hj
        have z := hr i j hij (by rw [← hp.1]; exact hj')
        have g1 : p.getD i 0 = p.toList[i] := by simp [Array.getD, hi']
        have g2 : p.getD j 0 = p.toList[j] := by simp [Array.getD, hj']
        rw [g1, g2] at z
        exact z
    have hv := vals_map r p.toList
    refine ⟨.ref D, upd H D (.lst (p.toList.map fun i => ys.getD i .non)), I.laid (t' := s.toks) kp hD ⟨?_, _, c, hv, e⟩, rfl, q D _ (I.hok.fresh hD) ?_⟩
    · rw [List.length_map, Array.length_toList, hp.1]; omega
    · rw [← hts]
      refine ⟨by simp, fun i h1 h2 => ?_⟩
      rw [List.getElem_map, List.getElem_map]
      have hi : i < p.toList.length := by simpa using h1
      have hb : p.toList[i] < its.length := List.mem_range.mp (hpl.mem_iff.mp (List.getElem_mem hi))
      have b1 : p.toList[i] < ts.length := by omega
      have b2 : p.toList[i] < ys.length := by omega
      have g1 : ts.getD p.toList[i] (.int 0) = ts[p.toList[i]] := by rw [List.getD_eq_getElem?_getD, List.getElem?_eq_getElem b1, Option.getD_some]
      have g2 : ys.getD p.toList[i] .non = ys[p.toList[i]] := by rw [List.getD_eq_getElem?_getD, List.getElem?_eq_getElem b2, Option.getD_some]
      rw [g1, g2]
      exact hT _ b1 b2
end
end L2
/-! MY OWN ADDITIONS, 6: dicts: setdefault, items, sorted(d.items()) -/
namespace L2
open PySem PySem.Spec PyProof.Rows
section
variable {X : Cx} {pins : List (Addr × Obj)} {σ : St} {H H' : Hp} {s : Shared}
/-- many new things at once -/
theorem Inv.laidN {h' : Heap} {t' : Nat} (I : Inv X pins σ H s) (k : ∀ b u, s.heap.get? b = some u → h'.get? b = some u) (hH : ∀ b, b < s.heap.objs.size → H' b = H b) (hok : HOk X.prog X.w H' h') : Inv X pins σ H' { s with heap := h', toks := t' } :=
  I.un ⟨fun b o e _ _ _ => k b o e, fun b o e _ _ _ => ⟨o.slots, k b o e⟩, fun b o e n _ => (hH b (Heap.lt_size e)).trans n, fun b o e _ => ⟨o, k b o e⟩, fun b xs e => (hH b (I.hok.lt e)).trans e, fun b o u e => (hH b (I.hok.lt e)).trans e,
    fun b ps e => ⟨#[], by rw [hH b (I.hok.lt e), e, Array.append_empty]⟩⟩ hok
end
section
variable {X : Cx} {o e f : Expr} {td ty tx : TE} {apos cpos : Pos}
/-- d.setdefault(k, x) -/
def tDDef (td ty tx : TE) : TE := fun σ H Q => td σ H fun x H1 => ∃ a, x = .ref a ∧ IsDc H1 a ∧ ty σ H1 fun y H2 => tx σ H2 fun z H3 => ∃ kvs k, H3 a = some (.dK kvs) ∧ y = kV k ∧ kvs.length < sizeLine ∧
  (∀ v, valV kvs k = some v → Q v H3) ∧ (valV kvs k = none → Q z (upd H3 a (.dK (putK kvs k z))))
theorem pe_ddef (ho : PE X o td) (he : PE X e ty) (hf : PE X f tx) (m : M2 X o "setdefault" apos e f cpos) : PE X (.Call (.Attribute o "setdefault" apos) [e, f] [] cpos) (tDDef td ty tx) := by
  intro pins s σ H Q I h
  refine wpAny_Call_method m.base m.few m.line PySem.F.plainAttrs_dict PySem.F.slot_dict_setdefault PySem.F.type_dict_setdefault (thn (ho pins s σ H _ I h) fun u s1 ⟨x, H1, I1, rx, a, ex, d, q1⟩ => ?_)
  subst ex
  obtain rfl : u = Value.ref a := rx
  obtain ⟨t1, t2, _⟩ := isDc_at I1 d
  refine ⟨t1, t2, ?_⟩
  rw [m.trees]
  refine Calls.callWith_builtin rfl (Calls.evalArgs_plain (Calls.spliced_cons (thn (he pins s1 σ H1 _ I1 q1) fun iv s2 ⟨y, H2, I2, ry, q2⟩ =>
    Calls.spliced_cons (thn (hf pins s2 σ H2 _ I2 q2) fun fv s3 ⟨z, H3, I3, rz, kvs, k, ek, ey, hl, h1, h2⟩ => Calls.spliced_nil ?_))))
  subst ey
  obtain ⟨hz, hd, vs, rel, dd⟩ := dk_of I3.hok ek
  have hz' : vs.length ≤ sizeLine := by rw [← rel.length]; exact hz
  have hv := rel.val k
  refine call_meetsIn PySem.F.slot_dict_setdefault dd.typeIs PySem.F.entry_dict_setdefault (PySem.F.args_dict_setdefault_3 _ _ _) (kt_meets_setdefault (mixKind X.prog X.w) a (kV_is ry) hd fv) ⟨vs, dd, hz', fun v e1 => ?_, fun e1 h' dd' hs => ?_⟩
  · rw [e1] at hv
    cases e2 : valV kvs k with
    | none => rw [e2] at hv; exact hv.elim
    | some w =>
      rw [e2] at hv
      exact ⟨w, H3, I3.tok _, hv, h1 w e2⟩
  · rw [e1] at hv
    cases e2 : valV kvs k with
    | some w => rw [e2] at hv; exact hv.elim
    | none =>
      have hq : ∃ q, h'.get? a = some q := let ⟨q, _, _, hq, _⟩ := dd'; ⟨q, hq⟩
      have hl' : (putK kvs k z).length ≤ sizeLine := by have := length_putK kvs k z; omega
      exact ⟨z, _, d_write I3 (by rw [ek]; exact True.intro) hs hq (dk_new hl' hd (rel.put k rz) dd'), rz, h2 e2⟩
/-- d.items(): a view of the dict at d -/
def ItemsO (a d : Addr) : HO := .ext fun h => h.get? a = some { cls := .type "dict_items", data := .fields #[.ref d] }
def rItems : V → List V → Hp → VK → Prop := fun x vs H Q => ∃ d kvs, x = .ref d ∧ vs = [] ∧ H d = some (.dK kvs) ∧ ∀ p, H p = none → Q (.ref p) (upd H p (ItemsO p d))
theorem mt_items : MtR X "dict.items" rItems := by
  intro pins s σ H x vs v us Q I rx rv h
  obtain ⟨d, kvs, rfl, rfl, hd, q⟩ := h
  cases rx
  cases rv
  obtain ⟨hz, lo, kv, rel, dd⟩ := dk_of I.hok hd
  refine call_meetsIn PySem.F.slot_dict_items dd.typeIs PySem.F.entry_dict_items (PySem.F.args_dict_items_1 _) (meets_dict_items (mixKind X.prog X.w) d lo) ⟨⟨kv, dd⟩, ?_⟩
  have e : (s.heap.push { cls := .type "dict_items", data := .fields #[.ref d] }).get? s.heap.objs.size = some { cls := .type "dict_items", data := .fields #[.ref d] } := Heap.get?_push_size _ rfl
  exact ⟨.ref s.heap.objs.size, _, I.laid (o := ItemsO s.heap.objs.size d) (t' := s.toks) (fun b u z => Heap.get?_push_of_some _ z) (Nat.le_refl _) (show ObjOk _ _ _ _ _ (.ext _) from ⟨e, ⟨_, e⟩, fun h1 h2 z k => k _ z⟩), rfl, q _ (I.hok.fresh (Nat.le_refl _))⟩
theorem Paired.at2 {α β : Type} {F : α → β → Prop} : ∀ {l₁ : List α} {l₂ : List β}, Paired F l₁ l₂ → ∀ (j : Nat) (h1 : j < l₁.length) (h2 : j < l₂.length), F l₁[j] l₂[j]
  | _, _, .nil, j, h1, _ => by simp at h1
  | _, _, .cons r t, 0, _, _ => r
  | _, _, .cons r t, j + 1, h1, h2 => Paired.at2 t j (by simpa using h1) (by simpa using h2)
open PySem.W in
/-- a list of tuples that begin alike: the sort's kind -/
theorem kind_tups {pins : List (Addr × Obj)} {σ : St} {H : Hp} {s : Shared} {ts : List Tr} {ys : List V} {its : List Value} {k : Nat} {prog : Program} {w : World} {A : Around} {E : Value → Shared → Prop} {Q' : SortKind → Shared → Prop} (I' : Inv X pins σ H s)
    (r : Vals ys its) (hT : Ts X.K H ts ys) (hd : ∀ t ∈ ts, hdK t = k) (hk : k = 1 ∨ k = 2) (h2 : 2 ≤ its.length) (hQ : Q' (tuples' true) s) : wpAny (model prog w) A (keyKind' its.toArray) Q' E s := by
  have hlen := r.length
  have hl := hT.1
  have hf : ∀ i : _root_.Fin its.length, ∃ f : Value, (∃ a o xs n, its[i.1] = .ref a ∧ s.heap.get? a = some o ∧ o.cls = .type "tuple" ∧ o.data = .seq xs n ∧ xs[0]? = some f) ∧ ((k = 1 → typeOf f = pure (.type "str")) ∧ (k = 2 → typeOf f = pure (.type "int"))) := fun ⟨i, hi⟩ => by
    obtain ⟨u, f1, ru⟩ := r.get (i := i) (x := ys[i]'(by omega)) (by simp)
    have eu : its[i] = u := (List.getElem?_eq_some_iff.mp f1).2
    have hm := hd _ (List.getElem_mem (show i < ts.length by omega))
    obtain ⟨c, cs, ec, kc⟩ := tup_open hk hm
    have hTi := hT.2 i (by omega) (by omega)
    rw [ec] at hTi
    obtain ⟨p1, y1, ys1, v1, vs1, e1, ⟨o1, ho1, hc1, n1, hd1⟩, d1, rv, _⟩ := tup_vals I' hTi ru
    refine ⟨v1, ⟨p1, o1, _, n1, by show its[i] = _; rw [eu, e1], ho1, hc1, hd1, by simp⟩, ?_⟩
    rcases kc with ⟨rfl, x, rfl⟩ | ⟨rfl, x, rfl⟩
    · simp only [Tr.toD] at d1
      cases d1
      obtain ⟨t1, rfl⟩ := rv
      exact ⟨fun _ => rfl, fun z => by cases z⟩
    · simp only [Tr.toD] at d1
      cases d1
      obtain ⟨t1, rfl⟩ := rv
      exact ⟨(fun z => by cases z), fun _ => rfl⟩
  obtain ⟨f, hf⟩ := Classical.skolem.mp hf
  have kt : KatTups s.heap its (List.ofFn f) := katTups_of (by simp) fun i h1 h2 => by
    rw [List.getElem_ofFn]
    exact (hf ⟨i, h1⟩).1
  rcases hk with rfl | rfl
  · refine kat_kind (T := .type "str") kt (by simp; omega) (fun v hv => ?_) (by decide) hQ
    obtain ⟨i, rfl⟩ := (List.mem_ofFn (f := f) (a := v)).mp hv
    exact Looks.of_pure ((hf i).2.1 rfl)
  · refine kat_kind (T := .type "int") kt (by simp; omega) (fun v hv => ?_) (by decide) hQ
    obtain ⟨i, rfl⟩ := (List.mem_ofFn (f := f) (a := v)).mp hv
    exact Looks.of_pure ((hf i).2.2 rfl)
open PySem.W in
/-- what comes out of the sort is srtT -/
theorem out_srtT {K : PySem.W.Frag} {H : Hp} {ts : List Tr} {ys : List V} {p : Array Nat} (hT : Ts K H ts ys) (hp : Arr ts.length p) (hr : Ris (fun i j => ltT (ts.getD i (.int 0)) (ts.getD j (.int 0))) p ts.length) : Ts K H (srtT ts) (p.toList.map fun i => ys.getD i .non) := by
  have hpl : p.toList.Perm (List.range ts.length) := hp.2
  have hl := hT.1
  have e1 : (List.range ts.length).map (fun i => ts.getD i (.int 0)) = ts := by
    apply List.ext_getElem (by simp)
    intro i a1 a2
    simp [a2]
  have hts : p.toList.map (fun i => ts.getD i (.int 0)) = srtT ts := by
    refine srtT_eq ?_ ?_
    · have z := hpl.map (fun i => ts.getD i (.int 0))
      rw [e1] at z
      exact z
    · rw [List.pairwise_map, List.pairwise_iff_getElem]
      intro i j hi hj hij
      have hi' : i < p.size := by simpa using hi
      have hj' : j < p.size := by simpa using hj
      have z := hr i j hij (by rw [← hp.1]; exact hj')
      have g1 : p.getD i 0 = p.toList[i] := by simp [Array.getD, hi']
      have g2 : p.getD j 0 = p.toList[j] := by simp [Array.getD, hj']
      rw [g1, g2] at z
      exact z
  rw [← hts]
  refine ⟨by simp, fun i h1 h2 => ?_⟩
  rw [List.getElem_map, List.getElem_map]
  have hi : i < p.toList.length := by simpa using h1
  have b1 : p.toList[i] < ts.length := List.mem_range.mp (hpl.mem_iff.mp (List.getElem_mem hi))
  have b2 : p.toList[i] < ys.length := by omega
  have g1 : ts.getD p.toList[i] (.int 0) = ts[p.toList[i]] := by rw [List.getD_eq_getElem?_getD, List.getElem?_eq_getElem b1, Option.getD_some]
  have g2 : ys.getD p.toList[i] .non = ys[p.toList[i]] := by rw [List.getD_eq_getElem?_getD, List.getElem?_eq_getElem b2, Option.getD_some]
  rw [g1, g2]
  exact hT.2 _ b1 b2
open PySem.W in
/-- the list at D, new, sorted by list.sort() -/
theorem srt_new {pins : List (Addr × Obj)} {σ : St} {H : Hp} {s : Shared} {A : Around} {E : Value → Shared → Prop} {ts : List Tr} {ys : List V} {its : List Value} {k : Nat} {P : PySem.Fin → Shared → Prop} (hu : A.units + 45 < cLine) (I : Inv X pins σ H s) (r : Vals ys its) (hT : Ts X.K H ts ys) (h64 : its.length < 64) (hk : k = 1 ∨ k = 2)
    (hd : ∀ t ∈ ts, hdK t = k ∧ t.toD.deep ≤ 18) (hsh : ∀ t ∈ ts, ∀ u ∈ ts, shT t u = true)
    (fin : ∀ ys' s', Inv X pins σ (upd H s.heap.objs.size (.lst ys')) s' → Ts X.K H (srtT ts) ys' → P (.done (.ret .none)) s') :
    wpAny (model X.prog X.w) A (Builtin.«list.sort» ⟨[.ref s.heap.objs.size], []⟩) P E { s with heap := s.heap.push (seqObj "list" its.toArray 0) } := by
  have hlen := r.length
  have hl := hT.1
  have nD : ∀ b o, s.heap.get? b = some o → b ≠ s.heap.objs.size := fun b o q => Nat.ne_of_lt (Heap.lt_size q)
  have kp0 : ∀ b o, s.heap.get? b = some o → (s.heap.push (seqObj "list" its.toArray 0)).get? b = some o := fun b o q => Heap.get?_push_of_some _ q
  have at_ : ∀ i (hi : i < its.length), ∃ u, its[i] = u ∧ RelV (ys[i]'(by omega)) u := fun i hi => by
    obtain ⟨u1, f1, q1⟩ := r.get (i := i) (x := ys[i]'(by omega)) (by simp)
    exact ⟨u1, (List.getElem?_eq_some_iff.mp f1).2, q1⟩
  refine srt_list_sort (κ := tuples' true) (lt := fun i j => ltT (ts.getD i (.int 0)) (ts.getD j (.int 0))) (ltT_wo _) (Heap.get?_push_size _ rfl) h64 (fun h2 h' kp Q' hQ => ?_) (fun h' kp i j C hi hj hC => ?_) fun p h' c hp hr kp e => ?_
  · exact kind_tups (I.kept (t' := s.toks) fun b o q => kp b o (nD b o q) (kp0 b o q)) r hT (fun t ht => (hd t ht).1) hk h2 hQ
  · have I' : Inv X pins σ H { s with heap := h' } := I.kept (t' := s.toks) fun b o q => kp b o (nD b o q) (kp0 b o q)
    obtain ⟨u1, eu1, ru1⟩ := at_ i hi
    obtain ⟨u2, eu2, ru2⟩ := at_ j hj
    have g1 : its.getD i Value.none = u1 := by rw [← eu1]; simp [hi]
    have g2 : its.getD j Value.none = u2 := by rw [← eu2]; simp [hj]
    have i1 : i < ts.length := by omega
    have j1 : j < ts.length := by omega
    have t1 : ts.getD i (.int 0) = ts[i] := by simp [i1]
    have t2 : ts.getD j (.int 0) = ts[j] := by simp [j1]
    rw [g1, g2]
    have hC : C (ltT (ts.getD i (.int 0)) (ts.getD j (.int 0))) _ := hC
    rw [t1, t2] at hC
    exact cmp_tup I' hu hk (hd _ (List.getElem_mem i1)).1 (hd _ (List.getElem_mem j1)).1 (hd _ (List.getElem_mem i1)).2 (hsh _ (List.getElem_mem i1) _ (List.getElem_mem j1)) (hT.2 i i1 (by omega)) (hT.2 j j1 (by omega)) ru1 ru2 hC
  · have el : its.length = ts.length := by omega
    rw [el] at hp hr
    refine fin (p.toList.map fun i => ys.getD i .non) _ (I.laid (t' := s.toks) (fun b o q => kp b o (nD b o q) (kp0 b o q)) (Nat.le_refl _) ⟨?_, _, c, vals_map r p.toList, e⟩) (out_srtT hT hp hr)
    rw [List.length_map, Array.length_toList, hp.1, sizeLine_eq]
    omega
/-! sorted(d.items()) -/
def pairT (p : Str × Tr) : Tr := .tup [.str p.1, p.2]
def rSortI (K : PySem.W.Frag) : List V → Hp → VK → Prop := fun xs H Q => ∃ r d kvs, ∃ ps : List (Str × Tr), xs = [.ref r] ∧ H r = some (ItemsO r d) ∧ H d = some (.dK kvs) ∧ kvs.length < 64 ∧ kvs.length = ps.length ∧
  (∀ (i : Nat) (h1 : i < kvs.length) (h2 : i < ps.length), (kvs[i]).1 = .inr (ps[i]).1 ∧ IsD K H (ps[i]).2.toD (kvs[i]).2 ∧ (ps[i]).2.toD.deep ≤ 17) ∧ (∀ p ∈ ps, ∀ q ∈ ps, shT p.2 q.2 = true) ∧
  ∀ p ys' H', Same H H' → H' p = none → Ts K H' (srtT (ps.map pairT)) ys' → Q (.ref p) (upd H' p (.lst ys'))
theorem call_sortedI (hu : X.A.units + 64 < cLine) (hc : X.calm = true) : CallR X (.builtin "sorted") (rSortI X.K) := by
  intro pins s σ H xs us Q I rx h
  obtain ⟨r, d, kvs, ps, rfl, hr, hd, h64, hl, hT, hsh, q⟩ := h
  obtain ⟨u, rfl, ru⟩ := vals1 rx
  cases ru
  obtain ⟨hz, lo, vs, rel, dd⟩ := dk_of I.hok hd
  obtain ⟨od, es, ep, e1, e2, e3, e4⟩ := dd
  have hr' : s.heap.get? r = some { cls := .type "dict_items", data := .fields #[.ref d] } := (show ObjOk X.prog X.w H s.heap r (.ext _) from I.hok r _ hr).1
  have hvl : vs.length = kvs.length := rel.length.symm
  refine Calls.call_function_entry kind_sorted plain_sorted entry_sorted (args_sorted1 _) ?_
  unfold Builtin.«sorted»
  refine wpAny_bind (m := checkCount "sorted" 1 1 _) (wpAny_pure ?_)
  refine wpAny_bind (PySem.W.kdx_collect (A := X.A.in1) (knd := mixKind X.prog X.w) (kvs := vs) (ep := ep) (d := d) (I.ok.hd hc) ⟨_, hr', rfl, rfl⟩ ⟨od, es, e1, e2, e3, e4⟩ (by rw [hvl]; exact hz) fun h' tk as kp hla hG => ?_)
  have nd : as.Nodup := hG.rise.imp fun z => Nat.ne_of_lt z
  have hla' : as.length = kvs.length := by omega
  let H1 : Hp := fun b => if h : as.idxOf b < kvs.length then some (.tup [kV (kvs[as.idxOf b]).1, (kvs[as.idxOf b]).2]) else H b
  have H1_new : ∀ j (h1 : j < as.length) (h2 : j < kvs.length), H1 as[j] = some (.tup [kV (kvs[j]).1, (kvs[j]).2]) := fun j h1 h2 => by
    have e := nd.idxOf_getElem j h1
    show (if h : as.idxOf as[j] < kvs.length then some (HO.tup [kV (kvs[as.idxOf as[j]]).1, (kvs[as.idxOf as[j]]).2]) else H as[j]) = _
    have hlt : as.idxOf as[j] < kvs.length := by rw [e]; exact h2
    rw [dif_pos hlt]
    simp only [e]
  have H1_old : ∀ b, b < s.heap.objs.size → H1 b = H b := fun b hb => by
    have hn : b ∉ as := fun hm => Nat.lt_asymm (hG.above b hm) hb
    have e : as.idxOf b = as.length := List.idxOf_eq_length hn
    show (if h : as.idxOf b < kvs.length then _ else H b) = H b
    rw [dif_neg (by rw [e]; omega)]
  have same : Same H H1 := fun b o e => (H1_old b (I.hok.lt e)).trans e
  have hok1 : HOk X.prog X.w H1 h' := fun b o e => by
    by_cases hb : as.idxOf b < kvs.length
    · have hba : as.idxOf b < as.length := by omega
      have eb : as[as.idxOf b] = b := List.getElem_idxOf hba
      have e1 := H1_new _ hba hb
      rw [eb, e] at e1
      have e1 := Option.some.inj e1
      subst e1
      obtain ⟨key, k, x, f1, f2, f3⟩ := hG.pairs (as.idxOf b) b (by rw [List.getElem?_eq_getElem hba, eb])
      obtain ⟨f4, f5⟩ := List.getElem?_eq_some_iff.mp f1
      have z := Paired.at2 rel (as.idxOf b) hb f4
      rw [f5] at z
      refine ⟨by rw [sizeLine_eq]; simp, [key, x], .cons ?_ (.cons z.2 .nil), ⟨_, f3, rfl, 0, rfl⟩⟩
      rw [z.1]
      exact is_kV f2
    · have e1 : H1 b = H b := by
        show (if h : as.idxOf b < kvs.length then _ else H b) = H b
        rw [dif_neg hb]
      rw [e1] at e
      exact (I.hok b o e).stay (fun c u _ z => kp c u z) (fun c z => same c _ z) fun c xs z => same c _ z
  have I1 : Inv X pins σ H1 { s with heap := h', toks := tk } := I.laidN kp H1_old hok1
  have hTs : Ts X.K H1 (ps.map pairT) (as.map V.ref) := ⟨by simp; omega, fun i h1 h2 => by
    rw [List.getElem_map, List.getElem_map]
    have i1 : i < ps.length := by simpa using h1
    have i2 : i < as.length := by simpa using h2
    obtain ⟨k1, k2, _⟩ := hT i (by omega) i1
    have e := H1_new i i2 (by omega)
    show IsD X.K H1 (Tr.toD (.tup [.str (ps[i]).1, (ps[i]).2])) (.ref as[i])
    simp only [Tr.toD, Tr.toDs]
    refine .tup (.inl (.inl e)) rfl fun j j1 j2 => ?_
    match j, j1, j2 with
    | 0, _, _ =>
      show IsD X.K H1 (.str (ps[i]).1) (kV (kvs[i]).1)
      rw [k1]
      exact .str _
    | 1, _, _ => exact k2.same same⟩
  have hrv : Vals (as.map V.ref) (as.map Value.ref) := by
    clear hTs hok1 H1_new hla' hla hG H1_old same I1 nd
    induction as with
    | nil => exact .nil
    | cons a r ih => exact .cons rfl ih
  refine wpAny_bind (wpAny_newList ?_ (by rw [List.length_map, hla, hvl]; exact hz))
  have hbody : ∀ E', wpAny (model X.prog X.w) X.A.in1.in1 (Builtin.«list.sort» ⟨[.ref h'.objs.size], []⟩) _ E' { s with heap := h'.push (seqObj "list" (as.map Value.ref).toArray 0), toks := tk } := fun E' =>
    srt_new (s := { s with heap := h', toks := tk }) (k := 1) (ts := ps.map pairT) (P := fun fin s' => fin = .done (.ret .none) ∧ EP X pins σ Q (.ref h'.objs.size) s') (E := E') (by show X.A.units + 1 + 1 + 45 < cLine; omega) I1 hrv hTs (by simp; omega) (.inl rfl)
      (fun t ht => by
        obtain ⟨q0, hq0, rfl⟩ := List.mem_map.mp ht
        obtain ⟨i, hi, rfl⟩ := List.mem_iff_getElem.mp hq0
        refine ⟨rfl, ?_⟩
        have z := (hT i (by omega) hi).2.2
        show (Tr.toD (.tup [.str (ps[i]).1, (ps[i]).2])).deep ≤ 18
        simp only [Tr.toD, Tr.toDs, Dt.deep, Dt.deeps]
        omega)
      (fun t ht u hu' => by
        obtain ⟨q0, hq0, rfl⟩ := List.mem_map.mp ht
        obtain ⟨q1, hq1, rfl⟩ := List.mem_map.mp hu'
        have z := hsh _ hq0 _ hq1
        simp only [pairT, shT, shTs, Bool.and_eq_true, Bool.and_true, Bool.true_and]
        exact z)
      fun ys' s' I2 hts => ⟨rfl, .ref h'.objs.size, _, I2, rfl, q _ _ H1 same (I1.hok.fresh (Nat.le_refl _)) hts⟩
  refine wpAny_bind (wpAny_holding (wpAny_call_entry slot_list_sort ⟨_, Heap.get?_push_size _ rfl, rfl⟩ entry_list_sort ?body (args_list_sort _)))
  case body =>
    refine wpAny_mono (hbody _) (fun fin s' z => ?_) fun _ _ z => z
    obtain ⟨rfl, z⟩ := z
    exact ⟨_, rfl, wpAny_pure ⟨_, rfl, z⟩⟩
end
end L2
/-! MY OWN ADDITIONS, 7: the table of a set (pure): what is found, what is free -/
namespace SetP
open PySem
def Ri (xs : Array Nat) : Prop := ∀ i j, i < j → j < xs.size → xs.getD i 0 < xs.getD j 0
theorem getD_in (xs : Array Nat) {i : Nat} (h : i < xs.size) (a b : Nat) : xs.getD i a = xs.getD i b := by simp [Array.getD, h]
theorem go_spec (xs : Array Nat) (hr : Ri xs) (j : Nat) : ∀ (fuel lo hi : Nat), lo ≤ hi → hi ≤ xs.size → hi - lo ≤ fuel → (∀ i, i < lo → xs.getD i 0 < j) → (∀ i, hi ≤ i → i < xs.size → j ≤ xs.getD i 0) →
    (SetTable.below.go xs j fuel lo hi ≤ xs.size ∧ (∀ i, i < SetTable.below.go xs j fuel lo hi → xs.getD i 0 < j) ∧ ∀ i, SetTable.below.go xs j fuel lo hi ≤ i → i < xs.size → j ≤ xs.getD i 0)
  | 0, lo, hi, h1, h2, h3, h4, h5 => by
    obtain rfl : lo = hi := by omega
    exact ⟨h2, h4, h5⟩
  | fuel + 1, lo, hi, h1, h2, h3, h4, h5 => by
    unfold SetTable.below.go
    by_cases hl : lo < hi
    · rw [if_pos hl]
      have hm : (lo + hi) / 2 < xs.size := by omega
      have e : xs.getD ((lo + hi) / 2) j = xs.getD ((lo + hi) / 2) 0 := getD_in xs hm _ _
      dsimp only
      rw [e]
      by_cases hc : xs.getD ((lo + hi) / 2) 0 < j
      · rw [if_pos hc]
        refine go_spec xs hr j fuel ((lo + hi) / 2 + 1) hi (by omega) h2 (by omega) (fun i hi' => ?_) h5
        by_cases ei : i = (lo + hi) / 2
        · rw [ei]; exact hc
        · exact Nat.lt_trans (hr i _ (by omega) hm) hc
      · rw [if_neg hc]
        refine go_spec xs hr j fuel lo ((lo + hi) / 2) (by omega) (by omega) (by omega) h4 fun i hi1 hi2 => ?_
        by_cases ei : i = (lo + hi) / 2
        · rw [ei]; omega
        · have := hr _ i (show (lo + hi) / 2 < i by omega) hi2
          omega
    · rw [if_neg hl]
      obtain rfl : lo = hi := by omega
      exact ⟨h2, h4, h5⟩
theorem below_spec (xs : Array Nat) (hr : Ri xs) (j : Nat) : SetTable.below xs j ≤ xs.size ∧ (∀ i, i < SetTable.below xs j → xs.getD i 0 < j) ∧ ∀ i, SetTable.below xs j ≤ i → i < xs.size → j ≤ xs.getD i 0 :=
  go_spec xs hr j xs.size 0 xs.size (Nat.zero_le _) (Nat.le_refl _) (by omega) (fun i h => absurd h (by omega)) fun i h1 h2 => absurd h1 (by omega)
/-- a table without dummies whose places rise -/
structure Tb (t : SetTable) : Prop where
  ri : Ri t.place
  nd : t.dummies = #[]
theorem slot_live {t : SetTable} (T : Tb t) {i : Nat} (hi : i < t.place.size) : t.slot (t.place.getD i 0) = .live i := by
  have b := below_spec t.place T.ri (t.place.getD i 0)
  have e : SetTable.below t.place (t.place.getD i 0) = i := by
    rcases Nat.lt_trichotomy (SetTable.below t.place (t.place.getD i 0)) i with h | h | h
    · have z := b.2.2 _ (Nat.le_refl _) (by omega)
      have y := T.ri _ i h hi
      omega
    · exact h
    · have z := b.2.1 i h
      omega
  unfold SetTable.slot
  rw [e]
  have e2 : t.place[i]? = some (t.place.getD i 0) := by simp [Array.getD, hi]
  dsimp only
  rw [e2]
  simp
theorem slot_cases {t : SetTable} (T : Tb t) (j : Nat) : (∃ i, i < t.place.size ∧ t.place.getD i 0 = j ∧ t.slot j = .live i) ∨ ((∀ i, i < t.place.size → t.place.getD i 0 ≠ j) ∧ t.slot j = .empty) := by
  by_cases h : ∃ i, i < t.place.size ∧ t.place.getD i 0 = j
  · obtain ⟨i, h1, h2⟩ := h
    exact .inl ⟨i, h1, h2, by rw [← h2]; exact slot_live T h1⟩
  · refine .inr ⟨fun i h1 h2 => h ⟨i, h1, h2⟩, ?_⟩
    have hn : ∀ i, i < t.place.size → t.place.getD i 0 ≠ j := fun i h1 h2 => h ⟨i, h1, h2⟩
    unfold SetTable.slot
    dsimp only
    have e1 : (t.place[SetTable.below t.place j]? == some j) = false := by
      cases e : t.place[SetTable.below t.place j]? with
      | none => rfl
      | some y =>
        obtain ⟨h1, h2⟩ := Array.getElem?_eq_some_iff.mp e
        have z := hn _ h1
        have e3 : t.place.getD (SetTable.below t.place j) 0 = y := by simp [Array.getD, h1, h2]
        rw [e3] at z
        simpa using z
    rw [e1]
    have e2 : SetTable.has t.dummies j = false := by rw [T.nd]; simp [SetTable.has]
    rw [e2]
    rfl
end SetP
/-! the leaps 5 i + 1 go round all the slots of a table of 2 ^ k -/
namespace SetP
def it5 : Nat → Nat → Nat
  | 0, s => s
  | r + 1, s => 5 * it5 r s + 1
def T5 : Nat → Nat
  | 0 => 0
  | r + 1 => 5 * T5 r + 1
theorem it5_eq : ∀ r s, it5 r s = 5 ^ r * s + T5 r
  | 0, s => by simp [it5, T5]
  | r + 1, s => by
    rw [it5, it5_eq r s, T5, Nat.pow_succ, Nat.mul_add, ← Nat.mul_assoc, Nat.mul_comm 5 (5 ^ r), Nat.add_assoc]
theorem T5_pow : ∀ r, 4 * T5 r + 1 = 5 ^ r
  | 0 => rfl
  | r + 1 => by
    have := T5_pow r
    rw [T5, Nat.pow_succ, ← this]
    omega
theorem it5_add : ∀ a b s, it5 (a + b) s = it5 a (it5 b s)
  | 0, b, s => by simp [it5]
  | a + 1, b, s => by
    rw [show a + 1 + b = (a + b) + 1 by omega, it5, it5, it5_add a b s]
theorem T5_add (a b : Nat) : T5 (a + b) = 5 ^ a * T5 b + T5 a := by
  have h := it5_add a b 0
  rw [it5_eq, it5_eq a, it5_eq b] at h
  simpa using h
theorem T5_two : ∀ k, ∃ o, T5 (2 ^ k) = 2 ^ k * (2 * o + 1)
  | 0 => ⟨0, rfl⟩
  | k + 1 => by
    obtain ⟨o, h⟩ := T5_two k
    have e : 2 ^ (k + 1) = 2 ^ k + 2 ^ k := by rw [Nat.pow_succ]; omega
    rw [e, T5_add, ← T5_pow]
    refine ⟨2 * T5 (2 ^ k) * o + T5 (2 ^ k) + o, ?_⟩
    generalize T5 (2 ^ k) = T at *
    generalize 2 ^ k = M at *
    have h3 : (4 * T + 1) * T + T = (2 * (2 * T + 1)) * T := by grind
    rw [h3]
    have h4 : (2 * (2 * T + 1)) * T = (2 * (2 * T + 1)) * (M * (2 * o + 1)) := by rw [← h]
    rw [h4]
    grind
theorem cover : ∀ (k s j : Nat), j < 2 ^ k → ∃ r, r < 2 ^ k ∧ it5 r s % 2 ^ k = j
  | 0, s, j, h => ⟨0, by simp, by simp at h; subst h; simp [Nat.mod_one]⟩
  | k + 1, s, j, h => by
    have e : 2 ^ (k + 1) = 2 * 2 ^ k := by rw [Nat.pow_succ]; omega
    have hM : 0 < 2 ^ k := Nat.two_pow_pos k
    obtain ⟨r, hr, hj⟩ := cover k s (j % 2 ^ k) (Nat.mod_lt _ hM)
    obtain ⟨o, ho⟩ := T5_two k
    have hB : it5 (2 ^ k + r) s = it5 r s + 2 ^ k * ((2 * o + 1) * (4 * it5 r s + 1)) := by
      rw [it5_add, it5_eq (2 ^ k), ← T5_pow, ho]
      generalize it5 r s = A
      generalize 2 ^ k = M
      grind
    rw [e] at h ⊢
    obtain ⟨A, hA⟩ : ∃ A, it5 r s = A := ⟨_, rfl⟩
    rw [hA] at hB hj
    generalize 2 ^ k = M at *
    have a1 := Nat.div_add_mod A M
    have j1 := Nat.div_add_mod j M
    rw [hj] at a1
    generalize j % M = c at *
    have hc : c < M := by
      rw [← hj]; exact Nat.mod_lt _ hM
    have hp : j / M = 0 ∨ j / M = 1 := by
      have : j / M < 2 := Nat.div_lt_of_lt_mul (by rw [Nat.mul_comm]; exact h)
      revert this
      generalize j / M = p
      intro this
      omega
    have key : ∀ q x, x = 2 * M * q + j → x % (2 * M) = j := fun q x e => by
      rw [e, Nat.mul_add_mod]
      exact Nat.mod_eq_of_lt h
    obtain ⟨q, hq⟩ : ∃ q, A / M = 2 * q ∨ A / M = 2 * q + 1 := ⟨A / M / 2, by generalize A / M = z; omega⟩
    generalize A / M = a at *
    generalize j / M = p at *
    obtain ⟨u, hu⟩ : ∃ u, (2 * o + 1) * (4 * A + 1) = 2 * u + 1 := ⟨4 * A * o + o + 2 * A, by grind⟩
    rw [hu] at hB
    rcases hq with rfl | rfl <;> rcases hp with rfl | rfl
    · exact ⟨r, by omega, key q _ (by grind)⟩
    · exact ⟨M + r, by omega, key (q + u) _ (by grind)⟩
    · exact ⟨M + r, by omega, key (q + u + 1) _ (by grind)⟩
    · exact ⟨r, by omega, key q _ (by grind)⟩
end SetP
namespace SetP
open PySem
def adv (t : SetTable) : Nat → SetTable.Probe → SetTable.Probe
  | 0, p => p
  | n + 1, p => adv t n (t.advance p)
theorem adv_add (t : SetTable) : ∀ a b p, adv t (a + b) p = adv t b (adv t a p)
  | 0, b, p => by simp [adv]
  | a + 1, b, p => by rw [show a + 1 + b = (a + b) + 1 by omega, adv, adv, adv_add t a b]
def start (mask i pb : Nat) (d : Option Nat) : SetTable.Probe := { j := i, more := SetTable.runEnd mask i - i, i := i, perturb := pb, dummy := d }
theorem run_leap (t : SetTable) : ∀ (more j i pb : Nat) (d : Option Nat), adv t (more + 1) { j := j, more := more, i := i, perturb := pb, dummy := d } = start t.mask (SetTable.leap t.mask i pb).1 (SetTable.leap t.mask i pb).2 d
  | 0, j, i, pb, d => by
    simp only [adv, SetTable.advance]
    rfl
  | more + 1, j, i, pb, d => by
    rw [adv]
    have e : t.advance { j := j, more := more + 1, i := i, perturb := pb, dummy := d } = { j := j + 1, more := more, i := i, perturb := pb, dummy := d } := by
      simp [SetTable.advance]
    rw [e]
    exact run_leap t more (j + 1) i pb d
/-- the q-th leap -/
def lp (mask : Nat) : Nat → Nat × Nat → Nat × Nat
  | 0, x => x
  | q + 1, x => SetTable.leap mask (lp mask q x).1 (lp mask q x).2
theorem starts (t : SetTable) (d : Option Nat) (i pb : Nat) : ∀ q, ∃ n, n ≤ 10 * q ∧ adv t n (start t.mask i pb d) = start t.mask (lp t.mask q (i, pb)).1 (lp t.mask q (i, pb)).2 d
  | 0 => ⟨0, Nat.le_refl _, rfl⟩
  | q + 1 => by
    obtain ⟨n, h1, h2⟩ := starts t d i pb q
    have hr : SetTable.runEnd t.mask (lp t.mask q (i, pb)).1 - (lp t.mask q (i, pb)).1 ≤ 9 := by
      unfold SetTable.runEnd
      split <;> omega
    refine ⟨n + (SetTable.runEnd t.mask (lp t.mask q (i, pb)).1 - (lp t.mask q (i, pb)).1 + 1), by omega, ?_⟩
    rw [adv_add, h2, start, run_leap]
    rfl
theorem lp_pb (mask : Nat) (x : Nat × Nat) : ∀ q, (lp mask q x).2 = x.2 / 32 ^ q
  | 0 => by simp [lp]
  | q + 1 => by
    rw [lp, SetTable.leap, lp_pb mask x q, Nat.pow_succ, Nat.div_div_eq_div_mul]
theorem lp_zero {mask : Nat} {x : Nat × Nat} (h : x.2 < 2 ^ 64) {q : Nat} (hq : 13 ≤ q) : (lp mask q x).2 = 0 := by
  rw [lp_pb]
  apply Nat.div_eq_of_lt
  calc x.2 < 2 ^ 64 := h
    _ ≤ 32 ^ 13 := by decide
    _ ≤ 32 ^ q := Nat.pow_le_pow_right (by decide) hq
theorem lp_it5 {mask : Nat} {x : Nat × Nat} (h : x.2 < 2 ^ 64) : ∀ r, (lp mask (13 + r) x).1 % (mask + 1) = it5 r (lp mask 13 x).1 % (mask + 1)
  | 0 => rfl
  | r + 1 => by
    have e : lp mask (13 + (r + 1)) x = SetTable.leap mask (lp mask (13 + r) x).1 (lp mask (13 + r) x).2 := rfl
    rw [e, SetTable.leap, lp_zero h (by omega)]
    show ((lp mask (13 + r) x).1 * 5 + 1 + 0 / 32) % (mask + 1) % (mask + 1) = _
    rw [Nat.mod_mod, it5]
    simp only [Nat.zero_div, Nat.add_zero]
    rw [Nat.add_mod, Nat.mul_mod, lp_it5 h r, ← Nat.mul_mod, ← Nat.add_mod, Nat.mul_comm]
/-- every slot is come to -/
theorem visits (t : SetTable) {k : Nat} (hk : t.mask + 1 = 2 ^ k) (h : Int) {j : Nat} (hj : j ≤ t.mask) : ∃ n, n ≤ 10 * (t.mask + 14) ∧ (adv t n (t.probeStart h)).j = j := by
  have e : t.probeStart h = start t.mask (SetTable.bits h % (t.mask + 1)) (SetTable.bits h) none := rfl
  have hb : SetTable.bits h < 2 ^ 64 := by
    unfold SetTable.bits
    have h1 := Int.emod_lt_of_pos h (show (0 : Int) < 2 ^ 64 by decide)
    have h2 := Int.emod_nonneg h (show (2 ^ 64 : Int) ≠ 0 by decide)
    omega
  let x : Nat × Nat := (SetTable.bits h % (t.mask + 1), SetTable.bits h)
  obtain ⟨r, hr, hx⟩ := cover k (lp t.mask 13 x).1 j (by omega)
  rw [← hk] at hx hr
  have h1 := lp_it5 (mask := t.mask) (x := x) hb r
  have h2 : (lp t.mask (13 + r) x).1 < t.mask + 1 := by
    rw [show 13 + r = (12 + r) + 1 by omega, lp, SetTable.leap]
    exact Nat.mod_lt _ (Nat.succ_pos _)
  rw [Nat.mod_eq_of_lt h2, hx] at h1
  obtain ⟨n, h3, h4⟩ := starts t none x.1 x.2 (13 + r)
  refine ⟨n, by omega, ?_⟩
  rw [e]
  show (adv t n (start t.mask x.1 x.2 none)).j = j
  rw [h4]
  exact h1
/-- some slot is empty -/
theorem some_empty {t : SetTable} (T : Tb t) (hf : t.place.size ≤ t.mask) : ∃ j, j ≤ t.mask ∧ t.slot j = .empty := by
  refine Classical.byContradiction fun hno => ?_
  have all : ∀ j, j ≤ t.mask → ∃ i, i < t.place.size ∧ t.place.getD i 0 = j := fun j hj => by
    rcases slot_cases T j with ⟨i, h1, h2, _⟩ | ⟨_, h2⟩
    · exact ⟨i, h1, h2⟩
    · exact absurd ⟨j, hj, h2⟩ hno
  have up : ∀ j, j ≤ t.mask → ∀ i, i < t.place.size → t.place.getD i 0 = j → j ≤ i := by
    intro j
    induction j with
    | zero => intro _ i _ _; omega
    | succ j ih =>
      intro hj i hi e
      obtain ⟨i', hi', e'⟩ := all j (by omega)
      have := ih (by omega) i' hi' e'
      rcases Nat.lt_trichotomy i i' with q | q | q
      · have := T.ri i i' q hi'; omega
      · subst q; omega
      · omega
  obtain ⟨i, hi, e⟩ := all t.mask (Nat.le_refl _)
  have := up _ (Nat.le_refl _) i hi e
  omega
/-- the first place on the way where P holds -/
theorem first (P : Nat → Prop) (n : Nat) (h : P n) : ∃ m, m ≤ n ∧ P m ∧ ∀ i, i < m → ¬ P i := by
  induction n using Nat.strongRecOn with
  | ind n ih =>
    by_cases q : ∃ i, i < n ∧ P i
    · obtain ⟨i, h1, h2⟩ := q
      obtain ⟨m, a, b, c⟩ := ih i h1 h2
      exact ⟨m, by omega, b, c⟩
    · exact ⟨n, Nat.le_refl _, h, fun i hi hp => q ⟨i, hi, hp⟩⟩
/-- on the way of h: an empty slot, or one that is asked for (hit), ahead of it only others -/
theorem way {t : SetTable} (T : Tb t) {k : Nat} (hk : t.mask + 1 = 2 ^ k) (hf : t.place.size ≤ t.mask) (h : Int) (hit : Nat → Prop) :
    ∃ n, n ≤ 10 * (t.mask + 14) ∧ (t.slot (adv t n (t.probeStart h)).j = .empty ∨ ∃ i, i < t.place.size ∧ t.slot (adv t n (t.probeStart h)).j = .live i ∧ hit i) ∧
      ∀ m, m < n → ∃ i, i < t.place.size ∧ t.slot (adv t m (t.probeStart h)).j = .live i ∧ ¬ hit i := by
  obtain ⟨j, hj, he⟩ := some_empty T hf
  obtain ⟨n, hn, e⟩ := visits t hk h hj
  obtain ⟨m, hm, hp, hb⟩ := first (fun n => t.slot (adv t n (t.probeStart h)).j = .empty ∨ ∃ i, i < t.place.size ∧ t.slot (adv t n (t.probeStart h)).j = .live i ∧ hit i) n (.inl (by rw [e]; exact he))
  refine ⟨m, by omega, hp, fun i hi => ?_⟩
  have hno := hb i hi
  rcases slot_cases T (adv t i (t.probeStart h)).j with ⟨a, h1, h2, h3⟩ | ⟨_, h2⟩
  · exact ⟨a, h1, h3, fun z => hno (.inr ⟨a, h1, h3, z⟩)⟩
  · exact absurd (.inl h2) hno
/-- the search itself, as far as it passes over others -/
theorem go_run (t : SetTable) (hashAt : Nat → Int) (h : Int) : ∀ (n fuel : Nat) (p : SetTable.Probe), (∀ m, m < n → ∃ i, t.slot (adv t m p).j = .live i ∧ (hashAt i == h) = false) → n ≤ fuel →
    SetTable.probe.go t hashAt h fuel p = SetTable.probe.go t hashAt h (fuel - n) (adv t n p)
  | 0, fuel, p, _, _ => rfl
  | n + 1, 0, p, _, hf => absurd hf (by omega)
  | n + 1, fuel + 1, p, hm, hf => by
    obtain ⟨i, h1, h2⟩ := hm 0 (by omega)
    have h1 : t.slot p.j = .live i := h1
    rw [SetTable.probe.go, h1]
    simp only [h2, Bool.false_eq_true, if_false]
    rw [go_run t hashAt h n fuel (t.advance p) (fun m q => hm (m + 1) (by omega)) (by omega)]
    rw [show fuel + 1 - (n + 1) = fuel - n by omega]
    rfl
end SetP
namespace SetP
open PySem
/-- j is come to on the way of h ahead of any empty slot -/
def Home (t : SetTable) (h : Int) (j : Nat) : Prop := ∃ n, n < 10 * (t.mask + 15) ∧ (adv t n (t.probeStart h)).j = j ∧ ∀ m, m < n → t.slot (adv t m (t.probeStart h)).j ≠ .empty
structure TbI (t : SetTable) (hs : Array Int) : Prop where
  tb : Tb t
  sz : t.place.size = hs.size
  le : ∀ i, i < t.place.size → t.place.getD i 0 ≤ t.mask
  fill : hs.size ≤ t.mask
  pw : ∃ k, t.mask + 1 = 2 ^ k
  home : ∀ i, i < hs.size → Home t (hs.getD i 0) (t.place.getD i 0)
theorem adv_mask {t t' : SetTable} (h : t'.mask = t.mask) : ∀ n p, adv t' n p = adv t n p
  | 0, p => rfl
  | n + 1, p => by
    have e : t'.advance p = t.advance p := by simp only [SetTable.advance, h]
    rw [adv, adv, e, adv_mask h n]
theorem start_mask {t t' : SetTable} (hm : t'.mask = t.mask) (h : Int) : t'.probeStart h = t.probeStart h := by simp only [SetTable.probeStart, hm]
theorem size_insertAt {α : Type} (xs : Array α) {p : Nat} (hp : p ≤ xs.size) (x : α) : (SetTable.insertAt xs p x).size = xs.size + 1 := by
  unfold SetTable.insertAt
  simp
  omega
theorem get_insertAt {α : Type} (xs : Array α) {p : Nat} (hp : p ≤ xs.size) (x : α) (i : Nat) : (SetTable.insertAt xs p x)[i]? = if i < p then xs[i]? else if i = p then some x else xs[i - 1]? := by
  unfold SetTable.insertAt
  rw [Array.getElem?_append]
  have e : ((xs.extract 0 p).push x).size = p + 1 := by simp; omega
  rw [e]
  by_cases h1 : i < p
  · rw [if_pos (by omega), if_pos h1, Array.getElem?_push]
    rw [if_neg (by simp; omega), Array.getElem?_extract]
    simp
    omega
  · rw [if_neg h1]
    by_cases h2 : i = p
    · rw [if_pos (by omega), if_pos h2, Array.getElem?_push]
      rw [if_pos (by simp; omega)]
    · rw [if_neg (by omega), if_neg h2, Array.getElem?_extract]
      have e2 : p + (i - (p + 1)) = i - 1 := by omega
      rw [e2]
      by_cases h3 : i - 1 < xs.size
      · rw [if_pos (by omega)]
      · rw [if_neg (by omega)]
        simp
        omega
theorem getD_insertAt {α : Type} (xs : Array α) {p : Nat} (hp : p ≤ xs.size) (x d : α) (i : Nat) : (SetTable.insertAt xs p x).getD i d = if i < p then xs.getD i d else if i = p then x else xs.getD (i - 1) d := by
  rw [Array.getD_eq_getD_getElem?, get_insertAt xs hp x i, Array.getD_eq_getD_getElem?, Array.getD_eq_getD_getElem?]
  split
  · rfl
  · split <;> rfl
/-- a new one, put at the empty slot j that the search found -/
theorem put_ok {t : SetTable} {hs : Array Int} (I : TbI t hs) {h : Int} {n : Nat} (hn : n < 10 * (t.mask + 15)) (he : t.slot (adv t n (t.probeStart h)).j = .empty) (hj : (adv t n (t.probeStart h)).j ≤ t.mask)
    (hw : ∀ m, m < n → t.slot (adv t m (t.probeStart h)).j ≠ .empty) (hfull : hs.size + 1 ≤ t.mask) :
    TbI (t.put (adv t n (t.probeStart h)).j).1 (SetTable.insertAt hs (t.put (adv t n (t.probeStart h)).j).2 h) ∧ (t.put (adv t n (t.probeStart h)).j).2 ≤ hs.size := by
  generalize hjj : (adv t n (t.probeStart h)).j = j at *
  have hnone : ∀ i, i < t.place.size → t.place.getD i 0 ≠ j := fun i hi e => by
    have z := slot_live I.tb hi
    rw [e, he] at z
    cases z
  have hb := below_spec t.place I.tb.ri j
  have hp2 : (t.put j).2 = SetTable.below t.place j := rfl
  have hm : (t.put j).1.mask = t.mask := rfl
  have hpl : (t.put j).1.place = SetTable.insertAt t.place (SetTable.below t.place j) j := rfl
  have hd : (t.put j).1.dummies = #[] := by
    show (if SetTable.has t.dummies j then _ else t.dummies) = #[]
    rw [I.tb.nd]
    simp [SetTable.has]
  have gp := getD_insertAt t.place hb.1 j 0
  have sp := size_insertAt t.place hb.1 j
  have ri : Ri (t.put j).1.place := fun a b hab hbz => by
    rw [hpl, sp] at hbz
    rw [hpl, gp, gp]
    have h1 := hb.2.1
    have h2 := hb.2.2
    by_cases b1 : b < SetTable.below t.place j
    · rw [if_pos (by omega), if_pos b1]; exact I.tb.ri a b hab (by omega)
    · rw [if_neg b1]
      by_cases b2 : b = SetTable.below t.place j
      · rw [if_pos b2, if_pos (by omega)]; exact h1 a (by omega)
      · rw [if_neg b2]
        by_cases a1 : a < SetTable.below t.place j
        · rw [if_pos a1]; exact I.tb.ri a (b - 1) (by omega) (by omega)
        · rw [if_neg a1]
          by_cases a2 : a = SetTable.below t.place j
          · rw [if_pos a2]
            have z := h2 (b - 1) (by omega) (by omega)
            have y := hnone (b - 1) (by omega)
            omega
          · rw [if_neg a2]; exact I.tb.ri (a - 1) (b - 1) (by omega) (by omega)
  have tb : Tb (t.put j).1 := ⟨ri, hd⟩
  have mono : ∀ c, t.slot c ≠ .empty → (t.put j).1.slot c ≠ .empty := fun c hc z => by
    rcases slot_cases I.tb c with ⟨i, h1, h2, _⟩ | ⟨_, h2⟩
    · have key : ∃ i', i' < (t.put j).1.place.size ∧ (t.put j).1.place.getD i' 0 = c := by
        rw [hpl, sp]
        by_cases q : i < SetTable.below t.place j
        · exact ⟨i, by omega, by rw [gp, if_pos q]; exact h2⟩
        · exact ⟨i + 1, by omega, by rw [gp, if_neg (by omega), if_neg (by omega)]; exact h2⟩
      obtain ⟨i', k1, k2⟩ := key
      have y := slot_live tb k1
      rw [k2, z] at y
      cases y
    · exact hc h2
  have hsz := I.sz
  refine ⟨⟨tb, ?_, ?_, ?_, ?_, ?_⟩, ?_⟩
  · rw [hp2, hpl, sp, size_insertAt hs (by omega), hsz]
  · intro i hi
    rw [hpl, sp] at hi
    rw [hpl, gp, hm]
    split
    · exact I.le i (by omega)
    · split
      · exact hj
      · exact I.le (i - 1) (by omega)
  · rw [hp2, size_insertAt hs (by omega), hm]; exact hfull
  · rw [hm]; exact I.pw
  · intro i hi
    rw [hp2, size_insertAt hs (by omega)] at hi
    rw [hp2, hpl, gp, getD_insertAt hs (by omega)]
    have lift : ∀ h' c, Home t h' c → Home (t.put j).1 h' c := fun h' c ⟨n', k1, k2, k3⟩ =>
      ⟨n', by rw [hm]; exact k1, by rw [start_mask hm, adv_mask hm]; exact k2, fun m q => by rw [start_mask hm, adv_mask hm]; exact mono _ (k3 m q)⟩
    split
    · exact lift _ _ (I.home i (by omega))
    · split
      · exact lift _ _ ⟨n, hn, hjj, hw⟩
      · exact lift _ _ (I.home (i - 1) (by omega))
  · rw [hp2]; omega
end SetP
namespace SetP
open PySem
/-- every slot is the start of some leap -/
theorem leaps {mask k : Nat} (hk : mask + 1 = 2 ^ k) (h : Int) {j : Nat} (hj : j ≤ mask) : ∃ q, q ≤ 13 + mask ∧ (lp mask q (SetTable.bits h % (mask + 1), SetTable.bits h)).1 = j := by
  have hb : SetTable.bits h < 2 ^ 64 := by
    unfold SetTable.bits
    have h1 := Int.emod_lt_of_pos h (show (0 : Int) < 2 ^ 64 by decide)
    have h2 := Int.emod_nonneg h (show (2 ^ 64 : Int) ≠ 0 by decide)
    omega
  let x : Nat × Nat := (SetTable.bits h % (mask + 1), SetTable.bits h)
  obtain ⟨r, hr, hx⟩ := cover k (lp mask 13 x).1 j (by omega)
  rw [← hk] at hx hr
  have h1 := lp_it5 (mask := mask) (x := x) hb r
  have h2 : (lp mask (13 + r) x).1 < mask + 1 := by
    rw [show 13 + r = (12 + r) + 1 by omega, lp, SetTable.leap]
    exact Nat.mod_lt _ (Nat.succ_pos _)
  rw [Nat.mod_eq_of_lt h2, hx] at h1
  exact ⟨13 + r, by omega, h1⟩
theorem adv_run (t : SetTable) : ∀ (n more j i pb : Nat) (d : Option Nat), n ≤ more → adv t n { j := j, more := more, i := i, perturb := pb, dummy := d } = { j := j + n, more := more - n, i := i, perturb := pb, dummy := d }
  | 0, more, j, i, pb, d, _ => rfl
  | n + 1, 0, j, i, pb, d, h => absurd h (by omega)
  | n + 1, more + 1, j, i, pb, d, h => by
    rw [adv]
    have e : t.advance { j := j, more := more + 1, i := i, perturb := pb, dummy := d } = { j := j + 1, more := more, i := i, perturb := pb, dummy := d } := by simp [SetTable.advance]
    rw [e, adv_run t n more (j + 1) i pb d (by omega)]
    simp only [SetTable.Probe.mk.injEq, and_true]
    omega
def Fr (owner : Array (Option Nat)) (c : Nat) : Prop := (owner.getD c (some 0)).isNone = true
theorem lp_shift (mask : Nat) (x : Nat × Nat) : ∀ q, lp mask (q + 1) x = lp mask q (SetTable.leap mask x.1 x.2)
  | 0 => rfl
  | q + 1 => by rw [lp, lp_shift mask x q, lp]
theorem free_spec (t : SetTable) (owner : Array (Option Nat)) : ∀ (fuel i pb : Nat), (∃ q, q < fuel ∧ Fr owner (lp t.mask q (i, pb)).1) →
    ∃ j n, SetTable.layClean.free t.mask owner fuel i pb = some j ∧ n + 1 ≤ 10 * fuel ∧ (adv t n (start t.mask i pb none)).j = j ∧ Fr owner j ∧ ∀ m, m < n → ¬ Fr owner (adv t m (start t.mask i pb none)).j
  | 0, i, pb, ⟨q, hq, _⟩ => absurd hq (by omega)
  | fuel + 1, i, pb, ⟨q, hq, hf⟩ => by
    have hr : SetTable.runEnd t.mask i - i ≤ 9 ∧ i ≤ SetTable.runEnd t.mask i := by
      unfold SetTable.runEnd
      split <;> omega
    unfold SetTable.layClean.free
    cases e : (List.range (SetTable.runEnd t.mask i + 1 - i)).find? fun k => (owner.getD (i + k) (some 0)).isNone with
    | some k =>
      obtain ⟨h1, as, bs, h2, h3⟩ := List.find?_eq_some_iff_append.mp e
      have hk : k < SetTable.runEnd t.mask i + 1 - i := List.mem_range.mp (by rw [h2]; simp)
      have hbf : ∀ m, m < k → (owner.getD (i + m) (some 0)).isNone = false := fun m hm => by
        have hmem : m ∈ as := by
          have hm2 : m ∈ List.range (SetTable.runEnd t.mask i + 1 - i) := List.mem_range.mpr (by omega)
          rw [h2] at hm2
          rcases List.mem_append.mp hm2 with z | z
          · exact z
          · exfalso
            have hs : (List.range (SetTable.runEnd t.mask i + 1 - i)).Pairwise (· < ·) := List.pairwise_lt_range
            rw [h2] at hs
            have hs2 := (List.pairwise_append.mp hs).2.1
            rcases List.mem_cons.mp z with rfl | z
            · omega
            · have := (List.pairwise_cons.mp hs2).1 m z
              omega
        simpa using h3 m hmem
      refine ⟨i + k, k, rfl, by omega, ?_, h1, fun m hm => ?_⟩
      · rw [start, adv_run t k _ _ _ _ _ (by omega)]
      · rw [start, adv_run t m _ _ _ _ _ (by omega)]
        show ¬ (owner.getD (i + m) (some 0)).isNone = true
        rw [hbf m hm]
        simp
    | none =>
      have hno : ∀ k, k < SetTable.runEnd t.mask i + 1 - i → (owner.getD (i + k) (some 0)).isNone = false := fun k hk => by
        have := List.find?_eq_none.mp e k (List.mem_range.mpr hk)
        exact Bool.eq_false_iff.mpr this
      obtain ⟨q, rfl⟩ : ∃ q', q = q' + 1 := by
        cases q with
        | zero =>
          have z := hno 0 (by omega)
          have hf : (owner.getD i (some 0)).isNone = true := hf
          rw [Nat.add_zero, hf] at z
          cases z
        | succ q => exact ⟨q, rfl⟩
      rw [lp_shift] at hf
      obtain ⟨j, n, g1, g2, g3, g4, g5⟩ := free_spec t owner fuel (SetTable.leap t.mask i pb).1 (SetTable.leap t.mask i pb).2 ⟨q, by omega, hf⟩
      refine ⟨j, (SetTable.runEnd t.mask i - i + 1) + n, g1, by omega, ?_, g4, fun m hm => ?_⟩
      · rw [adv_add, start, run_leap]; exact g3
      · by_cases hm2 : m ≤ SetTable.runEnd t.mask i - i
        · rw [start, adv_run t m _ _ _ _ _ hm2]
          show ¬ (owner.getD (i + m) (some 0)).isNone = true
          rw [hno m (by omega)]
          simp
        · have em : m = (SetTable.runEnd t.mask i - i + 1) + (m - (SetTable.runEnd t.mask i - i + 1)) := by omega
          rw [em, adv_add, start, run_leap]
          exact g5 _ (by omega)
end SetP
namespace SetP
open PySem
theorem nodup_len : ∀ (n : Nat) (l : List Nat), l.Nodup → (∀ x ∈ l, x < n) → l.length ≤ n
  | 0, l, _, h => by
    cases l with
    | nil => simp
    | cons a r => exact absurd (h a (by simp)) (by omega)
  | n + 1, l, hn, h => by
    have h1 := nodup_len n (l.erase n) (hn.erase n) fun x hx => by
      have a := h x (List.mem_of_mem_erase hx)
      have b : x ≠ n := fun e => by
        subst e
        exact (hn.not_mem_erase) hx
      omega
    have h2 : l.length ≤ (l.erase n).length + 1 := by
      by_cases hm : n ∈ l
      · rw [List.length_erase_of_mem hm]; omega
      · rw [List.erase_of_not_mem hm]; omega
    omega
/-- the owners of the slots behind the hashes hs; pos: where each stands -/
structure Own (t : SetTable) (owner : Array (Option Nat)) (hs : List Int) (pos : Nat → Nat) : Prop where
  sz : owner.size = t.mask + 1
  at_ : ∀ c, c ≤ t.mask → ∀ i, owner.getD c none = some i ↔ (i < hs.length ∧ pos i = c)
  le : ∀ i, i < hs.length → pos i ≤ t.mask
  home : ∀ i (hi : i < hs.length), ∃ n, n < 10 * (t.mask + 15) ∧ (adv t n (t.probeStart hs[i])).j = pos i ∧ ∀ m, m < n → ¬ Fr owner (adv t m (t.probeStart hs[i])).j
theorem Own.free_iff {t : SetTable} {owner : Array (Option Nat)} {hs : List Int} {pos : Nat → Nat} (O : Own t owner hs pos) (c : Nat) : Fr owner c ↔ (c ≤ t.mask ∧ ∀ i, i < hs.length → pos i ≠ c) := by
  unfold Fr
  constructor
  · intro h
    have hc : c ≤ t.mask := by
      refine Classical.byContradiction fun hc => ?_
      have hs' := O.sz
      have : owner.getD c (some 0) = some 0 := by simp [Array.getD, show ¬ c < owner.size by omega]
      rw [this] at h
      cases h
    refine ⟨hc, fun i hi e => ?_⟩
    have z := (O.at_ c hc i).mpr ⟨hi, e⟩
    have hlt : c < owner.size := by rw [O.sz]; omega
    have e2 : owner.getD c (some 0) = owner.getD c none := by simp [Array.getD, hlt]
    rw [e2, z] at h
    cases h
  · rintro ⟨hc, h⟩
    have hlt : c < owner.size := by rw [O.sz]; omega
    have e2 : owner.getD c (some 0) = owner.getD c none := by simp [Array.getD, hlt]
    rw [e2]
    cases e : owner.getD c none with
    | none => rfl
    | some i =>
      obtain ⟨h1, h2⟩ := (O.at_ c hc i).mp e
      exact absurd h2 (h i h1)
theorem Own.some_free {t : SetTable} {owner : Array (Option Nat)} {hs : List Int} {pos : Nat → Nat} (O : Own t owner hs pos) (hf : hs.length ≤ t.mask) : ∃ c, c ≤ t.mask ∧ Fr owner c := by
  refine Classical.byContradiction fun hno => ?_
  have all : ∀ c, c ≤ t.mask → ∃ i, i < hs.length ∧ pos i = c := fun c hc => Classical.byContradiction fun hn => hno ⟨c, hc, (O.free_iff c).mpr ⟨hc, fun i hi e => hn ⟨i, hi, e⟩⟩⟩
  have all' : ∀ c, ∃ i, c ≤ t.mask → i < hs.length ∧ pos i = c := fun c => by
    by_cases hc : c ≤ t.mask
    · obtain ⟨i, h⟩ := all c hc; exact ⟨i, fun _ => h⟩
    · exact ⟨0, fun z => absurd z hc⟩
  obtain ⟨g, hg⟩ := Classical.skolem.mp all'
  have h1 := nodup_len hs.length ((List.range (t.mask + 1)).map g) (by
    unfold List.Nodup
    rw [List.pairwise_map]
    refine List.Pairwise.imp_of_mem (R := fun a b => a < b) (fun {a b} ha hb hlt e => ?_) List.pairwise_lt_range
    have ha' := (hg a (by have := List.mem_range.mp ha; omega)).2
    have hb' := (hg b (by have := List.mem_range.mp hb; omega)).2
    rw [e] at ha'
    omega) fun x hx => by
      obtain ⟨c, hc, rfl⟩ := List.mem_map.mp hx
      exact (hg c (by have := List.mem_range.mp hc; omega)).1
  simp at h1
  omega
def stp (mask : Nat) (acc : Option (Array (Option Nat) × Nat)) (h : Int) : Option (Array (Option Nat) × Nat) := do
  let (owner, k) ← acc
  let j ← SetTable.layClean.free mask owner (SetTable.turns mask) (SetTable.bits h % (mask + 1)) (SetTable.bits h)
  pure (owner.setIfInBounds j (some k), k + 1)
theorem layClean_eq (mask : Nat) (hashes : Array Int) : SetTable.layClean mask hashes = (hashes.toList.foldl (stp mask) (some (Array.replicate (mask + 1) none, 0))).map (·.1) := by
  unfold SetTable.layClean
  rw [← Array.foldl_toList]
  rfl
theorem Own.step {t : SetTable} {k : Nat} (hk : t.mask + 1 = 2 ^ k) {owner : Array (Option Nat)} {hs : List Int} {pos : Nat → Nat} (O : Own t owner hs pos) (hf : hs.length ≤ t.mask) (h : Int) :
    ∃ owner' pos', stp t.mask (some (owner, hs.length)) h = some (owner', hs.length + 1) ∧ Own t owner' (hs ++ [h]) pos' := by
  obtain ⟨c, hc, hfr⟩ := O.some_free hf
  obtain ⟨q, hq, e⟩ := leaps hk h hc
  obtain ⟨j, n, g1, g2, g3, g4, g5⟩ := free_spec t owner (SetTable.turns t.mask) (SetTable.bits h % (t.mask + 1)) (SetTable.bits h) ⟨q, by unfold SetTable.turns; omega, by rw [e]; exact hfr⟩
  have hj := (O.free_iff j).mp g4
  have hlt : j < owner.size := by rw [O.sz]; omega
  have gs : ∀ c d, (owner.setIfInBounds j (some hs.length)).getD c d = if c = j then some hs.length else owner.getD c d := fun c d => by
    rw [Array.getD_eq_getD_getElem?, Array.getD_eq_getD_getElem?, Array.getElem?_setIfInBounds]
    by_cases ec : j = c
    · subst ec; simp [hlt]
    · rw [if_neg ec, if_neg (Ne.symm ec)]
  refine ⟨owner.setIfInBounds j (some hs.length), fun i => if i = hs.length then j else pos i, ?_, ?_⟩
  · unfold stp
    simp only [Option.bind_eq_bind, Option.bind_some, g1]
    rfl
  · have frs : ∀ c, Fr (owner.setIfInBounds j (some hs.length)) c → Fr owner c := fun c hc => by
      unfold Fr at hc ⊢
      rw [gs] at hc
      by_cases ec : c = j
      · rw [if_pos ec] at hc; cases hc
      · rw [if_neg ec] at hc; exact hc
    refine ⟨by rw [Array.size_setIfInBounds]; exact O.sz, fun c hc i => ?_, fun i hi => ?_, fun i hi => ?_⟩
    · rw [gs, List.length_append, List.length_singleton]
      by_cases ec : c = j
      · subst ec
        rw [if_pos rfl]
        constructor
        · intro e; cases e; exact ⟨by omega, by rw [if_pos rfl]⟩
        · rintro ⟨h1, h2⟩
          by_cases ei : i = hs.length
          · rw [ei]
          · rw [if_neg ei] at h2
            exact absurd h2 (hj.2 i (by omega))
      · rw [if_neg ec, O.at_ c hc i]
        constructor
        · rintro ⟨h1, h2⟩; exact ⟨by omega, by rw [if_neg (by omega)]; exact h2⟩
        · rintro ⟨h1, h2⟩
          by_cases ei : i = hs.length
          · rw [if_pos ei] at h2; exact absurd h2.symm ec
          · rw [if_neg ei] at h2; exact ⟨by omega, h2⟩
    · rw [List.length_append, List.length_singleton] at hi
      by_cases ei : i = hs.length
      · show (if i = hs.length then j else pos i) ≤ t.mask
        rw [if_pos ei]; exact hj.1
      · show (if i = hs.length then j else pos i) ≤ t.mask
        rw [if_neg ei]; exact O.le i (by omega)
    · rw [List.length_append, List.length_singleton] at hi
      by_cases ei : i = hs.length
      · subst ei
        have e2 : (hs ++ [h])[hs.length] = h := by simp
        rw [e2]
        refine ⟨n, by unfold SetTable.turns at g2; omega, by rw [if_pos rfl]; exact g3, fun m hm z => g5 m hm (frs _ z)⟩
      · obtain ⟨n', k1, k2, k3⟩ := O.home i (by omega)
        have e2 : (hs ++ [h])[i] = hs[i]'(by omega) := List.getElem_append_left (by omega)
        rw [e2]
        exact ⟨n', k1, by rw [if_neg ei]; exact k2, fun m hm z => k3 m hm (frs _ z)⟩
theorem lay_fold {t : SetTable} {k : Nat} (hk : t.mask + 1 = 2 ^ k) : ∀ (l : List Int) (owner : Array (Option Nat)) (pre : List Int) (pos : Nat → Nat), Own t owner pre pos → pre.length + l.length ≤ t.mask + 1 →
    ∃ owner' pos', l.foldl (stp t.mask) (some (owner, pre.length)) = some (owner', pre.length + l.length) ∧ Own t owner' (pre ++ l) pos'
  | [], owner, pre, pos, O, _ => ⟨owner, pos, by simp, by simpa using O⟩
  | h :: l, owner, pre, pos, O, hf => by
    simp only [List.length_cons] at hf
    obtain ⟨o1, p1, e1, O1⟩ := O.step hk (by omega) h
    obtain ⟨o2, p2, e2, O2⟩ := lay_fold hk l o1 (pre ++ [h]) p1 O1 (by rw [List.length_append, List.length_singleton]; omega)
    refine ⟨o2, p2, ?_, by simpa using O2⟩
    rw [List.foldl_cons, e1]
    rw [List.length_append, List.length_singleton] at e2
    rw [e2]
    simp only [List.length_cons]
    congr 2
    omega
theorem lay_ok {t : SetTable} {k : Nat} (hk : t.mask + 1 = 2 ^ k) (hs : Array Int) (hf : hs.size ≤ t.mask) : ∃ owner pos, SetTable.layClean t.mask hs = some owner ∧ Own t owner hs.toList pos := by
  have O0 : Own t (Array.replicate (t.mask + 1) none) [] (fun _ => 0) := ⟨by simp, fun c hc i => by simp [Array.getD, hc], fun i hi => by simp at hi, fun i hi => by simp at hi⟩
  obtain ⟨o, p, e, O⟩ := lay_fold hk hs.toList _ [] _ O0 (by simp; omega)
  refine ⟨o, p, ?_, by simpa using O⟩
  rw [layClean_eq, show (0 : Nat) = ([] : List Int).length from rfl, e]
  rfl
end SetP
namespace SetP
open PySem
theorem runEnd_le {mask i : Nat} (h : i ≤ mask) : i ≤ SetTable.runEnd mask i ∧ SetTable.runEnd mask i ≤ mask := by
  unfold SetTable.runEnd
  split <;> omega
theorem advance_le (t : SetTable) (p : SetTable.Probe) (h : p.j + p.more ≤ t.mask) : (t.advance p).j + (t.advance p).more ≤ t.mask := by
  unfold SetTable.advance
  split
  · show p.j + 1 + (p.more - 1) ≤ t.mask
    omega
  · have hl : (SetTable.leap t.mask p.i p.perturb).1 ≤ t.mask := by
      unfold SetTable.leap
      exact Nat.le_of_lt_succ (Nat.mod_lt _ (Nat.succ_pos _))
    have hr := runEnd_le hl
    show (SetTable.leap t.mask p.i p.perturb).1 + (SetTable.runEnd t.mask (SetTable.leap t.mask p.i p.perturb).1 - (SetTable.leap t.mask p.i p.perturb).1) ≤ t.mask
    omega
theorem adv_le (t : SetTable) : ∀ (n : Nat) (p : SetTable.Probe), p.j + p.more ≤ t.mask → (adv t n p).j ≤ t.mask
  | 0, p, h => by show p.j ≤ t.mask; omega
  | n + 1, p, h => adv_le t n _ (advance_le t p h)
theorem start_le (t : SetTable) (h : Int) : (t.probeStart h).j + (t.probeStart h).more ≤ t.mask := by
  have hl : SetTable.bits h % (t.mask + 1) ≤ t.mask := Nat.le_of_lt_succ (Nat.mod_lt _ (Nat.succ_pos _))
  have hr := runEnd_le hl
  show SetTable.bits h % (t.mask + 1) + (SetTable.runEnd t.mask (SetTable.bits h % (t.mask + 1)) - SetTable.bits h % (t.mask + 1)) ≤ t.mask
  omega
theorem laid_ok {mask k : Nat} (hk : mask + 1 = 2 ^ k) (finger moves : Nat) (led plain : Bool) (hs : Array Int) (hf : hs.size ≤ mask) :
    ∃ t order, SetTable.laid mask finger moves led plain hs = some (t, order) ∧ t.mask = mask ∧ t.led = led ∧ t.plain = plain ∧ order.toList.Perm (List.range hs.size) ∧ TbI t (order.map fun i => hs.getD i 0) := by
  let t0 : SetTable := { mask := mask, place := #[], dummies := #[], finger := finger, led := led, moves := moves, plain := plain }
  obtain ⟨owner, pos, e, O⟩ := lay_ok (t := t0) hk hs hf
  have e : SetTable.layClean mask hs = some owner := e
  let live : List (Nat × Nat) := (List.range (mask + 1)).filterMap fun j => (owner.getD j none).map (j, ·)
  let t : SetTable := { mask := mask, place := (live.map (·.1)).toArray, dummies := #[], finger := finger, led := led, moves := moves, plain := plain }
  have hlen : hs.toList.length = hs.size := by simp
  have mem : ∀ j i, (j, i) ∈ live ↔ (j ≤ mask ∧ i < hs.size ∧ pos i = j) := fun j i => by
    have z : (j, i) ∈ live ↔ ∃ a, a ∈ List.range (mask + 1) ∧ (owner.getD a none).map (a, ·) = some (j, i) := List.mem_filterMap
    rw [z]
    constructor
    · rintro ⟨a, h1, h2⟩
      obtain ⟨b, h3, h4⟩ := Option.map_eq_some_iff.mp h2
      cases h4
      have ha : j ≤ mask := by have := List.mem_range.mp h1; omega
      have := (O.at_ j ha i).mp h3
      exact ⟨ha, by rw [← hlen]; exact this.1, this.2⟩
    · rintro ⟨h1, h2, h3⟩
      exact ⟨j, List.mem_range.mpr (by omega), by rw [(O.at_ j h1 i).mpr ⟨by rw [hlen]; exact h2, h3⟩]; rfl⟩
  have rise : live.Pairwise fun a b => a.1 < b.1 := by
    refine List.Pairwise.filterMap (R := fun a b => a < b) _ (fun a a' haa b hb b' hb' => ?_) List.pairwise_lt_range
    obtain ⟨_, _, rfl⟩ := Option.map_eq_some_iff.mp hb
    obtain ⟨_, _, rfl⟩ := Option.map_eq_some_iff.mp hb'
    exact haa
  have nd2 : (live.map (·.2)).Nodup := by
    unfold List.Nodup
    rw [List.pairwise_map]
    refine List.Pairwise.imp_of_mem (fun {a b} ha hb hlt e2 => ?_) rise
    have h1 := ((mem a.1 a.2).mp ha).2.2
    have h2 := ((mem b.1 b.2).mp hb).2.2
    rw [e2] at h1
    omega
  have perm : (live.map (·.2)).Perm (List.range hs.size) := by
    refine (List.perm_ext_iff_of_nodup nd2 List.nodup_range).mpr fun i => ?_
    rw [List.mem_range]
    constructor
    · intro hi
      obtain ⟨⟨j, i'⟩, h1, rfl⟩ := List.mem_map.mp hi
      exact ((mem j i').mp h1).2.1
    · intro hi
      exact List.mem_map.mpr ⟨(pos i, i), (mem _ _).mpr ⟨O.le i (by rw [hlen]; exact hi), hi, rfl⟩, rfl⟩
  have ri : Ri t.place := fun a b hab hb => by
    show (live.map (·.1)).toArray.getD a 0 < (live.map (·.1)).toArray.getD b 0
    have hb' : b < live.length := by
      have : (live.map (·.1)).toArray.size = live.length := by simp
      show b < live.length
      rw [← this]; exact hb
    have z := List.pairwise_iff_getElem.mp rise a b (by omega) hb' hab
    simpa [Array.getD, show a < live.length by omega, hb'] using z
  have tb : Tb t := ⟨ri, rfl⟩
  have psz : t.place.size = live.length := by show (live.map (·.1)).toArray.size = _; simp
  have pget : ∀ i (hi : i < live.length), t.place.getD i 0 = (live[i]).1 := fun i hi => by
    show (live.map (·.1)).toArray.getD i 0 = _
    simp [Array.getD, hi]
  have full : ∀ c, ¬ Fr owner c → c ≤ mask → t.slot c ≠ .empty := fun c hc hle z => by
    have hex : ∃ i, i < hs.size ∧ pos i = c := Classical.byContradiction fun hno => hc ((O.free_iff c).mpr ⟨hle, fun i hi e2 => hno ⟨i, by rw [← hlen]; exact hi, e2⟩⟩)
    obtain ⟨i, h1, h2⟩ := hex
    obtain ⟨a, ha, ea⟩ := List.mem_iff_getElem.mp ((mem c i).mpr ⟨hle, h1, h2⟩)
    have y := slot_live tb (i := a) (by rw [psz]; exact ha)
    rw [pget a ha, ea, z] at y
    cases y
  have llen : live.length = hs.size := by
    have := perm.length_eq
    simpa using this
  have advle : ∀ h m, (adv t m (t.probeStart h)).j ≤ mask := fun h m => adv_le t m _ (start_le t h)
  refine ⟨t, (live.map (·.2)).toArray, ?_, rfl, rfl, rfl, by simpa using perm, tb, ?_, ?_, ?_, ⟨k, hk⟩, ?_⟩
  · unfold SetTable.laid
    rw [e]
    rfl
  · rw [psz]; simp
  · intro i hi
    rw [psz] at hi
    rw [pget i hi]
    exact ((mem _ _).mp (List.getElem_mem hi)).1
  · rw [Array.size_map, List.size_toArray, List.length_map, llen]; exact hf
  · intro i hi
    have hi' : i < live.length := by simpa using hi
    have e1 : ((live.map (·.2)).toArray.map fun i => hs.getD i 0).getD i 0 = hs.getD (live[i]).2 0 := by simp [Array.getD, hi']
    rw [e1, pget i hi']
    have mm : (live[i]).1 ≤ mask ∧ (live[i]).2 < hs.size ∧ pos (live[i]).2 = (live[i]).1 := (mem _ _).mp (List.getElem_mem hi')
    obtain ⟨m1, m2, m3⟩ := mm
    obtain ⟨n, k1, k2, k3⟩ := O.home (live[i]).2 (by rw [hlen]; exact m2)
    have e2 : hs.toList[(live[i]).2]'(by rw [hlen]; exact m2) = hs.getD (live[i]).2 0 := by simp [Array.getD, m2]
    rw [e2] at k2 k3
    refine ⟨n, k1, ?_, fun m hm => ?_⟩
    · rw [adv_mask (t := t0) (t' := t) rfl, start_mask (t := t0) (t' := t) rfl, k2, m3]
    · refine full _ ?_ (advle _ _)
      rw [adv_mask (t := t0) (t' := t) rfl, start_mask (t := t0) (t' := t) rfl]
      exact k3 m hm
end SetP
namespace SetP
open PySem
theorem adv_dummy (t : SetTable) : ∀ (n : Nat) (p : SetTable.Probe), (adv t n p).dummy = p.dummy
  | 0, p => rfl
  | n + 1, p => by
    rw [adv, adv_dummy t n]
    unfold SetTable.advance
    split <;> rfl
theorem adv_succ (t : SetTable) (n : Nat) (p : SetTable.Probe) : t.advance (adv t n p) = adv t (n + 1) p := by
  rw [adv_add t n 1 p]
  rfl
theorem pr_go {t : SetTable} {H : Nat → Int} {h : Int} {m0 c : Nat} (hb : ∀ c', c' < c → ∃ i, t.slot (adv t (m0 + c') (t.probeStart h)).j = .live i ∧ (H i == h) = false) (hc : c < 10 * SetTable.turns t.mask) :
    ∃ f, t.probe H h (adv t m0 (t.probeStart h)) = SetTable.probe.go t H h (f + 1) (adv t (m0 + c) (t.probeStart h)) := by
  refine ⟨10 * SetTable.turns t.mask - c - 1, ?_⟩
  unfold SetTable.probe
  rw [go_run t H h c _ _ (fun m hm => by rw [← adv_add]; exact hb m hm) (by omega), ← adv_add]
  congr 1
  omega
theorem pr_empty {t : SetTable} {H : Nat → Int} {h : Int} {m0 c : Nat} (hs : t.slot (adv t (m0 + c) (t.probeStart h)).j = .empty) (hc : c < 10 * SetTable.turns t.mask)
    (hb : ∀ c', c' < c → ∃ i, t.slot (adv t (m0 + c') (t.probeStart h)).j = .live i ∧ (H i == h) = false) : t.probe H h (adv t m0 (t.probeStart h)) = some (.empty (adv t (m0 + c) (t.probeStart h)).j none) := by
  obtain ⟨f, e⟩ := pr_go hb hc
  rw [e, SetTable.probe.go, hs]
  simp only [adv_dummy]
  rfl
theorem pr_cand {t : SetTable} {H : Nat → Int} {h : Int} {m0 c i : Nat} (hs : t.slot (adv t (m0 + c) (t.probeStart h)).j = .live i) (hc : c < 10 * SetTable.turns t.mask)
    (hb : ∀ c', c' < c → ∃ i, t.slot (adv t (m0 + c') (t.probeStart h)).j = .live i ∧ (H i == h) = false) (hi : (H i == h) = true) :
    t.probe H h (adv t m0 (t.probeStart h)) = some (.candidate (adv t (m0 + c) (t.probeStart h)).j i (adv t (m0 + c + 1) (t.probeStart h))) := by
  obtain ⟨f, e⟩ := pr_go hb hc
  rw [e, SetTable.probe.go, hs]
  simp only [hi, if_true, adv_succ]
section
variable {prog : Program} {w : World} {A : Around} {E : Value → Shared → Prop} {s : Shared} {a : Addr} {o : Obj} {es : Array (Int × Value)} {ep : Nat} {t : SetTable} {x : Value} {h : Int} {eqv : Nat → Bool} {Q : SetFound → Shared → Prop}
theorem search_wp (ho : s.heap.get? a = some o) (hd : o.data = .set es ep t) (I : TbI t (es.map (·.1))) (hodd : (t.mask % 2 == 0) = false)
    (hq : ∀ i (hi : i < es.size), (es[i]).1 = h → SeqAt.EqAt A s (es[i]).2 x (eqv i)) (hsame : ∀ i (hi : i < es.size), ∃ b, (es[i]).2 = .ref b)
    (hseen : t.led = false → ∀ Q' : Bool → Shared → Prop, Q' false s → wpAny (model prog w) A (searchCouldBeSeen x ((es.filter (·.1 == h)).toList.map (·.2))) Q' E s)
    {n : Nat} (hn : n ≤ 10 * (t.mask + 14))
    (hway : ∀ m, m < n → ∃ i, i < t.place.size ∧ t.slot (adv t m (t.probeStart h)).j = .live i ∧ ¬ (∃ hi : i < es.size, (es[i]).1 = h ∧ eqv i = true))
    (hend : (t.slot (adv t n (t.probeStart h)).j = .empty ∧ Q (.free (adv t n (t.probeStart h)).j false) s) ∨ ((∃ i, t.slot (adv t n (t.probeStart h)).j = .live i ∧ ∃ hi : i < es.size, (es[i]).1 = h ∧ eqv i = true) ∧ Q (.there none) s)) :
    ∀ (d m0 fuel : Nat) (stand : Option SetTable.Probe), m0 + d = n → d < fuel → stand.getD (t.probeStart h) = adv t m0 (t.probeStart h) → wpAny (model prog w) A (setSearchFrom a x h true fuel stand) Q E s := by
  intro d
  induction d using Nat.strongRecOn with
  | ind d ih =>
    intro m0 fuel stand hm hfu hst
    obtain ⟨fuel, rfl⟩ : ∃ g, fuel = g + 1 := ⟨fuel - 1, by omega⟩
    have hfit : t.fits es.size = true := by
      have z := I.sz
      have f := I.fill
      rw [Array.size_map] at z f
      simp only [SetTable.fits, SetTable.fill, I.tb.nd, Bool.and_eq_true, beq_iff_eq, decide_eq_true_eq]
      exact ⟨z, by simp; omega⟩
    unfold setSearchFrom
    refine wpAny_bind (wpAny_setState_of ho hd hfit ?_)
    dsimp only
    have hg : t.gaveWay = false := hodd
    rw [hg]
    simp only [Bool.false_eq_true, if_false]
    rw [hst]
    have hsz : t.place.size = es.size := by have z := I.sz; rw [Array.size_map] at z; exact z
    have gH : ∀ i (hi : i < es.size), ((es[i]?.map (·.1)).getD 0) = (es[i]).1 := fun i hi => by simp [hi]
    obtain ⟨c, hcd, hP, hbef⟩ := first (fun c => m0 + c = n ∨ ∃ i, t.slot (adv t (m0 + c) (t.probeStart h)).j = .live i ∧ ∃ hi : i < es.size, (es[i]).1 = h) d (.inl hm)
    have hct : c < 10 * SetTable.turns t.mask := by unfold SetTable.turns; omega
    have hb : ∀ c', c' < c → ∃ i, t.slot (adv t (m0 + c') (t.probeStart h)).j = .live i ∧ (((es[i]?.map (·.1)).getD 0) == h) = false := fun c' hc' => by
      have hno := hbef c' hc'
      obtain ⟨i, h1, h2, _⟩ := hway (m0 + c') (by omega)
      refine ⟨i, h2, ?_⟩
      rw [gH i (by omega)]
      exact beq_eq_false_iff_ne.mpr fun e => hno (.inr ⟨i, h2, by omega, e⟩)
    have hcase : (m0 + c = n ∧ t.slot (adv t (m0 + c) (t.probeStart h)).j = .empty) ∨ ∃ i, ∃ hi : i < es.size, t.slot (adv t (m0 + c) (t.probeStart h)).j = .live i ∧ (es[i]).1 = h := by
      rcases hP with e | ⟨i, h1, hi, h2⟩
      · rcases hend with ⟨z, _⟩ | ⟨⟨i, z, hi, h1, _⟩, _⟩
        · exact .inl ⟨e, by rw [e]; exact z⟩
        · exact .inr ⟨i, hi, by rw [e]; exact z, h1⟩
      · exact .inr ⟨i, hi, h1, h2⟩
    rcases hcase with ⟨e, hs⟩ | ⟨i, hi, hs, hh⟩
    · rw [pr_empty hs hct]
      rotate_left
      · exact hb
      dsimp only
      rcases hend with ⟨_, q⟩ | ⟨⟨i, z, _⟩, _⟩
      · refine wpAny_pure ?_
        rw [e]; exact q
      · rw [← e, hs] at z; cases z
    · rw [pr_cand (i := i) hs hct]
      case hb => exact hb
      case hi =>
        show (((es[i]?.map (·.1)).getD 0) == h) = true
        rw [gH i hi, hh]
        simp
      dsimp only
      obtain ⟨b, hb2⟩ := hsame i hi
      have ge : es[i]? = some (es[i]) := by simp [hi]
      have tail : wpAny (model prog w) A (do
          let some (_, y) := es[i]? | unsupported "internal:set-entry"
          let equal ← holding [y] (eqBool y x)
          let (es', _, t') ← setState a
          if true && equal then return .there none
          let some same := t'.sameMemory t.moves t.mask | unsupported "set.changed-during-lookup:is-the-new-block-at-the-old-address"
          let still ← match (if same then t'.slot (adv t (m0 + c) (t.probeStart h)).j else .empty) with
            | .live i' => match es'[i']? with
              | some (_, y') => do pure (if ← isSame y' y then some i' else none)
              | none => pure none
            | _ => pure none
          match still with
          | none => rule "set.search.anew"; setSearchFrom a x h true fuel none
          | some i' => if equal then return .there (some i') else setSearchFrom a x h true fuel (some (adv t (m0 + c + 1) (t.probeStart h)))) Q E s := by
        rw [ge]
        dsimp only
        refine wpAny_bind (wpAny_holding (hq i hi hh prog w _ _ ?_))
        refine wpAny_bind (wpAny_setState_of ho hd hfit ?_)
        dsimp only
        cases ev : eqv i with
        | true =>
          simp only [Bool.and_self, if_true]
          refine wpAny_pure ?_
          rcases hend with ⟨z, _⟩ | ⟨_, q⟩
          · exfalso
            by_cases en : m0 + c = n
            · rw [← en, hs] at z; cases z
            · obtain ⟨i', _, h2, h3⟩ := hway (m0 + c) (by omega)
              rw [hs] at h2
              cases h2
              exact h3 ⟨hi, hh, ev⟩
          · exact q
        | false =>
          simp only [Bool.and_false, Bool.false_eq_true, if_false]
          have hmem : t.sameMemory t.moves t.mask = some true := by simp [SetTable.sameMemory]
          rw [hmem]
          simp only [if_true]
          rw [hs]
          simp only [ge, hb2]
          refine wpAny_bind (wpAny_isSame_ref_self (wpAny_bind (wpAny_pure ?_)))
          simp only [if_true, Bool.false_eq_true, if_false]
          have hlt : m0 + c < n := by
            refine Nat.lt_of_le_of_ne (by omega) fun en => ?_
            rcases hend with ⟨z, _⟩ | ⟨⟨i', z, hi', h1, h2⟩, _⟩
            · rw [← en, hs] at z; cases z
            · rw [← en, hs] at z
              cases z
              rw [ev] at h2
              cases h2
          exact ih (n - (m0 + c + 1)) (by omega) (m0 + c + 1) fuel _ (by omega) (by omega) rfl
      cases hl : t.led with
      | true =>
        simp only [Bool.not_true, Bool.false_eq_true, if_false]
        exact tail
      | false =>
        simp only [Bool.not_false, if_true]
        refine wpAny_bind (hseen hl _ ?_)
        simp only [Bool.false_eq_true, if_false]
        exact tail
end
end SetP
namespace SetP
open PySem
theorem above_go (n : Nat) : ∀ (fuel k : Nat), n < 2 ^ (k + fuel) → 2 ^ k ≤ 8 + 2 * n → ∃ k', SetTable.sizeAbove.go n fuel (2 ^ k) = 2 ^ k' ∧ n < 2 ^ k' ∧ 2 ^ k' ≤ 8 + 2 * n
  | 0, k, h1, h2 => ⟨k, rfl, h1, h2⟩
  | fuel + 1, k, h1, h2 => by
    unfold SetTable.sizeAbove.go
    by_cases h : 2 ^ k ≤ n
    · rw [if_pos h, ← Nat.pow_succ]
      exact above_go n fuel (k + 1) (by rw [show k + 1 + fuel = k + (fuel + 1) by omega]; exact h1) (by rw [Nat.pow_succ]; omega)
    · rw [if_neg h]
      exact ⟨k, rfl, by omega, h2⟩
theorem above {n : Nat} (h : n < 2 ^ 60) : ∃ k, SetTable.sizeAbove n = 2 ^ k ∧ n < 2 ^ k ∧ 2 ^ k ≤ 8 + 2 * n :=
  above_go n 64 3 (Nat.lt_of_lt_of_le h (Nat.pow_le_pow_right (by decide) (by decide))) (by omega)
theorem TbI.plain {t : SetTable} {hs : Array Int} (I : TbI t hs) (b : Bool) : TbI { t with plain := b } hs :=
  ⟨⟨I.tb.ri, I.tb.nd⟩, I.sz, I.le, I.fill, I.pw, fun i hi => by
    obtain ⟨n, h1, h2, h3⟩ := I.home i hi
    have e1 : ∀ m p, adv { t with plain := b } m p = adv t m p := fun m p => adv_mask (t := t) (t' := { t with plain := b }) rfl m p
    exact ⟨n, h1, by rw [e1]; exact h2, fun m hm => by rw [e1]; exact h3 m hm⟩⟩
theorem map_insertAt {α β : Type} (f : α → β) (xs : Array α) {p : Nat} (hp : p ≤ xs.size) (x : α) : (SetTable.insertAt xs p x).map f = SetTable.insertAt (xs.map f) p (f x) := by
  apply Array.ext_getElem?
  intro i
  rw [Array.getElem?_map, get_insertAt xs hp, get_insertAt (xs.map f) (by rw [Array.size_map]; exact hp)]
  split
  · simp
  · split <;> simp
theorem perm_insertAt {α : Type} (xs : Array α) {p : Nat} (hp : p ≤ xs.size) (x : α) : (SetTable.insertAt xs p x).toList.Perm (x :: xs.toList) := by
  unfold SetTable.insertAt
  rw [Array.toList_append, Array.toList_push, Array.toList_extract, Array.toList_extract]
  have e : xs.toList = xs.toList.take p ++ xs.toList.drop p := (List.take_append_drop p _).symm
  have e1 : xs.toList.extract 0 p = xs.toList.take p := by simp [List.extract_eq_drop_take]
  have e2 : xs.toList.extract p xs.size = xs.toList.drop p := by
    rw [List.extract_eq_drop_take]
    rw [List.take_of_length_le]
    simp
  rw [e1, e2]
  conv => rhs; rw [e]
  rw [List.append_assoc]
  exact List.perm_middle
/-- the set at a holds the entries es, its table in order -/
def SI (l : Bool) (h : Heap) (a : Addr) (es : Array (Int × Value)) : Prop :=
  ∃ o ep t, h.get? a = some o ∧ o.ExactSet ∧ o.data = .set es ep t ∧ TbI t (es.map (·.1)) ∧ es.size * 5 < t.mask * 3 ∧ t.mask ≤ 8 * es.size + 20 ∧ (t.mask % 2 == 0) = false ∧ (∀ i (hi : i < es.size), ∃ b, (es[i]).2 = .ref b) ∧ t.led = l ∧ (1 ≤ es.size → t.plain = false)
theorem TbI.fits {t : SetTable} {es : Array (Int × Value)} (I : TbI t (es.map (·.1))) : t.fits es.size = true := by
  have z := I.sz
  have f := I.fill
  rw [Array.size_map] at z f
  simp only [SetTable.fits, SetTable.fill, I.tb.nd, Bool.and_eq_true, beq_iff_eq, decide_eq_true_eq]
  exact ⟨z, by simp; omega⟩
theorem odd_of {m k : Nat} (h : m + 1 = 2 ^ k) (hm : 1 ≤ m) : (m % 2 == 0) = false := by
  cases k with
  | zero => simp at h; omega
  | succ k =>
    rw [Nat.pow_succ] at h
    have : m % 2 = 1 := by omega
    rw [this]; rfl
theorem set_get {h : Heap} {a : Addr} {o : Obj} {es : Array (Int × Value)} {ep : Nat} {t : SetTable} (ho : h.get? a = some o) (hd : o.data = .set es ep t) (es' : Array (Int × Value)) (t' : SetTable) :
    (h.update a (Obj.putSet es' t')).get? a = some { o with data := .set es' (ep + 1) t' } := by
  have := Heap.get?_update_self (Obj.putSet es' t') ho (by rw [putSet_of es' t' hd]; rfl)
  rw [putSet_of es' t' hd] at this; exact this
theorem range_filterMap {α : Type} : ∀ (l : List α), (List.range l.length).filterMap (fun i => l[i]?) = l
  | [] => rfl
  | a :: r => by
    rw [List.length_cons, List.range_succ_eq_map, List.filterMap_cons]
    simp only [List.getElem?_cons_zero, List.filterMap_map]
    have e : ((fun i => (a :: r)[i]?) ∘ Nat.succ) = fun i => r[i]? := by funext i; simp
    rw [e, range_filterMap r]
theorem map_picked (es : Array (Int × Value)) : ∀ (l : List Nat), (∀ i ∈ l, i < es.size) → (l.filterMap (fun i => es[i]?)).map (·.1) = l.map fun i => (es.map (·.1)).getD i 0
  | [], _ => rfl
  | i :: l, h => by
    have hi := h i (by simp)
    have e : es[i]? = some es[i] := by simp [hi]
    rw [List.filterMap_cons, e]
    simp only [List.map_cons]
    rw [map_picked es l fun j hj => h j (by simp [hj])]
    congr 1
    simp [Array.getD, hi]
section
variable {prog : Program} {w : World} {A : Around} {E : Value → Shared → Prop} {s : Shared} {a : Addr} {es : Array (Int × Value)} {x : Value} {h : Int} {eqv : Nat → Bool} {l : Bool}
/-- the table is laid anew when it is too full -/
theorem relay_wp {o : Obj} {ep : Nat} {t : SetTable} {Q : Unit → Shared → Prop} (ho : s.heap.get? a = some o) (hx : o.ExactSet) (hd : o.data = .set es ep t) (I : TbI t (es.map (·.1))) (h1 : 1 ≤ es.size) (hs : es.size < 50000) (hr : ∀ i (hi : i < es.size), ∃ b, (es[i]).2 = .ref b) (hL : t.led = l) (hP : t.plain = false)
    (hQ : ∀ h' es', Heap.SameBut a s.heap h' → SI l h' a es' → es'.toList.Perm es.toList → Q () { s with heap := h' }) : wpAny (model prog w) A (setRelay a (SetTable.grown es.size)) Q E s := by
  have hg : SetTable.grown es.size ≤ 4 * 100000 ∧ SetTable.grown es.size = 4 * es.size := by
    unfold SetTable.grown
    rw [if_neg (by omega)]
    omega
  obtain ⟨k, e1, e2, e3⟩ := above (n := SetTable.grown es.size) (Nat.lt_of_le_of_lt hg.1 (by decide))
  have hm : SetTable.sizeAbove (SetTable.grown es.size) - 1 + 1 = 2 ^ k := by rw [e1]; omega
  obtain ⟨t', order, f1, f2, f3, f4, f5, f6⟩ := laid_ok hm t.finger (t.movedTo (SetTable.sizeAbove (SetTable.grown es.size) - 1)) t.led t.plain (es.map (·.1)) (by rw [Array.size_map, e1]; omega)
  rw [Array.size_map] at f5
  unfold setRelay
  refine wpAny_bind (wpAny_setState_of ho hd I.fits ?_)
  dsimp only
  rw [if_neg (by rw [e1, sizeLine_eq]; omega)]
  have hrel : t.relaid (es.map (·.1)) (SetTable.grown es.size) = some (t', order) := f1
  rw [hrel]
  have hes : (order.filterMap (es[·]?)).toList.Perm es.toList := by
    rw [Array.toList_filterMap]
    have z := f5.filterMap (fun i => es[i]?)
    refine z.trans (List.Perm.of_eq ?_)
    have y := range_filterMap es.toList
    simpa using y
  have hsz : (order.filterMap (es[·]?)).size = es.size := by
    rw [← Array.length_toList, hes.length_eq, Array.length_toList]
  have hmap : (order.filterMap (es[·]?)).map (·.1) = order.map fun i => (es.map (·.1)).getD i 0 := by
    apply Array.toList_inj.mp
    rw [Array.toList_map, Array.toList_filterMap, Array.toList_map]
    exact map_picked es order.toList fun i hi => List.mem_range.mp (f5.mem_iff.mp hi)
  show wpAny (model prog w) A ((do
    let es' := order.filterMap (es[·]?)
    if es'.size != es.size then unsupported "internal:set-table-lost-an-element"
    pure (es', t')) >>= fun (p : Array (Int × Value) × SetTable) => storeSet a p.1 p.2) Q E s
  refine wpAny_bind ?_
  dsimp only
  rw [hsz]
  simp only [bne_self_eq_false, Bool.false_eq_true, if_false]
  refine wpAny_pure (wpAny_storeSet_of ho hd ?_ (by rw [hsz, sizeLine_eq]; omega))
  have I' : TbI t' ((order.filterMap (es[·]?)).map (·.1)) := by rw [hmap]; exact f6
  refine hQ _ (order.filterMap (es[·]?)) (Heap.SameBut.update _ _ _) ⟨_, _, t', set_get ho hd _ _, hx, rfl, I', ?_, ?_, ?_, fun i hi => ?_, f3.trans hL, fun _ => f4.trans hP⟩ hes
  · rw [hsz, f2, e1]; omega
  · rw [hsz, f2, e1]; omega
  · rw [f2]; exact odd_of hm (by rw [e1]; omega)
  · have hm : (order.filterMap (es[·]?))[i] ∈ es.toList := hes.mem_iff.mp (by rw [Array.mem_toList_iff]; exact Array.getElem_mem hi)
    obtain ⟨j, hj, e⟩ := List.mem_iff_getElem.mp hm
    have hj' : j < es.size := by simpa using hj
    obtain ⟨b, hb⟩ := hr j hj'
    refine ⟨b, ?_⟩
    rw [← e]
    simpa using hb
/-- ONE MORE: it is there, or it is added -/
theorem add_wp {Q : Bool → Shared → Prop} (hS : SI l s.heap a es) (hx : ∃ b, x = .ref b) (hs : es.size < 1000) (hq : ∀ i (hi : i < es.size), (es[i]).1 = h → SeqAt.EqAt A s (es[i]).2 x (eqv i))
    (hseen : ∀ Q' : Bool → Shared → Prop, Q' false s → wpAny (model prog w) A (searchCouldBeSeen x ((es.filter (·.1 == h)).toList.map (·.2))) Q' E s)
    (hbv : ∀ Q' : Bool → Shared → Prop, Q' false s → wpAny (model prog w) A (hashByValue 8 x) Q' E s)
    (h1 : (∃ i, ∃ hi : i < es.size, (es[i]).1 = h ∧ eqv i = true) → Q false s)
    (h2 : (¬ ∃ i, ∃ hi : i < es.size, (es[i]).1 = h ∧ eqv i = true) → ∀ h' es', Heap.SameBut a s.heap h' → SI l h' a es' → es'.toList.Perm ((h, x) :: es.toList) → Q true { s with heap := h' }) :
    wpAny (model prog w) A (setAddHashed a x h) Q E s := by
  obtain ⟨o, ep, t, ho, hex, hd, I, hfull, hmk, hodd, hr, hL, hP⟩ := hS
  obtain ⟨b, rfl⟩ := hx
  have hsz : t.place.size = es.size := by have z := I.sz; rw [Array.size_map] at z; exact z
  obtain ⟨k, hk⟩ := I.pw
  obtain ⟨n, hn, hend, hway⟩ := way I.tb hk (by omega) h (fun i => ∃ hi : i < es.size, (es[i]).1 = h ∧ eqv i = true)
  have hnohit : t.slot (adv t n (t.probeStart h)).j = .empty → ¬ ∃ i, ∃ hi : i < es.size, (es[i]).1 = h ∧ eqv i = true := by
    rintro he ⟨i, hi, e1, e2⟩
    obtain ⟨n', g1, g2, g3⟩ := I.home i (by rw [Array.size_map]; exact hi)
    have eh : (es.map (·.1)).getD i 0 = h := by simp [Array.getD, hi, e1]
    rw [eh] at g2 g3
    have hl := slot_live I.tb (i := i) (by omega)
    rw [← g2] at hl
    rcases Nat.lt_trichotomy n n' with q | q | q
    · exact g3 n q he
    · subst q; rw [he] at hl; cases hl
    · obtain ⟨i', _, w2, w3⟩ := hway n' q
      rw [hl] at w2
      cases w2
      exact w3 ⟨hi, e1, e2⟩
  unfold setAddHashed
  refine wpAny_holding ?_
  unfold setAddHashedIn
  refine wpAny_bind (wpAny_setState_of ho hd I.fits ?_)
  dsimp only
  have hsc : byScan (.ref b) es = false := rfl
  rw [hsc]
  simp only [Bool.false_eq_true, if_false]
  unfold setSearch
  refine wpAny_bind (search_wp (n := n) (eqv := eqv) ho hd I hodd hq hr (fun _ => hseen) hn hway ?_ n 0 100000 none (by omega) (by omega) rfl)
  rcases hend with he | ⟨i, _, hl, hi, e1, e2⟩
  · refine .inl ⟨he, ?_⟩
    dsimp only
    refine wpAny_bind (wpAny_setState_of ho hd I.fits ?_)
    dsimp only
    have hj : (adv t n (t.probeStart h)).j ≤ t.mask := adv_le t n _ (start_le t h)
    obtain ⟨I1, hp⟩ := put_ok I (h := h) (n := n) (by omega) he hj (fun m hm => by obtain ⟨i, _, z, _⟩ := hway m hm; rw [z]; intro q; cases q) (by rw [Array.size_map]; omega)
    rw [Array.size_map] at hp
    rw [← map_insertAt (·.1) es hp (h, Value.ref b)] at I1
    have hperm := perm_insertAt es hp (h, Value.ref b)
    have hsz1 : (SetTable.insertAt es (t.put (adv t n (t.probeStart h)).j).2 (h, Value.ref b)).size = es.size + 1 := size_insertAt es hp _
    have hr1 : ∀ i (hi : i < (SetTable.insertAt es (t.put (adv t n (t.probeStart h)).j).2 (h, Value.ref b)).size), ∃ b', ((SetTable.insertAt es (t.put (adv t n (t.probeStart h)).j).2 (h, Value.ref b))[i]).2 = .ref b' := fun i hi => by
      have hm : (SetTable.insertAt es (t.put (adv t n (t.probeStart h)).j).2 (h, Value.ref b))[i] ∈ (h, Value.ref b) :: es.toList := hperm.mem_iff.mp (by rw [Array.mem_toList_iff]; exact Array.getElem_mem hi)
      rcases List.mem_cons.mp hm with e | e
      · exact ⟨b, by rw [e]⟩
      · obtain ⟨j, hj, e⟩ := List.mem_iff_getElem.mp e
        have hj' : j < es.size := by simpa using hj
        obtain ⟨b', hb'⟩ := hr j hj'
        refine ⟨b', ?_⟩
        rw [← e]
        simpa using hb'
    have hno := hnohit he
    generalize hes1 : SetTable.insertAt es (t.put (adv t n (t.probeStart h)).j).2 (h, Value.ref b) = es1 at *
    have tail : ∀ t2 : SetTable, TbI t2 (es1.map (·.1)) → t2.mask = t.mask → t2.led = l → t2.plain = false → wpAny (model prog w) A (do
        storeSet a es1 t2
        if (!false && t2.tooFull) = true then setRelay a (SetTable.grown (es.size + 1))
        return true) Q E s := fun t2 I2 hm2 hl2 hp2 => by
      refine wpAny_bind (wpAny_storeSet_of ho hd ?_ (by rw [hsz1, sizeLine_eq]; omega))
      have hg := set_get ho hd es1 t2
      by_cases hf : t2.tooFull = true
      · simp only [hf, Bool.not_false, Bool.and_self, if_true]
        refine wpAny_bind ?_
        rw [← hsz1]
        refine relay_wp (s := { s with heap := s.heap.update a (Obj.putSet es1 t2) }) hg hex rfl I2 (by omega) (by omega) hr1 hl2 hp2 fun h' es' hsb hS' hp' => wpAny_pure ?_
        exact h2 hno h' es' ((Heap.SameBut.update s.heap a (Obj.putSet es1 t2)).trans hsb) hS' (hp'.trans hperm)
      · have hf' : t2.tooFull = false := by simpa using hf
        simp only [hf', Bool.not_false, Bool.and_false, Bool.false_eq_true, if_false]
        refine wpAny_pure ?_
        have hnf : es1.size * 5 < t2.mask * 3 := by
          have z : ¬ (t2.fill * 5 ≥ t2.mask * 3) := by simpa [SetTable.tooFull] using hf'
          have y : t2.fill = es1.size := by
            have q := I2.sz
            rw [Array.size_map] at q
            simp only [SetTable.fill, I2.tb.nd]
            simp [q]
          omega
        exact h2 hno _ es1 (Heap.SameBut.update _ _ _) ⟨_, _, t2, hg, hex, rfl, I2, hnf, by omega, by rw [hm2]; exact hodd, hr1, hl2, fun _ => hp2⟩ hperm
    cases hpl : (t.put (adv t n (t.probeStart h)).j).1.plain with
    | false =>
      simp only [Bool.false_eq_true, if_false]
      refine wpAny_bind (wpAny_pure ?_)
      simp only [if_true]
      exact tail _ I1 rfl hL hpl
    | true =>
      simp only [if_true]
      refine wpAny_bind (hbv _ ?_)
      simp only [Bool.false_eq_true, if_false]
      exact tail _ (I1.plain false) rfl hL rfl
  · refine .inr ⟨⟨i, hl, hi, e1, e2⟩, ?_⟩
    exact wpAny_pure (h1 ⟨i, hi, e1, e2⟩)
end
end SetP
/-! a tree's hash, and what a set's search asks of a tree -/
namespace L2
open PySem PySem.Spec PyProof.Rows
mutual
def hashT (w : World) : Tr → Int
  | .int i => hashInt i
  | .str x => hashStr w x
  | .tup l => reduceHash (Builtin.Tuple.tupleHashOf (hashTs w l))
def hashTs (w : World) : List Tr → List Int
  | [] => []
  | a :: r => hashT w a :: hashTs w r
end
theorem hashTs_append (w : World) : ∀ (a b : List Tr), hashTs w (a ++ b) = hashTs w a ++ hashTs w b
  | [], b => by simp [hashTs]
  | x :: a, b => by simp [hashTs, hashTs_append w a b]
/-- a row of values that are the trees -/
theorem tup_at {X : Cx} {pins : List (Addr × Obj)} {σ : St} {H : Hp} {s : Shared} (I : Inv X pins σ H s) {l : List Tr} {x : V} {u : Value} (h : IsD X.K H (Tr.tup l).toD x) (r : RelV x u) :
    ∃ (p : Addr) (ys : List V) (its : List Value), u = .ref p ∧ IsTup s.heap p its.toArray ∧ Vals ys its ∧ Ts X.K H l ys := by
  simp only [Tr.toD] at h
  cases h with
  | @tup ds xs p g e rr =>
    cases r
    obtain ⟨its, r1, p1, _⟩ := I.tuple g
    have kl := toDs_length l
    refine ⟨p, xs, its, rfl, p1, r1, by omega, fun i h1 h2 => ?_⟩
    have z := rr i (by omega) h2
    rw [toDs_get l i h1] at z
    exact z
theorem isT_hash {X : Cx} {pins : List (Addr × Obj)} {σ : St} {H : Hp} {s : Shared} (I : Inv X pins σ H s) :
    ∀ (n : Nat) (A : Around) {a : Tr} {x : V} {u : Value} (tk : Nat) (E : Value → Shared → Prop) (Q : Int → Shared → Prop), a.toD.deep ≤ n → A.units + n < cLine → IsD X.K H a.toD x → RelV x u → (∀ tk', Q (hashT X.w a) { s with toks := tk' }) →
      wpAny (model X.prog X.w) A (pyHash u) Q E { s with toks := tk } := by
  intro n
  induction n with
  | zero =>
    intro A a x u tk E Q hd hu h r q
    cases a with
    | int i =>
      simp only [Tr.toD] at h
      cases h
      obtain ⟨t, rfl⟩ := r
      simp only [hashT] at q
      exact wpAny_pyHash_int (q _)
    | str i =>
      simp only [Tr.toD] at h
      cases h
      obtain ⟨t, rfl⟩ := r
      simp only [hashT] at q
      exact wpAny_pyHash_str (q _)
    | tup l => simp only [Tr.toD, Dt.deep] at hd; omega
  | succ n ih =>
    intro A a x u tk E Q hd hu h r q
    cases a with
    | int i => exact ih A tk E Q (by simp [Tr.toD, Dt.deep]) (by omega) h r q
    | str i => exact ih A tk E Q (by simp [Tr.toD, Dt.deep]) (by omega) h r q
    | tup l =>
      obtain ⟨p, ys, its, rfl, ⟨o, ho, hc, n', hdt⟩, rv, hT⟩ := tup_at I h r
      have hl := hT.1
      have hlen := rv.length
      have hdl : Dt.deeps (Tr.toDs l) ≤ n := by
        simp only [Tr.toD, Dt.deep] at hd
        omega
      have hTy : (⟨s.heap, s.gens, s.drawn, tk, s.os⟩ : Shared).TypeIs (.ref p) "tuple" := ⟨o, ho, hc⟩
      unfold pyHash
      first | unfold pyHashByItsType | skip
      first | refine wpAny_bind (wpAny_cRoomFor_or (.inr (by omega)) ?_) | skip
      refine wpAny_bind (wpAny_specialOf hTy PySem.F.slot_tuple_hash.lookup ?_)
      show wpAny _ _ (if (some (Value.builtin "tuple.__hash__") == some Value.none) = true then _ else _) Q E _
      rw [if_neg (by rw [beq_builtin_none]; exact Bool.false_ne_true)]
      refine wpAny_bind (wpAny_specialOf hTy PySem.F.slot_tuple_hash.lookup ?_)
      show wpAny _ _ (callSpecialIfBoundUnlessNone? (.ref p) "__hash__" _ >>= _) Q E _
      refine wpAny_bind (wpAny_callSpecialIfBoundUnlessNone?_slot hTy PySem.F.slot_tuple_hash (wpAny_call_entry PySem.F.slot_tuple_hash hTy PySem.F.entry_tuple_hash ?_ (PySem.F.args_tuple_hash_1 _)))
      show wpAny _ _ (Builtin.Tuple.tupleItemsOf (.ref p) >>= _) _ _ _
      refine wpAny_bind (wpAny_tupleItemsOf ho hdt ?_)
      refine wpAny_bind ?_
      rw [← Array.forIn_toList]
      refine wpAny_forIn_list _
        (fun rest (b : Array Int) s' => ∃ j tk', j ≤ its.length ∧ rest = its.drop j ∧ b.toList = hashTs X.w (l.take j) ∧ s' = { s with toks := tk' })
        _ ?_ ?_ _ _ ⟨0, tk, Nat.zero_le _, by simp, by simp [hashTs], rfl⟩
      · rintro v rest b s' ⟨j, tk', hj, hr, hb, rfl⟩
        have hj1 : j < its.length := by
          refine Nat.lt_of_le_of_ne hj fun e => ?_
          rw [e, List.drop_length] at hr
          cases hr
        have hdr : its.drop j = its[j] :: its.drop (j + 1) := List.drop_eq_getElem_cons hj1
        rw [hdr] at hr
        injection hr with e1 e2
        subst e1 e2
        obtain ⟨u1, f1, q1⟩ := rv.get (i := j) (x := ys[j]'(by omega)) (by simp)
        have eu : its[j] = u1 := (List.getElem?_eq_some_iff.mp f1).2
        have zz := deeps_get (ds := Tr.toDs l) (i := j) (by rw [toDs_length]; omega)
        rw [toDs_get l j (by omega)] at zz
        have ht : hashTs X.w (l.take (j + 1)) = hashTs X.w (l.take j) ++ [hashT X.w (l[j]'(by omega))] := by
          rw [← List.take_append_getElem (by omega), hashTs_append]
          simp [hashTs]
        refine wpAny_bind (ih _ tk' _ _ (by omega) (by show A.units + 1 + n < cLine; omega) (hT.2 j (by omega) (by omega)) (by rw [eu]; exact q1) fun tk2 => ?_)
        first
          | exact wpAny_pure ⟨j + 1, tk2, by omega, rfl, by rw [ht]; simp [hb], rfl⟩
          | exact wpAny_bind (wpAny_pure (wpAny_pure ⟨j + 1, tk2, by omega, rfl, by rw [ht]; simp [hb], rfl⟩))
      · rintro b s' ⟨j, tk', hj, hr, hb, rfl⟩
        have hj1 : j = its.length := by
          refine Classical.byContradiction fun hne => ?_
          have : (its.drop j).length = 0 := by rw [← hr]; rfl
          rw [List.length_drop] at this
          omega
        rw [hj1, ← hlen, ← hl, List.take_length] at hb
        show wpAny _ _ (retInt (Builtin.Tuple.tupleHashOf b.toList)) _ _ _
        rw [hb]
        refine wpAny_ret_mkInt ?_
        simp only [hashT] at q
        show wpAny _ _ (if (decide (-(2 : Int) ^ 63 ≤ Builtin.Tuple.tupleHashOf (hashTs X.w l)) && decide (Builtin.Tuple.tupleHashOf (hashTs X.w l) < 2 ^ 63)) = true then _ else _) Q E _
        unfold reduceHash at q
        by_cases hr2 : (decide (-(2 : Int) ^ 63 ≤ Builtin.Tuple.tupleHashOf (hashTs X.w l)) && decide (Builtin.Tuple.tupleHashOf (hashTs X.w l) < 2 ^ 63)) = true
        · rw [if_pos hr2]
          rw [if_pos hr2] at q
          exact wpAny_pure (q _)
        · rw [if_neg hr2]
          rw [if_neg hr2] at q
          exact wpAny_bind (wpAny_rule (wpAny_pure (q _)))
end L2
namespace L2
open PySem PySem.Spec PyProof.Rows
theorem notRef {X : Cx} {H : Hp} {a : Tr} {x : V} {u : Value} (h : IsD X.K H a.toD x) (r : RelV x u) (hd : a.toD.deep = 0) : (∃ i t, a = .int i ∧ u = .int i t) ∨ ∃ i t, a = .str i ∧ u = .str i t := by
  cases a with
  | int i => simp only [Tr.toD] at h; cases h; obtain ⟨t, rfl⟩ := r; exact .inl ⟨i, t, rfl, rfl⟩
  | str i => simp only [Tr.toD] at h; cases h; obtain ⟨t, rfl⟩ := r; exact .inr ⟨i, t, rfl, rfl⟩
  | tup l => simp only [Tr.toD, Dt.deep] at hd; omega
section
variable {X : Cx} {pins : List (Addr × Obj)} {σ : St} {H : Hp} {s : Shared}
theorem isT_quiet (I : Inv X pins σ H s) : ∀ (n depth : Nat) (A : Around) {a : Tr} {x : V} {u : Value} (E : Value → Shared → Prop) (Q : Bool → Shared → Prop), a.toD.deep ≤ n → n ≤ depth → IsD X.K H a.toD x → RelV x u → Q true s → wpAny (model X.prog X.w) A (eqIsQuiet depth u) Q E s := by
  intro n
  induction n with
  | zero =>
    intro depth A a x u E Q hd hn h r q
    rcases notRef h r (by omega) with ⟨i, t, _, rfl⟩ | ⟨i, t, _, rfl⟩
    · rw [eqIsQuiet_byValue depth rfl]; exact wpAny_pure q
    · rw [eqIsQuiet_byValue depth rfl]; exact wpAny_pure q
  | succ n ih =>
    intro depth A a x u E Q hd hn h r q
    cases a with
    | int i => exact ih depth A E Q (by simp [Tr.toD, Dt.deep]) (by omega) h r q
    | str i => exact ih depth A E Q (by simp [Tr.toD, Dt.deep]) (by omega) h r q
    | tup l =>
      obtain ⟨p, ys, its, rfl, ⟨o, ho, hc, n', hdt⟩, rv, hT⟩ := tup_at I h r
      have hl := hT.1
      have hlen := rv.length
      have hdl : Dt.deeps (Tr.toDs l) ≤ n := by simp only [Tr.toD, Dt.deep] at hd; omega
      have hTy : s.TypeIs (.ref p) "tuple" := ⟨o, ho, hc⟩
      obtain ⟨depth, rfl⟩ : ∃ g, depth = g + 1 := ⟨depth - 1, by omega⟩
      unfold eqIsQuiet
      refine wpAny_bind (wpAny_specialOf hTy PySem.F.slot_tuple_eq.lookup ?_)
      show wpAny _ _ (isInstance (.ref p) (.type "tuple") >>= _) _ _ s
      refine wpAny_bind (wpAny_isInstance hTy isSubtype_tuple_tuple ?_)
      simp only [Bool.not_true, Bool.false_eq_true, if_false]
      refine wpAny_bind (wpAny_seqItems ho hdt ?_)
      refine wpAny_bind ?_
      show wpAny _ _ (forIn its.toArray _ _) _ _ s
      rw [← Array.forIn_toList]
      refine wpAny_forIn_list _ (fun rest rr s' => rr.1 = none ∧ s' = s ∧ ∃ j, j ≤ its.length ∧ rest = its.drop j) _ ?_ ?_ _ _ ⟨rfl, rfl, 0, Nat.zero_le _, by simp⟩
      · rintro v rest rr s' ⟨hr, rfl, j, hj, he⟩
        have hj1 : j < its.length := by
          refine Nat.lt_of_le_of_ne hj fun e => ?_
          rw [e, List.drop_length] at he
          cases he
        rw [List.drop_eq_getElem_cons hj1] at he
        injection he with e1 e2
        subst e1 e2
        obtain ⟨u1, f1, q1⟩ := rv.get (i := j) (x := ys[j]'(by omega)) (by simp)
        have eu : its[j] = u1 := (List.getElem?_eq_some_iff.mp f1).2
        have zz := deeps_get (ds := Tr.toDs l) (i := j) (by rw [toDs_length]; omega)
        rw [toDs_get l j (by omega)] at zz
        refine wpAny_bind (ih depth _ _ _ (by omega) (by omega) (hT.2 j (by omega) (by omega)) (by rw [eu]; exact q1) ?_)
        simp only [Bool.not_true, Bool.false_eq_true, if_false]
        exact wpAny_pure ⟨rfl, rfl, j + 1, by omega, rfl⟩
      · rintro ⟨r1, r2⟩ s' ⟨hr, rfl, _⟩
        simp only at hr
        subst hr
        exact wpAny_pure q
theorem isT_ofCls (I : Inv X pins σ H s) : ∀ (n depth : Nat) (A : Around) {a : Tr} {x : V} {u : Value} (E : Value → Shared → Prop) (Q : Bool → Shared → Prop), a.toD.deep ≤ n → n ≤ depth → IsD X.K H a.toD x → RelV x u → Q false s → wpAny (model X.prog X.w) A (ofAClassStatement depth u) Q E s := by
  intro n
  induction n with
  | zero =>
    intro depth A a x u E Q hd hn h r q
    rcases notRef h r (by omega) with ⟨i, t, _, rfl⟩ | ⟨i, t, _, rfl⟩
    · cases depth <;> exact wpAny_pure q
    · cases depth <;> exact wpAny_pure q
  | succ n ih =>
    intro depth A a x u E Q hd hn h r q
    cases a with
    | int i => exact ih depth A E Q (by simp [Tr.toD, Dt.deep]) (by omega) h r q
    | str i => exact ih depth A E Q (by simp [Tr.toD, Dt.deep]) (by omega) h r q
    | tup l =>
      obtain ⟨p, ys, its, rfl, ⟨o, ho, hc, n', hdt⟩, rv, hT⟩ := tup_at I h r
      have hl := hT.1
      have hlen := rv.length
      have hdl : Dt.deeps (Tr.toDs l) ≤ n := by simp only [Tr.toD, Dt.deep] at hd; omega
      have hTy : s.TypeIs (.ref p) "tuple" := ⟨o, ho, hc⟩
      obtain ⟨depth, rfl⟩ : ∃ g, depth = g + 1 := ⟨depth - 1, by omega⟩
      unfold ofAClassStatement
      refine wpAny_bind (wpAny_typeOf hTy ?_)
      dsimp only
      simp only [beq_self_eq_true, if_true]
      refine wpAny_bind (wpAny_pure ?_)
      simp only [Bool.not_true, Bool.false_eq_true, if_false]
      refine wpAny_bind (wpAny_seqItems ho hdt ?_)
      dsimp only
      refine wpAny_bind ?_
      show wpAny _ _ (forIn its.toArray _ _) _ _ s
      rw [← Array.forIn_toList]
      refine wpAny_forIn_list _ (fun rest rr s' => rr.1 = none ∧ s' = s ∧ ∃ j, j ≤ its.length ∧ rest = its.drop j) _ ?_ ?_ _ _ ⟨rfl, rfl, 0, Nat.zero_le _, by simp⟩
      · rintro v rest rr s' ⟨hr, rfl, j, hj, he⟩
        have hj1 : j < its.length := by
          refine Nat.lt_of_le_of_ne hj fun e => ?_
          rw [e, List.drop_length] at he
          cases he
        rw [List.drop_eq_getElem_cons hj1] at he
        injection he with e1 e2
        subst e1 e2
        obtain ⟨u1, f1, q1⟩ := rv.get (i := j) (x := ys[j]'(by omega)) (by simp)
        have eu : its[j] = u1 := (List.getElem?_eq_some_iff.mp f1).2
        have zz := deeps_get (ds := Tr.toDs l) (i := j) (by rw [toDs_length]; omega)
        rw [toDs_get l j (by omega)] at zz
        refine wpAny_bind (ih depth _ _ _ (by omega) (by omega) (hT.2 j (by omega) (by omega)) (by rw [eu]; exact q1) ?_)
        simp only [Bool.false_eq_true, if_false]
        exact wpAny_pure ⟨rfl, rfl, j + 1, by omega, rfl⟩
      · rintro ⟨r1, r2⟩ s' ⟨hr, rfl, _⟩
        simp only at hr
        subst hr
        exact wpAny_pure q
end
end L2
namespace L2
open PySem PySem.Spec PyProof.Rows
mutual
def byVal : Tr → Bool
  | .int _ => true
  | .str _ => false
  | .tup l => byVals l
def byVals : List Tr → Bool
  | [] => true
  | a :: r => byVal a && byVals r
end
section
variable {X : Cx} {pins : List (Addr × Obj)} {σ : St} {H : Hp} {s : Shared}
theorem isT_byVal (I : Inv X pins σ H s) : ∀ (n depth : Nat) (A : Around) {a : Tr} {x : V} {u : Value} (E : Value → Shared → Prop) (Q : Bool → Shared → Prop), a.toD.deep ≤ n → n ≤ depth → IsD X.K H a.toD x → RelV x u → Q (byVal a) s → wpAny (model X.prog X.w) A (hashByValue depth u) Q E s := by
  intro n
  induction n with
  | zero =>
    intro depth A a x u E Q hd hn h r q
    rcases notRef h r (by omega) with ⟨i, t, rfl, rfl⟩ | ⟨i, t, rfl, rfl⟩
    · simp only [byVal] at q; cases depth <;> exact wpAny_pure q
    · simp only [byVal] at q; cases depth <;> exact wpAny_pure q
  | succ n ih =>
    intro depth A a x u E Q hd hn h r q
    cases a with
    | int i => exact ih depth A E Q (by simp [Tr.toD, Dt.deep]) (by omega) h r q
    | str i => exact ih depth A E Q (by simp [Tr.toD, Dt.deep]) (by omega) h r q
    | tup l =>
      obtain ⟨p, ys, its, rfl, ⟨o, ho, hc, n', hdt⟩, rv, hT⟩ := tup_at I h r
      have hl := hT.1
      have hlen := rv.length
      have hdl : Dt.deeps (Tr.toDs l) ≤ n := by simp only [Tr.toD, Dt.deep] at hd; omega
      have hTy : s.TypeIs (.ref p) "tuple" := ⟨o, ho, hc⟩
      simp only [byVal] at q
      obtain ⟨depth, rfl⟩ : ∃ g, depth = g + 1 := ⟨depth - 1, by omega⟩
      unfold hashByValue
      refine wpAny_bind (wpAny_specialOf hTy PySem.F.slot_tuple_hash.lookup ?_)
      show wpAny _ _ (seqItems? (.ref p) >>= _) _ _ s
      refine wpAny_bind (wpAny_seqItems ho hdt ?_)
      refine wpAny_bind ?_
      show wpAny _ _ (forIn its.toArray _ _) _ _ s
      rw [← Array.forIn_toList]
      refine wpAny_forIn_list _ (fun rest rr s' => s' = s ∧ ((rr.1 = none ∧ ∃ j, j ≤ its.length ∧ rest = its.drop j ∧ byVals (l.drop j) = byVals l) ∨ (rr.1 = some false ∧ rest = [] ∧ byVals l = false))) _ ?_ ?_ _ _ ⟨rfl, .inl ⟨rfl, 0, Nat.zero_le _, by simp, by simp⟩⟩
      · rintro v rest rr s' ⟨rfl, hh⟩
        rcases hh with ⟨hr, j, hj, he, hb⟩ | ⟨_, he, _⟩
        · have hj1 : j < its.length := by
            refine Nat.lt_of_le_of_ne hj fun e => ?_
            rw [e, List.drop_length] at he
            cases he
          rw [List.drop_eq_getElem_cons hj1] at he
          injection he with e1 e2
          subst e1 e2
          obtain ⟨u1, f1, q1⟩ := rv.get (i := j) (x := ys[j]'(by omega)) (by simp)
          have eu : its[j] = u1 := (List.getElem?_eq_some_iff.mp f1).2
          have zz := deeps_get (ds := Tr.toDs l) (i := j) (by rw [toDs_length]; omega)
          rw [toDs_get l j (by omega)] at zz
          have hb2 : (byVal (l[j]'(by omega)) && byVals (l.drop (j + 1))) = byVals l := by
            rw [← hb, List.drop_eq_getElem_cons (show j < l.length by omega)]
            simp [byVals]
          refine wpAny_bind (ih depth _ _ _ (by omega) (by omega) (hT.2 j (by omega) (by omega)) (by rw [eu]; exact q1) ?_)
          cases e : byVal (l[j]'(by omega)) with
          | true =>
            simp only [Bool.not_true, Bool.false_eq_true, if_false]
            rw [e] at hb2
            exact wpAny_pure ⟨rfl, .inl ⟨rfl, j + 1, by omega, rfl, by simpa using hb2⟩⟩
          | false =>
            simp only [Bool.not_false, if_true]
            rw [e] at hb2
            have z : byVals l = false := by simpa using hb2.symm
            rw [z] at q
            exact wpAny_pure (wpAny_pure q)
        · cases he
      · rintro ⟨r1, r2⟩ s' ⟨rfl, hh⟩
        rcases hh with ⟨hr, j, hj, he, hb⟩ | ⟨hr, _, hb⟩
        · simp only at hr
          subst hr
          have hj1 : its.length ≤ j := by
            have : (its.drop j).length = 0 := by rw [← he]; rfl
            rw [List.length_drop] at this
            omega
          rw [List.drop_of_length_le (by omega)] at hb
          simp only [byVals] at hb
          rw [← hb] at q
          exact wpAny_pure q
        · simp only at hr
          subst hr
          rw [hb] at q
          exact wpAny_pure q
/-- nobody sees the search: all are plain tuples -/
theorem isT_seen (I : Inv X pins σ H s) {A : Around} {a : Tr} {x : V} {u : Value} {E : Value → Shared → Prop} {Q : Bool → Shared → Prop} (hd : a.toD.deep ≤ 8) (h : IsD X.K H a.toD x) (r : RelV x u) :
    ∀ (stored : List Value), (∀ v ∈ stored, ∃ b y, Tr.toD b = Tr.toD b ∧ (Tr.toD b).deep ≤ 8 ∧ IsD X.K H (Tr.toD b) y ∧ RelV y v) → Q false s → wpAny (model X.prog X.w) A (searchCouldBeSeen u stored) Q E s := by
  intro stored hst q
  unfold searchCouldBeSeen
  refine wpAny_bind ?_
  refine wpAny_forIn_list _ (fun rest rr s' => s' = s ∧ rr.1 = none ∧ ∀ v ∈ rest, v ∈ stored) _ ?_ ?_ _ _ ⟨rfl, rfl, fun v hv => hv⟩
  · rintro v rest rr s' ⟨rfl, hr, hm⟩
    obtain ⟨b, y, _, hb, h2, r2⟩ := hst v (hm v (by simp))
    have fin : (⟨none, ()⟩ : Option Bool × Unit).1 = none := rfl
    dsimp only
    split
    all_goals split
    any_goals exact wpAny_pure ⟨rfl, rfl, fun z hz => hm z (by simp [hz])⟩
    all_goals
      refine wpAny_bind (isT_quiet I 8 8 _ _ _ hd (Nat.le_refl _) h r ?_)
      simp only [Bool.not_true, Bool.false_eq_true, if_false]
      refine wpAny_bind (isT_quiet I 8 8 _ _ _ hb (Nat.le_refl _) h2 r2 ?_)
      simp only [Bool.not_true, Bool.false_eq_true, if_false]
      refine wpAny_bind (isT_ofCls I 8 8 _ _ _ hd (Nat.le_refl _) h r ?_)
      simp only [Bool.false_eq_true, if_false]
      refine wpAny_bind (isT_ofCls I 8 8 _ _ _ hb (Nat.le_refl _) h2 r2 ?_)
      simp only [Bool.false_eq_true, if_false]
      exact wpAny_pure ⟨rfl, rfl, fun z hz => hm z (by simp [hz])⟩
  · rintro ⟨r1, r2⟩ s' ⟨rfl, hr, _⟩
    simp only at hr
    subst hr
    exact wpAny_pure q
end
end L2
/-! set(xs) of a list of tuples: the loop -/
namespace L2
open PySem PySem.Spec PyProof.Rows SetP
def ddS (acc : List Tr) (t : Tr) : List Tr := if acc.any (fun a => eqT a t) = true then acc else acc ++ [t]
/-- each once, as they first come -/
def dd (l : List Tr) : List Tr := l.foldl ddS []
theorem dd_take (l : List Tr) {i : Nat} (h : i < l.length) : dd (l.take (i + 1)) = ddS (dd (l.take i)) l[i] := by
  unfold dd
  rw [← List.take_append_getElem h, List.foldl_append]
  rfl
/-- a set's entries are these trees -/
def EsT (w : World) (K : PySem.W.Frag) (H : Hp) (es : List (Int × Value)) (tr : List Tr) : Prop := Paired (fun (e : Int × Value) (t : Tr) => e.1 = hashT w t ∧ t.toD.deep ≤ 8 ∧ ∃ y, IsD K H t.toD y ∧ RelV y e.2) es tr
theorem paired_perm {α β : Type} {F : α → β → Prop} {l l' : List α} (p : l'.Perm l) : ∀ {m : List β}, Paired F l m → ∃ m', m'.Perm m ∧ Paired F l' m' := by
  induction p with
  | nil => intro m h; exact ⟨m, .refl _, h⟩
  | cons x _ ih =>
    intro m h
    cases h with
    | cons r t => obtain ⟨m', h1, h2⟩ := ih t; exact ⟨_ :: m', h1.cons _, .cons r h2⟩
  | swap x y l =>
    intro m h
    cases h with
    | cons r t => cases t with
      | cons r2 t2 => exact ⟨_, .swap _ _ _, .cons r2 (.cons r t2)⟩
  | trans _ _ ih1 ih2 =>
    intro m h
    obtain ⟨m1, a1, a2⟩ := ih2 h
    obtain ⟨m2, b1, b2⟩ := ih1 a2
    exact ⟨m2, b1.trans a1, b2⟩
section
variable {X : Cx} {pins : List (Addr × Obj)} {σ : St} {H : Hp} {s : Shared} {a : Addr} {es : Array (Int × Value)} {tr : List Tr} {t : Tr} {x : V} {u : Value} {l : Bool}
theorem EsT.seenOk (h : EsT X.w X.K H es.toList tr) {v : Value} (hv : v ∈ es.toList.map (·.2)) : ∃ b y, Tr.toD b = Tr.toD b ∧ (Tr.toD b).deep ≤ 8 ∧ IsD X.K H (Tr.toD b) y ∧ RelV y v := by
  obtain ⟨e, he, rfl⟩ := List.mem_map.mp hv
  obtain ⟨i, hi, rfl⟩ := List.mem_iff_getElem.mp he
  have hl := Paired.length h
  obtain ⟨_, h2, y, h3, h4⟩ := Paired.at2 h i hi (by omega)
  exact ⟨_, y, rfl, h2, h3, h4⟩
/-- one more tree -/
theorem addT {A : Around} {E : Value → Shared → Prop} {Q : Bool → Shared → Prop} (I : Inv X pins σ H s) (hu : A.units + 40 < cLine) (hS : SI l s.heap a es) (hE : EsT X.w X.K H es.toList tr) (hs : es.size < 1000) (ht : ∃ l, t = .tup l) (hd : t.toD.deep ≤ 8) (hv : byVal t = false) (h : IsD X.K H t.toD x) (r : RelV x u)
    (hQ : ∀ b h' tk es' tr', Heap.SameBut a s.heap h' ∨ h' = s.heap → SI l h' a es' → EsT X.w X.K H es'.toList tr' → tr'.Perm (ddS tr t) → Q b { s with heap := h', toks := tk }) : wpAny (model X.prog X.w) A (setAdd a u) Q E s := by
  have hl := Paired.length hE
  have hl' : es.size = tr.length := by simpa using hl
  unfold setAdd
  refine wpAny_holding (wpAny_bind ?_)
  have z := isT_hash I 8 A (E := E) s.toks (Q := fun hh s' => wpAny (model X.prog X.w) A (setAddHashed a u hh) Q E s') hd (by omega) h r fun tk => ?_
  · exact z
  · have I' : Inv X pins σ H { s with toks := tk } := I.tok tk
    have at_ : ∀ i (hi : i < es.size), (es[i]).1 = hashT X.w (tr[i]'(by omega)) ∧ (tr[i]'(by omega)).toD.deep ≤ 8 ∧ ∃ y, IsD X.K H (tr[i]'(by omega)).toD y ∧ RelV y (es[i]).2 := fun i hi => by
      have z := Paired.at2 hE i (by simpa using hi) (by omega)
      simpa using z
    refine add_wp (s := { s with toks := tk }) (eqv := fun i => eqT (tr.getD i (.int 0)) t) hS ?_ hs (fun i hi _ => ?_) (fun Q' q => isT_seen I' hd h r _ (fun v hv => ?_) q) (fun Q' q => isT_byVal I' 8 8 _ _ _ hd (Nat.le_refl _) h r (by rw [hv]; exact q)) (fun hex => ?_) fun hno h' es' hsb hS' hp => ?_
    · obtain ⟨l, rfl⟩ := ht
      obtain ⟨p, _, _, e, _⟩ := tup_at I h r
      exact ⟨p, e⟩
    · obtain ⟨_, h2, y, h3, h4⟩ := at_ i hi
      have e : tr.getD i (.int 0) = tr[i]'(by omega) := by simp [show i < tr.length by omega]
      show SeqAt.EqAt A _ _ _ (eqT (tr.getD i (.int 0)) t)
      rw [e]
      exact isD_eq I' rfl 8 A h2 (by omega) h3 h h4 r
    · refine hE.seenOk ?_
      obtain ⟨e, he, rfl⟩ := List.mem_map.mp hv
      refine List.mem_map.mpr ⟨e, ?_, rfl⟩
      rw [Array.mem_toList_iff] at he ⊢
      exact (Array.mem_filter.mp he).1
    · obtain ⟨i, hi, e1, e2⟩ := hex
      have e : tr.getD i (.int 0) = tr[i]'(by omega) := by simp [show i < tr.length by omega]
      have e2 : eqT (tr.getD i (.int 0)) t = true := e2
      rw [e] at e2
      refine hQ false s.heap tk es tr (.inr rfl) hS hE ?_
      unfold ddS
      rw [if_pos (List.any_eq_true.mpr ⟨_, List.getElem_mem (by omega), e2⟩)]
    · have hE' : EsT X.w X.K H ((hashT X.w t, u) :: es.toList) (t :: tr) := .cons ⟨rfl, hd, x, h, r⟩ hE
      obtain ⟨tr', p1, p2⟩ := paired_perm hp hE'
      refine hQ true h' tk es' tr' (.inl hsb) hS' p2 ?_
      unfold ddS
      have hany : ¬ (tr.any fun b => eqT b t) = true := fun hz => by
        obtain ⟨b, hb, e⟩ := List.any_eq_true.mp hz
        obtain ⟨i, hi, rfl⟩ := List.mem_iff_getElem.mp hb
        have hi' : i < es.size := by omega
        refine hno ⟨i, hi', ?_, ?_⟩
        · rw [(at_ i hi').1, eqT_true e]
        · have e3 : tr.getD i (.int 0) = tr[i] := by simp [hi]
          show eqT (tr.getD i (.int 0)) t = true
          rw [e3]; exact e
      rw [if_neg hany]
      exact p1.trans (List.perm_append_singleton t tr).symm
end
end L2
namespace L2
open PySem PySem.Spec PyProof.Rows SetP
theorem ddS_len (acc : List Tr) (t : Tr) : (ddS acc t).length ≤ acc.length + 1 := by
  unfold ddS
  split <;> simp
theorem dd_len (l : List Tr) : ∀ i, i ≤ l.length → (dd (l.take i)).length ≤ i
  | 0, _ => by simp [dd]
  | i + 1, h => by
    rw [dd_take l (by omega)]
    have := dd_len l i (by omega)
    have := ddS_len (dd (l.take i)) (l[i]'(by omega))
    omega
theorem any_perm {f : Tr → Bool} {a b : List Tr} (p : a.Perm b) : a.any f = b.any f := by
  rw [Bool.eq_iff_iff, List.any_eq_true, List.any_eq_true]
  exact ⟨fun ⟨x, h1, h2⟩ => ⟨x, p.mem_iff.mp h1, h2⟩, fun ⟨x, h1, h2⟩ => ⟨x, p.mem_iff.mpr h1, h2⟩⟩
theorem ddS_perm {a b : List Tr} (p : a.Perm b) (t : Tr) : (ddS a t).Perm (ddS b t) := by
  unfold ddS
  rw [any_perm p]
  split
  · exact p
  · exact p.append_right _
theorem si_same {l : Bool} {h h' : Heap} {a b : Addr} {es : Array (Int × Value)} (S : SI l h a es) (hs : Heap.SameBut b h h') (hab : a ≠ b) : SI l h' a es := by
  obtain ⟨o, ep, t, ho, r⟩ := S
  exact ⟨o, ep, t, (hs.2 a hab).trans ho, r⟩
theorem entry_upd : entryFor table "set.update.loop" = some Builtin.«set.update.loop» := entryFor_of_tree (by kernel_rfl)
theorem plain_upd : plainId "set.update.loop" = true := by decide +kernel
section
variable {X : Cx} {pins : List (Addr × Obj)} {σ : St} {H : Hp} {s : Shared} {a it l : Addr} {ts : List Tr} {ys : List V} {its : List Value} {ld : Bool}
theorem upd_loop {A : Around} {R : Result → Shared → Prop} (I : Inv X pins σ H s) (hu : A.units + 60 < cLine) (hh : A.handled = none) (hl : s.heap.IsList l its.toArray) (rv : Vals ys its) (hT : Ts X.K H ts ys) (hlen : its.length < 900) (htp : ∀ t ∈ ts, (∃ q, t = .tup q) ∧ t.toD.deep ≤ 8 ∧ byVal t = false)
    (ha : s.heap.objs.size ≤ a) (hit0 : s.heap.objs.size ≤ it) (hne : a ≠ it)
    (fin : ∀ h' tk es tr, (∀ b o, s.heap.get? b = some o → h'.get? b = some o) → SI ld h' a es → EsT X.w X.K H es.toList tr → tr.Perm (dd ts) → R (.ok (.ret .none)) { s with heap := h', toks := tk }) :
    ∀ (k i : Nat) (h' : Heap) (tk : Nat) (es : Array (Int × Value)) (tr : List Tr), its.length - i = k → i ≤ its.length → (∀ b o, s.heap.get? b = some o → h'.get? b = some o) → h'.IsListIter it l i → SI ld h' a es → EsT X.w X.K H es.toList tr → tr.Perm (dd (ts.take i)) →
      wpAny (model X.prog X.w) A.in1 (Builtin.«set.update.loop» ⟨[.ref a, .ref it], []⟩) (fun fin s' => match fin with | .done f => R (.ok f) s' | .again c' => c'.quiet = true ∧ codeAny (model X.prog X.w) A c' R s') (fun e s' => R (.error e) s') { s with heap := h', toks := tk } := by
  have hl1 := rv.length
  have hl2 := hT.1
  have lt : ∀ b o, s.heap.get? b = some o → b ≠ a ∧ b ≠ it := fun b o q => by
    exact ⟨Nat.ne_of_lt (Nat.lt_of_lt_of_le (Heap.lt_size q) ha), Nat.ne_of_lt (Nat.lt_of_lt_of_le (Heap.lt_size q) hit0)⟩
  obtain ⟨ol, hol, hlr⟩ := id hl
  intro k
  induction k with
  | zero =>
    intro i h' tk es tr hk hi kp hit hS hE hp
    obtain rfl : i = its.length := by omega
    unfold Builtin.«set.update.loop»
    dsimp only
    refine wpAny_bind (wpAny_pyNext_list_end (s := { s with heap := h', toks := tk }) (A := A.in1) hh hit (show h'.IsList l its.toArray from ⟨ol, kp _ _ hol, hlr⟩) (by simp) fun h2 hext => ?_)
    dsimp only
    refine wpAny_pure ?_
    have hai : a ≠ it := hne
    refine fin h2 tk es tr (fun b o q => hext b o (lt b o q).2 (kp b o q)) ?_ hE (by rw [← hl1, ← hl2, List.take_length] at hp; exact hp)
    obtain ⟨o, ep, t, ho, r⟩ := hS
    exact ⟨o, ep, t, hext a o hai ho, r⟩
  | succ k ih =>
    intro i h' tk es tr hk hi kp hit hS hE hp
    have hi1 : i < its.length := by omega
    have hit1 : i < ts.length := by omega
    unfold Builtin.«set.update.loop»
    dsimp only
    refine wpAny_bind (wpAny_pyNext_list_item (s := { s with heap := h', toks := tk }) (x := its[i]) hit (show h'.IsList l its.toArray from ⟨ol, kp _ _ hol, hlr⟩) (by simp [hi1]) fun h1 hit1' hsb => ?_)
    dsimp only
    have kp1 : ∀ b o, s.heap.get? b = some o → h1.get? b = some o := fun b o q => (hsb.2 b (lt b o q).2).trans (kp b o q)
    have I1 : Inv X pins σ H { s with heap := h1, toks := tk } := I.kept kp1
    have hS1 : SI ld h1 a es := si_same hS hsb hne
    obtain ⟨u1, f1, q1⟩ := rv.get (i := i) (x := ys[i]'(by omega)) (by simp)
    have eu : its[i] = u1 := (List.getElem?_eq_some_iff.mp f1).2
    have ht := htp _ (List.getElem_mem hit1)
    have hsize : es.size < 1000 := by
      have z1 := Paired.length hE
      have z2 := hp.length_eq
      have z3 := dd_len ts i (by omega)
      have z4 : es.toList.length = es.size := by simp
      omega
    refine wpAny_bind (wpAny_holding (addT (s := { s with heap := h1, toks := tk }) I1 (by show A.units + 1 + 40 < cLine; omega) hS1 hE hsize ht.1 ht.2.1 ht.2.2 (hT.2 i hit1 (by omega)) (by rw [eu]; exact q1) fun bb h2 tk2 es' tr' hor hS2 hE2 hp2 => ?_))
    have kp2 : ∀ b o, s.heap.get? b = some o → h2.get? b = some o := fun b o q => by
      rcases hor with hsb2 | rfl
      · exact (hsb2.2 b (lt b o q).1).trans (kp1 b o q)
      · exact kp1 b o q
    have hit2 : h2.IsListIter it l (i + 1) := by
      rcases hor with hsb2 | rfl
      · obtain ⟨o, ho, r⟩ := hit1'
        exact ⟨o, (hsb2.2 it (Ne.symm hne)).trans ho, r⟩
      · exact hit1'
    refine wpAny_pure ?_
    refine ⟨plainId_quiet plain_upd _, codeAny_builtin entry_upd ?_⟩
    rw [Around.under_plainId plain_upd _]
    exact ih (i + 1) h2 tk2 es' tr' (by omega) (by omega) kp2 hit2 hS2 hE2 (by rw [dd_take ts hit1]; exact hp2.trans (ddS_perm hp _))
end
end L2
namespace PySem
theorem typeCall_set_1 (v : Value) : checkTypeCall "set" ⟨[v], []⟩ = pure () := by kernel_rfl
theorem newCall_set_1 (v : Value) : checkBuiltinCall "set.__new__" ⟨[.type "set", v], []⟩ = pure () := by kernel_rfl
theorem sub_list_set : isSubtype (.type "list") (.type "set") = pure false := by rw [isSubtype_type]; kernel_rfl
theorem sub_list_frozenset : isSubtype (.type "list") (.type "frozenset") = pure false := by rw [isSubtype_type]; kernel_rfl
section
variable {prog : Program} {w : World} {A : Around} {E : Value → Shared → Prop} {s : Shared}
theorem code_set_new1 {v : Value} {Q₁ : Value → Shared → Prop}
    (h : Q₁ (.ref s.heap.objs.size) { s with heap := s.heap.push { cls := .type "set", dict := none, data := .set #[] 0 (.fresh 0 0 (!w.params.followText "set-order")) } }) :
    codeAny (model prog w) A (.call (.builtin "set.__new__") ⟨[.type "set", v], []⟩) (wants Q₁ E) s := by
  refine codeAny_of_tree ?_
  show wpAny _ A.in1 (do checkBuiltinCall "set.__new__" ⟨[.type "set", v], []⟩; again (.builtin "set.__new__" ⟨[.type "set", v], []⟩)) _ _ s
  refine wpAny_bind (wpAny_of_eq (newCall_set_1 v) (wpAny_pure ⟨plainId_quiet F.plain_set_new _, codeAny_builtin F.entry_set_new ?_⟩))
  rw [Around.under_plainId F.plain_set_new _]
  unfold Builtin.«set.__new__» Builtin.Frozenset.newClass
  have hsub := sub_set_self
  obtain ⟨hp, g, d, tk, os⟩ := s
  dsimp only
  wp_walk
  refine wpAny_askSetting (wpAny_pure ?_)
  dsimp only
  simp only [newObj]
  refine wpAny_bind (wpAny_alloc (wpAny_pure ?_))
  exact wpAny_pure h
theorem check_set_init1 {M : Model} {self v : Value} {Q : Unit → Shared → Prop} (hT : s.TypeIs self "set") (hQ : Q () s) :
    wpAny M A (checkBuiltinCall "set.__init__" ⟨[self, v], []⟩) Q E s := by
  simp only [checkBuiltinCall, kind_set_init, split_set_init, sig_set_init]
  refine wpAny_bind (wpAny_isInstance hT sub_set_self ?_)
  simp only [Bool.not_true, Bool.false_eq_true, if_false]
  unfold Bind.checkArgs
  dsimp only
  refine wpAny_bind (m := Bind.printed "set" true _ _) (PyProof.Rows.printed_name (by decide) ?_)
  refine wpAny_bind (m := Bind.printed "*" false _ _) (PyProof.Rows.printed_star (self := self) rfl hT fun short => ?_)
  have hrn : (Manifest.Receiver.self == Manifest.Receiver.none) = false := by decide
  have hn : (if (Manifest.Receiver.self == Manifest.Receiver.none) = true then [self, v].length else [self, v].length - 1) = 1 := by simp [hrn]
  rw [hn]
  simp only [List.map_nil]
  have hc : Bind.check ⟨.positional, "set", "*", .self, [⟨"iterable", .posOnly, false⟩]⟩ "set" short 1 [] = pure () := by
    have hp : (Manifest.ParamKind.posOnly == Manifest.ParamKind.posOnly) = true := by decide
    simp [Bind.check, Bind.checkCount, Bind.isPositional, hp]
  rw [hc]
  exact wpAny_pure hQ
set_option maxHeartbeats 1000000 in
set_option maxRecDepth 100000 in
theorem call_set_1 {l : Addr} {items : Array Value} {Q : Value → Shared → Prop} (hl : s.heap.IsList l items)
    {led : Bool} (hled : led = !w.params.followText "set-order") (h : codeAny (model prog w) A.in1.in1 (.builtin "set.update.loop" ⟨[.ref s.heap.objs.size, .ref (s.heap.objs.size + 1)], []⟩) (wants (fun _ s' => Q (.ref s.heap.objs.size) s') E)
      { s with heap := (s.heap.push { cls := .type "set", dict := none, data := .set #[] 0 (.fresh 0 0 led) }).push { cls := .type "list_iterator", data := .fields #[.ref l, .int 0 0] } }) :
    wpAny (model prog w) A (call (.type "set") [.ref l]) Q E s := by
  obtain ⟨c, tl, hmro⟩ := F.called_set.mro
  have hmade := F.called_set.made
  have hsub := F.called_set.sub
  refine wpAny_call (codeAny_of_tree ?_)
  show wpAny _ _ (callAny (.type "set") _) _ _ _
  refine wpAny_pure ⟨Code.quiet_builtin _ (by decide +kernel), codeAny_builtin F.entry_type_call ?_⟩
  rw [Around.under_plain (weight_type_call_type "set" [.ref l] []) rfl]
  have h1 := F.called_set.notType
  have h2 := F.called_set.canCreate
  have hct := typeCall_set_1 (.ref l)
  repeat (any_goals (first | assumption | wp_step))
  refine codeAny_mono (code_set_new1 (E := E) (Q₁ := fun obj s₁ => obj = .ref s.heap.objs.size ∧ s₁ = { s with heap := s.heap.push { cls := .type "set", dict := none, data := .set #[] 0 (.fresh 0 0 led) } }) ⟨rfl, by rw [hled]⟩) fun r s₁ hr => ?_
  cases r with
  | error e => exact hr
  | ok fl =>
    cases fl with
    | ret obj =>
      obtain ⟨rfl, rfl⟩ := hr
      have hS : (s.heap.push { cls := .type "set", dict := none, data := .set #[] 0 (.fresh 0 0 led) }).get? s.heap.objs.size = some { cls := .type "set", dict := none, data := .set #[] 0 (.fresh 0 0 led) } := Heap.get?_push_size _ rfl
      have hT : Shared.TypeIs { s with heap := s.heap.push { cls := .type "set", dict := none, data := .set #[] 0 (.fresh 0 0 led) } } (.ref s.heap.objs.size) "set" := ⟨_, hS, rfl⟩
      have hli := F.called_set.init.lookup
      have hbi := F.called_set.init.bind (.ref s.heap.objs.size)
      repeat (any_goals (first | assumption | wp_step))
      refine codeAny_mono (codeAny_call_builtin (R := wants (fun r s₂ => r = .none ∧ Q (.ref s.heap.objs.size) s₂) E) F.called_set.init.plain F.entry_set_init (check_set_init1 hT ?_)) fun r₂ s₂ hr₂ => ?_
      · unfold Builtin.«set.__init__» noKeywords
        have hl' : (s.heap.push { cls := .type "set", dict := none, data := .set #[] 0 (.fresh 0 0 led) }).IsList l items := by obtain ⟨o, ho, r⟩ := hl; exact ⟨o, Heap.get?_push_of_some _ ho, r⟩
        have hTl : Shared.TypeIs { s with heap := s.heap.push { cls := .type "set", dict := none, data := .set #[] 0 (.fresh 0 0 led) } } (.ref l) "list" := hl'.typeIs
        have hs1 := sub_list_set
        have hs2 := sub_list_frozenset
        have hpi : ∀ {A' : Around} {Q' : Value → Shared → Prop} {E' : Value → Shared → Prop}, Q' (.ref (s.heap.objs.size + 1)) { s with heap := (s.heap.push { cls := .type "set", dict := none, data := .set #[] 0 (.fresh 0 0 led) }).push { cls := .type "list_iterator", data := .fields #[.ref l, .int 0 0] } } →
            wpAny (model prog w) A' (pyIter (.ref l)) Q' E' { s with heap := s.heap.push { cls := .type "set", dict := none, data := .set #[] 0 (.fresh 0 0 led) } } := fun {A' Q' E'} hq => by
          have e : (s.heap.push { cls := .type "set", dict := none, data := .set #[] 0 (.fresh 0 0 led) }).objs.size = s.heap.objs.size + 1 := Heap.size_push _ _
          refine wpAny_pyIter_list (s := { s with heap := s.heap.push { cls := .type "set", dict := none, data := .set #[] 0 (.fresh 0 0 led) } }) hl' ?_
          show Q' (.ref (s.heap.push _).objs.size) _
          rw [e]
          exact hq
        wp_walk using hpi
        refine codeAny_mono h fun r3 s3 hr3 => ?_
        cases r3 with
        | error e => exact hr3
        | ok f3 =>
          cases f3 with
          | ret v3 => exact wpAny_pure (wpAny_pure ⟨rfl, hr3⟩)
          | _ => exact hr3.elim
      · cases r₂ with
        | error e => exact hr₂
        | ok fl₂ =>
          cases fl₂ with
          | ret r =>
            obtain ⟨rfl, hq⟩ := hr₂
            repeat (any_goals (first | assumption | wp_step))
          | _ => exact hr₂.elim
    | _ => exact hr.elim
end
end PySem
/-! a set's walk: collect(set), in whatever order -/
namespace PySem.F
theorem slot_seti_next : Slot "set_iterator" "__next__" "set_iterator.__next__" :=
  .of (owner := "set_iterator") (n := "__next__") (by rw [typeLookup_type, builtinLookup_eq_fast]; kernel_rfl) (by decide +kernel) (by decide +kernel) (by decide +kernel)
    (by first | exact .inl (by decide +kernel) | exact .inr (by decide +kernel)) (by rw [isSubtype_type]; kernel_rfl)
theorem entry_seti_next : entryFor table "set_iterator.__next__" = some Builtin.«set_iterator.__next__» := entryFor_of_tree (by kernel_rfl)
theorem args_seti_next (a : Value) : argsOk "set_iterator.__next__" ⟨[a], []⟩ := by unfold argsOk; kernel_rfl
theorem slot_seti_iter : Slot "set_iterator" "__iter__" "set_iterator.__iter__" :=
  .of (owner := "set_iterator") (n := "__iter__") (by rw [typeLookup_type, builtinLookup_eq_fast]; kernel_rfl) (by decide +kernel) (by decide +kernel) (by decide +kernel)
    (by first | exact .inl (by decide +kernel) | exact .inr (by decide +kernel)) (by rw [isSubtype_type]; kernel_rfl)
theorem entry_seti_iter : entryFor table "set_iterator.__iter__" = some Builtin.«dict_keyiterator.__iter__» :=
  entryFor_alias (id' := "dict_keyiterator.__iter__") (by kernel_rfl) rfl (by decide +kernel) (by kernel_rfl)
theorem args_seti_iter (a : Value) : argsOk "set_iterator.__iter__" ⟨[a], []⟩ := by unfold argsOk; kernel_rfl
theorem entry_set_iterA : entryFor table "set.__iter__" = some Builtin.«frozenset.__iter__» :=
  entryFor_alias (id' := "frozenset.__iter__") (by kernel_rfl) rfl (by decide +kernel) (by kernel_rfl)
end PySem.F
namespace SetP
open PySem
theorem erase_perm {α : Type} {l : List α} {i : Nat} (h : i < l.length) : (l[i] :: l.eraseIdx i).Perm l := by
  rw [List.eraseIdx_eq_take_drop_succ]
  have e : l = l.take i ++ l[i] :: l.drop (i + 1) := by rw [List.getElem_cons_drop, List.take_append_drop]
  conv => rhs; rw [e]
  exact List.perm_middle.symm
theorem pick_go {α : Type} (next : Nat → Nat) : ∀ (n k : Nat) (left : List α) (out : Array α), left.length = n → (pickOrder.go next n k left out).toList.Perm (out.toList ++ left)
  | 0, k, left, out, h => by
    have : left = [] := List.length_eq_zero_iff.mp h
    subst this
    rw [List.append_nil]
    exact .refl _
  | n + 1, k, left, out, h => by
    have hi : next k % left.length < left.length := Nat.mod_lt _ (by omega)
    unfold pickOrder.go
    rw [List.getElem?_eq_getElem hi]
    dsimp only
    refine (pick_go next n (k + 1) _ _ (by rw [List.length_eraseIdx_of_lt hi]; omega)).trans ?_
    rw [Array.toList_push, List.append_assoc]
    exact (erase_perm hi).append_left _
theorem pick_perm {α : Type} (next : Nat → Nat) (xs : Array α) : (pickOrder next xs).toList.Perm xs.toList := by
  have z := pick_go next xs.size 0 xs.toList #[] (by simp)
  simpa [pickOrder] using z
section
variable {M : Model} {A : Around} {E : Value → Shared → Prop} {s : Shared}
theorem choose_wp {src : Source} {n : Nat} {Q : Nat → Shared → Prop} (hn : n ≠ 0) (h : ∀ k dr, k < n → Q k { s with drawn := dr }) : wpAny M A (choose src n) Q E s :=
  fun _ _ _ => ⟨hn, h _ _ (Nat.mod_lt _ (Nat.pos_of_ne_zero hn))⟩
theorem draw_wp {α : Type} : ∀ (n : Nat) (xs : List α) (s : Shared) (Q : List α → Shared → Prop), xs.length = n → (∀ l dr, l.Perm xs → Q l { s with drawn := dr }) → wpAny M A (drawOrder n xs) Q E s
  | 0, xs, s, Q, h, hQ => by
    have : xs = [] := List.length_eq_zero_iff.mp h
    subst this
    exact wpAny_pure (hQ [] s.drawn (.refl _))
  | n + 1, [], s, Q, h, hQ => by cases h
  | n + 1, x :: xs, s, Q, h, hQ => by
    unfold drawOrder
    refine wpAny_bind (choose_wp (by simp) fun k dr hk => ?_)
    rw [List.getElem?_eq_getElem hk]
    dsimp only
    refine wpAny_bind (draw_wp n _ _ _ (by rw [List.length_eraseIdx_of_lt hk]; omega) fun l dr2 hp => wpAny_pure ?_)
    exact hQ _ dr2 ((hp.cons _).trans (erase_perm hk))
end
/-- the iterator at I over the set at a -/
def ItAt (h : Heap) (I a : Addr) (first : Value) (i n ep : Nat) : Prop := ∃ o, h.get? I = some o ∧ o.cls = .type "set_iterator" ∧ o.data = .fields #[first, .int i 0, .ref a, .int n 0, .int ep 0]
def SetAt (h : Heap) (a : Addr) (es : Array (Int × Value)) (ep : Nat) (t : SetTable) : Prop := ∃ o, h.get? a = some o ∧ o.cls = .type "set" ∧ o.data = .set es ep t
/-- how it goes on: by the text's order, by the drawn places, or by the one slot -/
def Way (w : World) (h : Heap) (a : Addr) (es : Array (Int × Value)) (ep : Nat) (t : SetTable) (pl : List Nat) (T : Addr) (ord : List Value) (i : Nat) (first : Value) : Prop :=
  (w.params.followText "set-order" = true ∧ first = .int 0 0 ∧ ord = (pickOrder (w.params.setOrder a ep) es).toList.map (·.2)) ∨
  (w.params.followText "set-order" = false ∧ first = .ref T ∧ h.IsTuple T (pl.map fun (j : Nat) => Value.int j 0).toArray ∧ pl.Perm (List.range es.size) ∧ ord = pl.map fun j => (es.getD j (0, .none)).2) ∨
  (w.params.followText "set-order" = false ∧ t.led = true ∧ es.size ≤ 1 ∧ ord = es.toList.map (·.2) ∧ ((i = 0 ∧ first = .int 0 0) ∨ (i = 1 ∧ ∃ k : Nat, first = .int k 0 ∧ ∀ j, j < t.place.size → t.place.getD j 0 < k)))
end SetP
namespace SetP
open PySem
section
variable {prog : Program} {w : World} {A : Around} {E : Value → Shared → Prop} {s : Shared} {I a T : Addr} {first : Value} {i ep : Nat} {es : Array (Int × Value)} {t : SetTable} {pl : List Nat} {ord : List Value}
theorem ItAt.typeIs {h : Heap} {n : Nat} (x : ItAt s.heap I a first i n ep) : s.TypeIs (.ref I) "set_iterator" := let ⟨o, ho, hc, _⟩ := x; ⟨o, ho, hc⟩
theorem entries_wp {Q : Array (Int × Value) → Shared → Prop} (hS : SetAt s.heap a es ep t) (hf : t.fits es.size = true) (h : Q es s) : wpAny (model prog w) A (setEntries a) Q E s := by
  obtain ⟨o, ho, _, hd⟩ := hS
  unfold setEntries
  exact wpAny_bind (wpAny_setState_of ho hd hf (wpAny_pure h))
theorem byText_wp {Q : Bool → Shared → Prop} (h : Q (w.params.followText "set-order") s) : wpAny (model prog w) A setsByText Q E s := by
  unfold setsByText
  exact wpAny_bind (wpAny_askSetting (wpAny_pure h))
theorem ord_len (W : Way w s.heap a es ep t pl T ord i first) : ord.length = es.size := by
  rcases W with ⟨_, _, e⟩ | ⟨_, _, _, p, e⟩ | ⟨_, _, _, e, _⟩
  · rw [e, List.length_map, (pick_perm _ es).length_eq, Array.length_toList]
  · rw [e, List.length_map, p.length_eq, List.length_range]
  · rw [e, List.length_map, Array.length_toList]
theorem range_getD (es : Array (Int × Value)) : ∀ n, n ≤ es.size → (List.range n).map (fun j => (es.getD j (0, .none)).2) = (es.toList.take n).map (·.2) := fun n hn => by
  apply List.ext_getElem (by simp; omega)
  intro j h1 h2
  have hj : j < es.size := by simp at h1; omega
  simp [hj]
theorem ord_perm (W : Way w s.heap a es ep t pl T ord i first) : ord.Perm (es.toList.map (·.2)) := by
  rcases W with ⟨_, _, e⟩ | ⟨_, _, _, p, e⟩ | ⟨_, _, _, e, _⟩
  · rw [e]; exact (pick_perm _ es).map _
  · rw [e]
    have z := p.map (fun j => (es.getD j (0, Value.none)).2)
    rw [range_getD es es.size (Nat.le_refl _), List.take_of_length_le (by simp)] at z
    exact z
  · rw [e]
theorem set1 {h : Heap} {n : Nat} (x : ItAt h I a first i n ep) : ItAt (h.update I (Obj.mapFields (·.setIfInBounds 1 (rawInt ((i : Int) + 1))))) I a first (i + 1) n ep := by
  obtain ⟨o, ho, hc, hd⟩ := x
  exact ⟨_, Heap.get?_update_self _ ho (Obj.isFreed_of_fields (Obj.data_mapFields hd _)), (Obj.cls_mapFields ..).trans hc, by rw [Obj.data_mapFields hd]; simp [rawInt]⟩
theorem set0 {h : Heap} {n : Nat} {f : Value} (x : ItAt h I a first i n ep) : ItAt (h.update I (Obj.mapFields (·.setIfInBounds 0 f))) I a f i n ep := by
  obtain ⟨o, ho, hc, hd⟩ := x
  exact ⟨_, Heap.get?_update_self _ ho (Obj.isFreed_of_fields (Obj.data_mapFields hd _)), (Obj.cls_mapFields ..).trans hc, by rw [Obj.data_mapFields hd]; simp⟩
theorem fld1 {n : Nat} {Q : Unit → Shared → Prop} (x : ItAt s.heap I a first i n ep) (h : Q () { s with heap := s.heap.update I (Obj.mapFields (·.setIfInBounds 1 (rawInt ((i : Int) + 1)))) }) : wpAny (model prog w) A (setField (.ref I) 1 (rawInt ((i : Int) + 1))) Q E s := by
  obtain ⟨o, ho, hc, hd⟩ := x
  exact wpAny_setField ho hd (by simp) h
theorem fld0 {n : Nat} {f : Value} {Q : Unit → Shared → Prop} (x : ItAt s.heap I a first i n ep) (h : Q () { s with heap := s.heap.update I (Obj.mapFields (·.setIfInBounds 0 f)) }) : wpAny (model prog w) A (setField (.ref I) 0 f) Q E s := by
  obtain ⟨o, ho, hc, hd⟩ := x
  exact wpAny_setField ho hd (by simp) h
set_option maxHeartbeats 1000000 in
theorem next_item {Q : Option Value → Shared → Prop} (hTb : TbI t (es.map (·.1))) (hIT : I ≠ T) (hIa : I ≠ a) (hit : ItAt s.heap I a first i es.size ep) (hS : SetAt s.heap a es ep t) (W : Way w s.heap a es ep t pl T ord i first) (hi : i < es.size)
    (hQ : ∀ v h' first', ord[i]? = some v → ItAt h' I a first' (i + 1) es.size ep → Way w h' a es ep t pl T ord (i + 1) first' → Heap.SameBut I s.heap h' → Q (some v) { s with heap := h' }) : wpAny (model prog w) A (pyNext (.ref I)) Q E s := by
  obtain ⟨o, ho, hc, hd⟩ := id hit
  have hf := hTb.fits
  have hol := ord_len W
  unfold pyNext
  refine wpAny_bind (wpAny_attempt (wpAny_callSpecial?_slot (name := Str.ofString "__next__") (ItAt.typeIs (h := s.heap) hit) F.slot_seti_next
    (wpAny_call_entry F.slot_seti_next (ItAt.typeIs (h := s.heap) hit) F.entry_seti_next ?_ (F.args_seti_next _))))
  unfold Builtin.«set_iterator.__next__»
  refine wpAny_bind (wpAny_of_eq (a := (Value.ref I, [])) rfl ?_)
  dsimp only
  refine wpAny_bind (wpAny_fieldsOf ho hd ?_)
  dsimp only
  refine wpAny_bind (entries_wp hS hf ?_)
  rw [if_neg (by simp)]
  rcases id W with ⟨hT, rfl, e⟩ | ⟨hT, rfl, hp, pp, e⟩ | ⟨hT, hl, h1, e, hw⟩
  · dsimp only
    unfold setNext
    obtain ⟨oa, hoa, _, hda⟩ := id hS
    refine wpAny_bind (wpAny_bind (wpAny_setState_of hoa hda hf ?_))
    dsimp only
    refine wpAny_bind (byText_wp ?_)
    rw [hT]
    simp only [if_true, Int.toNat_natCast, bne_self_eq_false, Bool.false_eq_true, if_false]
    unfold setWalk
    refine wpAny_bind (wpAny_bind (wpAny_setState_of hoa hda hf ?_))
    dsimp only
    refine wpAny_bind (byText_wp ?_)
    rw [hT]
    simp only [if_true]
    refine wpAny_bind (wpAny_askSetting (wpAny_pure ?_))
    refine wpAny_pure ?_
    have hio : i < ord.length := by omega
    have hx : (pickOrder (w.params.setOrder a ep) es)[i]?.map (·.2) = some ord[i] := by
      rw [← Array.getElem?_toList, ← List.getElem?_map, ← e, List.getElem?_eq_getElem hio]
    obtain ⟨y, hy, hy2⟩ := Option.map_eq_some_iff.mp hx
    have hy' : (pickOrder ({ program := (model prog w).prog, params := (model prog w).w.params : Setting }.params.setOrder a ep) es)[i]? = some y := hy
    rw [hy']
    dsimp only [Option.map]
    refine wpAny_bind (fld0 hit ?_)
    have h0 := set0 (f := rawInt ((Int.toNat 0 : Nat) : Int)) hit
    refine wpAny_bind (fld1 (s := { s with heap := _ }) h0 ?_)
    refine wpAny_pure ⟨_, rfl, wpAny_pure (hQ _ _ _ (by rw [List.getElem?_eq_getElem hio, hy2]) (set1 h0) (.inl ⟨hT, rfl, e⟩) ((Heap.SameBut.update ..).trans (Heap.SameBut.update ..)))⟩
  · dsimp only
    obtain ⟨oT, hoT, _, nT, hdT⟩ := id hp
    refine wpAny_bind (wpAny_seqItems hoT hdT ?_)
    dsimp only
    have hpl : i < pl.length := by rw [pp.length_eq, List.length_range]; exact hi
    have hj : pl[i] < es.size := List.mem_range.mp (pp.mem_iff.mp (List.getElem_mem hpl))
    have hx : (pl.map fun (j : Nat) => Value.int j 0).toArray[((i : Nat) : Int).toNat]? = some (Value.int (pl[i] : Nat) 0) := by simp [hpl]
    rw [hx]
    dsimp only
    refine wpAny_bind ?_
    unfold setNextDrawn
    obtain ⟨oa, hoa, _, hda⟩ := id hS
    refine wpAny_bind (wpAny_setState_of hoa hda hf ?_)
    dsimp only
    simp only [Int.toNat_natCast, bne_self_eq_false, Bool.false_eq_true, if_false, Array.getElem?_eq_getElem hj]
    refine wpAny_pure ?_
    refine wpAny_bind (fld1 hit ?_)
    refine wpAny_pure ⟨_, rfl, wpAny_pure (hQ _ _ _ ?_ (set1 hit) (.inr (.inl ⟨hT, rfl, ⟨oT, (Heap.get?_update_other _ _ hIT).trans hoT, ?_⟩, pp, e⟩)) (Heap.SameBut.update ..))⟩
    · subst e
      simp [hpl, hj]
    · obtain ⟨oT', hoT', r⟩ := hp
      rw [hoT] at hoT'
      cases hoT'
      exact r
  · have hi0 : i = 0 := by omega
    subst hi0
    rcases hw with ⟨_, rfl⟩ | ⟨z, _⟩
    · dsimp only
      unfold setNext
      obtain ⟨oa, hoa, _, hda⟩ := id hS
      refine wpAny_bind (wpAny_bind (wpAny_setState_of hoa hda hf ?_))
      dsimp only
      refine wpAny_bind (byText_wp ?_)
      rw [hT]
      have hps : t.place.size = es.size := by have z := hTb.sz; rw [Array.size_map] at z; exact z
      have hb : SetTable.below t.place (Int.toNat 0) = 0 := by
        have z := below_spec t.place hTb.tb.ri (Int.toNat 0)
        rcases Nat.eq_zero_or_pos (SetTable.below t.place (Int.toNat 0)) with q | q
        · exact q
        · exact absurd (z.2.1 0 q) (Nat.not_lt_zero _)
      refine wpAny_ite_split (fun hab => absurd hab (by decide)) fun _ => ?_
      refine wpAny_ite_split (fun hab => absurd hab (show ¬ ((!t.plain && decide (es.size > 1)) = true) from by simp; omega)) fun _ => ?_
      refine wpAny_bind (show wpAny (model prog w) A.in1 (if (!t.led && !es.isEmpty) = true then unsupported "set:maker-not-led" else pure ()) _ _ s from ?_)
      rw [hl]
      refine wpAny_ite_split (fun hab => absurd hab (by simp)) fun _ => ?_
      refine wpAny_pure (wpAny_pure ?_)
      rw [hb, Array.getElem?_eq_getElem (by omega), Array.getElem?_eq_getElem (by omega)]
      dsimp only
      refine wpAny_bind (fld0 hit ?_)
      have h0 := set0 (f := rawInt ((t.place[0]'(by omega) + 1 : Nat) : Int)) hit
      refine wpAny_bind (fld1 (s := { s with heap := _ }) h0 ?_)
      refine wpAny_pure ⟨_, rfl, wpAny_pure (hQ _ _ _ ?_ (set1 h0) (.inr (.inr ⟨hT, hl, h1, e, .inr ⟨rfl, _, rfl, fun j hj => ?_⟩⟩)) ((Heap.SameBut.update ..).trans (Heap.SameBut.update ..)))⟩
      · subst e
        simp [hi]
      · have : j = 0 := by omega
        subst this
        simp [hj]
    · cases z
set_option maxHeartbeats 1000000 in
theorem next_end {Q : Option Value → Shared → Prop} (hh : A.handled = none) (hTb : TbI t (es.map (·.1))) (hit : ItAt s.heap I a first es.size es.size ep) (hS : SetAt s.heap a es ep t) (W : Way w s.heap a es ep t pl T ord es.size first)
    (hQ : ∀ h', Heap.ExtBut I s.heap h' → Q none { s with heap := h' }) : wpAny (model prog w) A (pyNext (.ref I)) Q E s := by
  obtain ⟨o, ho, hc, hd⟩ := id hit
  have hf := hTb.fits
  have hol := ord_len W
  have fin : ∀ (h1 : Heap) (f : Value), ItAt h1 I a f es.size es.size ep → Heap.ExtBut I s.heap h1 → wpAny (model prog w) A.in1 (do
      setField (Value.ref I) 2 Value.none
      let e ← newExc (Value.type "StopIteration") []
      raiseNew e : Sem PySem.Fin) (fun fin s' => ∃ v, fin = PySem.Fin.done (Flow.ret v) ∧ wpAny (model prog w) A (pure (some v)) Q E s') (fun e s' => wpAny (model prog w) A (do
          let b ← isInstance e (Value.type "StopIteration")
          if b = true then pure none else throw e) Q E s') { s with heap := h1 } := fun h1 f hI1 hex => by
    obtain ⟨o1, ho1, hc1, hd1⟩ := hI1
    refine wpAny_bind (wpAny_setField (s := { s with heap := h1 }) ho1 hd1 (by simp) ?_)
    refine wpAny_bind ?_
    simp only [newExc, newTuple]
    refine wpAny_bind (wpAny_newObj_type ?_ (by size_fits))
    refine wpAny_bind (m := firstArgMember _ _) (wpAny_of_eq (a := Value.none) (by first | rfl | (simp only [firstArgMember]; rfl)) ?_)
    refine wpAny_newObj_type ?_ (by size_fits)
    simp only [raiseNew]
    refine wpAny_bind (wpAny_handled ?_)
    rw [show A.in1.handled = none from hh]
    refine wpAny_bind (wpAny_pure (wpAny_throw ?_))
    refine wpAny_bind (wpAny_isInstance (T := "StopIteration") (b := true) ⟨_, Heap.get?_push_size _ rfl, rfl⟩ isSubtype_stop ?_)
    refine wpAny_pure (hQ _ fun b ob hb hob => ?_)
    exact Heap.get?_push_of_some _ (Heap.get?_push_of_some _ ((Heap.get?_update_other _ _ (Ne.symm hb)).trans (hex b ob hb hob)))
  unfold pyNext
  refine wpAny_bind (wpAny_attempt (wpAny_callSpecial?_slot (name := Str.ofString "__next__") (ItAt.typeIs (h := s.heap) hit) F.slot_seti_next
    (wpAny_call_entry F.slot_seti_next (ItAt.typeIs (h := s.heap) hit) F.entry_seti_next ?_ (F.args_seti_next _))))
  unfold Builtin.«set_iterator.__next__»
  refine wpAny_bind (wpAny_of_eq (a := (Value.ref I, [])) rfl ?_)
  dsimp only
  refine wpAny_bind (wpAny_fieldsOf ho hd ?_)
  dsimp only
  refine wpAny_bind (entries_wp hS hf ?_)
  rw [if_neg (by simp)]
  rcases id W with ⟨hT, rfl, e⟩ | ⟨hT, rfl, hp, pp, e⟩ | ⟨hT, hl, h1, e, hw⟩
  · dsimp only
    unfold setNext
    obtain ⟨oa, hoa, _, hda⟩ := id hS
    refine wpAny_bind (wpAny_bind (wpAny_setState_of hoa hda hf ?_))
    dsimp only
    refine wpAny_bind (byText_wp ?_)
    rw [hT]
    simp only [if_true, Int.toNat_natCast, bne_self_eq_false, Bool.false_eq_true, if_false]
    unfold setWalk
    refine wpAny_bind (wpAny_bind (wpAny_setState_of hoa hda hf ?_))
    dsimp only
    refine wpAny_bind (byText_wp ?_)
    rw [hT]
    simp only [if_true]
    refine wpAny_bind (wpAny_askSetting (wpAny_pure ?_))
    refine wpAny_pure ?_
    have hy : (pickOrder (w.params.setOrder a ep) es)[es.size]? = none := by
      rw [Array.getElem?_eq_none_iff]
      rw [e, List.length_map, Array.length_toList] at hol
      omega
    have hy' : (pickOrder ({ program := (model prog w).prog, params := (model prog w).w.params : Setting }.params.setOrder a ep) es)[es.size]? = none := hy
    rw [hy']
    exact fin s.heap _ hit fun _ _ _ z => z
  · dsimp only
    obtain ⟨oT, hoT, _, nT, hdT⟩ := id hp
    refine wpAny_bind (wpAny_seqItems hoT hdT ?_)
    dsimp only
    have hpl : pl.length = es.size := by rw [pp.length_eq, List.length_range]
    have hx : (pl.map fun (j : Nat) => Value.int j 0).toArray[((es.size : Nat) : Int).toNat]? = none := by simp [hpl]
    rw [hx]
    dsimp only
    refine wpAny_bind (fld0 hit ?_)
    exact fin _ _ (set0 hit) fun b ob hb hob => (Heap.get?_update_other _ _ (Ne.symm hb)).trans hob
  · have hps : t.place.size = es.size := by have z := hTb.sz; rw [Array.size_map] at z; exact z
    have hk : ∃ k : Nat, first = .int k 0 ∧ es.size ≤ SetTable.below t.place k := by
      rcases hw with ⟨z, rfl⟩ | ⟨z, k, rfl, hk⟩
      · exact ⟨0, rfl, by omega⟩
      · refine ⟨k, rfl, ?_⟩
        have q := below_spec t.place hTb.tb.ri k
        rcases Nat.lt_or_ge (SetTable.below t.place k) es.size with y | y
        · have := q.2.2 (SetTable.below t.place k) (Nat.le_refl _) (by omega)
          have := hk (SetTable.below t.place k) (by omega)
          omega
        · exact y
    obtain ⟨k, rfl, hb⟩ := hk
    dsimp only
    unfold setNext
    obtain ⟨oa, hoa, _, hda⟩ := id hS
    refine wpAny_bind (wpAny_bind (wpAny_setState_of hoa hda hf ?_))
    dsimp only
    refine wpAny_bind (byText_wp ?_)
    rw [hT]
    refine wpAny_ite_split (fun hab => absurd hab (by decide)) fun _ => ?_
    refine wpAny_ite_split (fun hab => absurd hab (show ¬ ((!t.plain && decide (es.size > 1)) = true) from by simp; omega)) fun _ => ?_
    refine wpAny_bind (show wpAny (model prog w) A.in1 (if (!t.led && !es.isEmpty) = true then unsupported "set:maker-not-led" else pure ()) _ _ s from ?_)
    rw [hl]
    refine wpAny_ite_split (fun hab => absurd hab (by simp)) fun _ => ?_
    refine wpAny_pure (wpAny_pure ?_)
    rw [Int.toNat_natCast, Array.getElem?_eq_none_iff.mpr hb]
    exact fin s.heap _ hit fun _ _ _ z => z
theorem it_self {n : Nat} {Q : Value → Shared → Prop} (hit : ItAt s.heap I a first i n ep) (h : Q (.ref I) s) : wpAny (model prog w) A (pyIter (.ref I)) Q E s := by
  refine wpAny_pyIter_slot (ItAt.typeIs (h := s.heap) hit) F.slot_seti_iter (wpAny_call_entry F.slot_seti_iter (ItAt.typeIs (h := s.heap) hit) F.entry_seti_iter ?_ (F.args_seti_iter _))
  show wpAny _ _ (ret (.ref I)) _ _ s
  exact wpAny_pure ⟨_, rfl, "set_iterator", _, ItAt.typeIs (h := s.heap) hit, F.slot_seti_next.lookup, h⟩
theorem walks_set (hh : A.handled = none) (hTb : TbI t (es.map (·.1))) (hIT : I ≠ T) (hIa : I ≠ a) :
    Walks prog w A I [I, a, T] [I] es.size (fun i v => ord[i]? = some v) (fun i h => ∃ first, ItAt h I a first i es.size ep ∧ SetAt h a es ep t ∧ Way w h a es ep t pl T ord i first) where
  sub := fun b hb => by simp at hb; simp [hb]
  frame := fun i h h' ⟨first, ⟨o, ho, r⟩, ⟨o2, ho2, r2⟩, W⟩ hk => ⟨first, ⟨o, hk I (by simp) o ho, r⟩, ⟨o2, hk a (by simp) o2 ho2, r2⟩, by
    rcases W with z | ⟨z1, z2, ⟨o3, ho3, r3⟩, z4⟩ | z
    · exact .inl z
    · exact .inr (.inl ⟨z1, z2, ⟨o3, hk T (by simp) o3 ho3, r3⟩, z4⟩)
    · exact .inr (.inr z)⟩
  item := fun i s Q E hi ⟨first, hit, hS, W⟩ hQ => next_item hTb hIT hIa hit hS W hi fun v h' f' hv hit' W' sb => by
    obtain ⟨o2, ho2, r2⟩ := hS
    exact hQ v h' s.toks hv ⟨f', hit', ⟨o2, (sb.2 a (Ne.symm hIa)).trans ho2, r2⟩, W'⟩ fun b o hb ho => (sb.2 b (by simpa using hb)).trans ho
  done := fun s Q E ⟨first, hit, hS, W⟩ hQ => next_end hh hTb hit hS W fun h' hx => hQ h' s.toks fun b o hb ho => hx b o (by simpa using hb) ho
  self := fun i s Q E ⟨first, hit, hS, W⟩ h => it_self hit h
end
end SetP
namespace SetP
open PySem
section
variable {prog : Program} {w : World} {A : Around} {E : Value → Shared → Prop} {s : Shared} {a : Addr} {ep : Nat} {es : Array (Int × Value)} {t : SetTable}
theorem SetAt.push {h : Heap} (x : SetAt h a es ep t) (o : Obj) : SetAt (h.push o) a es ep t := let ⟨o', ho, r⟩ := x; ⟨o', Heap.get?_push_of_some _ ho, r⟩
set_option maxHeartbeats 1000000 in
theorem iter_wp {Q : Value → Shared → Prop} (hTb : TbI t (es.map (·.1))) (hS : SetAt s.heap a es ep t) (hl : t.led = !w.params.followText "set-order") (hp : 1 ≤ es.size → t.plain = false) (hsz : es.size < 1000)
    (hQ : ∀ I T first pl ord h' dr, s.heap.objs.size ≤ I → s.heap.objs.size ≤ T → I ≠ T → (∀ b o, s.heap.get? b = some o → h'.get? b = some o) → ItAt h' I a first 0 es.size ep → SetAt h' a es ep t → Way w h' a es ep t pl T ord 0 first → Q (.ref I) { s with heap := h', drawn := dr }) :
    wpAny (model prog w) A (pyIter (.ref a)) Q E s := by
  obtain ⟨o, ho, hc, hd⟩ := id hS
  have hT : s.TypeIs (.ref a) "set" := ⟨o, ho, hc⟩
  have hf := hTb.fits
  refine wpAny_pyIter_slot hT F.slot_set_iter (wpAny_call_entry F.slot_set_iter hT F.entry_set_iterA ?_ (F.args_set_iter_1 _))
  unfold Builtin.«frozenset.__iter__»
  refine wpAny_bind (wpAny_of_eq (a := a) rfl ?_)
  dsimp only
  refine wpAny_bind (m := Builtin.Frozenset.sizeOf a) (show wpAny _ _ (setEntries a >>= fun es => pure es.size) _ _ _ from wpAny_bind (entries_wp hS hf (wpAny_pure ?_)))
  refine wpAny_bind (m := setDrawn a) (show wpAny _ _ (setState a >>= fun q => setsByText >>= fun b => pure (!b && (!q.2.2.plain && decide (q.1.size > 1)))) _ _ _ from wpAny_bind (wpAny_setState_of ho hd hf (wpAny_bind (byText_wp (wpAny_pure ?_)))))
  have ept : ∀ {A' : Around} {E' : Value → Shared → Prop} {s' : Shared} {Q' : Nat → Shared → Prop}, SetAt s'.heap a es ep t → Q' ep s' → wpAny (model prog w) A' (setEpoch a) Q' E' s' := fun {A' E' s' Q'} ⟨o', ho', _, hd'⟩ q => by
    unfold setEpoch
    exact wpAny_bind (wpAny_setState_of ho' hd' hf (wpAny_pure q))
  by_cases hdr : (!w.params.followText "set-order" && (!t.plain && decide (es.size > 1))) = true
  · rw [if_pos hdr]
    have h1 : w.params.followText "set-order" = false := by simpa using (Bool.and_eq_true_iff.mp hdr).1
    refine wpAny_bind (draw_wp _ _ _ _ (List.length_range) fun l dr hp => ?_)
    have hl2 : l.length = es.size := by rw [hp.length_eq, List.length_range]
    refine wpAny_bind (wpAny_newObj_type (T := "tuple") (data := .seq (l.map fun (i : Nat) => rawInt i).toArray) ?_ (by show (l.map fun (i : Nat) => rawInt i).toArray.size ≤ sizeLine; simp only [List.size_toArray, List.length_map]; rw [sizeLine_eq]; omega))
    refine wpAny_bind (ept (SetAt.push hS _) ?_)
    refine wpAny_bind (wpAny_newObj_type ?_ (by size_fits))
    refine wpAny_pure ⟨_, rfl, "set_iterator", _, ⟨_, Heap.get?_push_size _ rfl, rfl⟩, F.slot_seti_next.lookup, ?_⟩
    have e1 : ∀ o, (s.heap.push o).objs.size = s.heap.objs.size + 1 := fun o => Heap.size_push _ _
    refine hQ _ s.heap.objs.size (.ref s.heap.objs.size) l _ _ dr (by rw [e1]; omega) (Nat.le_refl _) (by rw [e1]; omega) (fun b o q => Heap.get?_push_of_some _ (Heap.get?_push_of_some _ q)) ⟨_, Heap.get?_push_size _ rfl, rfl, rfl⟩ (SetAt.push (SetAt.push hS _) _) (.inr (.inl ⟨h1, rfl, ⟨_, Heap.get?_push_of_some _ (Heap.get?_push_size _ rfl), rfl, 0, rfl⟩, hp, rfl⟩))
  · rw [if_neg hdr]
    refine wpAny_bind (wpAny_pure ?_)
    refine wpAny_bind (ept hS ?_)
    refine wpAny_bind (wpAny_newObj_type ?_ (by size_fits))
    refine wpAny_pure ⟨_, rfl, "set_iterator", _, ⟨_, Heap.get?_push_size _ rfl, rfl⟩, F.slot_seti_next.lookup, ?_⟩
    cases h1 : w.params.followText "set-order" with
    | true => exact hQ s.heap.objs.size (s.heap.objs.size + 1) (.int 0 0) [] _ _ s.drawn (Nat.le_refl _) (by omega) (by omega) (fun b o q => Heap.get?_push_of_some _ q) ⟨_, Heap.get?_push_size _ rfl, rfl, rfl⟩ (SetAt.push hS _) (.inl ⟨h1, rfl, rfl⟩)
    | false =>
      rw [h1] at hl hdr
      refine hQ s.heap.objs.size (s.heap.objs.size + 1) (.int 0 0) [] _ _ s.drawn (Nat.le_refl _) (by omega) (by omega) (fun b o q => Heap.get?_push_of_some _ q) ⟨_, Heap.get?_push_size _ rfl, rfl, rfl⟩ (SetAt.push hS _) (.inr (.inr ⟨h1, hl, ?_, rfl, .inl ⟨rfl, rfl⟩⟩))
      rcases Nat.lt_or_ge 1 es.size with q | q
      · exfalso
        apply hdr
        rw [hp (by omega)]
        simp [q]
      · exact q
end
end SetP
namespace SetP
open PySem PySem.W PyProof.Rows
section
variable {prog : Program} {w : World} {A : Around} {E : Value → Shared → Prop} {s : Shared} {a : Addr} {ep : Nat} {es : Array (Int × Value)} {t : SetTable}
theorem hint_set {Q : Bool → Shared → Prop} (hT : s.TypeIs (.ref a) "set") (h : Q false s) : wpAny (model prog w) A (Builtin.List.listLengthHint (.ref a)) Q E s := by
  unfold Builtin.List.listLengthHint
  refine wpAny_bind (wpAny_specialOf hT PySem.F.slot_set_len.lookup ?_)
  generalize hid : ("set.__len__" : String) = id0
  wp_delta
  rw [show splitId id0 = some ("set", "__len__") from by subst hid; decide +kernel]
  subst hid
  refine wpAny_bind (wpAny_isInstance (T := "set") (b := true) hT (by rw [isSubtype_type]; kernel_rfl) ?_)
  refine wpAny_ite_split (fun hab => absurd hab (by decide)) (fun _ => ?_)
  refine wpAny_ite_split (fun _ => ?_) (fun hab => absurd (by decide +kernel) hab)
  refine wpAny_bind (wpAny_typeOf hT ?_)
  exact wpAny_pure h
theorem items_eq {ord : List Value} {acc : Array Value} (h : ItemsOf (fun i v => ord[i]? = some v) acc ord.length) : acc.toList = ord := by
  apply List.ext_getElem? fun j => ?_
  rcases Nat.lt_or_ge j acc.size with hj | hj
  · have e : acc[j]? = some acc[j] := Array.getElem?_eq_getElem hj
    rw [h.2 j _ e, Array.getElem?_toList, e]
  · rw [List.getElem?_eq_none (by simpa using hj), List.getElem?_eq_none (by have := h.1; omega)]
theorem extend_set {R : Result → Shared → Prop} (hh : A.handled = none) (hTb : TbI t (es.map (·.1))) (hA : SetAt s.heap a es ep t) (hl : t.led = !w.params.followText "set-order") (hp : 1 ≤ es.size → t.plain = false) (hsz : es.size < 1000)
    (S : Addr) (hSa : S ≠ a) (res : Value) (c₀ : Nat) (hS : s.heap.get? S = some { cls := .type "list", data := .seq #[] c₀ })
    (hR : ∀ h' tk dr acc' c', (∀ b o, b ≠ S → s.heap.get? b = some o → h'.get? b = some o) → h'.get? S = some { cls := .type "list", dict := none, data := .seq acc' c', slots := #[] } → acc'.toList.Perm (es.toList.map (·.2)) → R (.ok (.ret res)) { s with heap := h', toks := tk, drawn := dr }) :
    wpAny (model prog w) A.in1 (Builtin.List.listExtendWith (.ref S) (.ref a) res)
      (fun fin s' => match fin with | .done f => R (.ok f) s' | .again c' => c'.quiet = true ∧ codeAny (model prog w) A c' R s') (fun e s' => R (.error e) s') s := by
  have hn : es.size ≤ sizeLine := by rw [sizeLine_eq]; omega
  have hTy : s.TypeIs (.ref a) "set" := let ⟨o, ho, hc, _⟩ := hA; ⟨o, ho, hc⟩
  unfold Builtin.List.listExtendWith
  refine wpAny_bind (wpAny_typeOf (T := "set") hTy ?_)
  have h1 : Builtin.List.listSameRef (.ref S) (.ref a) = false := by simp [Builtin.List.listSameRef, hSa]
  have h2 : (Value.type "set" == Value.type "list") = false := by decide
  have h3 : (Value.type "set" == Value.type "tuple") = false := by decide
  simp only [h1, h2, h3, Bool.or_false, Bool.false_eq_true, if_false]
  refine wpAny_bind (iter_wp hTb hA hl hp hsz fun I T first pl ord h1 dr hI hT hIT kp hit hA1 W => ?_)
  have hSl := Heap.lt_size hS
  have hSI : S ≠ I := Nat.ne_of_lt (Nat.lt_of_lt_of_le hSl hI)
  have hST : S ≠ T := Nat.ne_of_lt (Nat.lt_of_lt_of_le hSl hT)
  have hIa : I ≠ a := by
    obtain ⟨o, ho, _⟩ := hA
    exact Nat.ne_of_gt (Nat.lt_of_lt_of_le (Heap.lt_size ho) hI)
  have hWk := walks_set (prog := prog) (A := A.in1) (w := w) (ep := ep) (pl := pl) (ord := ord) (T := T) hh hTb hIT hIa
  have hol := ord_len (s := { s with heap := h1 }) W
  have hop := ord_perm (s := { s with heap := h1 }) W
  have hS1 := kp S _ hS
  have hSf : S ∉ [I, a, T] := by simp only [List.mem_cons, List.not_mem_nil, or_false, not_or]; exact ⟨hSI, hSa, hST⟩
  have key : ∀ (h : Heap) (c₁ tk : Nat), (∃ first, ItAt h I a first 0 es.size ep ∧ SetAt h a es ep t ∧ Way w h a es ep t pl T ord 0 first) → (∀ b o, b ≠ S → s.heap.get? b = some o → h.get? b = some o) →
      h.get? S = some { cls := .type "list", data := .seq #[] c₁ } → codeAny (model prog w) A (.builtin "list.extend.loop" ⟨[.ref S, .ref I, res], []⟩) R { s with heap := h, toks := tk, drawn := dr } := by
    intro h c₁ tk hst hk hS₁
    refine codeAny_extend_loopS hWk.toS hn S hSf res es.size 0 _ #[] c₁ rfl (Nat.zero_le _) hst hS₁ (ItemsOf.nil _) fun s' acc' c' hm hS' hacc => ?_
    rw [Moved.eq_with hm]
    refine hR s'.heap s'.toks dr acc' c' (fun b o hb e => hm.heap b o (fun hmem => ?_) (hk b o hb e)) hS' ?_
    · rcases List.mem_cons.mp hmem with e' | hmem
      · exact hb e'
      · exact absurd (Heap.lt_size e) (by rw [List.mem_singleton.mp hmem]; exact Nat.not_lt.mpr hI)
    · rw [← hol] at hacc
      rw [items_eq hacc]
      exact hop
  refine wpAny_bind (wpAny_holding (hint_set (s := { s with heap := h1, drawn := dr }) (let ⟨o, ho, hc, _⟩ := hA1; ⟨o, ho, hc⟩) ?_))
  refine wpAny_ite_split (fun _ => ?_) (fun _ => wpAny_pure ⟨plainId_quiet PySem.F.plain_extend_loop _, key _ c₀ s.toks ⟨first, hit, hA1, W⟩ (fun b o _ e => kp b o e) hS1⟩)
  refine wpAny_bind (wpAny_rule ?_)
  refine wpAny_bind ?_
  show wpAny _ _ (updateSeq S (·.push .none) >>= fun _ => updateSeq S (·.pop)) _ _ _
  refine wpAny_bind (wpAny_updateSeq (s := { s with heap := h1, drawn := dr }) hS1 rfl ?_)
  have hS₂ := Heap.get?_update_self (Obj.mapSeq (·.push Value.none)) hS1 rfl
  refine wpAny_updateSeq (s := { s with heap := h1.update S (Obj.mapSeq (·.push Value.none)), drawn := dr }) (hz := by seq_fits) hS₂ rfl ?_
  have hS₃ := Heap.get?_update_self (Obj.mapSeq (·.pop)) hS₂ rfl
  refine wpAny_pure ⟨plainId_quiet PySem.F.plain_extend_loop _, key _ _ s.toks ?_ (fun b o hb e => ?_) hS₃⟩
  · refine hWk.frame 0 _ _ ⟨first, hit, hA1, W⟩ fun b hb o e => ?_
    have hbS : b ≠ S := fun h => hSf (h ▸ hb)
    exact (Heap.get?_update_other _ _ (Ne.symm hbS)).trans ((Heap.get?_update_other _ _ (Ne.symm hbS)).trans e)
  · exact (Heap.get?_update_other _ _ (Ne.symm hb)).trans ((Heap.get?_update_other _ _ (Ne.symm hb)).trans (kp b o e))
theorem collect_set {R : List Value → Shared → Prop} {ld : Bool} (hh : A.handled = none) (hS : SI ld s.heap a es) (hl : ld = !w.params.followText "set-order") (hsz : es.size < 1000)
    (h : ∀ h' tk dr acc, (∀ b o, s.heap.get? b = some o → h'.get? b = some o) → acc.Perm (es.toList.map (·.2)) → R acc { s with heap := h', toks := tk, drawn := dr }) : wpAny (model prog w) A (collect (.ref a)) R E s := by
  obtain ⟨oa, ep, t, hoa, hex, hda, hTb, _, _, _, _, hL, hP⟩ := hS
  have hA : SetAt s.heap a es ep t := ⟨oa, hoa, hex.1, hda⟩
  unfold collect
  refine wpAny_bind (wpAny_runValue (codeAny_builtin entry_proto_collect' ?_))
  rw [Around.under_plainId PySem.F.plain_proto_collect _]
  show wpAny _ A.in1 (newList [] >>= fun l => again (.builtin "list.__iadd__" ⟨[l, .ref a], []⟩)) _ _ s
  refine wpAny_bind (wpAny_newObj_type ?_)
  refine wpAny_pure ⟨plainId_quiet PySem.F.plain_list_iadd _, codeAny_builtin entry_list_iadd' ?_⟩
  rw [Around.under_plainId PySem.F.plain_list_iadd _]
  have hS₁ : (s.heap.push { cls := .type "list", data := .seq ([] : List Value).toArray }).get? s.heap.objs.size = some { cls := .type "list", data := .seq #[] } := Heap.get?_push_size _ rfl
  show wpAny _ A.in1 (Builtin.List.listExtendWith (.ref s.heap.objs.size) (.ref a) (.ref s.heap.objs.size)) _ _ _
  have key := extend_set (A := A) (w := w) (prog := prog) (s := { s with heap := s.heap.push { cls := .type "list", data := .seq ([] : List Value).toArray } })
    (R := fun (q : Result) (s' : Shared) => ∃ (h' : Heap) (tk : Nat) (dr : _) (acc' : Array Value) (c' : Nat), q = .ok (.ret (.ref s.heap.objs.size)) ∧ s' = { s with heap := h', toks := tk, drawn := dr } ∧
      (∀ b o, s.heap.get? b = some o → h'.get? b = some o) ∧ h'.get? s.heap.objs.size = some { cls := .type "list", dict := none, data := .seq acc' c', slots := #[] } ∧ acc'.toList.Perm (es.toList.map (·.2)))
    hh hTb (SetAt.push hA _) (hL.trans hl) hP hsz s.heap.objs.size (Nat.ne_of_gt (Heap.lt_size hoa)) (.ref s.heap.objs.size) 0 hS₁
    (fun h' tk dr acc' c' hk hS' hacc => ⟨h', tk, dr, acc', c', rfl, rfl, fun b o e => hk b o (Nat.ne_of_lt (Heap.lt_size e)) (Heap.get?_push_of_some _ e), hS', hacc⟩)
  refine wpAny_mono key (fun fin s' x => ?_) fun e s' x => ?_
  · cases fin with
    | done f =>
      obtain ⟨h', tk, dr, acc', c', e, rfl, hk, hS', hacc⟩ := x
      cases e
      show wpAny _ A (load s.heap.objs.size >>= _) _ _ _
      refine wpAny_bind (wpAny_load hS' ?_)
      exact wpAny_pure (h h' tk dr _ hk hacc)
    | again c₁ =>
      refine ⟨x.1, codeAny_mono x.2 fun q s₂ y => ?_⟩
      obtain ⟨h', tk, dr, acc', c', rfl, rfl, hk, hS', hacc⟩ := y
      show wpAny _ A (load s.heap.objs.size >>= _) _ _ _
      refine wpAny_bind (wpAny_load hS' ?_)
      exact wpAny_pure (h h' tk dr _ hk hacc)
  · obtain ⟨_, _, _, _, _, e', _⟩ := x
    cases e'
end
end SetP
/-! set(list of tuples), sorted(set): the rules -/
namespace L2
open PySem PySem.Spec PyProof.Rows SetP
theorem Inv.drw {X : Cx} {pins : List (Addr × Obj)} {σ : St} {H : Hp} {s : Shared} (I : Inv X pins σ H s) (dr : _) : Inv X pins σ H { s with drawn := dr } :=
  ⟨I.ok, I.os, I.bare, I.base, I.loc, I.cell, I.free, I.freeC, I.pin, I.hok, I.len⟩
/-- the set at a: its members -/
def SetO (ld : Bool) (a : Addr) (zs : List V) : HO := .ext fun h => ∃ es, SI ld h a es ∧ es.size < 1000 ∧ Vals zs (es.toList.map (·.2))
theorem est_split {w : World} {K : PySem.W.Frag} {H : Hp} : ∀ {es : List (Int × Value)} {tr : List Tr}, EsT w K H es tr → ∃ zs, Vals zs (es.map (·.2)) ∧ Ts K H tr zs
  | _, _, .nil => ⟨[], .nil, rfl, fun i h => by simp at h⟩
  | _, _, .cons h t => by
    obtain ⟨_, _, y, hy, ry⟩ := h
    obtain ⟨zs, hv, hl, hT⟩ := est_split t
    refine ⟨y :: zs, .cons ry hv, by simp [hl], fun i h1 h2 => ?_⟩
    match i with
    | 0 => exact hy
    | i + 1 => exact hT i (by simpa using h1) (by simpa using h2)
theorem ts_join {K : PySem.W.Frag} {H : Hp} : ∀ {tr : List Tr} {zs : List V} {us : List Value}, Ts K H tr zs → Vals zs us → Paired (fun (u : Value) (t : Tr) => ∃ y, IsD K H t.toD y ∧ RelV y u) us tr
  | [], [], _, _, .nil => .nil
  | [], _ :: _, _, h, _ => by have := h.1; simp at this
  | _ :: _, [], _, h, _ => by have := h.1; simp at this
  | t :: tr, z :: zs, _, h, .cons r q => .cons ⟨z, h.2 0 (by simp) (by simp), r⟩ (ts_join (tr := tr) (zs := zs) ⟨by have := h.1; simpa using this, fun i h1 h2 => h.2 (i + 1) (by simpa using h1) (by simpa using h2)⟩ q)
theorem ts_part {K : PySem.W.Frag} {H : Hp} : ∀ {us : List Value} {tr : List Tr}, Paired (fun (u : Value) (t : Tr) => ∃ y, IsD K H t.toD y ∧ RelV y u) us tr → ∃ zs, Vals zs us ∧ Ts K H tr zs
  | _, _, .nil => ⟨[], .nil, rfl, fun i h => by simp at h⟩
  | _, _, .cons h t => by
    obtain ⟨y, hy, ry⟩ := h
    obtain ⟨zs, hv, hl, hT⟩ := ts_part t
    refine ⟨y :: zs, .cons ry hv, by simp [hl], fun i h1 h2 => ?_⟩
    match i with
    | 0 => exact hy
    | i + 1 => exact hT i (by simpa using h1) (by simpa using h2)
theorem ts_perm {K : PySem.W.Frag} {H : Hp} {tr : List Tr} {zs : List V} {us us' : List Value} (hT : Ts K H tr zs) (hv : Vals zs us) (p : us'.Perm us) : ∃ tr' zs', tr'.Perm tr ∧ Vals zs' us' ∧ Ts K H tr' zs' := by
  obtain ⟨tr', p1, p2⟩ := paired_perm p (ts_join hT hv)
  obtain ⟨zs', h1, h2⟩ := ts_part p2
  exact ⟨tr', zs', p1, h1, h2⟩
theorem si_fresh {h : Heap} {a : Addr} {ld : Bool} (e : h.get? a = some { cls := .type "set", dict := none, data := .set #[] 0 (.fresh 0 0 ld) }) : SI ld h a #[] :=
  ⟨_, 0, .fresh 0 0 ld, e, ⟨rfl, rfl, rfl⟩, rfl, ⟨⟨fun i j _ hj => absurd hj (by simp [SetTable.fresh]), rfl⟩, by simp [SetTable.fresh], fun i hi => absurd hi (by simp [SetTable.fresh]), by simp, ⟨3, rfl⟩, fun i hi => absurd hi (by simp)⟩, by simp [SetTable.fresh], by simp [SetTable.fresh], by simp [SetTable.fresh], fun i hi => absurd hi (by simp), rfl, fun z => absurd z (by simp)⟩
section
variable {X : Cx}
def rSetT (K : PySem.W.Frag) (ld : Bool) : List V → Hp → VK → Prop := fun xs H Q => ∃ l ys ts, xs = [.ref l] ∧ SqL K H l ys ∧ Ts K H ts ys ∧ ys.length < 900 ∧ (∀ t ∈ ts, (∃ q, t = .tup q) ∧ t.toD.deep ≤ 8 ∧ byVal t = false) ∧
  ∀ p zs tr, H p = none → Ts K H tr zs → tr.Perm (dd ts) → Q (.ref p) (upd H p (SetO ld p zs))
theorem call_setT {ld : Bool} (hu : X.A.units + 80 < cLine) (hc : X.calm = true) (hld : ld = !X.w.params.followText "set-order") : CallR X (.type "set") (rSetT X.K ld) := by
  subst hld
  intro pins s σ H xs us Q I rx h
  obtain ⟨l, ys, ts, rfl, hq, hT, h9, htp, q⟩ := h
  obtain ⟨u, rfl, ru⟩ := vals1 rx
  cases ru
  obtain ⟨its, r, pl, hz⟩ := I.list hq
  have hlen := r.length
  refine call_set_1 (led := !X.w.params.followText "set-order") pl.isList rfl ?_
  refine codeAny_builtin entry_upd ?_
  rw [Around.under_plainId plain_upd _]
  have e1 : (s.heap.push { cls := .type "set", dict := none, data := .set #[] 0 (.fresh 0 0 (!X.w.params.followText "set-order")) }).get? s.heap.objs.size = some { cls := .type "set", dict := none, data := .set #[] 0 (.fresh 0 0 (!X.w.params.followText "set-order")) } := Heap.get?_push_size _ rfl
  have e2 : (s.heap.push { cls := .type "set", dict := none, data := .set #[] 0 (.fresh 0 0 (!X.w.params.followText "set-order")) }).objs.size = s.heap.objs.size + 1 := Heap.size_push _ _
  have e3 : ((s.heap.push { cls := .type "set", dict := none, data := .set #[] 0 (.fresh 0 0 (!X.w.params.followText "set-order")) }).push { cls := .type "list_iterator", data := .fields #[.ref l, .int 0 0] }).get? (s.heap.objs.size + 1) = some { cls := .type "list_iterator", data := .fields #[.ref l, .int 0 0] } := by
    rw [← e2]
    exact Heap.get?_push_size _ rfl
  refine upd_loop (ld := !X.w.params.followText "set-order") (l := l) (ts := ts) (ys := ys) (its := its) I (A := X.A.in1.in1) (by show X.A.units + 1 + 1 + 60 < cLine; omega) (I.ok.hd hc) pl.isList r hT (by omega) htp (Nat.le_refl _) (Nat.le_succ _) (Nat.ne_of_lt (Nat.lt_succ_self _)) ?_ its.length 0 _ s.toks #[] [] (by omega) (Nat.zero_le _) (fun b o z => Heap.get?_push_of_some _ (Heap.get?_push_of_some _ z)) ⟨_, e3, rfl, rfl⟩ (si_fresh (Heap.get?_push_of_some _ e1)) .nil (.refl _)
  intro h' tk es tr kp hS hE hp
  obtain ⟨zs, hv, hT'⟩ := est_split hE
  have hsz : es.size < 1000 := by
    have z1 := Paired.length hE
    have z2 := hp.length_eq
    have z3 := dd_len ts ts.length (Nat.le_refl _)
    rw [List.take_length] at z3
    have z4 : es.toList.length = es.size := by simp
    have z5 := hT.1
    omega
  have hok : ∃ es, SI (!X.w.params.followText "set-order") h' s.heap.objs.size es ∧ es.size < 1000 ∧ Vals zs (es.toList.map (·.2)) := ⟨es, hS, hsz, hv⟩
  refine ⟨.ref s.heap.objs.size, _, I.laid (o := SetO (!X.w.params.followText "set-order") s.heap.objs.size zs) (t' := tk) kp (Nat.le_refl _) (show ObjOk _ _ _ _ _ (.ext _) from ⟨hok, ?_, fun h1 h2 z k => ?_⟩), rfl, q _ zs tr (I.hok.fresh (Nat.le_refl _)) hT' hp⟩
  · obtain ⟨o, _, _, ho, _⟩ := hS
    exact ⟨o, ho⟩
  · obtain ⟨es2, ⟨o, ep, t, ho, r⟩, r2⟩ := z
    exact ⟨es2, ⟨o, ep, t, k _ ho, r⟩, r2⟩
/-- sorted(a set of tuples) -/
def rSortS (K : PySem.W.Frag) (ld : Bool) : List V → Hp → VK → Prop := fun xs H Q => ∃ r zs tr k, xs = [.ref r] ∧ H r = some (SetO ld r zs) ∧ Ts K H tr zs ∧ tr.length < 64 ∧ (k = 1 ∨ k = 2) ∧ (∀ t ∈ tr, hdK t = k ∧ t.toD.deep ≤ 18) ∧ (∀ t ∈ tr, ∀ u ∈ tr, shT t u = true) ∧
  ∀ p ys', H p = none → Ts K H (srtT tr) ys' → Q (.ref p) (upd H p (.lst ys'))
theorem call_sortedS {ld : Bool} (hu : X.A.units + 64 < cLine) (hc : X.calm = true) (hld : ld = !X.w.params.followText "set-order") : CallR X (.builtin "sorted") (rSortS X.K ld) := by
  subst hld
  intro pins s σ H xs us Q I rx h
  obtain ⟨r, zs, tr, k, rfl, hr, hT, h64, hk, hd, hsh, q⟩ := h
  obtain ⟨u, rfl, ru⟩ := vals1 rx
  cases ru
  obtain ⟨es, hS, hsz, hv⟩ := (show ObjOk X.prog X.w H s.heap r (.ext _) from I.hok r _ hr).1
  refine Calls.call_function_entry kind_sorted plain_sorted entry_sorted (args_sorted1 _) ?_
  unfold Builtin.«sorted»
  refine wpAny_bind (m := checkCount "sorted" 1 1 _) (wpAny_pure ?_)
  refine wpAny_bind (collect_set (A := X.A.in1) (I.ok.hd hc) hS rfl hsz fun h' tk dr acc kp pa => ?_)
  have I1 : Inv X pins σ H { s with heap := h', toks := tk, drawn := dr } := (I.kept (t' := tk) kp).drw dr
  obtain ⟨tr', zs', p1, hv', hT'⟩ := ts_perm hT hv pa
  have hl' : acc.length = tr'.length := by rw [← hv'.length]; exact hT'.1.symm
  have hl2 := p1.length_eq
  refine wpAny_bind (wpAny_newList ?_ (by rw [sizeLine_eq]; omega))
  have hbody : ∀ E', wpAny (model X.prog X.w) X.A.in1.in1 (Builtin.«list.sort» ⟨[.ref h'.objs.size], []⟩) _ E' { s with heap := h'.push (seqObj "list" acc.toArray 0), toks := tk, drawn := dr } := fun E' =>
    srt_new (s := { s with heap := h', toks := tk, drawn := dr }) (k := k) (ts := tr') (P := fun fin s' => fin = .done (.ret .none) ∧ EP X pins σ Q (.ref h'.objs.size) s') (E := E') (by show X.A.units + 1 + 1 + 45 < cLine; omega) I1 hv' hT' (by omega) hk
      (fun t ht => hd t (p1.mem_iff.mp ht)) (fun t ht u hu' => hsh t (p1.mem_iff.mp ht) u (p1.mem_iff.mp hu'))
      fun ys' s' I2 hts => ⟨rfl, .ref h'.objs.size, _, I2, rfl, q _ _ (I1.hok.fresh (Nat.le_refl _)) (by rw [← srtT_congr p1]; exact hts)⟩
  refine wpAny_bind (wpAny_holding (wpAny_call_entry slot_list_sort ⟨_, Heap.get?_push_size _ rfl, rfl⟩ entry_list_sort ?body (args_list_sort _)))
  case body =>
    refine wpAny_mono (hbody _) (fun fin s' z => ?_) fun _ _ z => z
    obtain ⟨rfl, z⟩ := z
    exact ⟨_, rfl, wpAny_pure ⟨_, rfl, z⟩⟩
end
end L2
/-! f'.. {x!r}' of a tuple of texts -/
namespace L2
open PySem PySem.Spec PyProof.Rows
mutual
def toP : Tr → PyData
  | .int i => .int i
  | .str x => .str x
  | .tup l => .tuple (toPs l)
def toPs : List Tr → List PyData
  | [] => []
  | t :: r => toP t :: toPs r
end
mutual
theorem toP_depth : ∀ t : Tr, (toP t).depth = t.toD.deep
  | .int i => rfl
  | .str x => rfl
  | .tup l => by
    show PyData.depthAll (toPs l) + 1 = Dt.deeps (Tr.toDs l) + 1
    rw [toPs_depth l]
theorem toPs_depth : ∀ l : List Tr, PyData.depthAll (toPs l) = Dt.deeps (Tr.toDs l)
  | [] => rfl
  | t :: r => by
    show max (toP t).depth (PyData.depthAll (toPs r)) = max t.toD.deep (Dt.deeps (Tr.toDs r))
    rw [toP_depth t, toPs_depth r]
end
mutual
theorem toP_nodict : ∀ t : Tr, (toP t).hasDict = false
  | .int i => rfl
  | .str x => rfl
  | .tup l => by
    show PyData.hasDictAll (toPs l) = false
    exact toPs_nodict l
theorem toPs_nodict : ∀ l : List Tr, PyData.hasDictAll (toPs l) = false
  | [] => rfl
  | t :: r => by
    show ((toP t).hasDict || PyData.hasDictAll (toPs r)) = false
    rw [toP_nodict t, toPs_nodict r]
    rfl
end
section
variable {X : Cx} {pins : List (Addr × Obj)} {σ : St} {H : Hp} {s : Shared}
mutual
theorem reads_of (I : Inv X pins σ H s) : ∀ (t : Tr) {x : V} {u : Value}, IsD X.K H t.toD x → RelV x u → ∃ as, Reads s.heap u (toP t) as
  | .int i, x, u, h, r => by
    simp only [Tr.toD] at h
    cases h
    obtain ⟨t, rfl⟩ := r
    exact ⟨_, .int i t⟩
  | .str i, x, u, h, r => by
    simp only [Tr.toD] at h
    cases h
    obtain ⟨t, rfl⟩ := r
    exact ⟨_, .str i t⟩
  | .tup l, x, u, h, r => by
    obtain ⟨p, ys, its, rfl, ⟨o, ho, hc, n, hd⟩, rv, hT⟩ := tup_at I h r
    obtain ⟨as, z⟩ := readsAll_of I l hT rv
    exact ⟨as, .tuple ho hc hd z⟩
theorem readsAll_of (I : Inv X pins σ H s) : ∀ (l : List Tr) {ys : List V} {its : List Value}, Ts X.K H l ys → Vals ys its → ∃ as, ReadsAll s.heap its (toPs l) as
  | [], [], _, _, .nil => ⟨_, .nil⟩
  | [], _ :: _, _, h, _ => by have := h.1; simp at this
  | _ :: _, [], _, h, _ => by have := h.1; simp at this
  | t :: l, y :: ys, _, h, .cons r q => by
    obtain ⟨as, z⟩ := reads_of I t (h.2 0 (by simp) (by simp)) r
    obtain ⟨bs, z2⟩ := readsAll_of I l (ys := ys) ⟨by have := h.1; simpa using this, fun i h1 h2 => h.2 (i + 1) (by simpa using h1) (by simpa using h2)⟩ q
    exact ⟨_, .cons z z2⟩
end
end
section
variable {X : Cx} {e : Expr} {te : TE} {pre : Str} {j : Nat} {p1 p2 p3 : Pos}
def tFrep (K : PySem.W.Frag) (te : TE) : TE := fun σ H Q => te σ H fun y H1 => ∃ l, IsD K H1 (Tr.tup l).toD y ∧ (Tr.tup l).toD.deep ≤ 18 ∧ (toP (.tup l)).showable = true ∧ (toP (.tup l)).shown.length ≤ 1000000 ∧ ∀ x, Q (.str x) H1
theorem pe_frep (hg : X.A.guards = some []) (hu : X.A.units + 64 < cLine) (he : PE X e te) (hp : pre.length ≤ 1000 := by decide) : PE X (.JoinedStr [.Constant (.str pre) j p1, .FormattedValue e 114 none p2] p3) (tFrep X.K te) := by
  intro pins s σ H Q I h
  refine wpAny_JoinedStr ?_
  refine Calls.Constant_str ⟨pre, _, rfl, ?_, ?_⟩
  · show (Str.empty ++ pre).length ≤ sizeLine
    rw [strLen_append, sizeLine_eq]
    have : Str.empty.length = 0 := rfl
    omega
  refine wpAny_FormattedValue_repr (thn (he pins _ σ H _ (I.tok _) h) fun u s1 ⟨y, H1, I1, r1, l, hd, hdp, hs, hz, q⟩ => ?_)
  obtain ⟨as, rd⟩ := reads_of I1 (.tup l) hd r1
  obtain ⟨p, _, _, rfl, _⟩ := tup_at I1 hd r1
  have hdep := toP_depth (.tup l)
  refine pyReprObj_of_reads rd hs (fun z => by rw [toP_nodict] at z; cases z) hg (by rw [hdep]; omega) (fun _ _ z => z) (fun h' tk t' kp => ?_) (by rw [sizeLine_eq]; omega)
  have hlen : (Str.empty ++ pre ++ (toP (.tup l)).shown).length ≤ sizeLine := by
    rw [strLen_append, strLen_append, sizeLine_eq]
    have : Str.empty.length = 0 := rfl
    omega
  exact wpAny_formatField_str ⟨_, _, rfl, hlen, hlen, .str _, H1, I1.kept kp, ⟨_, rfl⟩, q _⟩ ⟨_, _, rfl, hlen, hlen, .str _, H1, I1.kept kp, ⟨_, rfl⟩, q _⟩ (by rw [sizeLine_eq]; omega)
end
/-- a fact's tree -/
def ftT (k : Str) (as : List Str) : Tr := .tup [.str k, .tup (as.map .str)]
def Shw (x : Str) : Prop := x.length ≤ 100 ∧ ∀ c ∈ x.cps.toList, c < 16 ^ 8
theorem shown_strs : ∀ (as : List Str), (∀ a ∈ as, Shw a) → PyData.showableAll (toPs (as.map .str)) = true ∧ ((PyData.shownAll (toPs (as.map .str))).map (·.length)).sum ≤ 1002 * as.length ∧ (PyData.shownAll (toPs (as.map .str))).length = as.length
  | [], _ => ⟨rfl, Nat.le_refl _, rfl⟩
  | a :: r, h => by
    obtain ⟨z1, z2, z3⟩ := shown_strs r fun b hb => h b (List.mem_cons_of_mem _ hb)
    have ha := h a (List.mem_cons_self ..)
    have y := StrLaws.reprText_len a ha.2
    refine ⟨z1, ?_, ?_⟩
    · show (reprText a).length + ((PyData.shownAll (toPs (r.map .str))).map (·.length)).sum ≤ 1002 * (r.length + 1)
      have := ha.1
      omega
    · show (PyData.shownAll (toPs (r.map .str))).length + 1 = r.length + 1
      omega
theorem shown_fact {k : Str} {as : List Str} (hk : Shw k) (ha : ∀ a ∈ as, Shw a) (hl : as.length ≤ 100) : (toP (ftT k as)).showable = true ∧ (toP (ftT k as)).shown.length ≤ 1000000 := by
  obtain ⟨z1, z2, z3⟩ := shown_strs as ha
  have y := StrLaws.reprText_len k hk.2
  constructor
  · show (true && (PyData.showableAll (toPs (as.map .str)) && true)) = true
    rw [z1]
    rfl
  · show (tupleText [reprText k, tupleText (PyData.shownAll (toPs (as.map .str)))]).length ≤ 1000000
    have a1 := tupleText_len_le [reprText k, tupleText (PyData.shownAll (toPs (as.map .str)))]
    have a2 := tupleText_len_le (PyData.shownAll (toPs (as.map .str)))
    simp only [List.map_cons, List.map_nil, List.sum_cons, List.sum_nil, List.length_cons, List.length_nil] at a1
    rw [z3] at a2
    have := hk.1
    omega
theorem deep_strs : ∀ (as : List Str), Dt.deeps (Tr.toDs (as.map .str)) = 0
  | [] => rfl
  | a :: r => by
    show max 0 (Dt.deeps (Tr.toDs (r.map .str))) = 0
    rw [deep_strs r]
    rfl
theorem deep_fact (k : Str) (as : List Str) : (ftT k as).toD.deep = 2 := by
  show max 0 (max (Dt.deeps (Tr.toDs (as.map .str)) + 1) 0) + 1 = 2
  rw [deep_strs]
  rfl
theorem isD_strs {K : PySem.W.Frag} {H : Hp} {t : Addr} {as : List Str} (h : SqT K H t (as.map .str)) : IsD K H (Tr.tup (as.map .str)).toD (.ref t) := by
  simp only [Tr.toD]
  refine .tup h (by rw [toDs_length, List.length_map, List.length_map]) fun i h1 h2 => ?_
  rw [toDs_get _ i (by rw [toDs_length] at h1; exact h1)]
  simp only [List.getElem_map]
  simp only [Tr.toD]
  exact .str _
theorem isD_fact {K : PySem.W.Frag} {H : Hp} {t t2 : Addr} {k : Str} {as : List Str} (h1 : SqT K H t [.str k, .ref t2]) (h2 : SqT K H t2 (as.map .str)) : IsD K H (ftT k as).toD (.ref t) := by
  show IsD K H (.tup [.str k, (Tr.tup (as.map .str)).toD]) (.ref t)
  refine .tup h1 rfl fun i i1 i2 => ?_
  match i, i1, i2 with
  | 0, _, _ => exact .str _
  | 1, _, _ => exact isD_strs h2
/-! callees that may raise -/
def CalE (P : Program) (w : World) (K : PySem.W.Frag) (mg : Str → Option Value) (base : Heap) (x : Str) (k : Nat) (ps : List Str) (sp : Sp) : Prop :=
  ∃ f fd, FnOk P w K mg base (CXE P w) k f fd ps sp ∧ Binds K fd ps [] ∧ PySem.W.keepIn K (.ref f) = true ∧ mg x = some (.ref f)
section
variable {P : Program} {w : World} {K : PySem.W.Frag} {mg : Str → Option Value} {base : Heap} {N : List Str} {qual : Str} {scope : Scope} {f : Addr} {cd : Value} {A : Around} {outer : List Env} {s₀ : Shared} {H₀ : Hp} {E : XK} {x : Str} {k : Nat} {ps : List Str} {sp : Sp} {p pos : Pos} {e : Expr} {es : List Expr} {t : TA}
theorem pe_callE (c : CalE P w K mg base x k ps sp) (hr : Room k (cxE P w K mg base N qual scope f cd A outer s₀ H₀ E).A) (hg : Gl (cxE P w K mg base N qual scope f cd A outer s₀ H₀ E) x) (ha : PA (cxE P w K mg base N qual scope f cd A outer s₀ H₀ E) (e :: es) t)
    (hdb : (x == ("__debug__" : Str)) = false := by decide) (he : starEach (e :: es) (cxE P w K mg base N qual scope f cd A outer s₀ H₀ E).env = (false, eval e (cxE P w K mg base N qual scope f cd A outer s₀ H₀ E).env) :: starEach es (cxE P w K mg base N qual scope f cd A outer s₀ H₀ E).env := by rfl)
    (hpl : (backTo pos (starEach es (cxE P w K mg base N qual scope f cd A outer s₀ H₀ E).env)).any (·.1) = false := by rfl) : PE (cxE P w K mg base N qual scope f cd A outer s₀ H₀ E) (.Call (.Name x p) (e :: es) [] pos) (tCall sp [] E t) := by
  obtain ⟨f', fd, F, b, kp, mg⟩ := c
  exact pe_call F hr hg mg kp b .nil passE ha hdb he hpl
end
section
variable {X : Cx} {x : Str} {k : Nat} {ps : List Str} {sp : Sp} {p pos : Pos} {e : Expr} {es : List Expr} {t : TA} {pn : List (Addr × Obj)} {R : Value → St → Hp → Prop}
theorem pe_callT (c : CalE X.prog X.w X.K X.mg X.base x k ps sp) (hr : Room k X.A) (hg : Gl X x) (ha : PA (tryCx X pn R) (e :: es) t) (hdb : (x == ("__debug__" : Str)) = false := by decide) (he : starEach (e :: es) X.env = (false, eval e X.env) :: starEach es X.env := by rfl) (hpl : (backTo pos (starEach es X.env)).any (·.1) = false := by rfl) :
    PE (tryCx X pn R) (.Call (.Name x p) (e :: es) [] pos) (tCallX sp [] R t) := by
  obtain ⟨f', fd, F, b, kp, mg⟩ := c
  exact pe_callX F hr hg mg kp b .nil ha hdb he hpl
end
end L2
/-! dict(()) of the text's own empty tuple -/
namespace L2
open PySem PySem.Spec PyProof.Rows
theorem noKeysT {prog : Program} {w : World} {A : Around} {E : Value → Shared → Prop} {s : Shared} {a : Addr} {xs : Array Value} {k : Nat} {sl : Array (Option Value)} {Q : Option Value → Shared → Prop}
    (hx : s.heap.get? a = some ⟨.type "tuple", none, .seq xs k, sl⟩) (hA : A.handled = none)
    (h : ∀ h' tk e, Heap.NewExcOf s.heap h' e "AttributeError" → Q none { s with heap := h', toks := tk }) :
    wpAny (model prog w) A (getAttr? (.ref a) "keys") Q E s := by
  obtain ⟨hp, g, d, tk, os⟩ := s
  have hT : ∀ tk', (⟨hp, g, d, tk', os⟩ : Shared).TypeIs (.ref a) "tuple" := fun _ => ⟨_, hx, rfl⟩
  have f1 := sub_AttributeError
  have f3 := PySem.F.slot_tuple_getattribute.lookup
  have f4 := PySem.F.slot_tuple_getattribute.bind (.ref a)
  have f5 := am_tuple_getattr_none
  have hmiss : typeLookup (.type "tuple") "keys" = pure none := by rw [typeLookup_type, builtinLookup_eq_fast]; kernel_rfl
  unfold getAttr? getAttrBy? getAttrBy
  repeat (any_goals (first | assumption | exact hT _ | ((with_reducible show wpAny _ _ (call (Value.builtin "tuple.__getattribute__") _ _) _ _ _); refine call_meets PySem.F.slot_tuple_getattribute (hT _) am_entry_tuple_getattribute (PySem.F.args_tuple_getattribute_2 _ _) (meets_getattribute_miss_tuple a xs k sl "keys" _ hmiss (by decide +kernel) (by decide)) ⟨hx, hA, fun h' tk' e hx' => ?_⟩) | wp_step))
  obtain ⟨t', u', he⟩ := hx'.there
  show wpAny _ _ (getattributeRaised _ _ _ _ _ _ _) _ _ _
  unfold getattributeRaised
  repeat (any_goals (first | assumption | wp_step))
  exact h _ _ _ hx'.of
section
variable {X : Cx}
/-- the text's own empty tuple -/
def Nil0 (K : PySem.W.Frag) (a : Addr) : Prop := ∃ n sl, K.lookup a = some ⟨.type "tuple", none, .seq #[] n, sl⟩
theorem call_dict_nil (hc : X.calm = true) : CallR X (.type "dict") (fun xs H Q => ∃ a, xs = [.ref a] ∧ Nil0 X.K a ∧ ∀ d, H d = none → Q (.ref d) (upd H d (.dK []))) := by
  intro pins s σ H xs us Q I r h
  obtain ⟨l, rfl, ⟨n, sl, hl⟩, q⟩ := h
  obtain ⟨u, rfl, ru⟩ := vals1 r
  cases (show u = Value.ref l from ru)
  have hh := I.ok.hd hc
  have hg : s.heap.get? l = some ⟨.type "tuple", none, .seq #[] n, sl⟩ := I.kIn l _ hl
  have hf : H s.heap.objs.size = none := I.hok.fresh (Nat.le_refl _)
  refine callType_codes (Q₁ := fun obj s₁ => obj = .ref s.heap.objs.size ∧ s₁ = { s with heap := s.heap.push { cls := .type "dict", data := .dict #[] } }) PySem.F.kt_called_dict (PySem.F.kt_typeCall_dict_1 _) PySem.F.entry_dict_init (kt_code_dict_new _ ⟨rfl, rfl⟩) ?_
  rintro obj s₁ ⟨rfl, rfl⟩
  have hnew : (s.heap.push { cls := .type "dict", data := .dict #[] }).DictOf (mixKind X.prog X.w) s.heap.objs.size [] := Heap.DictOf.new s.heap
  refine ⟨hnew.typeIs, PySem.F.args_dict_init_2 _ _, ?_⟩
  unfold Builtin.«dict.__init__»
  refine wpAny_bind ?_
  unfold Builtin.Dict.selfAndRest
  refine wpAny_bind (wpAny_notOrdered_dict hnew.typeIs ?_)
  show wpAny _ _ (pure (s.heap.objs.size, [Value.ref l])) _ _ _
  refine wpAny_pure ?_
  show wpAny _ _ (Builtin.Dict.updateFrom "dict.__init__" s.heap.objs.size (.ref l) [] .none) _ _ _
  unfold Builtin.Dict.updateFrom
  have hg1 : (s.heap.push { cls := .type "dict", data := .dict #[] }).get? l = some ⟨.type "tuple", none, .seq #[] n, sl⟩ := Heap.get?_push_of_some _ hg
  refine wpAny_bind (wpAny_typeOf (T := "tuple") ⟨_, hg1, rfl⟩ ?_)
  rw [if_pos (by decide)]
  refine wpAny_bind (noKeysT hg1 hh fun h1 tk1 e hx => ?_)
  rw [if_pos (show (none : Option Value).isNone = true from rfl)]
  refine wpAny_bind (wpAny_rule ?_)
  have hg2 := hx.keeps _ _ hg1
  have hd2 : h1.DictOf (mixKind X.prog X.w) s.heap.objs.size [] := by
    obtain ⟨o, es, ep, ho, r⟩ := hnew
    exact ⟨o, es, ep, hx.keeps _ _ ho, r⟩
  have hsz1 : s.heap.objs.size < h1.objs.size := by
    obtain ⟨o, es, ep, ho, r⟩ := hd2
    exact Heap.lt_size ho
  have hL1 : h1.IsTuple l #[] := ⟨_, hg2, rfl, n, rfl⟩
  refine wpAny_bind (wpAny_pyIter_tuple (s := { s with heap := h1, toks := tk1 }) hL1 ?_)
  refine wpAny_pure ⟨plainId_quiet plain_dul _, codeAny_builtin entry_dul ?_⟩
  rw [Around.under_plainId plain_dul _]
  have kp0 : ∀ b o, s.heap.get? b = some o → (h1.push { cls := .type "tuple_iterator", data := .fields #[.ref l, .int 0 0] }).get? b = some o := fun b o q => Heap.get?_push_of_some _ (hx.keeps _ _ (Heap.get?_push_of_some _ q))
  unfold Builtin.«dict.update.loop»
  dsimp only [rawInt]
  refine wpAny_bind (wpAny_pyNext_tuple_end (s := { s with heap := h1.push { cls := .type "tuple_iterator", data := .fields #[.ref l, .int 0 0] }, toks := tk1 }) (A := X.A.in1.in1) (i := 0) hh ⟨_, Heap.get?_push_size _ rfl, rfl, rfl⟩ (show (h1.push _).IsTuple l #[] from ⟨_, Heap.get?_push_of_some _ hg2, rfl, n, rfl⟩) (by simp) fun h2 hext => ?_)
  dsimp only
  have hD2 : h2.DictOf (mixKind X.prog X.w) s.heap.objs.size [] := (hd2.push _).extBut hext (Nat.ne_of_lt hsz1)
  show wpAny _ _ (Builtin.Dict.addKeywords s.heap.objs.size [] >>= _) _ _ _
  refine wpAny_bind (wpAny_pure (wpAny_pure ?_))
  have kp : ∀ b o, s.heap.get? b = some o → h2.get? b = some o := fun b o q => hext b o (Nat.ne_of_lt (Nat.lt_trans (Heap.lt_size q) hsz1)) (kp0 b o q)
  refine ⟨rfl, .ref s.heap.objs.size, upd H s.heap.objs.size (.dK []), I.laid (t' := tk1) kp (Nat.le_refl _) ?_, rfl, q _ hf⟩
  refine ⟨Nat.zero_le _, ?_, [], .nil, hD2⟩
  exact beq_eq_false_iff_ne.mpr (Nat.ne_of_gt I.big)
end
end L2
/-! pools: what a pool of facts is, the first fault; the specs of poolrules.pools -/
namespace Bk
open PySem L2 K02
def cOk (p : Cs) : Prop := p ≠ [] ∧ p.length ≤ 100 ∧ ∀ c ∈ p, c < 16 ^ 8
theorem cOk.shw {p : Cs} (h : cOk p) : Shw (S p) := ⟨by rw [S_len]; exact h.2.1, by rw [S_codes]; exact h.2.2⟩
structure FS (f : Fc) : Prop where
  k : cOk f.k
  as : ∀ a ∈ f.as, cOk a
  n : f.as.length ≤ 100
def fT (f : Fc) : Tr := ftT (S f.k) (f.as.map S)
def fault (ks : List Kd) (f : Fc) : Nat := match ks.find? (fun k => decide (k.n = f.k)) with
  | none => 1
  | some k => if k.c = f.as.length then 0 else 2
def faults (ks : List Kd) : List Fc → Nat
  | [] => 0
  | f :: r => if fault ks f = 0 then faults ks r else fault ks f
theorem val_kd (ks : List Kd) (p : Cs) : valV (ks.map kdEnt) (Sum.inr (S p) : Key) = (ks.find? (fun k => decide (k.n = p))).map fun k => V.int k.c := by
  unfold valV
  induction ks with
  | nil => rfl
  | cons k r ih =>
    rw [List.map_cons, List.find?_cons, List.find?_cons]
    have e : (decide ((kdEnt k).1 = (Sum.inr (S p) : Key))) = decide (k.n = p) := by
      show decide ((Sum.inr (S k.n) : Key) = Sum.inr (S p)) = decide (k.n = p)
      refine decide_eq_decide.mpr ⟨fun h => ?_, fun h => by rw [h]⟩
      have z := Sum.inr.inj h
      have z2 := congrArg (fun x : Str => x.cps.toList) z
      simpa using z2
    rw [e]
    cases decide (k.n = p) with
    | true => rfl
    | false => exact ih
theorem map_tx (l : List Cs) : l.map tx = (l.map S).map V.str := by rw [List.map_map]; rfl
theorem Fact.isD {K : PySem.W.Frag} {H : Hp} {f : Fc} {v : V} (h : Fact K H f v) : IsD K H (fT f).toD v := by
  obtain ⟨t, t2, rfl, h1, h2⟩ := h
  exact isD_fact h1 (by rw [← map_tx]; exact h2)
theorem FS.shown {f : Fc} (h : FS f) : (toP (fT f)).showable = true ∧ (toP (fT f)).shown.length ≤ 1000000 :=
  shown_fact h.k.shw (fun a ha => by obtain ⟨b, hb, rfl⟩ := List.mem_map.mp ha; exact (h.as b hb).shw) (by rw [List.length_map]; exact h.n)
/-- kinds and facts as they are handed in -/
structure KF (K : PySem.W.Frag) (H : Hp) (lk lf : Addr) (ks : List Kd) (fs : List Fc) : Prop where
  hk : ∃ kvs, H lk = some (.lst kvs) ∧ Paired (Kind K H) ks kvs
  nd : (ks.map (·.n)).Nodup
  few : ks.length ≤ 10000
  hf : ∃ fvs, H lf = some (.lst fvs) ∧ Paired (Fact K H) fs fvs
  ok : ∀ f ∈ fs, FS f
theorem Kind.sm {K : PySem.W.Frag} {H H' : Hp} (s : Same H H') {k : Kd} {v : V} (h : Kind K H k v) : Kind K H' k v := by
  obtain ⟨t, e, q⟩ := h
  exact ⟨t, e, q.same s⟩
theorem Fact.sm {K : PySem.W.Frag} {H H' : Hp} (s : Same H H') {f : Fc} {v : V} (h : Fact K H f v) : Fact K H' f v := by
  obtain ⟨t, t2, e, q, q2⟩ := h
  exact ⟨t, t2, e, q.same s, q2.same s⟩
theorem KF.keep {K : PySem.W.Frag} {H H' : Hp} {lk lf : Addr} {ks : List Kd} {fs : List Fc} (s : Same H H') (h : KF K H lk lf ks fs) : KF K H' lk lf ks fs := by
  obtain ⟨⟨kvs, a1, a2⟩, a3, a4, ⟨fvs, a5, a6⟩, a7⟩ := h
  exact ⟨⟨kvs, s _ _ a1, paired_mono a2 (fun _ _ _ => Kind.sm s)⟩, a3, a4, ⟨fvs, s _ _ a5, paired_mono a6 (fun _ _ _ => Fact.sm s)⟩, a7⟩
/-- refused, or done -/
def Refuse (C1 C2 : Addr) (n : Nat) (H : Hp) (E : XK) : Prop := (n = 1 → ∀ H', Same H H' → E (.ref C1) none H') ∧ (n = 2 → ∀ H', Same H H' → E (.ref C2) none H')
def spCheckE (K : PySem.W.Frag) (C1 C2 : Addr) : Sp := fun vs H Q E => ∃ (lk lf : Addr) (ks : List Kd) (fs : List Fc), vs = [.ref lk, .ref lf] ∧ KF K H lk lf ks fs ∧ Refuse C1 C2 (faults ks fs) H E ∧ (faults ks fs = 0 → ∀ H', Same H H' → Q .non H')
theorem faults_drop {ks : List Kd} {fs : List Fc} {i : Nat} (h : i < fs.length) : faults ks (fs.drop i) = if fault ks fs[i] = 0 then faults ks (fs.drop (i + 1)) else fault ks fs[i] := by
  rw [List.drop_eq_getElem_cons h]
  rfl
end Bk
namespace Bk
open PySem L2 K02
def ent (n : Cs) : Key × V := (Sum.inr (S n), tx n)
def knS (acc : List Cs) (n : Cs) : List Cs := if great n = true then (if n ∈ acc then acc else acc ++ [n]) else acc
def kn (acc ns : List Cs) : List Cs := ns.foldl knS acc
theorem val_ent (l : List Cs) (n : Cs) : valV (l.map ent) (Sum.inr (S n) : Key) = if n ∈ l then some (tx n) else none := by
  unfold valV
  induction l with
  | nil => rfl
  | cons a r ih =>
    rw [List.map_cons, List.find?_cons]
    have e : (decide ((ent a).1 = (Sum.inr (S n) : Key))) = decide (a = n) := by
      show decide ((Sum.inr (S a) : Key) = Sum.inr (S n)) = decide (a = n)
      exact decide_eq_decide.mpr ⟨fun h => S_inj (Sum.inr.inj h), fun h => by rw [h]⟩
    rw [e]
    by_cases h : a = n
    · rw [decide_eq_true h, if_pos (by rw [h]; exact List.mem_cons_self ..)]
      subst h
      rfl
    · rw [decide_eq_false h]
      dsimp only
      rw [ih]
      by_cases h2 : n ∈ r
      · rw [if_pos h2, if_pos (List.mem_cons_of_mem _ h2)]
      · rw [if_neg h2, if_neg (fun z => by rcases List.mem_cons.mp z with q | q; exact h q.symm; exact h2 q)]
theorem put_ent {l : List Cs} {n : Cs} (h : n ∉ l) : putK (l.map ent) (Sum.inr (S n) : Key) (tx n) = (l ++ [n]).map ent := by
  rw [putK_new _ (by rw [val_ent, if_neg h]), List.map_append]
  rfl
theorem kn_len : ∀ (ns acc : List Cs), (kn acc ns).length ≤ acc.length + ns.length
  | [], acc => by simp [kn]
  | n :: r, acc => by
    have z := kn_len r (knS acc n)
    have y : (knS acc n).length ≤ acc.length + 1 := by
      unfold knS
      split
      · split
        · omega
        · simp
      · omega
    show (kn (knS acc n) r).length ≤ _
    rw [List.length_cons]
    omega
theorem sqt_upd {K : PySem.W.Frag} {H : Hp} {d t : Addr} {kvs : List (Key × V)} {o : HO} {xs : List V} (hd : H d = some (.dK kvs)) (h : SqT K H t xs) : SqT K (upd H d o) t xs := by
  rcases h with (h | ⟨ob, h⟩) | h
  · refine .inl (.inl ?_)
    rw [upd_ne (fun e => by rw [e, hd] at h; cases h)]
    exact h
  · refine .inl (.inr ⟨ob, ?_⟩)
    rw [upd_ne (fun e => by rw [e, hd] at h; cases h)]
    exact h
  · exact .inr h
theorem upd_id {H : Hp} {a : Addr} {o : HO} (h : H a = some o) : upd H a o = H := by
  funext b
  unfold upd
  split
  · rename_i e; rw [e, h]
  · rfl
def spTaken0 (K : PySem.W.Frag) : Sp := fun vs H Q _ => ∃ t l, vs = [.ref t, .ref l] ∧ SqT K H t [] ∧ H l = some (.lst []) ∧ ∀ p, H p = none → Q (.ref p) (upd H p (.lst []))
def spKnow (K : PySem.W.Frag) : Sp := fun vs H Q _ => ∃ (d t : Addr) (acc ns : List Cs), vs = [.ref d, .ref t] ∧ H d = some (.dK (acc.map ent)) ∧ SqT K H t (ns.map tx) ∧ (∀ n ∈ ns, cOk n) ∧ acc.length + ns.length ≤ 100000 ∧ Q .non (upd H d (.dK ((kn acc ns).map ent)))
def spWritten (K : PySem.W.Frag) : Sp := fun vs H Q _ => ∃ (d : Addr) (v : V) (acc : List Cs) (f : Fc), vs = [.ref d, v] ∧ H d = some (.dK (acc.map ent)) ∧ Fact K H f v ∧ FS f ∧ ∀ v' H', Same H H' → Fact K H' f v' → Q v' H'
end Bk
namespace L2
open PySem PySem.Spec PyProof.Rows
theorem comp_mapT {te : TE} {caps : List Nat} {σ : St} {H1 : Hp} {Q : VK} {K : PySem.W.Frag} {a : Addr} {xs : List V} {D : Addr} (hn : xs.length < sizeLine) (hD0 : H1 D = none) (ht : SqT K H1 a xs) (f : V → V)
    (he : ∀ x H' R, x ∈ xs → Same H1 H' → (∀ H'', Same H' H'' → R (f x) H'') → te (compS σ (some x) caps) H' R)
    (hd : ∀ H', Same H1 H' → H' D = some (.lst (xs.map f)) → Q (.ref D) H') : CompW tAll te caps σ Q (Itt K a) H1 D := by
  have hl : ∀ i ys H, (Same H1 H ∧ H D = some (.lst ys) ∧ ys = (xs.take i).map f) → SqT K H a xs := fun i ys H p => ht.same p.1
  refine comp_by (J := Itt K a) (Q := Q) (D := D) (H1 := H1) xs.length hn (fun i => xs.getD i .non) (fun i ys H' => Same H1 H' ∧ H' D = some (.lst ys) ∧ ys = (xs.take i).map f) ⟨fun b o e => by rw [upd_ne (ne_of_none e hD0)]; exact e, upd_same, rfl⟩
    (fun ys H p => ⟨xs, hl _ ys H p, Nat.le_refl _⟩) (fun i ys H p h => ⟨xs, xs[i], hl i ys H p, by simp [h]⟩) (fun i ys H x H' p h y => ⟨y.1, by
      have z := y.2 xs (hl i ys H p)
      rw [List.getD_eq_getElem?_getD, z] <;> rfl⟩) (fun i ys H' p => ⟨p.2.1, ?_⟩) (fun i ys H' hi p => ?_) (fun ys H' p => ?_)
  · rw [p.2.2, List.length_map, List.length_take]
    omega
  · have hx : xs.getD i .non = xs[i] := by rw [List.getD_eq_getElem?_getD, List.getElem?_eq_getElem hi]; rfl
    rw [hx]
    unfold tAll
    simp only [if_true]
    refine he _ _ _ (List.getElem_mem hi) p.1 fun H3 s3 => ?_
    refine ⟨s3 _ _ p.2.1, fun b o e => ?_, upd_same, ?_⟩
    · rw [upd_ne (ne_of_none e hD0)]
      exact s3 _ _ (p.1 _ _ e)
    · rw [p.2.2, List.take_succ_eq_append_getElem hi, List.map_append]
      rfl
  · refine hd _ p.1 ?_
    rw [p.2.1, p.2.2, List.take_length]
end L2
namespace Bk
open PySem L2 K02
def lastN (ks : List Kd) : List Cs := (ks.filter (·.l)).map (·.n)
def bagF (ks : List Kd) (fs : List Fc) : List Fc := fs.filter fun f => !decide (f.k ∈ lastN ks)
def lasF (ks : List Kd) (fs : List Fc) : List Fc := fs.filter fun f => decide (f.k ∈ lastN ks)
def pT (n : Cs) : Tr := .tup [.str (S n), .str (S n)]
/-- a pool that is not broken -/
def PoolV (K : PySem.W.Frag) (H : Hp) (v : V) (ps ls ns : List Tr) : Prop := ∃ p t0 t1 t2 y0 y1 y2, v = .ref p ∧ SqT K H p [.ref t0, .ref t1, .ref t2, .bl false] ∧ SqT K H t0 y0 ∧ Ts K H ps y0 ∧ SqT K H t1 y1 ∧ Ts K H ls y1 ∧ SqT K H t2 y2 ∧ Ts K H ns y2
def Made (K : PySem.W.Frag) (H : Hp) (v : V) (ks : List Kd) (fs : List Fc) : Prop := PoolV K H v (srtT ((bagF ks fs).map fT)) (srtT (dd ((lasF ks fs).map fT))) (srtT ((kn [] (fs.flatMap (·.as))).map pT))
def spMoved (K : PySem.W.Frag) (C1 C2 : Addr) : Sp := fun vs H Q E => ∃ (lk lf lt lo pe e0 e1 e2 : Addr) (ks : List Kd) (fs : List Fc), vs = [.ref lk, .ref pe, .ref lt, .ref lf, .ref lo] ∧ KF K H lk lf ks fs ∧ SqT K H pe [.ref e0, .ref e1, .ref e2, .bl false] ∧ SqT K H e0 [] ∧ SqT K H e1 [] ∧ Nil0 K e2 ∧
  H lt = some (.lst []) ∧ H lo = some (.lst []) ∧ fs.length < 64 ∧ (kn [] (fs.flatMap (·.as))).length < 64 ∧ Refuse C1 C2 (faults ks fs) H E ∧ (faults ks fs = 0 → ∀ v H', Same H H' → Made K H' v ks fs → Q v H')
def spStart (K : PySem.W.Frag) (C1 C2 : Addr) : Sp := fun vs H Q E => ∃ (lk lf : Addr) (ks : List Kd) (fs : List Fc), vs = [.ref lk, .ref lf] ∧ KF K H lk lf ks fs ∧ fs.length < 64 ∧ (kn [] (fs.flatMap (·.as))).length < 64 ∧ Refuse C1 C2 (faults ks fs) H E ∧ (faults ks fs = 0 → ∀ v H', Same H H' → Made K H' v ks fs → Q v H')
theorem Refuse.mono {C1 C2 : Addr} {n : Nat} {H H' : Hp} {E : XK} (s : Same H H') (h : Refuse C1 C2 n H E) : Refuse C1 C2 n H' E := ⟨fun e H2 s2 => h.1 e H2 (Same.trans s s2), fun e H2 s2 => h.2 e H2 (Same.trans s s2)⟩
theorem Refuse.zero {C1 C2 : Addr} {H : Hp} {E : XK} : Refuse C1 C2 0 H E := ⟨fun e => (by cases e), fun e => (by cases e)⟩
theorem ts_facts {K : PySem.W.Frag} {H : Hp} : ∀ {fs : List Fc} {ys : List V}, Paired (Fact K H) fs ys → Ts K H (fs.map fT) ys := fun {fs ys} h => by
  have hl := Paired.length h
  refine ⟨by rw [List.length_map]; exact hl, fun i h1 h2 => ?_⟩
  rw [List.getElem_map]
  exact Fact.isD (paired_at h i (by simpa using h1) h2)
theorem hd_fT (f : Fc) : hdK (fT f) = 1 ∧ (fT f).toD.deep ≤ 18 := ⟨rfl, by unfold fT; rw [deep_fact]; decide⟩
theorem sh_strs : ∀ (a b : List Str), shTs (a.map Tr.str) (b.map Tr.str) = true
  | [], _ => by simp [shTs]
  | _ :: _, [] => by simp [shTs]
  | x :: a, y :: b => by simp [shTs, shT, sh_strs a b]
theorem sh_fT (f g : Fc) : shT (fT f) (fT g) = true := by
  have z := sh_strs (f.as.map S) (g.as.map S)
  unfold fT ftT
  simp only [shT, shTs, Bool.true_and, Bool.and_true]
  exact z
theorem by_fT (f : Fc) : byVal (fT f) = false := by
  unfold fT ftT
  simp [byVal, byVals]
theorem ts_same {K : PySem.W.Frag} {H H' : Hp} (s : Same H H') {ts : List Tr} {ys : List V} (h : Ts K H ts ys) : Ts K H' ts ys := ⟨h.1, fun i h1 h2 => (h.2 i h1 h2).same s⟩
end Bk
namespace L2
open PySem
theorem Room.un80 {k : Nat} {A : Around} (r : Room k A) : A.units + 80 < cLine := by have := r.un; omega
end L2
namespace Bk
open PySem L2 K02
theorem kn_app (acc a b : List Cs) : kn acc (a ++ b) = kn (kn acc a) b := by unfold kn; rw [List.foldl_append]
theorem flat_succ {fs : List Fc} {i : Nat} (h : i < fs.length) : (fs.take (i + 1)).flatMap (·.as) = (fs.take i).flatMap (·.as) ++ fs[i].as := by
  rw [List.take_succ_eq_append_getElem h, List.flatMap_append]
  simp
theorem flat_len : ∀ {fs : List Fc}, (∀ f ∈ fs, FS f) → (fs.flatMap (·.as)).length ≤ 100 * fs.length
  | [], _ => by simp
  | f :: r, h => by
    have z := flat_len (fs := r) fun g hg => h g (List.mem_cons_of_mem _ hg)
    have y := (h f (List.mem_cons_self ..)).n
    rw [List.flatMap_cons, List.length_append, List.length_cons]
    omega
theorem fact_upd {K : PySem.W.Frag} {H : Hp} {d : Addr} {kvs : List (Key × V)} {o : HO} {f : Fc} {v : V} (hd : H d = some (.dK kvs)) (h : Fact K H f v) : Fact K (upd H d o) f v := by
  obtain ⟨t, t2, e, h1, h2⟩ := h
  exact ⟨t, t2, e, sqt_upd hd h1, sqt_upd hd h2⟩
theorem ne_dl {H : Hp} {d l : Addr} {kvs : List (Key × V)} {xs : List V} (hd : H d = some (.dK kvs)) (hl : H l = some (.lst xs)) : l ≠ d := fun e => by rw [e, hd] at hl; cases hl
end Bk
namespace L2
theorem ddS_sub {acc : List Tr} {t u : Tr} (h : u ∈ ddS acc t) : u ∈ acc ∨ u = t := by
  unfold ddS at h
  split at h
  · exact .inl h
  · rcases List.mem_append.mp h with z | z
    · exact .inl z
    · exact .inr (List.mem_singleton.mp z)
theorem dd_sub {l : List Tr} {t : Tr} (h : t ∈ dd l) : t ∈ l := by
  have key : ∀ (l acc : List Tr), t ∈ l.foldl ddS acc → t ∈ acc ∨ t ∈ l := by
    intro l
    induction l with
    | nil => intro acc h; exact .inl h
    | cons x r ih =>
      intro acc h
      rcases ih (ddS acc x) h with z | z
      · rcases ddS_sub z with y | y
        · exact .inl y
        · exact .inr (by rw [y]; exact List.mem_cons_self ..)
      · exact .inr (List.mem_cons_of_mem _ z)
  rcases key l [] h with z | z
  · cases z
  · exact z
end L2
/-! x not in a list of tuples; lists with the same members are alike; t + u of any two tuples -/
namespace L2
open PySem PySem.Spec PyProof.Rows
section
variable {X : Cx}
def rNotInT (K : PySem.W.Frag) : R2 := fun x y H Q => ∃ p ys ts l, y = .ref p ∧ SqL K H p ys ∧ Ts K H ts ys ∧ IsD K H (Tr.tup l).toD x ∧ (Tr.tup l).toD.deep ≤ 8 ∧ (∀ t ∈ ts, (∃ q, t = .tup q) ∧ t.toD.deep ≤ 8) ∧ Q (.bl (!(ts.any fun a => eqT a (.tup l)))) H
theorem op_notInT (hu : X.A.units + 64 < cLine) : OpR X (compareOp .NotIn) (rNotInT X.K) := by
  intro pins s σ H x y v u Q I rx ry h
  obtain ⟨p, ys, ts, l, rfl, hq, ⟨hl, hT⟩, hd, hdp, hts, q⟩ := h
  cases ry
  obtain ⟨its, r, pl, hz⟩ := I.list hq
  have hlen := r.length
  have at_ : ∀ i (hi : i < its.length), ∃ a, ys[i]'(by omega) = .ref a ∧ its[i] = .ref a := fun i hi => by
    obtain ⟨u1, f1, q1⟩ := r.get (i := i) (x := ys[i]'(by omega)) (by simp)
    have e1 : its[i] = u1 := (List.getElem?_eq_some_iff.mp f1).2
    obtain ⟨⟨qq, eq⟩, _⟩ := hts _ (List.getElem_mem (show i < ts.length by omega))
    have z := hT i (by omega) (by omega)
    rw [eq] at z
    obtain ⟨a, _, _, ea, _⟩ := tup_at I z q1
    have hy : ys[i]'(by omega) = .ref a := by
      simp only [Tr.toD] at z
      cases hyy : ys[i]'(by omega) with
      | ref b => rw [hyy] at q1; cases q1; cases ea; rfl
      | _ => rw [hyy] at z; cases z
    exact ⟨a, hy, by rw [e1, ea]⟩
  have uni : ∀ i j (hi : i < its.length) (hj : j < its.length), its[i] = its[j] → ts[i]'(by omega) = ts[j]'(by omega) := fun i j hi hj e => by
    obtain ⟨a, ya, ia⟩ := at_ i hi
    obtain ⟨b, yb, ib⟩ := at_ j hj
    rw [ia, ib] at e
    have e : a = b := by injection e
    subst e
    have z1 := hT i (by omega) (by omega)
    have z2 := hT j (by omega) (by omega)
    rw [ya] at z1
    rw [yb] at z2
    exact eqT_true (isD_same I rfl 8 (hts _ (List.getElem_mem (show i < ts.length by omega))).2 z1 z2)
  classical
  let e : Value → Bool := fun w => decide (∃ i, ∃ hi : i < its.length, its[i] = w ∧ eqT (ts[i]'(by omega)) (.tup l) = true)
  have ee : ∀ i (hi : i < its.length), e its[i] = eqT (ts[i]'(by omega)) (.tup l) := fun i hi => by
    cases hb : eqT (ts[i]'(by omega)) (.tup l) with
    | true => exact decide_eq_true ⟨i, hi, rfl, hb⟩
    | false =>
      refine decide_eq_false ?_
      rintro ⟨j, hj, ej, tj⟩
      rw [uni j i hj hi ej, hb] at tj
      cases tj
  refine SeqAt.notIn_listAt e pl.isList (fun w hw => ?_) ⟨.bl _, H, I, rfl, ?_⟩
  · have hw : w ∈ its := by simpa using hw
    obtain ⟨i, hi, rfl⟩ := List.mem_iff_getElem.mp hw
    rw [ee i hi]
    obtain ⟨u1, f1, q1⟩ := r.get (i := i) (x := ys[i]'(by omega)) (by simp)
    have e1 : its[i] = u1 := (List.getElem?_eq_some_iff.mp f1).2
    rw [e1]
    exact isD_eq I rfl 8 X.A.in1 (hts _ (List.getElem_mem (show i < ts.length by omega))).2 (by show X.A.units + 1 + 8 < cLine; omega) (hT i (by omega) (by omega)) hd q1 rx
  · have e2 : its.toArray.any e = ts.any fun a => eqT a (.tup l) := by
      rw [show its.toArray.any e = its.any e by simp]
      have e3 : its.map e = ts.map fun a => eqT a (.tup l) := by
        apply List.ext_getElem (by simp; omega)
        intro i h1 h2
        rw [List.getElem_map, List.getElem_map]
        exact ee i (by simpa using h1)
      have e4 : ∀ {α : Type} (l : List α) (f : α → Bool), l.any f = (l.map f).any id := fun l f => by rw [List.any_map]; rfl
      rw [e4, e3, ← e4]
    rw [e2]
    exact q
/-- two lists whose members are the same things -/
def rNeR (K : PySem.W.Frag) : R2 := fun x y H Q => ∃ (a b : Addr) (xs : List V), x = .ref a ∧ y = .ref b ∧ SqL K H a xs ∧ SqL K H b xs ∧ (∀ x ∈ xs, ∃ p, x = .ref p) ∧ Q (.bl false) H
theorem op_neR (hu : X.A.units + 64 < cLine) : OpR X (compareOp .NotEq) (rNeR X.K) := by
  intro pins s σ H x y v u Q I rx ry h
  obtain ⟨a, b, xs, rfl, rfl, g1, g2, hr, q⟩ := h
  cases rx
  cases ry
  obtain ⟨its, rv1, ⟨o1, n1, p1, c1, d1, f1⟩, _⟩ := I.list g1
  obtain ⟨its2, rv2, ⟨o2, n2, p2, c2, d2, f2⟩, _⟩ := I.list g2
  have i1 : s.heap.IsList a its.toArray := ⟨o1, p1, c1, n1, by assumption⟩
  have i2 : s.heap.IsList b its2.toArray := ⟨o2, p2, c2, n2, by assumption⟩
  have len1 := rv1.length
  have len2 := rv2.length
  refine SeqAt.RcNeAt.lists (e := fun _ => true) i1 i2 (by simp; omega) (by omega) (fun j j1 j2 => ?_) _ _ _ _ ?_
  · have j1' : j < xs.length := by simp at j1; omega
    obtain ⟨p, ep⟩ := hr _ (List.getElem_mem j1')
    obtain ⟨u1, e1, q1⟩ := rv1.get (i := j) (x := xs[j]) (by rw [List.getElem?_eq_getElem j1'])
    obtain ⟨u2, e2, q2⟩ := rv2.get (i := j) (x := xs[j]) (by rw [List.getElem?_eq_getElem j1'])
    have c1 : its.toArray[j] = u1 := by simpa using (List.getElem?_eq_some_iff.mp e1).2
    have c2 : its2.toArray[j] = u2 := by simpa using (List.getElem?_eq_some_iff.mp e2).2
    rw [ep] at q1 q2
    rw [c1, c2, q1, q2]
    exact SeqAt.EqAt.same _
  · refine ⟨.bl _, H, I, rfl, ?_⟩
    have e : (List.range its.toArray.size).all (fun _ => true) = true := by simp
    rw [e]
    exact q
/-- t + u -/
def rCatA (K : PySem.W.Frag) : R2 := fun x y H Q => ∃ a b xs ys, x = .ref a ∧ y = .ref b ∧ SqT K H a xs ∧ SqT K H b ys ∧ xs.length + ys.length ≤ sizeLine ∧
  (xs = [] → Q (.ref b) H) ∧ (xs ≠ [] → ys = [] → Q (.ref a) H) ∧ (xs ≠ [] → ys ≠ [] → ∀ p, H p = none → Q (.ref p) (upd H p (.tup (xs ++ ys))))
theorem op_catA : OpR X (binaryOp .Add) (rCatA X.K) := by
  intro pins s σ H x y v u Q I rx ry h
  obtain ⟨a, b, xs, ys, rfl, rfl, ha, hb, hz, q0, q1, q2⟩ := h
  by_cases hx : xs = []
  · cases rx
    cases ry
    obtain ⟨its, r1, p1, _⟩ := I.tuple ha
    obtain ⟨its2, r2, p2, _⟩ := I.tuple hb
    have hi : its = [] := r1.nil_iff.mpr hx
    obtain ⟨⟨cls, dd, data, sl⟩, ho, hc, n, hd⟩ := id p1
    obtain ⟨⟨cls2, dd2, data2, sl2⟩, ho2, hc2, n2, hd2⟩ := id p2
    simp only at hc hd hc2 hd2
    subst hc hd hc2 hd2
    exact concat_meets ⟨_, ho, rfl⟩ ⟨_, ho2, rfl⟩ noFill_tuple_add seq_tuple_add PySem.F.slot_tuple_add PySem.F.entry_tuple_add (PySem.F.args_tuple_add_2 _ _)
      (tuple_addW0 a b its.toArray its2.toArray n n2 dd dd2 sl sl2 (by simp [hi])) ⟨ho, ho2, .ref b, H, I, rfl, q0 hx⟩
  · exact op_catT pins s σ H _ _ v u Q I rx ry ⟨a, b, xs, ys, rfl, rfl, ha, hb, hx, hz, q1 hx, q2 hx⟩
end
end L2
/-! the law of the pools: what its defs tell -/
namespace Bk
open PySem L2 K02
def KsAt (K : PySem.W.Frag) (H : Hp) (l : Addr) (ks : List Kd) : Prop := ∃ kvs, H l = some (.lst kvs) ∧ Paired (Kind K H) ks kvs
def FsAt (K : PySem.W.Frag) (H : Hp) (l : Addr) (fs : List Fc) : Prop := ∃ fvs, H l = some (.lst fvs) ∧ Paired (Fact K H) fs fvs
theorem KsAt.sm {K : PySem.W.Frag} {H H' : Hp} {l : Addr} {ks : List Kd} (s : Same H H') (h : KsAt K H l ks) : KsAt K H' l ks := by
  obtain ⟨kvs, h1, h2⟩ := h
  exact ⟨kvs, s _ _ h1, paired_mono h2 fun _ _ _ => Kind.sm s⟩
/-- four kinds of the law -/
structure K4 (ks : List Kd) : Prop where
  len : ks.length = 4
  nd : (ks.map (·.n)).Nodup
  ok : ∀ k ∈ ks, nameC k.n = true ∧ k.c ≤ 4
def spKinds (K : PySem.W.Frag) : Sp := fun vs H Q _ => ∃ (c : Int) (l : Addr) (ns : List Int), vs = [.int c, .ref l] ∧ SqL K H l (ns.map V.int) ∧ 1 ≤ ns.length ∧ ns.length ≤ 100 ∧ (∀ n ∈ ns, 0 ≤ n ∧ n ≤ 4) ∧
  ∀ (p : Addr) (ks : List Kd) (H' : Hp), Same H H' → H p = none → KsAt K H' p ks → K4 ks → Q (.ref p) H'
def spFactL (K : PySem.W.Frag) : Sp := fun vs H Q _ => ∃ (lk ln : Addr) (c : Int) (ks : List Kd) (ns : List Cs), vs = [.ref lk, .ref ln, .int c] ∧ KsAt K H lk ks ∧ K4 ks ∧ H ln = some (.lst (ns.map tx)) ∧ 1 ≤ ns.length ∧ ns.length ≤ 100 ∧
  ∀ (v : V) (f : Fc) (H' : Hp), Same H H' → Fact K H' f v → (∃ k ∈ ks, f.k = k.n ∧ f.as.length = k.c) → (∀ a ∈ f.as, a ∈ ns) → Q v H'
def spFaultL (K : PySem.W.Frag) : Sp := fun vs H Q _ => ∃ (lk : Addr) (v : V) (ks : List Kd) (f : Fc), vs = [.ref lk, v] ∧ KsAt K H lk ks ∧ Fact K H f v ∧ f.k.length ≤ 1000 ∧ (∀ k ∈ ks, k.n.length ≤ 1000) ∧ Q (.int (fault ks f)) H
def spOdd (K : PySem.W.Frag) : Sp := fun vs H Q _ => ∃ (v : V) (f : Fc) (st : Cs) (n : Int), vs = [v, tx st, .int n] ∧ Fact K H f v ∧ f.as.length ≤ 100 ∧
  ∀ (v' : V) (f' : Fc) (H' : Hp), Same H H' → Fact K H' f' v' → (f'.k = f.k ∨ f'.k = st) → (∀ a ∈ f'.as, a ∈ f.as ∨ a = st) → f'.as.length ≤ f.as.length + 1 → Q v' H'
def spKnownL (K : PySem.W.Frag) : Sp := fun vs H Q _ => ∃ (la t : Addr) (acc ns : List Cs), vs = [.ref la, .ref t] ∧ H la = some (.lst (acc.map tx)) ∧ SqT K H t (ns.map tx) ∧ acc.length + ns.length ≤ 100000 ∧ (∀ n ∈ ns, nameC n = true) ∧
  ∀ (l : Addr) (H' : Hp), Same H H' → H l = none → H' l = some (.lst ((kn acc ns).map tx)) → Q (.ref l) H'
def spLastsL (K : PySem.W.Frag) : Sp := fun vs H Q _ => ∃ (lk : Addr) (v : V) (ks : List Kd) (f : Fc), vs = [.ref lk, v] ∧ KsAt K H lk ks ∧ (ks.map (·.n)).Nodup ∧ Fact K H f v ∧ f.k.length ≤ 1000 ∧ (∀ k ∈ ks, k.n.length ≤ 1000) ∧ Q (.bl (decide (f.k ∈ lastN ks))) H
structure FL (f : Fc) : Prop where
  k : nameC f.k = true
  as : ∀ a ∈ f.as, nameC a = true
  n : f.as.length ≤ 100
def spDue (K : PySem.W.Frag) : Sp := fun vs H Q _ => ∃ (lk lf : Addr) (ks : List Kd) (fs : List Fc), vs = [.ref lk, .ref lf] ∧ KsAt K H lk ks ∧ K4 ks ∧ FsAt K H lf fs ∧ (∀ f ∈ fs, FL f) ∧ fs.length < 64 ∧ (kn [] (fs.flatMap (·.as))).length < 64 ∧
  ∀ (v : V) (H' : Hp), Same H H' → Made K H' v ks fs → Q v H'
def spFirst (K : PySem.W.Frag) : Sp := fun vs H Q _ => ∃ (lk lf : Addr) (ks : List Kd) (fs : List Fc), vs = [.ref lk, .ref lf] ∧ KsAt K H lk ks ∧ K4 ks ∧ FsAt K H lf fs ∧ (∀ f ∈ fs, FL f) ∧ Q (.int (faults ks fs)) H
theorem nameC_ok {p : Cs} (h : nameC p = true) : cOk p := by
  unfold nameC at h
  rw [Bool.and_eq_true, Bool.and_eq_true] at h
  have h1 := of_decide_eq_true h.1
  have h2 := of_decide_eq_true h.2.1
  refine ⟨fun e => by rw [e] at h1; simp at h1, by omega, fun c hc => ?_⟩
  have z := List.all_eq_true.mp h.2.2 c hc
  have key : ∀ c : Nat, isAl c = true → c < 200 := by
    intro c hc
    unfold isAl at hc
    have a1 : ∀ d ∈ aSmall.cps.toList, d < 200 := by decide +kernel
    have a2 : ∀ d ∈ aGreat.cps.toList, d < 200 := by decide +kernel
    have a3 : ∀ d ∈ aFig.cps.toList, d < 200 := by decide +kernel
    rw [Bool.or_eq_true, Bool.or_eq_true] at hc
    rcases hc with h | h | h
    · exact a1 c (of_decide_eq_true h)
    · exact a2 c (of_decide_eq_true h)
    · exact a3 c (of_decide_eq_true h)
  have := key c z
  omega
theorem last_at {ks : List Kd} (nd : (ks.map (·.n)).Nodup) {i : Nat} (hi : i < ks.length) : decide (ks[i].n ∈ lastN ks) = ks[i].l := by
  have uni : ∀ j (hj : j < ks.length), ks[j].n = ks[i].n → j = i := fun j hj e => by
    have z := (List.getElem_inj (xs := ks.map (·.n)) (i := j) (j := i) (h₀ := by simpa using hj) (h₁ := by simpa using hi) nd).mp (by simpa using e)
    exact z
  cases hl : ks[i].l with
  | true =>
    refine decide_eq_true ?_
    unfold lastN
    exact List.mem_map.mpr ⟨ks[i], List.mem_filter.mpr ⟨List.getElem_mem hi, hl⟩, rfl⟩
  | false =>
    refine decide_eq_false fun hm => ?_
    unfold lastN at hm
    obtain ⟨k, hk1, hk2⟩ := List.mem_map.mp hm
    obtain ⟨hk3, hk4⟩ := List.mem_filter.mp hk1
    obtain ⟨j, hj, rfl⟩ := List.mem_iff_getElem.mp hk3
    have e := uni j hj hk2
    subst e
    rw [hl] at hk4
    cases hk4
theorem FL.fs {f : Fc} (h : FL f) : FS f := ⟨nameC_ok h.k, fun a ha => nameC_ok (h.as a ha), h.n⟩
end Bk
namespace Bk
open PySem L2 K02
theorem sqt_updL {K : PySem.W.Frag} {H : Hp} {d t : Addr} {ys : List V} {o : HO} {xs : List V} (hd : H d = some (.lst ys)) (h : SqT K H t xs) : SqT K (upd H d o) t xs := by
  rcases h with (h | ⟨ob, h⟩) | h
  · refine .inl (.inl ?_)
    rw [upd_ne (fun e => by rw [e, hd] at h; cases h)]
    exact h
  · refine .inl (.inr ⟨ob, ?_⟩)
    rw [upd_ne (fun e => by rw [e, hd] at h; cases h)]
    exact h
  · exact .inr h
theorem fact_updL {K : PySem.W.Frag} {H : Hp} {d : Addr} {ys : List V} {o : HO} {f : Fc} {v : V} (hd : H d = some (.lst ys)) (h : Fact K H f v) : Fact K (upd H d o) f v := by
  obtain ⟨t, t2, e, h1, h2⟩ := h
  exact ⟨t, t2, e, sqt_updL hd h1, sqt_updL hd h2⟩
theorem ts_updL {K : PySem.W.Frag} {H : Hp} {d : Addr} {ys zs : List V} {ts : List Tr} {o : HO} (hd : H d = some (.lst ys)) (h : Ts K H ts zs) : Ts K (upd H d o) ts zs :=
  ⟨h.1, fun i h1 h2 => (h.2 i h1 h2).mono fun _ _ q => sqt_updL hd q⟩
theorem ts_app {K : PySem.W.Frag} {H : Hp} {ts : List Tr} {zs : List V} {t : Tr} {z : V} (h : Ts K H ts zs) (hz : IsD K H t.toD z) : Ts K H (ts ++ [t]) (zs ++ [z]) := by
  have hl := h.1
  refine ⟨by simp [hl], fun i h1 h2 => ?_⟩
  by_cases hi : i < ts.length
  · rw [List.getElem_append_left hi, List.getElem_append_left (by omega)]
    exact h.2 i hi (by omega)
  · have e : i = ts.length := by simp at h1; omega
    subst e
    rw [List.getElem_append_right (by omega), List.getElem_append_right (by omega)]
    simp [hl]
    exact hz
theorem dd_app (l : List Tr) (t : Tr) : dd (l ++ [t]) = ddS (dd l) t := by
  unfold dd
  rw [List.foldl_append]
  rfl
theorem dd_fT {l : List Fc} {t : Tr} (h : t ∈ dd (l.map fT)) : ∃ g : Fc, t = fT g := by
  obtain ⟨g, _, e⟩ := List.mem_map.mp (dd_sub h)
  exact ⟨g, e.symm⟩
end Bk
namespace Bk
open PySem L2 K02
theorem cut_tx (ns : List Cs) (lo hi : Option Int) : ∃ ms : List Cs, cutV (ns.map tx) lo hi = ms.map tx ∧ ms.length ≤ ns.length ∧ ∀ m ∈ ms, m ∈ ns := by
  refine ⟨(ns.drop (HT.sIx ns.length 0 lo)).take (HT.sIx ns.length ns.length hi - HT.sIx ns.length 0 lo), ?_, ?_, fun m hm => List.mem_of_mem_drop (List.mem_of_mem_take hm)⟩
  · unfold cutV
    rw [List.length_map, List.map_take, List.map_drop]
  · rw [List.length_take, List.length_drop]
    omega
end Bk
namespace L2
theorem seq_fin {t1 t2 : TS} {D : Ends} {σ : St} {H : Hp} (Good : St → Hp → Prop) (h : (∀ σ' H', Good σ' H' → t2 D σ' H') → t1 { D with nx := t2 D } σ H) (fin : ∀ σ' H', Good σ' H' → t2 D σ' H') : tSeq t1 t2 D σ H := h fin
end L2
namespace Bk
open PySem L2 K02
theorem nodup_sub : ∀ (l m : List Cs), l.Nodup → (∀ x ∈ l, x ∈ m) → l.length ≤ m.length
  | [], _, _, _ => Nat.zero_le _
  | x :: r, m, nd, h => by
    have hx := h x (List.mem_cons_self ..)
    have nr := List.nodup_cons.mp nd
    have z := nodup_sub r (m.erase x) nr.2 fun y hy => (List.mem_erase_of_ne (fun e => nr.1 (by rw [← e]; exact hy))).mpr (h y (List.mem_cons_of_mem _ hy))
    rw [List.length_erase_of_mem hx] at z
    have : 1 ≤ m.length := List.length_pos_of_mem hx
    rw [List.length_cons]
    omega
theorem kn_props : ∀ (ns acc : List Cs), acc.Nodup → (kn acc ns).Nodup ∧ ∀ x ∈ kn acc ns, x ∈ acc ∨ (x ∈ ns ∧ great x = true)
  | [], acc, h => ⟨h, fun x hx => .inl hx⟩
  | n :: r, acc, h => by
    have hs : (knS acc n).Nodup ∧ ∀ x ∈ knS acc n, x ∈ acc ∨ (x = n ∧ great x = true) := by
      unfold knS
      split
      · rename_i hg
        split
        · exact ⟨h, fun x hx => .inl hx⟩
        · rename_i hm
          refine ⟨List.nodup_append.mpr ⟨h, by simp, fun a ha b hb e => ?_⟩, fun x hx => ?_⟩
          · rw [List.mem_singleton.mp hb] at e
            exact hm (by rw [← e]; exact ha)
          · rcases List.mem_append.mp hx with z | z
            · exact .inl z
            · have e := List.mem_singleton.mp z
              exact .inr ⟨e, by rw [e]; exact hg⟩
      · exact ⟨h, fun x hx => .inl hx⟩
    obtain ⟨z1, z2⟩ := kn_props r (knS acc n) hs.1
    refine ⟨z1, fun x hx => ?_⟩
    rcases z2 x hx with y | ⟨y, g⟩
    · rcases hs.2 x y with q | ⟨q, g⟩
      · exact .inl q
      · exact .inr ⟨by rw [q]; exact List.mem_cons_self .., g⟩
    · exact .inr ⟨List.mem_cons_of_mem _ y, g⟩
theorem pick_facts {K : PySem.W.Frag} {H : Hp} {P : Fc → Prop} : ∀ {bs : List Unit} {ys : List V}, Paired (fun _ y => ∃ f, Fact K H f y ∧ P f) bs ys → ∃ fs, Paired (Fact K H) fs ys ∧ ∀ f ∈ fs, P f
  | _, _, .nil => ⟨[], .nil, fun f hf => nomatch hf⟩
  | _, _, .cons h t => by
    obtain ⟨f, h1, h2⟩ := h
    obtain ⟨fs, z1, z2⟩ := pick_facts t
    refine ⟨f :: fs, .cons h1 z1, fun g hg => ?_⟩
    rcases List.mem_cons.mp hg with e | e
    · rw [e]; exact h2
    · exact z2 g e
theorem cut4 (ns : List Int) : ∃ ms : List Int, cutV (ns.map V.int) (some 4) (some 204) = ms.map V.int ∧ ms.length + 4 ≤ max 4 ns.length := by
  refine ⟨(ns.drop (HT.sIx ns.length 0 (some 4))).take (HT.sIx ns.length ns.length (some 204) - HT.sIx ns.length 0 (some 4)), ?_, ?_⟩
  · unfold cutV
    rw [List.length_map, List.map_take, List.map_drop]
  · have e := HT.sIx_nat ns.length 0 4
    have e : HT.sIx ns.length 0 (some 4) = min 4 ns.length := e
    rw [List.length_take, List.length_drop, e]
    omega
theorem paired_set {K : PySem.W.Frag} {H : Hp} {f : Fc} {v : V} (hF : Fact K H f v) : ∀ {fs : List Fc} {ys : List V} (j : Nat), Paired (Fact K H) fs ys → Paired (Fact K H) (fs.set j f) (ys.set j v)
  | _, _, _, .nil => .nil
  | _, _, 0, .cons _ t => .cons hF t
  | _, _, j + 1, .cons r t => .cons r (paired_set hF j t)
end Bk
namespace Bk
open PySem L2 K02
structure GF (os : List Cs) (m : Nat) (f : Fc) : Prop where
  k : nameC f.k = true
  as : ∀ a ∈ f.as, nameC a = true ∧ (great a = true → a ∈ os)
  n : f.as.length ≤ m
theorem sf_not_great {a : Cs} (h : Good aSF.cps.toList a) : great a = false := by
  have key : ∀ c ∈ aSF.cps.toList, decide (c ∈ aGreat.cps.toList) = false := by decide +kernel
  exact key _ h.2
theorem sm_not_great {a : Cs} (h : Good aSmall.cps.toList a) : great a = false := by
  have key : ∀ c ∈ aSmall.cps.toList, decide (c ∈ aGreat.cps.toList) = false := by decide +kernel
  exact key _ h.2
theorem GF.fl {os : List Cs} {m : Nat} {f : Fc} (h : GF os m f) (hm : m ≤ 100) : FL f := ⟨h.k, fun a ha => (h.as a ha).1, Nat.le_trans h.n hm⟩
theorem kn_few {os : List Cs} {fs : List Fc} {m : Nat} (ho : os.length < 64) (h : ∀ f ∈ fs, GF os m f) : (kn [] (fs.flatMap (·.as))).length < 64 := by
  obtain ⟨z1, z2⟩ := kn_props (fs.flatMap (·.as)) [] (by simp)
  have z := nodup_sub _ os z1 fun x hx => by
    rcases z2 x hx with y | ⟨y, g⟩
    · cases y
    · obtain ⟨f, hf, hx2⟩ := List.mem_flatMap.mp y
      exact ((h f hf).as x hx2).2 g
  omega
end Bk
namespace L2
theorem gname_go {i : Nat} {x : V} {σ : St} {H : Hp} {K : St → Hp → Prop} (h : K (σ.set i (some x)) H) : gName i x σ H K := h
end L2
namespace L2
theorem asg_const {t2 : TS} {D : Ends} {σ : St} {H : Hp} {i : Nat} {v : V} (h : t2 D (σ.set i (some v)) H) : tSeq (tAsg (tC v) (gName i)) t2 D σ H := h
end L2
namespace Bk
open PySem L2 K02
def poolD (ps ls ns : List Tr) : Dt := .tup [(Tr.tup ps).toD, (Tr.tup ls).toD, (Tr.tup ns).toD, .bl false]
theorem isD_ts {K : PySem.W.Frag} {H : Hp} {t : Addr} {ts : List Tr} {ys : List V} (h : SqT K H t ys) (hT : Ts K H ts ys) : IsD K H (Tr.tup ts).toD (.ref t) := by
  simp only [Tr.toD]
  refine .tup h (by rw [toDs_length]; exact hT.1) fun i h1 h2 => ?_
  have h1' : i < ts.length := by rw [toDs_length] at h1; exact h1
  rw [toDs_get _ i h1']
  exact hT.2 i h1' h2
theorem PoolV.isD {K : PySem.W.Frag} {H : Hp} {v : V} {ps ls ns : List Tr} (h : PoolV K H v ps ls ns) : IsD K H (poolD ps ls ns) v := by
  obtain ⟨p, t0, t1, t2, y0, y1, y2, rfl, hp, h0, T0, h1, T1, h2, T2⟩ := h
  refine .tup hp rfl fun i i1 i2 => ?_
  match i, i1, i2 with
  | 0, _, _ => exact isD_ts h0 T0
  | 1, _, _ => exact isD_ts h1 T1
  | 2, _, _ => exact isD_ts h2 T2
  | 3, _, _ => exact .bl false
theorem poolD_self (ps ls ns : List Tr) : eqD (poolD ps ls ns) (poolD ps ls ns) = true := by
  have e : ∀ t : Tr, eqD t.toD t.toD = true := fun t => (eqT_iff t t).mpr rfl
  have e1 := e (.tup ps)
  have e2 := e (.tup ls)
  have e3 := e (.tup ns)
  unfold poolD
  simp only [eqD, eqDs, e1, e2, e3]
  rfl
theorem deep_le {n : Nat} : ∀ {l : List Tr}, (∀ t ∈ l, t.toD.deep ≤ n) → Dt.deeps (Tr.toDs l) ≤ n
  | [], _ => Nat.zero_le _
  | t :: r, h => by
    have z := deep_le (l := r) fun u hu => h u (List.mem_cons_of_mem _ hu)
    have y := h t (List.mem_cons_self ..)
    show max t.toD.deep (Dt.deeps (Tr.toDs r)) ≤ n
    omega
theorem made_deep (ks : List Kd) (fs : List Fc) : (poolD (srtT ((bagF ks fs).map fT)) (srtT (dd ((lasF ks fs).map fT))) (srtT ((kn [] (fs.flatMap (·.as))).map pT))).deep ≤ 20 := by
  have a1 : Dt.deeps (Tr.toDs (srtT ((bagF ks fs).map fT))) ≤ 2 := deep_le fun t ht => by
    obtain ⟨g, _, rfl⟩ := List.mem_map.mp ((srtT_perm _).mem_iff.mp ht)
    unfold fT; rw [deep_fact]; decide
  have a2 : Dt.deeps (Tr.toDs (srtT (dd ((lasF ks fs).map fT)))) ≤ 2 := deep_le fun t ht => by
    obtain ⟨g, rfl⟩ := dd_fT ((srtT_perm _).mem_iff.mp ht)
    unfold fT; rw [deep_fact]; decide
  have a3 : Dt.deeps (Tr.toDs (srtT ((kn [] (fs.flatMap (·.as))).map pT))) ≤ 2 := deep_le fun t ht => by
    obtain ⟨g, _, rfl⟩ := List.mem_map.mp ((srtT_perm _).mem_iff.mp ht)
    show 1 ≤ 2
    decide
  unfold poolD
  show max (Dt.deeps _ + 1) (max (Dt.deeps _ + 1) (max (Dt.deeps _ + 1) (max 0 0))) + 1 ≤ 20
  omega
end Bk
namespace K04
open PySem L2 K02 Bk
set_option maxHeartbeats 4000000
def top (i : Nat) : Stmt := PySem.Challenge.pw_poolrules_k04_a_pool_of_facts.main.body.getD i (.Pass ⟨0, 0, 0, 0⟩)
abbrev s_is_great : Stmt := top 8
abbrev s_start_pool : Stmt := top 12
abbrev s_moved : Stmt := top 13
abbrev s_check_facts : Stmt := top 14
abbrev s_check_taken : Stmt := top 15
abbrev s_written : Stmt := top 16
abbrev s_taken_out : Stmt := top 17
abbrev s_know : Stmt := top 18
abbrev s_tell_same : Stmt := top 19
abbrev s_chosen : Stmt := top 20
abbrev s__law_cell_at : Stmt := top 22
abbrev s__law_mix : Stmt := top 23
abbrev s__law_names : Stmt := top 24
abbrev s__law_titles : Stmt := top 25
abbrev s__law_opens : Stmt := top 26
abbrev s__law_words : Stmt := top 27
abbrev s__law_kinds : Stmt := top 28
abbrev s__law_fact : Stmt := top 29
abbrev s__law_fault : Stmt := top 30
abbrev s__law_odd : Stmt := top 31
abbrev s__law_known : Stmt := top 32
abbrev s__law_lasts : Stmt := top 33
abbrev s__law_due : Stmt := top 34
abbrev s__law_first_fault : Stmt := top 35
abbrev s_law : Stmt := top 36
section
variable {P : Program} {w : World} {K : PySem.W.Frag} {mg : Str → Option Value} {base : Heap} {f : Addr} {fd : FuncData} {C1 C2 : Addr}
theorem get_of {α : Type} {l : List α} {i : Nat} {x : α} (h : l[i]? = some x) : ∃ hi : i < l.length, l[i] = x := List.getElem?_eq_some_iff.mp h
theorem sc_check_facts : FnScope ["kinds", "facts", "counts", "fact"] ["kinds", "facts"] (defScope s_check_facts) := ⟨rfl, rfl, rfl, by decide +kernel, rfl, by decide +kernel, by decide +kernel⟩
theorem ok_check_facts (F : Fun K "check_facts" "check_facts" s_check_facts f fd) (m_dict : mg "dict" = none) (m_len : mg "len" = none) (x_NoKind : PySem.W.excIn K C1 bmV newV = true) (m_NoKind : mg "NoKind" = some (.ref C1)) (x_BadArgs : PySem.W.excIn K C2 bmV newV = true) (m_BadArgs : mg "BadArgs" = some (.ref C2)) :
    FnOk P w K mg base (CXE P w) 1 f fd ["kinds", "facts"] (spCheckE K C1 C2) := by
  refine F.okE sc_check_facts (fun vs H Q E h => ?_) (fun cdv A outer s H vs Q E hr h => ?_)
  · obtain ⟨lk, lf, ks, fs, rfl, _⟩ := h
    rfl
  obtain ⟨lk, lf, ks, fs, rfl, ⟨⟨kvs, hk, pk⟩, nd, fk, ⟨fvs, hf, pf⟩, hfs⟩, ⟨hE1, hE2⟩, q⟩ := h
  have hu := hu_of hr
  refine ⟨_, (pss_cons (ps_set (i := 2) sc_check_facts.nd rfl (Or.inl rfl) (pe_callTy (call_dict_pairs rfl) rfl m_dict PyProof.Rows.Boot.«dict» (pa_cons (pe_comp [] rfl (by kernel_rfl) (pi_list (pv 0)) (fun _ _ _ _ _ => pts_nil) (fun _ _ _ _ _ => (pe_tup (pa_cons (pe_ix (r := rIxT K) ix_tup (pv 0) pe_int (fun _ _ => rfl)) (pa_cons (pe_ix (r := rIxT K) ix_tup (pv 0) pe_int (fun _ _ => rfl)) pa_nil))))) pa_nil)))
  (pss_one (ps_for passLoop rfl (pi_list (pv 1)) (pg_name (i := 3) sc_check_facts.nd rfl (Or.inl rfl))
  (pss_cons (ps_if (pt_cmp (pc_dnotin hu (pe_ix ix_tup (pv 3) pe_int (fun _ _ => rfl)) (pv 2)))
  (pss_one (ps_raise x_NoKind m_NoKind rfl (pa_cons (pe_frep hr.gd hr.units (pv 3)) pa_nil)))
  pss_nil)
  (pss_one (ps_if (pt_cmpR op_ne (pe_callB call_len_seq rfl m_len PySem.boot_len (pa_cons (pe_ix ix_tup (pv 3) pe_int (fun _ _ => rfl)) pa_nil)) (pe_dget hu (pv 2) (pe_ix ix_tup (pv 3) pe_int (fun _ _ => rfl)) (fun _ _ => rfl)) (nomark _))
  (pss_one (ps_raise x_BadArgs m_BadArgs rfl (pa_cons (pe_frep hr.gd hr.units (pv 3)) pa_nil)))
  pss_nil)))))), ?_⟩
  have zl := Paired.length pk
  have zf := Paired.length pf
  refine ⟨_, rfl, lk, rfl, ⟨_, SqL.of hk⟩, fun D hD => ?_⟩
  refine comp_rel (K := K) (xs := kvs) ks (fun _ H k y => ∃ t, y = .ref t ∧ SqT K H t [tx k.n, .int k.c]) (fun _ _ _ _ _ k ⟨t, e, h⟩ => ⟨t, e, SqT.keep k h⟩) (fun _ _ _ _ _ _ h => h) (szl (by omega)) hD (SqL.of hk) zl (fun i x b H' R hx hb sm hQ => ?_) (fun H1 ys s1 hL po => ?_)
  · obtain ⟨hi, ex⟩ := get_of hx
    obtain ⟨hib, eb⟩ := get_of hb
    obtain ⟨t, et, ht⟩ := paired_at pk i hib hi
    rw [ex] at et
    rw [eb] at ht
    subst et
    have ht' := ht.same sm
    exact ⟨_, rfl, t, _, 0, _, rfl, rfl, ht', rfl, _, rfl, t, _, 1, _, rfl, rfl, ht', rfl, (by show 2 ≤ sizeLine; decide), fun t2 ht2 => hQ _ _ (same_new ht2 _) ⟨t2, rfl, SqT.of upd_same⟩⟩
  refine ⟨D, ys, ks.map kdEnt, rfl, hL, paired_mapL po, (by rw [List.length_map]; omega), fun d hd => ?_⟩
  rw [mergeK_nodup _ _ (kdEnt_nodup nd), List.nil_append]
  have s2 : Same H (upd H1 d (.dK (ks.map kdEnt))) := Same.trans s1 (same_new hd _)
  have hdd := upd_same (H := H1) (a := d) (o := .dK (ks.map kdEnt))
  generalize upd H1 d (.dK (ks.map kdEnt)) = H2 at s2 hdd ⊢
  refine ⟨_, rfl, lf, rfl, ⟨_, SqL.of (s2 _ _ hf)⟩, for_list (K := K) (a := lf) (xs := fvs) (fun i σ H' => H' = H2 ∧ faults ks fs = faults ks (fs.drop i) ∧ ∃ o, σ = [some (.ref lk), some (.ref lf), some (.ref d), o]) ⟨rfl, rfl, none, rfl⟩ (fun i σ H' _ ⟨e, _⟩ => by rw [e]; exact SqL.of (s2 _ _ hf)) ?_ ?_⟩
  · rintro i y σ H' hi ⟨rfl, hfa, o, rfl⟩
    obtain ⟨hif, ey⟩ := get_of hi
    have hiF : i < fs.length := by omega
    have hFa := paired_at pf i hiF hif
    rw [ey] at hFa
    have hFa' := Fact.isD (Fact.sm s2 hFa)
    obtain ⟨t, t2, et, h1, h2⟩ := hFa
    subst et
    have h1' := h1.same s2
    have h2' := h2.same s2
    have hS := FS.shown (hfs _ (List.getElem_mem hiF))
    rw [faults_drop hiF] at hfa
    refine ⟨_, rfl, t, _, 0, _, rfl, rfl, h1', rfl, _, rfl, d, _, rfl, DGet.k (k := (Sum.inr (S fs[i].k) : Key)) hdd, _, rfl, ?_⟩
    have hval := val_kd ks fs[i].k
    cases hfd : ks.find? (fun k => decide (k.n = fs[i].k)) with
    | none =>
      rw [hfd] at hval
      rw [hval]
      have hfl : fault ks fs[i] = 1 := by unfold fault; rw [hfd]
      refine iteT ⟨_, rfl, [.str (S fs[i].k), .tup ((fs[i].as.map S).map .str)], hFa', ?_, hS.1, hS.2, fun x => ⟨(by show 1 ≤ sizeLine; decide), hE1 ?_ _ s2⟩⟩
      · show (fT fs[i]).toD.deep ≤ 18
        unfold fT
        rw [deep_fact]
        decide
      · rw [hfa, hfl]
        rfl
    | some k =>
      rw [hfd] at hval
      rw [hval]
      refine iteF ?_
      refine ⟨_, rfl, t, _, 1, _, rfl, rfl, h1', rfl, t2, _, rfl, .inr h2', _, rfl, _, rfl, t, _, 0, _, rfl, rfl, h1', rfl, d, _, rfl, (by have z := DGet.k (k := (Sum.inr (S fs[i].k) : Key)) hdd; rw [hval] at z; exact z), rfl, _, rfl, ?_⟩
      rw [List.length_map]
      by_cases hc : k.c = fs[i].as.length
      · have hfl : fault ks fs[i] = 0 := by unfold fault; rw [hfd]; exact if_pos hc
        rw [decide_eq_true (show V.int (fs[i].as.length : Nat) = V.int (k.c : Nat) by rw [hc])]
        refine iteF ⟨rfl, ?_, _, rfl⟩
        rw [hfa, hfl]
        rfl
      · have hfl : fault ks fs[i] = 2 := by unfold fault; rw [hfd]; exact if_neg hc
        rw [decide_eq_false (fun z : V.int (fs[i].as.length : Nat) = V.int (k.c : Nat) => hc (by have := V.int.inj z; omega))]
        refine iteT ⟨_, rfl, [.str (S fs[i].k), .tup ((fs[i].as.map S).map .str)], hFa', ?_, hS.1, hS.2, fun x => ⟨(by show 1 ≤ sizeLine; decide), hE2 ?_ _ s2⟩⟩
        · show (fT fs[i]).toD.deep ≤ 18
          unfold fT
          rw [deep_fact]
          decide
        · rw [hfa, hfl]
          rfl
  · rintro σ H' ⟨rfl, hfa, o, rfl⟩
    rw [List.drop_of_length_le (by omega)] at hfa
    exact q hfa _ s2
end
end K04
namespace K04
open PySem L2 K02 Bk
set_option maxHeartbeats 4000000
section
variable {P : Program} {w : World} {K : PySem.W.Frag} {mg : Str → Option Value} {base : Heap} {f : Addr} {fd : FuncData} {C1 C2 : Addr}
theorem sc_is_great : FnScope ["name"] ["name"] (defScope s_is_great) := ⟨rfl, rfl, rfl, by decide +kernel, rfl, by decide +kernel, by decide +kernel⟩
theorem ok_is_great {u1 : Value} (F : Fun K "is_great" "is_great" s_is_great f fd) (m_GREAT : mg "GREAT" = some u1) (r_GREAT : RelV (.str aGreat) u1) : FnOk P w K mg base CX0 1 f fd ["name"] spGreat := by
  refine F.ok sc_is_great (fun vs H Q E h => ?_) (fun cdv A outer s H vs Q E hr h => ?_)
  · obtain ⟨p, rfl, _⟩ := h
    rfl
  obtain ⟨p, rfl, h1, hx, q⟩ := h
  refine ⟨_, (pss_one (ps_ret (pe_cmpR op_in_str (pe_ix ix_str (pv 0) pe_int (fun _ _ => rfl)) (pe_glob rfl m_GREAT r_GREAT) (by with_unfolding_all rfl)))), ?_⟩
  have hl : 1 ≤ (S p).length := by
    rw [S_len]
    cases p with
    | nil => exact absurd rfl h1
    | cons a r => simp
  refine ⟨_, rfl, S p, 0, _, rfl, rfl, (by rw [S_len]; exact sz (by omega)), head_at hl, _, _, rfl, rfl, ?_⟩
  rw [StrLaws.found_one, S_codes]
  exact q
theorem sc_check_taken : FnScope ["lasts", "taken", "fact"] ["lasts", "taken"] (defScope s_check_taken) := ⟨rfl, rfl, rfl, by decide +kernel, rfl, by decide +kernel, by decide +kernel⟩
theorem ok_check_taken (F : Fun K "check_taken" "check_taken" s_check_taken f fd) : FnOk P w K mg base CX0 1 f fd ["lasts", "taken"] (spCheckT K) := by
  refine F.ok sc_check_taken (fun vs H Q E h => ?_) (fun cdv A outer s H vs Q E hr h => ?_)
  · obtain ⟨ll, lf, fvs, ls, fs, rfl, _⟩ := h
    rfl
  obtain ⟨ll, lf, fvs, ls, fs, rfl, hl, hf, pf, hno, q⟩ := h
  refine ⟨_, (pss_one (ps_for PassesOwn.never rfl (pi_list (pv 1)) (pg_name (i := 2) sc_check_taken.nd rfl (Or.inl rfl))
  (pss_one (ps_if (pt_cmpR op_in_seq (pe_ix ix_tup (pv 2) pe_int (fun _ _ => rfl)) (pv 0) (by with_unfolding_all rfl))
  pss_never
  pss_nil)))), ?_⟩
  have zf := Paired.length pf
  refine ⟨_, rfl, lf, rfl, ⟨_, SqL.of hf⟩, for_list (K := K) (a := lf) (xs := fvs) (fun i σ H' => H' = H ∧ ∃ o, σ = [some (.ref ll), some (.ref lf), o]) ⟨rfl, none, rfl⟩ (fun i σ H' _ ⟨e, _⟩ => by rw [e]; exact SqL.of hf) ?_ ?_⟩
  · rintro i y σ H' hi ⟨rfl, o, rfl⟩
    obtain ⟨hif, ey⟩ := get_of hi
    have hiF : i < fs.length := by omega
    obtain ⟨t, t2, et, h1, h2⟩ := paired_at pf i hiF hif
    rw [ey] at et
    subst et
    refine ⟨_, rfl, t, _, 0, _, rfl, rfl, h1, rfl, _, rfl, ll, _, rfl, .inl (SqL.of hl), rfl, flat_map _, _, rfl, ?_⟩
    rw [inV_map, decide_eq_false (hno _ (List.getElem_mem hiF))]
    exact iteF ⟨rfl, _, rfl⟩
  · rintro σ H' ⟨rfl, o, rfl⟩
    exact q
theorem sc_taken_out : FnScope ["passing", "taken", "wanted", "fact", "left"] ["passing", "taken"] (defScope s_taken_out) := ⟨rfl, rfl, rfl, by decide +kernel, rfl, by decide +kernel, by decide +kernel⟩
theorem ok_taken_out (F : Fun K "taken_out" "taken_out" s_taken_out f fd) (m_list : mg "list" = none) (m_len : mg "len" = none) : FnOk P w K mg base CX0 1 f fd ["passing", "taken"] (spTaken0 K) := by
  refine F.ok sc_taken_out (fun vs H Q E h => ?_) (fun cdv A outer s H vs Q E hr h => ?_)
  · obtain ⟨t, l, rfl, _⟩ := h
    rfl
  obtain ⟨t, l, rfl, ht, hl, q⟩ := h
  refine ⟨_, (pss_cons (ps_if (pt_cmpR op_eq (pe_callB call_len_seq rfl m_len PySem.boot_len (pa_cons (pv 1) pa_nil)) pe_int (nomark _))
  (pss_one (ps_ret (pe_callTy call_list_of rfl m_list PyProof.Rows.Boot.«list» (pa_cons (pv 0) pa_nil))))
  pss_nil)
  pss_never), ?_⟩
  refine ⟨_, rfl, l, _, rfl, .inl (SqL.of hl), rfl, _, rfl, iteT ?_⟩
  exact ⟨_, rfl, t, _, rfl, .inr ht, q⟩
theorem sc_know : FnScope ["stand", "names", "name"] ["stand", "names"] (defScope s_know) := ⟨rfl, rfl, rfl, by decide +kernel, rfl, by decide +kernel, by decide +kernel⟩
theorem ok_know (F : Fun K "know" "know" s_know f fd) (c_is_great : Cal P w K mg base "is_great" 1 ["name"] spGreat) : FnOk P w K mg base CX0 2 f fd ["stand", "names"] (spKnow K) := by
  refine F.ok sc_know (fun vs H Q E h => ?_) (fun cdv A outer s H vs Q E hr h => ?_)
  · obtain ⟨d, t, acc, ns, rfl, _⟩ := h
    rfl
  obtain ⟨d, t, acc, ns, rfl, hd, ht, hok, hn, q⟩ := h
  refine ⟨_, (pss_one (ps_for PassesOwn.never rfl (pi_tup (pv 1)) (pg_name (i := 2) sc_know.nd rfl (Or.inl rfl))
  (pss_one (ps_if (pt_val (pe_callC c_is_great (hr.mono (by decide)) rfl (pa_cons (pv 2) pa_nil)))
  (pss_one (ps_expr (pe_ddef (pv 0) (pv 2) (pv 2) ⟨rfl, rfl, rfl, rfl⟩)))
  pss_nil)))), ?_⟩
  refine ⟨_, rfl, t, rfl, ⟨_, ht⟩, for_tup (K := K) (a := t) (xs := ns.map tx) (fun i σ H' => H' = upd H d (.dK ((kn acc (ns.take i)).map ent)) ∧ ∃ o, σ = [some (.ref d), some (.ref t), o]) ⟨(upd_id hd).symm, none, rfl⟩ (fun i σ H' _ ⟨e, _⟩ => by rw [e]; exact sqt_upd hd ht) ?_ ?_⟩
  · rintro i y σ H' hi ⟨rfl, o, rfl⟩
    obtain ⟨hif, ey⟩ := get_of hi
    have hiN : i < ns.length := by simpa using hif
    have ey : tx ns[i] = y := by rw [← ey]; simp
    subst ey
    have hno := hok _ (List.getElem_mem hiN)
    have e1 : kn acc (ns.take (i + 1)) = knS (kn acc (ns.take i)) ns[i] := by
      rw [List.take_succ_eq_append_getElem hiN]
      unfold kn
      rw [List.foldl_append]
      rfl
    have hlen := kn_len (ns.take i) acc
    rw [List.length_take] at hlen
    refine ⟨_, rfl, ns[i], rfl, hno.1, (by have := hno.2.1; omega), _, rfl, ?_⟩
    generalize kn acc (ns.take i) = ac at e1 hlen ⊢
    have hdd := upd_same (H := H) (a := d) (o := .dK (ac.map ent))
    by_cases hg : great ns[i] = true
    · rw [hg]
      refine iteT ?_
      refine ⟨_, rfl, d, rfl, .inl ⟨_, .inl hdd⟩, _, rfl, _, rfl, _, (Sum.inr (S ns[i]) : Key), hdd, rfl, (by rw [List.length_map, sizeLine_eq]; omega), fun v hv => ?_, fun hv => ?_⟩
      · rw [val_ent] at hv
        have hm : ns[i] ∈ ac := by
          by_cases z : ns[i] ∈ ac
          · exact z
          · rw [if_neg z] at hv; cases hv
        refine ⟨?_, _, rfl⟩
        rw [e1]
        unfold knS
        rw [if_pos hg, if_pos hm]
      · rw [val_ent] at hv
        have hm : ns[i] ∉ ac := fun z => by rw [if_pos z] at hv; cases hv
        refine ⟨?_, _, rfl⟩
        rw [e1, upd_upd, put_ent hm]
        unfold knS
        rw [if_pos hg, if_neg hm]
    · have hg' : great ns[i] = false := by simpa using hg
      rw [hg']
      refine iteF ⟨?_, _, rfl⟩
      rw [e1]
      unfold knS
      rw [if_neg hg]
  · rintro σ H' ⟨rfl, o, rfl⟩
    rw [List.length_map, List.take_length]
    exact q
theorem sc_written : FnScope ["stand", "fact"] ["stand", "fact"] (defScope s_written) := ⟨rfl, rfl, rfl, by decide +kernel, rfl, by decide +kernel, by decide +kernel⟩
theorem ok_written (F : Fun K "written" "written" s_written f fd) (m_tuple : mg "tuple" = none) : FnOk P w K mg base CX0 1 f fd ["stand", "fact"] (spWritten K) := by
  refine F.ok sc_written (fun vs H Q E h => ?_) (fun cdv A outer s H vs Q E hr h => ?_)
  · obtain ⟨d, v, acc, g, rfl, _⟩ := h
    rfl
  obtain ⟨d, v, acc, g, rfl, hd, ⟨t, t2, rfl, h1, h2⟩, hF, q⟩ := h
  have hu := hu_of hr
  refine ⟨_, (pss_one (ps_ret (pe_tup (pa_cons (pe_ix ix_tup (pv 1) pe_int (fun _ _ => rfl)) (pa_cons (pe_callTy call_tuple_of rfl m_tuple PyProof.Rows.Boot.«tuple» (pa_cons (pe_comp [0] rfl (by kernel_rfl) (pi_tup (pe_ix ix_tup (pv 1) pe_int (fun _ _ => rfl))) (fun _ _ _ _ _ => pts_nil) (fun _ _ _ _ _ => (pe_dget2 hu (pv 1) (pv 0) (pv 0) ⟨rfl, rfl, rfl, rfl⟩))) pa_nil)) pa_nil))))), ?_⟩
  refine ⟨_, rfl, t, _, 0, _, rfl, rfl, h1, rfl, ?_⟩
  refine ⟨_, rfl, t, _, 1, _, rfl, rfl, h1, rfl, ?_⟩
  have hlen := hF.n
  refine ⟨t2, rfl, ⟨_, h2⟩, fun D hD => ?_⟩
  refine comp_mapT (K := K) (xs := g.as.map tx) (szl (by rw [List.length_map]; omega)) hD h2 id (fun x H' R hx sm hQ => ?_) (fun H1 s1 hL => ?_)
  · obtain ⟨n, hn, rfl⟩ := List.mem_map.mp hx
    have hdd := sm _ _ hd
    refine ⟨_, rfl, d, rfl, .inl ⟨_, .inl hdd⟩, _, rfl, _, rfl, _, DGet.k (k := (Sum.inr (S n) : Key)) hdd, ?_⟩
    have e : (valV (acc.map ent) (Sum.inr (S n) : Key)).getD (tx n) = tx n := by
      rw [val_ent]
      split <;> rfl
    rw [e]
    exact hQ _ (fun _ _ z => z)
  · rw [List.map_id] at hL
    refine ⟨D, _, rfl, .inl ⟨SqL.of hL, fun p hp => ?_⟩⟩
    refine ⟨(by show 2 ≤ sizeLine; decide), fun p2 hp2 => ?_⟩
    refine q _ _ (Same.trans s1 (Same.trans (same_new hp _) (same_new hp2 _))) ⟨p2, p, rfl, SqT.of upd_same, SqT.of ?_⟩
    rw [upd_ne (ne_of_none upd_same hp2)]
    exact upd_same
end
end K04
namespace K04
open PySem L2 K02 Bk
set_option maxHeartbeats 4000000
section
variable {P : Program} {w : World} {K : PySem.W.Frag} {mg : Str → Option Value} {base : Heap} {f : Addr} {fd : FuncData} {C1 C2 : Addr}
theorem sc_moved : FnScope ["kinds", "pool", "taken", "put", "told", "lasts", "stand", "left", "fact", "pair", "lasting", "new", "passing"] ["kinds", "pool", "taken", "put", "told"] (defScope s_moved) := ⟨rfl, rfl, rfl, by decide +kernel, rfl, by decide +kernel, by decide +kernel⟩
theorem ok_moved {u1 : Value} {b1 : Addr} (F : Fun K "moved" "moved" s_moved f fd) (c_check_facts : CalE P w K mg base "check_facts" 1 ["kinds", "facts"] (spCheckE K C1 C2)) (c_check_taken : Cal P w K mg base "check_taken" 1 ["lasts", "taken"] (spCheckT K)) (c_taken_out : Cal P w K mg base "taken_out" 1 ["passing", "taken"] (spTaken0 K)) (c_know : Cal P w K mg base "know" 2 ["stand", "names"] (spKnow K)) (c_written : Cal P w K mg base "written" 1 ["stand", "fact"] (spWritten K))
    (m_BROKEN : mg "BROKEN" = some u1) (r_BROKEN : RelV (.ref b1) u1) (m_dict : mg "dict" = none) (m_list : mg "list" = none) (m_len : mg "len" = none) (m_tuple : mg "tuple" = none) (m_sorted : mg "sorted" = none) (m_set : mg "set" = none) :
    FnOk P w K mg base (CXE P w) 3 f fd ["kinds", "pool", "taken", "put", "told"] (spMoved K C1 C2) := by
  refine F.okE sc_moved (fun vs H Q E h => ?_) (fun cdv A outer s H vs Q E hr h => ?_)
  · obtain ⟨lk, lf, lt, lo, pe, e0, e1, e2, ks, fs, rfl, _⟩ := h
    rfl
  obtain ⟨lk, lf, lt, lo, pe, e0, e1, e2, ks, fs, rfl, hKF, hpe, he0, he1, he2, hlt, hlo, h64, hkn64, hRf, q⟩ := h
  have hu := hu_of hr
  refine ⟨_, (pss_cons (ps_expr (pe_callE c_check_facts (hr.mono (by decide)) rfl (pa_cons (pv 0) (pa_cons (pv 2) pa_nil))))
  (pss_cons (ps_expr (pe_callE c_check_facts (hr.mono (by decide)) rfl (pa_cons (pv 0) (pa_cons (pv 3) pa_nil))))
  (pss_cons (ps_set (i := 5) sc_moved.nd rfl (Or.inr rfl) (pe_comp [] rfl (by kernel_rfl) (pi_list (pv 0)) (fun _ _ _ _ _ => (pts_one (pt_val (pe_ix (r := rIxT K) ix_tup (pv 0) pe_int (fun _ _ => rfl))))) (fun _ _ _ _ _ => (pe_ix (r := rIxT K) ix_tup (pv 0) pe_int (fun _ _ => rfl)))))
  (pss_cons (ps_expr (pe_callC c_check_taken (hr.mono (by decide)) rfl (pa_cons (pv 5) (pa_cons (pv 2) pa_nil))))
  (pss_cons (ps_if (pt_val (pe_ix ix_tup (pv 1) pe_int (fun _ _ => rfl)))
  (pss_one (ps_ret (pe_glob rfl m_BROKEN r_BROKEN)))
  pss_nil)
  (pss_cons (ps_set (i := 6) sc_moved.nd rfl (Or.inr rfl) (pe_callTy (call_dict_nil rfl) rfl m_dict PyProof.Rows.Boot.«dict» (pa_cons (pe_ix ix_tup (pv 1) pe_int (fun _ _ => rfl)) pa_nil)))
  (pss_cons (ps_set (i := 7) sc_moved.nd rfl (Or.inl rfl) (pe_callC c_taken_out (hr.mono (by decide)) rfl (pa_cons (pe_ix ix_tup (pv 1) pe_int (fun _ _ => rfl)) (pa_cons (pe_comp [6] rfl (by kernel_rfl) (pi_list (pv 2)) (fun _ _ _ _ _ => pts_nil) (fun _ _ _ _ _ => (pe_callC c_written (hr.mono (by decide)) rfl (pa_cons (pv 1) (pa_cons (pv 0) pa_nil))))) pa_nil))))
  (pss_cons (ps_for passLoop rfl (pi_list (pv 3)) (pg_name (i := 8) sc_moved.nd rfl (Or.inl rfl))
  (pss_one (ps_expr (pe_callC c_know (hr.mono (by decide)) rfl (pa_cons (pv 6) (pa_cons (pe_ix ix_tup (pv 8) pe_int (fun _ _ => rfl)) pa_nil))))))
  (pss_cons (ps_for passLoop rfl (pi_list (pv 4)) (pg_name (i := 9) sc_moved.nd rfl (Or.inl rfl))
  pss_never)
  (pss_cons (ps_set (i := 10) sc_moved.nd rfl (Or.inl rfl) (pe_callTy call_list_of rfl m_list PyProof.Rows.Boot.«list» (pa_cons (pe_ix ix_tup (pv 1) pe_int (fun _ _ => rfl)) pa_nil)))
  (pss_cons (ps_if (pt_cmpR op_gt (pe_callB call_len_seq rfl m_len PySem.boot_len (pa_cons (pv 4) pa_nil)) pe_int (nomark _))
  pss_never
  pss_nil)
  (pss_cons (ps_setc (i := 11) [6] sc_moved.nd rfl (Or.inl rfl) rfl (by kernel_rfl) (pi_list (pv 3)) (fun _ _ _ _ _ => pts_nil) (fun _ _ _ _ _ => (pe_callC c_written (hr.mono (by decide)) rfl (pa_cons (pv 1) (pa_cons (pv 0) pa_nil)))))
  (pss_cons (ps_set (i := 12) sc_moved.nd rfl (Or.inl rfl) (pe_op op_cat (pv 7) (pe_comp [5] rfl (by kernel_rfl) (pi_list (pv 11)) (fun _ _ _ _ _ => (pts_one (pt_cmpR (r := rIn K true) op_notIn_seq (pe_ix (r := rIxT K) ix_tup (pv 0) pe_int (fun _ _ => rfl)) (pv 1) (by with_unfolding_all rfl)))) (fun _ _ _ _ _ => (pv 0)))))
  (pss_cons (ps_set (i := 10) sc_moved.nd rfl (Or.inl rfl) (pe_op op_cat (pv 10) (pe_comp [5] rfl (by kernel_rfl) (pi_list (pv 11)) (fun _ _ _ _ _ => (pts_one (pt_cmpR (r := rIn K false) op_in_seq (pe_ix (r := rIxT K) ix_tup (pv 0) pe_int (fun _ _ => rfl)) (pv 1) (by with_unfolding_all rfl)))) (fun _ _ _ _ _ => (pv 0)))))
  (pss_one (ps_ret (pe_tup (pa_cons (pe_callTy call_tuple_of rfl m_tuple PyProof.Rows.Boot.«tuple» (pa_cons (pe_callB (call_sortedT hr.units) rfl m_sorted PyProof.Rows.boot_sorted (pa_cons (pv 12) pa_nil)) pa_nil)) (pa_cons (pe_callTy call_tuple_of rfl m_tuple PyProof.Rows.Boot.«tuple» (pa_cons (pe_callB (call_sortedS (ld := !w.params.followText "set-order") hr.units rfl rfl) rfl m_sorted PyProof.Rows.boot_sorted (pa_cons (pe_callTy (call_setT (ld := !w.params.followText "set-order") hr.un80 rfl rfl) rfl m_set PyProof.Rows.Boot.«set» (pa_cons (pv 10) pa_nil)) pa_nil)) pa_nil)) (pa_cons (pe_callTy call_tuple_of rfl m_tuple PyProof.Rows.Boot.«tuple» (pa_cons (pe_callB (call_sortedI hr.units rfl) rfl m_sorted PyProof.Rows.boot_sorted (pa_cons (pe_bm0 PySem.F.plainAttrs_dict PySem.F.slot_dict_items PySem.F.type_dict_items mt_items (pv 6)) pa_nil)) pa_nil)) (pa_cons pe_bl pa_nil))))))))))))))))))))), ?_⟩
  refine ⟨_, rfl, _, rfl, lk, lt, ks, [], rfl, ⟨hKF.hk, hKF.nd, hKF.few, ⟨[], hlt, .nil⟩, fun f hf => nomatch hf⟩, Refuse.zero, fun _ H1 s1 => ?_⟩
  refine ⟨_, rfl, _, rfl, lk, lf, ks, fs, rfl, hKF.keep s1, hRf.mono s1, fun hf0 H2 s2 => ?_⟩
  have sA := Same.trans s1 s2
  have hKF2 := hKF.keep sA
  obtain ⟨⟨kvs, hk, pk⟩, nd, fk, ⟨fvs, hf, pf⟩, hfs⟩ := hKF2
  have zk := Paired.length pk
  have zf := Paired.length pf
  refine ⟨_, rfl, lk, rfl, ⟨_, SqL.of hk⟩, fun D hD => ?_⟩
  refine comp_relF (K := K) (xs := kvs) ks (·.l) (·.n) (fun _ _ b y => y = tx b) (fun _ _ _ _ _ _ h => h) (fun _ _ _ _ _ _ h => h) (szl (by omega)) hD (SqL.of hk) zk (fun i x b H' R hx hb sm hQ => ?_) (fun i x b H' R hx hb hk sm hQ => ?_) (fun H3 ys s3 hL po => ?_)
  · obtain ⟨hi, ex⟩ := get_of hx
    obtain ⟨hib, eb⟩ := get_of hb
    obtain ⟨t, et, ht⟩ := paired_at pk i hib hi
    rw [ex] at et
    rw [eb] at ht
    subst et
    exact ⟨_, rfl, t, _, 2, _, rfl, rfl, ht.same sm, rfl, _, rfl, hQ _ (Same.refl _)⟩
  · obtain ⟨hi, ex⟩ := get_of hx
    obtain ⟨hib, eb⟩ := get_of hb
    obtain ⟨t, et, ht⟩ := paired_at pk i hib hi
    rw [ex] at et
    rw [eb] at ht
    subst et
    exact ⟨_, rfl, t, _, 0, _, rfl, rfl, ht.same sm, rfl, hQ _ _ (Same.refl _) rfl⟩
  rw [paired_tx po] at hL
  have hL : H3 D = some (.lst ((lastN ks).map tx)) := hL
  have sB := Same.trans sA s3
  refine ⟨_, rfl, _, rfl, D, lt, [], lastN ks, [], rfl, hL, sB _ _ hlt, .nil, (fun f hf => nomatch hf), ?_⟩
  refine ⟨_, rfl, pe, _, 3, _, rfl, rfl, hpe.same sB, rfl, _, rfl, iteF ?_⟩
  refine ⟨_, rfl, pe, _, 2, _, rfl, rfl, hpe.same sB, rfl, e2, rfl, he2, fun d hd => ?_⟩
  have s4 : Same H3 (upd H3 d (.dK [])) := same_new hd _
  have hdd := upd_same (H := H3) (a := d) (o := .dK [])
  refine ⟨_, rfl, pe, _, 0, _, rfl, rfl, (hpe.same sB).same s4, rfl, ?_⟩
  have hlt4 : upd H3 d (.dK []) lt = some (.lst []) := s4 _ _ (sB _ _ hlt)
  refine ⟨_, rfl, lt, rfl, ⟨_, SqL.of hlt4⟩, fun D2 hD2 => ?_⟩
  refine comp_fm (K := K) (xs := []) (by decide) hD2 (SqL.of hlt4) (fun _ => true) id (fun x _ _ hx => nomatch hx) (fun x _ _ hx => nomatch hx) (fun H5 s5 hL5 => ?_)
  have hL5 : H5 D2 = some (.lst []) := hL5
  have sC := Same.trans sB (Same.trans s4 s5)
  refine ⟨e0, D2, rfl, he0.same sC, hL5, fun l0 hl0 => ?_⟩
  have s6 : Same H5 (upd H5 l0 (.lst [])) := same_new hl0 _
  have hl06 := upd_same (H := H5) (a := l0) (o := .lst [])
  have hd6 := s6 _ _ (s5 _ _ hdd)
  have sD := Same.trans sC s6
  have hL6 := s6 _ _ (s5 _ _ (s4 _ _ hL))
  generalize upd H5 l0 (.lst []) = H6 at s6 hl06 hd6 sD hL6 ⊢
  have hf6 : H6 lf = some (.lst fvs) := s6 _ _ (s5 _ _ (s4 _ _ (s3 _ _ hf)))
  have pf6 : Paired (Fact K H6) fs fvs := paired_mono pf fun _ _ _ => Fact.sm (Same.trans s3 (Same.trans s4 (Same.trans s5 s6)))
  have hlo6 := sD _ _ hlo
  refine ⟨_, rfl, lf, rfl, ⟨_, SqL.of hf6⟩, for_list (K := K) (a := lf) (xs := fvs) (fun i σ H' => H' = upd H6 d (.dK ((kn [] ((fs.take i).flatMap (·.as))).map ent)) ∧ ∃ o, σ = [some (.ref lk), some (.ref pe), some (.ref lt), some (.ref lf), some (.ref lo), some (.ref D), some (.ref d), some (.ref l0), o, none, none, none, none]) ⟨(upd_id hd6).symm, none, rfl⟩ (fun i σ H' _ ⟨e, _⟩ => by rw [e]; refine SqL.of ?_; rw [upd_ne (ne_dl hd6 hf6)]; exact hf6) ?_ ?_⟩
  · rintro i y σ H' hi ⟨rfl, o, rfl⟩
    obtain ⟨hif, ey⟩ := get_of hi
    have hiF : i < fs.length := by omega
    have hFa := fact_upd (o := .dK ((kn [] ((fs.take i).flatMap (·.as))).map ent)) hd6 (paired_at pf6 i hiF hif)
    rw [ey] at hFa
    obtain ⟨t, t2, et, h1, h2⟩ := hFa
    subst et
    have hF := hfs _ (List.getElem_mem hiF)
    have hn1 := kn_len ((fs.take i).flatMap (·.as)) []
    have hn2 := flat_len (fs := fs.take i) fun g hg => hfs g (List.mem_of_mem_take hg)
    rw [List.length_take] at hn2
    have hn3 := hF.n
    refine ⟨_, rfl, _, rfl, t, _, 1, _, rfl, rfl, h1, rfl, d, t2, kn [] ((fs.take i).flatMap (·.as)), fs[i].as, rfl, upd_same, h2, hF.as, (by simp only [List.length_nil] at hn1; omega), ?_⟩
    refine ⟨?_, _, rfl⟩
    rw [upd_upd, flat_succ hiF, kn_app]
  · rintro σ H' ⟨rfl, o, rfl⟩
    rw [← zf, List.take_length]
    have hn1 := kn_len (fs.flatMap (·.as)) []
    have hn2 := flat_len (fs := fs) hfs
    simp only [List.length_nil] at hn1
    generalize hkn : kn [] (fs.flatMap (·.as)) = nm at hn1 hkn64 ⊢
    have hd7 := upd_same (H := H6) (a := d) (o := .dK (nm.map ent))
    have pf7 : Paired (Fact K (upd H6 d (.dK (nm.map ent)))) fs fvs := paired_mono pf6 fun _ _ _ => fact_upd hd6
    have hf7 : upd H6 d (.dK (nm.map ent)) lf = some (.lst fvs) := by rw [upd_ne (ne_dl hd6 hf6)]; exact hf6
    have hlo7 : upd H6 d (.dK (nm.map ent)) lo = some (.lst []) := by rw [upd_ne (ne_dl hd6 hlo6)]; exact hlo6
    have hl07 : upd H6 d (.dK (nm.map ent)) l0 = some (.lst []) := by rw [upd_ne (ne_dl hd6 hl06)]; exact hl06
    have hL7 : upd H6 d (.dK (nm.map ent)) D = some (.lst ((lastN ks).map tx)) := by rw [upd_ne (ne_dl hd6 hL6)]; exact hL6
    have hdH : H d = none := sB.free hd
    have sF : Same H (upd H6 d (.dK (nm.map ent))) := Same.upd_new sD hdH _
    generalize upd H6 d (.dK (nm.map ent)) = H7 at hd7 pf7 hf7 hlo7 hl07 hL7 sF ⊢
    refine ⟨_, rfl, lo, rfl, ⟨_, SqL.of hlo7⟩, for_list (K := K) (a := lo) (xs := []) (fun i σ H' => H' = H7 ∧ ∃ o, σ = [some (.ref lk), some (.ref pe), some (.ref lt), some (.ref lf), some (.ref lo), some (.ref D), some (.ref d), some (.ref l0), o, none, none, none, none]) ⟨rfl, o, rfl⟩ (fun i σ H' _ ⟨e, _⟩ => by rw [e]; exact SqL.of hlo7) (fun i y σ H' hi => by simp at hi) ?_⟩
    rintro σ H7' ⟨e, o, rfl⟩
    have e := e.symm
    subst e
    refine ⟨_, rfl, pe, _, 1, _, rfl, rfl, hpe.same sF, rfl, e1, _, rfl, .inr (he1.same sF), fun l1 hl1 => ?_⟩
    have s8 : Same H7 (upd H7 l1 (.lst [])) := same_new hl1 _
    have hl18 := upd_same (H := H7) (a := l1) (o := .lst [])
    generalize upd H7 l1 (.lst []) = H8 at s8 hl18 ⊢
    refine ⟨_, rfl, lo, _, rfl, .inl (SqL.of (s8 _ _ hlo7)), _, _, rfl, rfl, _, rfl, iteF ?_⟩
    have hf8 := s8 _ _ hf7
    have hd8 := s8 _ _ hd7
    have hl08 := s8 _ _ hl07
    have hL8 := s8 _ _ hL7
    have pf8 : Paired (Fact K H8) fs fvs := paired_mono pf7 fun _ _ _ => Fact.sm s8
    refine ⟨_, rfl, lf, rfl, ⟨_, SqL.of hf8⟩, fun D3 hD3 => ?_⟩
    refine comp_rel (K := K) (xs := fvs) fs (fun _ H f y => Fact K H f y) (fun _ _ _ _ _ k h => Fact.keep k h) (fun _ _ _ _ _ _ h => h) (szl (by omega)) hD3 (SqL.of hf8) zf (fun i x b H' R hx hb sm hQ => ?_) (fun H9 ys9 s9 hL9 po9 => ?_)
    · obtain ⟨hi, ex⟩ := get_of hx
      obtain ⟨hib, eb⟩ := get_of hb
      have hFa := Fact.sm sm (paired_at pf8 i hib hi)
      rw [ex, eb] at hFa
      exact ⟨_, rfl, _, rfl, d, x, nm, b, rfl, sm _ _ hd8, hFa, (by rw [← eb]; exact hfs _ (List.getElem_mem hib)), fun v' H'' s'' hF => hQ _ _ s'' hF⟩
    have hD9 := s9 _ _ hL8
    have z9 := Paired.length po9
    refine ⟨_, rfl, _, rfl, D3, rfl, ⟨_, SqL.of hL9⟩, fun D4 hD4 => ?_⟩
    refine comp_relF (K := K) (xs := ys9) fs (fun f => !decide (f.k ∈ lastN ks)) id (fun _ H f y => Fact K H f y) (fun _ _ _ _ _ k h => Fact.keep k h) (fun _ _ _ _ _ _ h => h) (szl (by omega)) hD4 (SqL.of hL9) z9 (fun i x b H' R hx hb sm hQ => ?_) (fun i x b H' R hx hb hk sm hQ => ?_) (fun H10 ys10 s10 hL10 po10 => ?_)
    · obtain ⟨hi, ex⟩ := get_of hx
      obtain ⟨hib, eb⟩ := get_of hb
      obtain ⟨t, t2, et, h1, h2⟩ := Fact.sm sm (paired_at po9 i hib hi)
      rw [ex] at et
      rw [eb] at h1 h2
      subst et
      refine ⟨_, rfl, t, _, 0, _, rfl, rfl, h1, rfl, _, rfl, D, _, rfl, .inl (SqL.of (sm _ _ hD9)), rfl, flat_map _, _, rfl, ?_⟩
      rw [if_pos rfl, inV_map]
      exact hQ _ (Same.refl _)
    · obtain ⟨hi, ex⟩ := get_of hx
      obtain ⟨hib, eb⟩ := get_of hb
      have hFa := Fact.sm sm (paired_at po9 i hib hi)
      rw [ex, eb] at hFa
      exact ⟨_, rfl, hQ _ _ (Same.refl _) hFa⟩
    rw [List.map_id] at po10
    have po10 : Paired (Fact K H10) (bagF ks fs) ys10 := po10
    have z10 := Paired.length po10
    have zb : (bagF ks fs).length ≤ fs.length := List.length_filter_le _ _
    refine ⟨l0, D4, _, _, rfl, rfl, s10 _ _ (s9 _ _ hl08), hL10, ?_, fun l11 hl11 => ?_⟩
    · rw [sizeLine_eq, List.length_nil]
      omega
    have s11 : Same H10 (upd H10 l11 (.lst ([] ++ ys10))) := same_new hl11 _
    have hl11' := upd_same (H := H10) (a := l11) (o := .lst ([] ++ ys10))
    rw [List.nil_append] at s11 hl11' ⊢
    generalize upd H10 l11 (.lst ys10) = H11 at s11 hl11' ⊢
    have sG : Same H9 H11 := Same.trans s10 s11
    have po11 : Paired (Fact K H11) fs ys9 := paired_mono po9 fun _ _ _ => Fact.sm sG
    have hL11 := sG _ _ hL9
    refine ⟨_, rfl, _, rfl, D3, rfl, ⟨_, SqL.of hL11⟩, fun D5 hD5 => ?_⟩
    refine comp_relF (K := K) (xs := ys9) fs (fun f => decide (f.k ∈ lastN ks)) id (fun _ H f y => Fact K H f y) (fun _ _ _ _ _ k h => Fact.keep k h) (fun _ _ _ _ _ _ h => h) (szl (by omega)) hD5 (SqL.of hL11) z9 (fun i x b H' R hx hb sm hQ => ?_) (fun i x b H' R hx hb hk sm hQ => ?_) (fun H12 ys12 s12 hL12 po12 => ?_)
    · obtain ⟨hi, ex⟩ := get_of hx
      obtain ⟨hib, eb⟩ := get_of hb
      obtain ⟨t, t2, et, h1, h2⟩ := Fact.sm sm (paired_at po11 i hib hi)
      rw [ex] at et
      rw [eb] at h1 h2
      subst et
      refine ⟨_, rfl, t, _, 0, _, rfl, rfl, h1, rfl, _, rfl, D, _, rfl, .inl (SqL.of (sm _ _ (sG _ _ hD9))), rfl, flat_map _, _, rfl, ?_⟩
      rw [if_neg (by decide), inV_map]
      exact hQ _ (Same.refl _)
    · obtain ⟨hi, ex⟩ := get_of hx
      obtain ⟨hib, eb⟩ := get_of hb
      have hFa := Fact.sm sm (paired_at po11 i hib hi)
      rw [ex, eb] at hFa
      exact ⟨_, rfl, hQ _ _ (Same.refl _) hFa⟩
    rw [List.map_id] at po12
    have po12 : Paired (Fact K H12) (lasF ks fs) ys12 := po12
    have z12 := Paired.length po12
    have zl : (lasF ks fs).length ≤ fs.length := List.length_filter_le _ _
    refine ⟨l1, D5, _, _, rfl, rfl, s12 _ _ (sG _ _ (s9 _ _ hl18)), hL12, (by rw [sizeLine_eq, List.length_nil]; omega), fun l13 hl13 => ?_⟩
    have s13 : Same H12 (upd H12 l13 (.lst ([] ++ ys12))) := same_new hl13 _
    have hl13' := upd_same (H := H12) (a := l13) (o := .lst ([] ++ ys12))
    rw [List.nil_append] at s13 hl13' ⊢
    generalize upd H12 l13 (.lst ys12) = H13 at s13 hl13' ⊢
    have sH : Same H10 H13 := Same.trans s11 (Same.trans s12 s13)
    have sI : Same H8 H13 := Same.trans s9 (Same.trans s10 sH)
    have sJ : Same H H13 := Same.trans sF (Same.trans s8 sI)
    have hd13 := sI _ _ hd8
    have tsB : Ts K H13 ((bagF ks fs).map fT) ys10 := ts_facts (paired_mono po10 fun _ _ _ => Fact.sm sH)
    have tsL : Ts K H13 ((lasF ks fs).map fT) ys12 := ts_facts (paired_mono po12 fun _ _ _ => Fact.sm s13)
    have hb13 : H13 l11 = some (.lst ys10) := s13 _ _ (s12 _ _ hl11')
    have allB : ∀ (gs : List Fc), ∀ t ∈ gs.map fT, hdK t = 1 ∧ t.toD.deep ≤ 18 := fun gs t ht => by
      obtain ⟨g, _, rfl⟩ := List.mem_map.mp ht
      exact hd_fT g
    have shB : ∀ (gs : List Fc), ∀ t ∈ gs.map fT, ∀ u ∈ gs.map fT, shT t u = true := fun gs t ht u hu => by
      obtain ⟨g, _, rfl⟩ := List.mem_map.mp ht
      obtain ⟨g2, _, rfl⟩ := List.mem_map.mp hu
      exact sh_fT g g2
    refine ⟨_, rfl, l11, ys10, _, 1, rfl, SqL.of hb13, tsB, (by omega), .inl rfl, allB _, shB _, fun a0 r0 ha0 hr0 => ?_⟩
    have sa0 : Same H13 (upd H13 a0 (.lst r0)) := same_new ha0 _
    refine ⟨a0, r0, rfl, .inl ⟨SqL.of upd_same, fun t0 ht0 => ?_⟩⟩
    have s14 : Same H13 (upd (upd H13 a0 (.lst r0)) t0 (.tup r0)) := Same.trans sa0 (same_new ht0 _)
    have ht0' := upd_same (H := upd H13 a0 (.lst r0)) (a := t0) (o := .tup r0)
    generalize upd (upd H13 a0 (.lst r0)) t0 (.tup r0) = H14 at s14 ht0' ⊢
    have hl14 := s14 _ _ hl13'
    refine ⟨_, rfl, l13, ys12, (lasF ks fs).map fT, rfl, SqL.of hl14, ts_same s14 tsL, (by omega), (fun t ht => ?_), fun ps zs tr hps hzs htr => ?_⟩
    · obtain ⟨g, _, rfl⟩ := List.mem_map.mp ht
      exact ⟨⟨_, rfl⟩, (by unfold fT; rw [deep_fact]; decide), by_fT g⟩
    have sps : Same H14 (upd H14 ps (SetO (!w.params.followText "set-order") ps zs)) := same_new hps _
    have htm : ∀ t ∈ tr, ∃ g : Fc, t = fT g := fun t ht => by
      have z := dd_sub (htr.mem_iff.mp ht)
      obtain ⟨g, _, e⟩ := List.mem_map.mp z
      exact ⟨g, e.symm⟩
    have hln : tr.length < 64 := by
      have z1 := htr.length_eq
      have z2 := dd_len ((lasF ks fs).map fT) _ (Nat.le_refl _)
      rw [List.take_length, List.length_map] at z2
      omega
    refine ⟨ps, zs, tr, 1, rfl, upd_same, ts_same sps hzs, hln, .inl rfl, (fun t ht => by obtain ⟨g, rfl⟩ := htm t ht; exact hd_fT g), (fun t ht u hu => by obtain ⟨g, rfl⟩ := htm t ht; obtain ⟨g2, rfl⟩ := htm u hu; exact sh_fT g g2), fun a1 r1 ha1 hr1 => ?_⟩
    have sa1 := Same.trans sps (same_new ha1 (.lst r1))
    refine ⟨a1, r1, rfl, .inl ⟨SqL.of upd_same, fun t1 ht1 => ?_⟩⟩
    have s15 := Same.trans sa1 (same_new ht1 (.tup r1))
    have hr1' := ts_same (Same.trans (same_new ha1 (.lst r1)) (same_new ht1 (.tup r1))) hr1
    have ht1' := upd_same (H := upd (upd H14 ps (SetO (!w.params.followText "set-order") ps zs)) a1 (.lst r1)) (a := t1) (o := .tup r1)
    generalize upd (upd (upd H14 ps (SetO (!w.params.followText "set-order") ps zs)) a1 (.lst r1)) t1 (.tup r1) = H15 at s15 ht1' hr1' ⊢
    rw [srtT_congr htr] at hr1'
    have hd15 := s15 _ _ (s14 _ _ hd13)
    refine ⟨_, rfl, ?_, d, _, rfl, rfl, hd15, fun it hit => ?_⟩
    · exact .inr (.inr (.inl ⟨rfl, .inl ⟨_, hd15⟩⟩))
    have s16 : Same H15 (upd H15 it (ItemsO it d)) := same_new hit _
    refine ⟨it, d, nm.map ent, nm.map (fun n => (S n, Tr.str (S n))), rfl, upd_same, s16 _ _ hd15, (by rw [List.length_map]; exact hkn64), (by rw [List.length_map, List.length_map]), (fun i h1 h2 => ?_), (fun p hp q' hq' => ?_), fun a2 r2 H16 s17 ha2 hr2 => ?_⟩
    · simp only [List.getElem_map]
      exact ⟨rfl, .str _, show 0 ≤ 17 by decide⟩
    · obtain ⟨n, _, rfl⟩ := List.mem_map.mp hp
      obtain ⟨n2, _, rfl⟩ := List.mem_map.mp hq'
      rfl
    refine ⟨a2, r2, rfl, .inl ⟨SqL.of upd_same, fun t2 ht2 => ?_⟩⟩
    have s18 := Same.trans (Same.trans s16 s17) (Same.trans (same_new ha2 (.lst r2)) (same_new ht2 (.tup r2)))
    have hr2' := ts_same (Same.trans (same_new ha2 (.lst r2)) (same_new ht2 (.tup r2))) hr2
    have ht2' := upd_same (H := upd H16 a2 (.lst r2)) (a := t2) (o := .tup r2)
    generalize upd (upd H16 a2 (.lst r2)) t2 (.tup r2) = H18 at s18 ht2' hr2' ⊢
    refine ⟨(by show 4 ≤ sizeLine; decide), fun p hp => ?_⟩
    have s19 : Same H18 (upd H18 p (.tup [.ref t0, .ref t1, .ref t2, .bl false])) := same_new hp _
    refine q hf0 _ _ (Same.trans sJ (Same.trans s14 (Same.trans s15 (Same.trans s18 s19)))) ⟨p, t0, t1, t2, r0, r1, r2, rfl, SqT.of upd_same, SqT.of (s19 _ _ (s18 _ _ (s15 _ _ ht0'))), ?_, SqT.of (s19 _ _ (s18 _ _ ht1')), ?_, SqT.of (s19 _ _ ht2'), ?_⟩
    · exact ts_same (Same.trans s14 (Same.trans s15 (Same.trans s18 s19))) hr0
    · exact ts_same (Same.trans s18 s19) hr1'
    · rw [hkn]
      have e : (nm.map (fun n => (S n, Tr.str (S n)))).map pairT = nm.map pT := by rw [List.map_map]; rfl
      rw [← e]
      exact ts_same s19 hr2'
theorem sc_start_pool : FnScope ["kinds", "facts"] ["kinds", "facts"] (defScope s_start_pool) := ⟨rfl, rfl, rfl, by decide +kernel, rfl, by decide +kernel, by decide +kernel⟩
theorem ok_start_pool {u1 : Value} {pe e0 e1 e2 : Addr} (F : Fun K "start_pool" "start_pool" s_start_pool f fd) (c_moved : CalE P w K mg base "moved" 3 ["kinds", "pool", "taken", "put", "told"] (spMoved K C1 C2)) (m_EMPTY : mg "EMPTY" = some u1) (r_EMPTY : RelV (.ref pe) u1)
    (hpe : ∀ H, SqT K H pe [.ref e0, .ref e1, .ref e2, .bl false]) (he0 : ∀ H, SqT K H e0 []) (he1 : ∀ H, SqT K H e1 []) (he2 : Nil0 K e2) : FnOk P w K mg base (CXE P w) 4 f fd ["kinds", "facts"] (spStart K C1 C2) := by
  refine F.okE sc_start_pool (fun vs H Q E h => ?_) (fun cdv A outer s H vs Q E hr h => ?_)
  · obtain ⟨lk, lf, ks, fs, rfl, _⟩ := h
    rfl
  obtain ⟨lk, lf, ks, fs, rfl, hKF, h64, hkn64, hRf, q⟩ := h
  refine ⟨_, (pss_one (ps_ret (pe_callE c_moved (hr.mono (by decide)) rfl (pa_cons (pv 0) (pa_cons (pe_glob rfl m_EMPTY r_EMPTY) (pa_cons (pe_lst pa_nil) (pa_cons (pv 1) (pa_cons (pe_lst pa_nil) pa_nil)))))))), ?_⟩
  refine ⟨_, rfl, (by show 0 ≤ sizeLine; decide), fun l1 hl1 => ?_⟩
  refine ⟨_, rfl, (by show 0 ≤ sizeLine; decide), fun l2 hl2 => ?_⟩
  have s1 := same_new hl1 (.lst [])
  have s2 := same_new hl2 (.lst [])
  have sA := Same.trans s1 s2
  refine ⟨lk, lf, l1, l2, pe, e0, e1, e2, ks, fs, rfl, hKF.keep sA, hpe _, he0 _, he1 _, he2, s2 _ _ upd_same, upd_same, h64, hkn64, hRf.mono sA, fun h0 v H' sm hm => q h0 v H' (Same.trans sA sm) hm⟩
end
end K04
namespace K04
open PySem L2 K02 Bk
set_option maxHeartbeats 4000000
section
variable {P : Program} {w : World} {K : PySem.W.Frag} {mg : Str → Option Value} {base : Heap} {f : Addr} {fd : FuncData}
theorem sc__law_cell_at : FnScope ["_law_script", "_law_k"] ["_law_script", "_law_k"] (defScope s__law_cell_at) := ⟨rfl, rfl, rfl, by decide +kernel, rfl, by decide +kernel, by decide +kernel⟩
theorem ok__law_cell_at (F : Fun K "_law_cell_at" "_law_cell_at" s__law_cell_at f fd) (m_len : mg "len" = none) : FnOk P w K mg base CX0 1 f fd ["_law_script", "_law_k"] (spCell K) := by
  refine F.ok sc__law_cell_at (fun vs H Q E h => ?_) (fun cdv A outer s H vs Q E hr h => ?_)
  · obtain ⟨a, ns, k, rfl, _⟩ := h
    rfl
  obtain ⟨a, ns, k, rfl, hS, h0, q⟩ := h
  refine ⟨_, (pss_cons (ps_if (pt_cmpR op_lt (pv 1) (pe_callB call_len_seq rfl m_len PySem.boot_len (pa_cons (pv 0) pa_nil)) (nomark _))
  (pss_one (ps_ret (pe_ix ix_list (pv 0) (pv 1) (fun _ _ => rfl))))
  pss_nil)
  (pss_one (ps_ret pe_int))), ?_⟩
  refine ⟨_, rfl, _, rfl, a, _, rfl, .inl hS, _, _, rfl, rfl, _, rfl, ?_⟩
  refine ite2 (fun c => ?_) (fun c => ?_)
  · have c' : k < (((ns.map V.int).length : Nat) : Int) := of_decide_eq_true c
    have hk : k.toNat < ns.length := by rw [List.length_map] at c'; omega
    have e : atI (ns.map V.int) k = some (.int ns[k.toNat]) := by
      have z := atI_nat (xs := ns.map V.int) (j := k.toNat) (v := .int ns[k.toNat]) (by simp [hk])
      rw [show ((k.toNat : Nat) : Int) = k by omega] at z
      exact z
    exact ⟨_, rfl, _, rfl, a, _, k, _, rfl, rfl, hS, e, q _⟩
  · exact q 0
theorem sc__law_mix : FnScope ["_law_cell", "_law_k", "_law_factor"] ["_law_cell", "_law_k"] (defScope s__law_mix) := ⟨rfl, rfl, rfl, by decide +kernel, rfl, by decide +kernel, by decide +kernel⟩
theorem ok__law_mix (F : Fun K "_law_mix" "_law_mix" s__law_mix f fd) : FnOk P w K mg base CX0 1 f fd ["_law_cell", "_law_k"] spMix := by
  refine F.ok sc__law_mix (fun vs H Q E h => ?_) (fun cdv A outer s H vs Q E hr h => ?_)
  · obtain ⟨c, k, rfl, _⟩ := h
    rfl
  obtain ⟨c, k, rfl, h0, h1, q⟩ := h
  refine ⟨_, (pss_cons (ps_set (i := 2) sc__law_mix.nd rfl (Or.inl rfl) (pe_ix ix_list (pe_lst (pa_cons pe_int (pa_cons pe_int (pa_cons pe_int (pa_cons pe_int (pa_cons pe_int (pa_cons pe_int (pa_cons pe_int pa_nil)))))))) (pe_op op_mod (pv 1) pe_int) (fun _ _ => rfl)))
  (pss_one (ps_ret (pe_op op_mod (pe_op op_mul (pe_op op_add (pe_op op_mod (pv 0) pe_int) (pe_op op_mul pe_int (pv 1))) (pv 2)) pe_int)))), ?_⟩
  refine ⟨(by show 7 ≤ sizeLine; decide), fun p hp => ?_⟩
  have hm := mid (a := k) (b := 7) (by decide)
  have hx : ∃ v : Int, atI [V.int 48271, .int 69621, .int 16807, .int 40692, .int 30269, .int 62089, .int 45991] (k % 7) = some (.int v) ∧ -(2 ^ 64) < v ∧ v < 2 ^ 64 := by
    rcases (by omega : k % 7 = 0 ∨ k % 7 = 1 ∨ k % 7 = 2 ∨ k % 7 = 3 ∨ k % 7 = 4 ∨ k % 7 = 5 ∨ k % 7 = 6) with e | e | e | e | e | e | e <;> rw [e]
    · exact ⟨48271, rfl, by decide, by decide⟩
    · exact ⟨69621, rfl, by decide, by decide⟩
    · exact ⟨16807, rfl, by decide, by decide⟩
    · exact ⟨40692, rfl, by decide, by decide⟩
    · exact ⟨30269, rfl, by decide, by decide⟩
    · exact ⟨62089, rfl, by decide, by decide⟩
    · exact ⟨45991, rfl, by decide, by decide⟩
  obtain ⟨v, hv, v0, v1⟩ := hx
  refine ⟨_, rfl, _, _, rfl, rfl, (by show (0 : Int) < 7; decide), p, _, _, _, rfl, rfl, .inl (.inl upd_same), hv, ?_⟩
  refine ⟨_, rfl, _, _, rfl, rfl, (by show (0 : Int) < 1000003; decide), _, rfl, _, _, rfl, rfl, .inl ⟨by decide, by decide⟩, _, _, rfl, rfl, _, rfl, _, _, rfl, rfl, .inr ⟨v0, v1⟩, _, _, rfl, rfl, (by show (0 : Int) < 999983; decide), ?_⟩
  exact q _ _ (same_new hp _) (Int.emod_nonneg _ (by decide))
theorem sc__law_names : FnScope ["_law_cell", "_law_many", "_law_firsts", "_law_rest", "_law_number", "_law_start", "_law_tail", "_law_size", "_law_at"] ["_law_cell", "_law_many", "_law_firsts"] (defScope s__law_names) := ⟨rfl, rfl, rfl, by decide +kernel, rfl, by decide +kernel, by decide +kernel⟩
theorem ok__law_names (F : Fun K "_law_names" "_law_names" s__law_names f fd) (c__law_mix : Cal P w K mg base "_law_mix" 1 ["_law_cell", "_law_k"] spMix) (m_len : mg "len" = none) (m_range : mg "range" = none) :
    FnOk P w K mg base CX0 2 f fd ["_law_cell", "_law_many", "_law_firsts"] spNames := by
  refine F.ok sc__law_names (fun vs H Q E h => ?_) (fun cdv A outer s H vs Q E hr h => ?_)
  · obtain ⟨c, n, fs, rfl, _⟩ := h
    rfl
  obtain ⟨c, n, fs, rfl, hn, hf0, hf1, hfa, hnd, q⟩ := h
  have hfl : (S fs).length = fs.length := S_len fs
  refine ⟨_, (pss_cons (ps_set (i := 3) sc__law_names.nd rfl (Or.inr rfl) pe_str)
  (pss_cons (ps_set (i := 4) sc__law_names.nd rfl (Or.inr rfl) (pe_callC c__law_mix (hr.mono (by decide)) rfl (pa_cons (pv 0) (pa_cons pe_int pa_nil))))
  (pss_cons (ps_set (i := 5) sc__law_names.nd rfl (Or.inr rfl) (pe_op op_mod (pe_op op_fdiv (pv 4) pe_int) (pe_callB call_len_str rfl m_len PySem.boot_len (pa_cons (pv 2) pa_nil))))
  (pss_cons (ps_set (i := 6) sc__law_names.nd rfl (Or.inr rfl) (pe_bm PySem.F.plainAttrs_str PySem.F.slot_str_join PySem.F.type_str_join mt_join pe_str (pa_cons (pe_comp [3, 4] rfl (by kernel_rfl) (pi_range1 rfl m_range (pa_cons pe_int pa_nil)) (fun _ _ _ _ _ => pts_nil) (fun _ _ _ _ _ => (pe_ix ix_str (pv 1) (pe_op op_mod (pe_op op_add (pe_op op_fdiv (pv 2) (pe_op op_add (pv 0) pe_int)) (pe_op op_mul (pv 0) (pv 0))) pe_int) (fun _ _ => rfl)))) pa_nil)))
  (pss_cons (ps_if (pt_cmpR op_eq (pe_op op_mod (pv 4) pe_int) pe_int (nomark _))
  (pss_one (ps_ret (pe_comp [2, 5, 6] rfl (by kernel_rfl) (pi_range1 rfl m_range (pa_cons (pv 1) pa_nil)) (fun _ _ _ _ _ => pts_nil) (fun _ _ _ _ _ => (pe_op op_add_str (pe_ix ix_str (pv 1) (pv 2) (fun _ _ => rfl)) (pe_slice sl_str (pv 3) po_none (po_some (pv 0))))))))
  pss_nil)
  (pss_cons (ps_if (pt_cmpR op_eq (pe_op op_mod (pv 4) pe_int) pe_int (nomark _))
  (pss_cons (ps_set (i := 7) sc__law_names.nd rfl (Or.inr rfl) (pe_op op_mod (pe_op op_fdiv (pv 4) pe_int) pe_int))
  (pss_one (ps_ret (pe_comp [2, 5, 6, 7] rfl (by kernel_rfl) (pi_range1 rfl m_range (pa_cons (pv 1) pa_nil)) (fun _ _ _ _ _ => pts_nil) (fun _ _ _ _ _ => (pe_op op_add_str (pe_ix ix_str (pv 1) (pe_op op_mod (pe_op op_add (pv 2) (pv 0)) (pe_callB call_len_str rfl m_len PySem.boot_len (pa_cons (pv 1) pa_nil))) (fun _ _ => rfl)) (pe_slice sl_str (pv 3) po_none (po_some (pv 4)))))))))
  pss_nil)
  (pss_cons (ps_set (i := 7) sc__law_names.nd rfl (Or.inr rfl) (pe_op op_mod (pe_op op_fdiv (pv 4) pe_int) pe_int))
  (pss_cons (ps_set (i := 8) sc__law_names.nd rfl (Or.inr rfl) (pe_op op_mod (pe_op op_fdiv (pv 4) pe_int) (pe_op op_add (pv 7) pe_int)))
  (pss_cons (ps_set (i := 3) sc__law_names.nd rfl (Or.inr rfl) (pe_comp [3, 4] rfl (by kernel_rfl) (pi_range1 rfl m_range (pa_cons (pv 1) pa_nil)) (fun _ _ _ _ _ => pts_nil) (fun _ _ _ _ _ => (pe_ix ix_str (pv 1) (pe_op op_mod (pe_op op_add (pe_op op_fdiv (pv 2) pe_int) (pv 0)) pe_int) (fun _ _ => rfl)))))
  (pss_one (ps_ret (pe_comp [2, 5, 6, 8, 7] rfl (by kernel_rfl) (pi_list (pv 3)) (fun _ _ _ _ _ => pts_nil) (fun _ _ _ _ _ => (pe_op op_add_str (pe_op op_add_str (pe_op op_add_str (pe_ix ix_str (pv 1) (pv 2) (fun _ _ => rfl)) (pe_slice sl_str (pv 3) po_none (po_some (pv 4)))) (pv 0)) (pe_slice sl_str (pv 3) (po_some (pv 4)) (po_some (pv 5))))))))))))))))), ?_⟩
  refine ⟨_, rfl, c, 0, rfl, by decide, by decide, fun v H1 s1 v0 => ?_⟩
  have hfp : (0 : Int) < ((S fs).length : Int) := by rw [hfl]; omega
  refine ⟨_, rfl, _, _, rfl, rfl, ⟨by decide, by decide⟩, _, rfl, S fs, rfl, (by rw [hfl]; exact sz (by omega)), _, _, rfl, rfl, hfp, ?_⟩
  have md := mid (a := v / 5) hfp
  obtain ⟨cs, hcs, hcm⟩ := sign_of (x := S fs) md.1 md.2
  rw [S_codes] at hcm
  refine ⟨rfl, 11, rfl, by decide, by decide, fun D hD => ?_⟩
  have hD0 : H D = none := s1.free hD
  refine comp_range (lo := 0) (n := (11 : Int).toNat) (szl (by decide)) (fun i ys H' => Same H1 H' ∧ H' D = some (.lst ys) ∧ ∃ T : List Nat, ys = (T.map fun c => S [c]).map V.str ∧ T.length = i ∧ T.all isAl = true)
    ⟨same_new hD _, upd_same, [], rfl, rfl, rfl⟩ (fun i ys H' pr => ⟨pr.2.1, ?_⟩) (fun i ys H' hi pr => ?_) (fun ys H' pr => ?_)
  · obtain ⟨T, rfl, hl, _⟩ := pr.2.2
    rw [List.length_map, List.length_map]
    omega
  · obtain ⟨T, rfl, hl, hT⟩ := pr.2.2
    have hi' : i < 11 := hi
    refine ⟨_, rfl, _, rfl, _, rfl, _, _, rfl, rfl, _, _, rfl, rfl, ⟨by omega, by omega⟩, _, rfl, _, rfl, _, _, rfl, rfl, .inl ⟨by omega, by omega⟩, _, _, rfl, rfl, _, _, rfl, rfl, (by show (0 : Int) < 62; decide), ?_⟩
    have md2 := mid (a := v / (0 + (i : Int) + 1) + (0 + (i : Int)) * (0 + (i : Int))) (b := 62) (by decide)
    obtain ⟨d, hd, hdm⟩ := sign_of (x := aAll) md2.1 (by rw [all_len]; exact md2.2)
    refine ⟨_, _, d, rfl, rfl, (by decide +kernel), hd, pr.2.1, ?_⟩
    refine ⟨Same.upd_new pr.1 hD _, upd_same, T ++ [d], by simp, by simp [hl], ?_⟩
    have z := all_al
    rw [List.all_eq_true] at z
    rw [List.all_append, hT, List.all_cons, z d hdm]
    rfl
  obtain ⟨T, rfl, hTl, hTa⟩ := pr.2.2
  have sm := pr.1
  have hTl' : T.length = 11 := hTl
  refine ⟨_, D, T.map fun c => S [c], rfl, rfl, .inl (.inl (.inl pr.2.1)), ?_, ?_⟩
  · have z : ((T.map fun c => S [c]).map (·.length)).sum ≤ 11 := by
      have z2 := len_sum (as := T.map fun c => [c]) (B := 1) (by simp)
      rw [List.length_map, hTl'] at z2
      have e : (T.map fun c => S [c]) = (T.map fun c => [c]).map S := by rw [List.map_map]; rfl
      rw [e]
      exact z2
    have z3 : (T.map fun c => S [c]).length = 11 := by rw [List.length_map]; exact hTl'
    rw [z3, show (Str.ofString "").length = 0 by decide]
    omega
  rw [join_S]
  refine ⟨_, rfl, _, _, rfl, rfl, (by show (0 : Int) < 3; decide), rfl, _, rfl, ?_⟩
  have szS : ∀ l : List Nat, l.length ≤ 100 → (S l).length ≤ sizeLine := fun l h => by rw [S_len]; exact sz (by omega)
  have hst : atI (S fs).cps.toList (v / 5 % ((S fs).length : Int)) = some cs := hcs
  have e1c : (⟨#[cs]⟩ : Str) = S [cs] := rfl
  refine ite2 (fun c1 => ?_) (fun c1 => ?_)
  · -- firsts[start] + tail[:k]
    refine ⟨_, rfl, n, rfl, by omega, by omega, fun D2 hD2 => ?_⟩
    refine comp_range (lo := 0) (n := ((n : Nat) : Int).toNat) (szl (by omega)) (fun i ys H2 => Same H H2 ∧ H2 D2 = some (.lst ys) ∧ ∃ zs : List (List Nat), ys = zs.map tx ∧ zs.length = i ∧ (∀ z ∈ zs, Good fs z) ∧ zs = (List.range i).map fun k : Nat => [cs] ++ T.take k)
      ⟨Same.upd_new (Same.trans s1 sm) ((Same.trans s1 sm).free hD2) _, upd_same, [], rfl, rfl, (fun _ z => nomatch z), rfl⟩ (fun i ys H2 pr2 => ⟨pr2.2.1, ?_⟩) (fun i ys H2 hi pr2 => ?_) (fun ys H2 pr2 => ?_)
    · obtain ⟨zs, rfl, hl, _, _⟩ := pr2.2.2
      rw [List.length_map]
      omega
    · obtain ⟨zs, rfl, hl, hg, hz0⟩ := pr2.2.2
      have hi' : i < n := by omega
      refine ⟨_, rfl, _, rfl, S fs, _, cs, rfl, rfl, szS fs (by omega), hst, _, rfl, _, rfl, _, rfl, S T, rfl, szS T (by omega), ?_⟩
      rw [show (0 : Int) + (i : Int) = ((i : Nat) : Int) by omega, slice_S0 (by omega), e1c]
      refine ⟨_, _, rfl, rfl, (by rw [S_len, S_len, List.length_take]; exact sz (by simp; omega)), ?_⟩
      rw [app_S]
      refine ⟨pr2.2.1, Same.upd_new pr2.1 ((Same.trans s1 sm).free hD2) _, upd_same, zs ++ [[cs] ++ T.take i], by simp, by simp [hl], fun z hz => ?_, by rw [List.range_succ, List.map_append, hz0]; rfl⟩
      rcases List.mem_append.mp hz with hz | hz
      · exact hg z hz
      · rw [List.mem_singleton.mp hz]
        refine good_of hcm hfa ?_ (by rw [List.length_take]; omega)
        rw [List.all_eq_true] at hTa ⊢
        exact fun y hy => hTa y (List.mem_of_mem_take hy)
    · obtain ⟨zs, rfl, hl, hg, hz0⟩ := pr2.2.2
      refine q D2 zs H2 pr2.1 ((Same.trans s1 sm).free hD2) pr2.2.1 (by omega) hg ?_
      rw [hz0]
      refine nodup_map_range fun a b ha hb e => ?_
      have e2 := congrArg List.length e
      rw [List.length_append, List.length_append, List.length_take, List.length_take] at e2
      omega
  refine ⟨_, rfl, _, _, rfl, rfl, (by show (0 : Int) < 3; decide), rfl, _, rfl, ?_⟩
  refine ite2 (fun c2 => ?_) (fun c2 => ?_)
  · refine ⟨_, rfl, _, _, rfl, rfl, ⟨by decide, by decide⟩, _, _, rfl, rfl, (by show (0 : Int) < 12; decide), ?_⟩
    have mds := mid (a := v / 3) (b := 12) (by decide)
    refine ⟨_, rfl, n, rfl, by omega, by omega, fun D2 hD2 => ?_⟩
    refine comp_range (lo := 0) (n := ((n : Nat) : Int).toNat) (szl (by omega)) (fun i ys H2 => Same H H2 ∧ H2 D2 = some (.lst ys) ∧ ∃ zs : List (List Nat), ys = zs.map tx ∧ zs.length = i ∧ (∀ z ∈ zs, Good fs z) ∧ zs = (List.range i).map fun k : Nat => [fs.getD ((v / 5 % ((S fs).length : Int) + (0 + (k : Int))) % ((S fs).length : Int)).toNat 0] ++ T.take (v / 3 % 12).toNat)
      ⟨Same.upd_new (Same.trans s1 sm) ((Same.trans s1 sm).free hD2) _, upd_same, [], rfl, rfl, (fun _ z => nomatch z), rfl⟩ (fun i ys H2 pr2 => ⟨pr2.2.1, ?_⟩) (fun i ys H2 hi pr2 => ?_) (fun ys H2 pr2 => ?_)
    · obtain ⟨zs, rfl, hl, _, _⟩ := pr2.2.2
      rw [List.length_map]
      omega
    · obtain ⟨zs, rfl, hl, hg, hz0⟩ := pr2.2.2
      have hi' : i < n := by omega
      have mdk := mid (a := v / 5 % ((S fs).length : Int) + (0 + (i : Int))) hfp
      have hck := str_at (x := S fs) mdk.1 mdk.2
      have hckm : fs.getD ((v / 5 % ((S fs).length : Int) + (0 + (i : Int))) % ((S fs).length : Int)).toNat 0 ∈ fs := List.mem_of_getElem? (getD_get (by rw [← hfl]; omega))
      rw [S_codes fs] at hck
      generalize hcke : fs.getD ((v / 5 % ((S fs).length : Int) + (0 + (i : Int))) % ((S fs).length : Int)).toNat 0 = ck at hck hckm
      refine ⟨_, rfl, _, rfl, _, rfl, _, _, rfl, rfl, _, rfl, S fs, rfl, szS fs (by omega), _, _, rfl, rfl, hfp, S fs, _, ck, rfl, rfl, szS fs (by omega), (by rw [S_codes]; exact hck), _, rfl, _, rfl, _, rfl, S T, rfl, szS T (by omega), ?_⟩
      have hsz : v / 3 % 12 = (((v / 3 % 12).toNat : Nat) : Int) := by omega
      rw [hsz, slice_S0 (by omega)]
      refine ⟨_, _, rfl, rfl, (by rw [S_len, S_len, List.length_take]; exact sz (by simp; omega)), ?_⟩
      rw [show (⟨#[ck]⟩ : Str) = S [ck] from rfl, app_S]
      refine ⟨pr2.2.1, Same.upd_new pr2.1 ((Same.trans s1 sm).free hD2) _, upd_same, zs ++ [[ck] ++ T.take (v / 3 % 12).toNat], by simp, by simp [hl], fun z hz => ?_, by rw [List.range_succ, List.map_append, hz0, ← hcke]; rfl⟩
      rcases List.mem_append.mp hz with hz | hz
      · exact hg z hz
      · rw [List.mem_singleton.mp hz]
        refine good_of hckm hfa ?_ (by rw [List.length_take]; omega)
        rw [List.all_eq_true] at hTa ⊢
        exact fun y hy => hTa y (List.mem_of_mem_take hy)
    · obtain ⟨zs, rfl, hl, hg, hz0⟩ := pr2.2.2
      refine q D2 zs H2 pr2.1 ((Same.trans s1 sm).free hD2) pr2.2.1 (by omega) hg ?_
      rw [hz0]
      refine nodup_map_range fun a b ha hb e => ?_
      have e2 : fs.getD ((v / 5 % ((S fs).length : Int) + (0 + (a : Int))) % ((S fs).length : Int)).toNat 0 = fs.getD ((v / 5 % ((S fs).length : Int) + (0 + (b : Int))) % ((S fs).length : Int)).toNat 0 := (List.cons.inj e).1
      have e3 := nodup_getD hnd (by have := mid (a := v / 5 % ((S fs).length : Int) + (0 + (a : Int))) hfp; omega) (by have := mid (a := v / 5 % ((S fs).length : Int) + (0 + (b : Int))) hfp; omega) e2
      exact mod_inj (by omega) (by omega) e3
  -- a sign at a drawn place
  refine ⟨_, rfl, _, _, rfl, rfl, ⟨by decide, by decide⟩, _, _, rfl, rfl, (by show (0 : Int) < 11; decide), ?_⟩
  have mds := mid (a := v / 3) (b := 11) (by decide)
  refine ⟨_, rfl, _, _, rfl, rfl, ⟨by decide, by decide⟩, _, rfl, _, _, rfl, rfl, _, _, rfl, rfl, (by show (0 : Int) < _; omega), ?_⟩
  have mda := mid (a := v / 33) (b := v / 3 % 11 + 1) (by omega)
  refine ⟨_, rfl, n, rfl, by omega, by omega, fun D2 hD2 => ?_⟩
  refine comp_range (lo := 0) (n := ((n : Nat) : Int).toNat) (szl (by omega)) (fun i ys H2 => Same H H2 ∧ H2 D2 = some (.lst ys) ∧ ∃ cs : List Nat, ys = (cs.map fun c => [c]).map tx ∧ cs.length = i ∧ (∀ c ∈ cs, isAl c = true) ∧ cs = (List.range i).map fun k : Nat => aAll.cps.toList.getD ((v / 7 + (0 + (k : Int))) % ((62 : Nat) : Int)).toNat 0)
    ⟨Same.upd_new (Same.trans s1 sm) ((Same.trans s1 sm).free hD2) _, upd_same, [], rfl, rfl, (fun _ z => nomatch z), rfl⟩ (fun i ys H2 pr2 => ⟨pr2.2.1, ?_⟩) (fun i ys H2 hi pr2 => ?_) (fun ys H2 pr2 => ?_)
  · obtain ⟨cs, rfl, hl, _, _⟩ := pr2.2.2
    rw [List.length_map, List.length_map]
    omega
  · obtain ⟨zs, rfl, hl, hg, hz0⟩ := pr2.2.2
    have md2 := mid (a := v / 7 + (0 + (i : Int))) (b := 62) (by decide)
    have hd := str_at (x := aAll) md2.1 (by rw [all_len]; exact md2.2)
    have hdm : aAll.cps.toList.getD ((v / 7 + (0 + (i : Int))) % 62).toNat 0 ∈ aAll.cps.toList := List.mem_of_getElem? (getD_get (by rw [len_is, all_len]; omega))
    generalize hde : aAll.cps.toList.getD ((v / 7 + (0 + (i : Int))) % 62).toNat 0 = d at hd hdm
    refine ⟨_, rfl, _, rfl, _, _, rfl, rfl, ⟨by decide, by decide⟩, _, rfl, _, _, rfl, rfl, _, _, rfl, rfl, (by show (0 : Int) < 62; decide), _, _, d, rfl, rfl, (by decide +kernel), hd, pr2.2.1, ?_⟩
    refine ⟨Same.upd_new pr2.1 ((Same.trans s1 sm).free hD2) _, upd_same, zs ++ [d], by simp, by simp [hl], fun z hz => ?_, by rw [List.range_succ, List.map_append, hz0, ← hde]; rfl⟩
    rcases List.mem_append.mp hz with hz | hz
    · exact hg z hz
    · rw [List.mem_singleton.mp hz]
      have z := all_al
      rw [List.all_eq_true] at z
      exact z d hdm
  obtain ⟨ks, rfl, hkl, hka, hk0⟩ := pr2.2.2
  have sm2 := pr2.1
  have hD2L := pr2.2.1
  refine ⟨_, rfl, D2, rfl, ⟨_, SqL.of hD2L⟩, fun D3 hD3 => ?_⟩
  obtain ⟨pa, hpa⟩ : ∃ pa : Nat, v / 33 % (v / 3 % 11 + 1) = (pa : Int) := ⟨_, (Int.toNat_of_nonneg mda.1).symm⟩
  obtain ⟨pb, hpb⟩ : ∃ pb : Nat, v / 3 % 11 = ((pa + pb : Nat) : Int) := ⟨(v / 3 % 11 - pa).toNat, by omega⟩
  have h23 : D2 ≠ D3 := fun z => by rw [z, hD3] at hD2L; cases hD2L
  refine comp_list (K := K) (a := D2) (xs := (ks.map fun c => [c]).map tx) (by rw [List.length_map, List.length_map]; exact szl (by omega))
    (fun i ys H3 => Same H H3 ∧ H3 D3 = some (.lst ys) ∧ H3 D2 = some (.lst ((ks.map fun c => [c]).map tx)) ∧ ∃ zs : List (List Nat), ys = zs.map tx ∧ zs.length = i ∧ (∀ z ∈ zs, Good fs z) ∧ zs = (List.range i).map fun k : Nat => (([cs] ++ T.take pa) ++ [ks.getD k 0]) ++ (T.drop pa).take pb)
    ⟨Same.upd_new sm2 (sm2.free hD3) _, upd_same, by rw [upd_ne h23]; exact hD2L, [], rfl, rfl, (fun _ z => nomatch z), rfl⟩ (fun i ys H3 pr3 => SqL.of pr3.2.2.1) (fun i ys H3 pr3 => ⟨pr3.2.1, ?_⟩) (fun i ys H3 hi pr3 => ?_) (fun ys H3 pr3 => ?_)
  · obtain ⟨zs, rfl, hl, _, _⟩ := pr3.2.2.2
    rw [List.length_map]
    omega
  · obtain ⟨zs, rfl, hl, hg, hz0⟩ := pr3.2.2.2
    have hi' : i < ks.length := by simpa using hi
    have eg : ((ks.map fun c => [c]).map tx).getD i .non = tx [ks[i]] := by
      rw [List.getD_eq_getElem?_getD, List.getElem?_map, List.getElem?_map, List.getElem?_eq_getElem hi']
      rfl
    rw [eg]
    refine ⟨_, rfl, _, rfl, S fs, _, cs, rfl, rfl, szS fs (by omega), hst, _, rfl, _, rfl, _, rfl, S T, rfl, szS T (by omega), ?_⟩
    rw [hpa, slice_S0 (by omega), e1c]
    refine ⟨_, _, rfl, rfl, (by rw [S_len, S_len, List.length_take]; exact sz (by simp; omega)), ?_⟩
    rw [app_S]
    refine ⟨_, rfl, _, _, rfl, rfl, (by rw [S_len, S_len, List.length_append, List.length_take]; exact sz (by simp; omega)), ?_⟩
    rw [app_S]
    refine ⟨_, rfl, _, rfl, _, rfl, _, rfl, _, rfl, S T, rfl, szS T (by omega), ?_⟩
    have e2 := slice_S (x := S T) (p := pa) (n := pb) (by rw [S_len]; omega)
    rw [S_codes] at e2
    rw [hpa, hpb, e2]
    refine ⟨_, _, rfl, rfl, (by rw [S_len, S_len, List.length_append, List.length_append, List.length_take, List.length_take, List.length_drop]; exact sz (by simp; omega)), ?_⟩
    rw [app_S]
    refine ⟨pr3.2.1, Same.upd_new pr3.1 (sm2.free hD3) _, upd_same, by rw [upd_ne h23]; exact pr3.2.2.1, zs ++ [(([cs] ++ T.take pa) ++ [ks[i]]) ++ (T.drop pa).take pb], by simp, by simp [hl], fun z hz => ?_, by rw [List.range_succ, List.map_append, hz0]; simp only [List.map_cons, List.map_nil]; rw [List.getD_eq_getElem?_getD (i := i), List.getElem?_eq_getElem hi']; rfl⟩
    rcases List.mem_append.mp hz with hz | hz
    · exact hg z hz
    · rw [List.mem_singleton.mp hz]
      rw [List.append_assoc, List.append_assoc]
      refine good_of hcm hfa ?_ ?_
      · rw [List.all_eq_true] at hTa ⊢
        intro y hy
        rcases List.mem_append.mp hy with hy | hy
        · exact hTa y (List.mem_of_mem_take hy)
        · rcases List.mem_append.mp hy with hy | hy
          · rw [List.mem_singleton.mp hy]
            exact hka _ (List.getElem_mem hi')
          · exact hTa y (List.mem_of_mem_drop (List.mem_of_mem_take hy))
      · rw [List.length_append, List.length_append, List.length_take, List.length_take, List.length_drop]
        simp
        omega
  · obtain ⟨zs, rfl, hl, hg, hz0⟩ := pr3.2.2.2
    have hkl' : ks.length = n := by omega
    rw [List.length_map, List.length_map] at hz0 hl
    refine q D3 zs H3 pr3.1 (sm2.free hD3) pr3.2.1 (by omega) hg ?_
    rw [hz0]
    refine nodup_map_range fun a b ha hb e => ?_
    have e3 : [ks.getD a 0] = [ks.getD b 0] := by
      have z := List.append_inj_left' e rfl
      exact List.append_inj_right z rfl
    have e4 : ks.getD a 0 = ks.getD b 0 := (List.cons.inj e3).1
    have gk : ∀ k, k < n → ks.getD k 0 = aAll.cps.toList.getD ((v / 7 + (0 + (k : Int))) % ((62 : Nat) : Int)).toNat 0 := fun k hk => by
      rw [hk0, List.getD_eq_getElem?_getD, List.getElem?_map, List.getElem?_range (by omega)]
      rfl
    rw [gk a (by omega), gk b (by omega)] at e4
    have e5 := nodup_getD (by decide +kernel) (by rw [len_is, all_len]; have := mid (a := v / 7 + (0 + (a : Int))) (b := 62) (by decide); omega) (by rw [len_is, all_len]; have := mid (a := v / 7 + (0 + (b : Int))) (b := 62) (by decide); omega) e4
    exact mod_inj (by omega) (by omega) e5
theorem sc__law_titles : FnScope ["_law_cell", "_law_many"] ["_law_cell", "_law_many"] (defScope s__law_titles) := ⟨rfl, rfl, rfl, by decide +kernel, rfl, by decide +kernel, by decide +kernel⟩
theorem ok__law_titles (F : Fun K "_law_titles" "_law_titles" s__law_titles f fd) (c__law_names : Cal P w K mg base "_law_names" 2 ["_law_cell", "_law_many", "_law_firsts"] spNames) : FnOk P w K mg base CX0 3 f fd ["_law_cell", "_law_many"] (spSome aSmall.cps.toList) := by
  refine F.ok sc__law_titles (fun vs H Q E h => ?_) (fun cdv A outer s H vs Q E hr h => ?_)
  · obtain ⟨c, n, rfl, _⟩ := h
    rfl
  obtain ⟨c, n, rfl, hn, q⟩ := h
  refine ⟨_, (pss_one (ps_ret (pe_callC c__law_names (hr.mono (by decide)) rfl (pa_cons (pv 0) (pa_cons (pv 1) (pa_cons pe_str pa_nil)))))), ?_⟩
  exact ⟨_, rfl, _, rfl, c, n, aSmall.cps.toList, (by show [V.int c, V.int n, V.str aSmall] = [V.int c, V.int n, V.str (S aSmall.cps.toList)]; rw [S_of]), hn, by decide +kernel, by decide +kernel, by decide +kernel, by decide +kernel, q⟩
theorem sc__law_opens : FnScope ["_law_cell", "_law_many"] ["_law_cell", "_law_many"] (defScope s__law_opens) := ⟨rfl, rfl, rfl, by decide +kernel, rfl, by decide +kernel, by decide +kernel⟩
theorem ok__law_opens (F : Fun K "_law_opens" "_law_opens" s__law_opens f fd) (c__law_names : Cal P w K mg base "_law_names" 2 ["_law_cell", "_law_many", "_law_firsts"] spNames) : FnOk P w K mg base CX0 3 f fd ["_law_cell", "_law_many"] (spSome aGreat.cps.toList) := by
  refine F.ok sc__law_opens (fun vs H Q E h => ?_) (fun cdv A outer s H vs Q E hr h => ?_)
  · obtain ⟨c, n, rfl, _⟩ := h
    rfl
  obtain ⟨c, n, rfl, hn, q⟩ := h
  refine ⟨_, (pss_one (ps_ret (pe_callC c__law_names (hr.mono (by decide)) rfl (pa_cons (pv 0) (pa_cons (pv 1) (pa_cons pe_str pa_nil)))))), ?_⟩
  exact ⟨_, rfl, _, rfl, c, n, aGreat.cps.toList, (by show [V.int c, V.int n, V.str aGreat] = [V.int c, V.int n, V.str (S aGreat.cps.toList)]; rw [S_of]), hn, by decide +kernel, by decide +kernel, by decide +kernel, by decide +kernel, q⟩
theorem sc__law_words : FnScope ["_law_cell", "_law_many"] ["_law_cell", "_law_many"] (defScope s__law_words) := ⟨rfl, rfl, rfl, by decide +kernel, rfl, by decide +kernel, by decide +kernel⟩
theorem ok__law_words (F : Fun K "_law_words" "_law_words" s__law_words f fd) (c__law_names : Cal P w K mg base "_law_names" 2 ["_law_cell", "_law_many", "_law_firsts"] spNames) : FnOk P w K mg base CX0 3 f fd ["_law_cell", "_law_many"] (spSome aSF.cps.toList) := by
  refine F.ok sc__law_words (fun vs H Q E h => ?_) (fun cdv A outer s H vs Q E hr h => ?_)
  · obtain ⟨c, n, rfl, _⟩ := h
    rfl
  obtain ⟨c, n, rfl, hn, q⟩ := h
  refine ⟨_, (pss_one (ps_ret (pe_callC c__law_names (hr.mono (by decide)) rfl (pa_cons (pv 0) (pa_cons (pv 1) (pa_cons pe_str pa_nil)))))), ?_⟩
  exact ⟨_, rfl, _, rfl, c, n, aSF.cps.toList, (by show [V.int c, V.int n, V.str aSF] = [V.int c, V.int n, V.str (S aSF.cps.toList)]; rw [S_of]), hn, by decide +kernel, by decide +kernel, by decide +kernel, by decide +kernel, q⟩
end
end K04
namespace K04
open PySem L2 K02 Bk
set_option maxHeartbeats 4000000
section
variable {P : Program} {w : World} {K : PySem.W.Frag} {mg : Str → Option Value} {base : Heap} {f : Addr} {fd : FuncData} {C1 C2 : Addr}
theorem sc__law_fault : FnScope ["_law_kinds_here", "_law_fact_here", "_law_kind"] ["_law_kinds_here", "_law_fact_here"] (defScope s__law_fault) := ⟨rfl, rfl, rfl, by decide +kernel, rfl, by decide +kernel, by decide +kernel⟩
theorem ok__law_fault (F : Fun K "_law_fault" "_law_fault" s__law_fault f fd) (m_len : mg "len" = none) : FnOk P w K mg base CX0 1 f fd ["_law_kinds_here", "_law_fact_here"] (spFaultL K) := by
  refine F.ok sc__law_fault (fun vs H Q E h => ?_) (fun cdv A outer s H vs Q E hr h => ?_)
  · obtain ⟨lk, v, ks, g, rfl, _⟩ := h
    rfl
  obtain ⟨lk, v, ks, g, rfl, ⟨kvs, hk, pk⟩, ⟨t, t2, rfl, h1, h2⟩, hl1, hl2, q⟩ := h
  refine ⟨_, (pss_cons (ps_for PassesOwn.never rfl (pi_list (pv 0)) (pg_name (i := 2) sc__law_fault.nd rfl (Or.inl rfl))
  (pss_one (ps_if (pt_cmpR op_eq (pe_ix ix_tup (pv 2) pe_int (fun _ _ => rfl)) (pe_ix ix_tup (pv 1) pe_int (fun _ _ => rfl)) (nomark _))
  (pss_cons (ps_if (pt_cmpR op_eq (pe_ix ix_tup (pv 2) pe_int (fun _ _ => rfl)) (pe_callB call_len_seq rfl m_len PySem.boot_len (pa_cons (pe_ix ix_tup (pv 1) pe_int (fun _ _ => rfl)) pa_nil)) (nomark _))
  (pss_one (ps_ret pe_int))
  pss_nil)
  (pss_one (ps_ret pe_int)))
  pss_nil)))
  (pss_one (ps_ret pe_int))), ?_⟩
  have zk := Paired.length pk
  refine ⟨_, rfl, lk, rfl, ⟨_, SqL.of hk⟩, for_list (K := K) (a := lk) (xs := kvs) (fun i σ H' => H' = H ∧ fault ks g = fault (ks.drop i) g ∧ ∃ o, σ = [some (.ref lk), some (.ref t), o]) ⟨rfl, rfl, none, rfl⟩ (fun i σ H' _ ⟨e, _⟩ => by rw [e]; exact SqL.of hk) ?_ ?_⟩
  · rintro i y σ H' hi ⟨rfl, hfa, o, rfl⟩
    obtain ⟨hik, ey⟩ := get_of hi
    have hiK : i < ks.length := by omega
    obtain ⟨tk, et, ht⟩ := paired_at pk i hiK hik
    rw [ey] at et
    subst et
    rw [List.drop_eq_getElem_cons hiK] at hfa
    refine ⟨_, rfl, tk, _, 0, _, rfl, rfl, ht, rfl, _, rfl, t, _, 0, _, rfl, rfl, h1, rfl, rfl, _, rfl, ?_⟩
    by_cases hn : ks[i].n = g.k
    · rw [decide_eq_true (show tx ks[i].n = tx g.k by rw [hn])]
      have hfk : fault ks g = if ks[i].c = g.as.length then 0 else 2 := by
        rw [hfa]
        unfold fault
        rw [List.find?_cons, decide_eq_true hn]
      refine iteT ?_
      refine ⟨_, rfl, tk, _, 1, _, rfl, rfl, ht, rfl, _, rfl, t, _, 1, _, rfl, rfl, h1, rfl, t2, _, rfl, .inr h2, rfl, _, rfl, ?_⟩
      rw [List.length_map]
      by_cases hc : ks[i].c = g.as.length
      · rw [decide_eq_true (show V.int (ks[i].c : Nat) = V.int (g.as.length : Nat) by rw [hc])]
        rw [hfk, if_pos hc] at q
        exact iteT q
      · rw [decide_eq_false (fun z : V.int (ks[i].c : Nat) = V.int (g.as.length : Nat) => hc (by have := V.int.inj z; omega))]
        rw [hfk, if_neg hc] at q
        exact iteF q
    · rw [decide_eq_false (fun z : tx ks[i].n = tx g.k => hn (S_inj (V.str.inj z)))]
      refine iteF ⟨rfl, ?_, _, rfl⟩
      rw [hfa]
      unfold fault
      rw [List.find?_cons, decide_eq_false hn]
  · rintro σ H' ⟨rfl, hfa, o, rfl⟩
    rw [List.drop_of_length_le (by omega)] at hfa
    rw [hfa] at q
    exact q
theorem sc__law_lasts : FnScope ["_law_kinds_here", "_law_fact_here", "_law_kind"] ["_law_kinds_here", "_law_fact_here"] (defScope s__law_lasts) := ⟨rfl, rfl, rfl, by decide +kernel, rfl, by decide +kernel, by decide +kernel⟩
theorem ok__law_lasts (F : Fun K "_law_lasts" "_law_lasts" s__law_lasts f fd) : FnOk P w K mg base CX0 1 f fd ["_law_kinds_here", "_law_fact_here"] (spLastsL K) := by
  refine F.ok sc__law_lasts (fun vs H Q E h => ?_) (fun cdv A outer s H vs Q E hr h => ?_)
  · obtain ⟨lk, v, ks, g, rfl, _⟩ := h
    rfl
  obtain ⟨lk, v, ks, g, rfl, ⟨kvs, hk, pk⟩, nd, ⟨t, t2, rfl, h1, h2⟩, hl1, hl2, q⟩ := h
  refine ⟨_, (pss_cons (ps_for PassesOwn.never rfl (pi_list (pv 0)) (pg_name (i := 2) sc__law_lasts.nd rfl (Or.inl rfl))
  (pss_one (ps_if (pt_cmpR op_eq (pe_ix ix_tup (pv 2) pe_int (fun _ _ => rfl)) (pe_ix ix_tup (pv 1) pe_int (fun _ _ => rfl)) (nomark _))
  (pss_one (ps_ret (pe_ix ix_tup (pv 2) pe_int (fun _ _ => rfl))))
  pss_nil)))
  (pss_one (ps_ret pe_bl))), ?_⟩
  have zk := Paired.length pk
  refine ⟨_, rfl, lk, rfl, ⟨_, SqL.of hk⟩, for_list (K := K) (a := lk) (xs := kvs) (fun i σ H' => H' = H ∧ (∀ j (hj : j < ks.length), j < i → ks[j].n ≠ g.k) ∧ ∃ o, σ = [some (.ref lk), some (.ref t), o]) ⟨rfl, (fun j _ h => absurd h (Nat.not_lt_zero _)), none, rfl⟩ (fun i σ H' _ ⟨e, _⟩ => by rw [e]; exact SqL.of hk) ?_ ?_⟩
  · rintro i y σ H' hi ⟨rfl, hfa, o, rfl⟩
    obtain ⟨hik, ey⟩ := get_of hi
    have hiK : i < ks.length := by omega
    obtain ⟨tk, et, ht⟩ := paired_at pk i hiK hik
    rw [ey] at et
    subst et
    refine ⟨_, rfl, tk, _, 0, _, rfl, rfl, ht, rfl, _, rfl, t, _, 0, _, rfl, rfl, h1, rfl, rfl, _, rfl, ?_⟩
    by_cases hn : ks[i].n = g.k
    · rw [decide_eq_true (show tx ks[i].n = tx g.k by rw [hn])]
      have e : decide (g.k ∈ lastN ks) = ks[i].l := by rw [← hn]; exact last_at nd hiK
      rw [e] at q
      exact iteT ⟨_, rfl, tk, _, 2, _, rfl, rfl, ht, rfl, q⟩
    · rw [decide_eq_false (fun z : tx ks[i].n = tx g.k => hn (S_inj (V.str.inj z)))]
      refine iteF ⟨rfl, fun j hj hji => ?_, _, rfl⟩
      rcases Nat.lt_or_eq_of_le (Nat.le_of_lt_succ hji) with z | z
      · exact hfa j hj z
      · subst z; exact hn
  · rintro σ H' ⟨rfl, hfa, o, rfl⟩
    have e : decide (g.k ∈ lastN ks) = false := decide_eq_false fun hm => by
      unfold lastN at hm
      obtain ⟨k, hk1, hk2⟩ := List.mem_map.mp hm
      obtain ⟨j, hj, rfl⟩ := List.mem_iff_getElem.mp (List.mem_filter.mp hk1).1
      exact hfa j hj (by omega) hk2
    rw [e] at q
    exact q
theorem sc__law_first_fault : FnScope ["_law_kinds_here", "_law_facts", "_law_fact_here", "_law_fault_here"] ["_law_kinds_here", "_law_facts"] (defScope s__law_first_fault) := ⟨rfl, rfl, rfl, by decide +kernel, rfl, by decide +kernel, by decide +kernel⟩
theorem ok__law_first_fault (F : Fun K "_law_first_fault" "_law_first_fault" s__law_first_fault f fd) (c__law_fault : Cal P w K mg base "_law_fault" 1 ["_law_kinds_here", "_law_fact_here"] (spFaultL K)) : FnOk P w K mg base CX0 2 f fd ["_law_kinds_here", "_law_facts"] (spFirst K) := by
  refine F.ok sc__law_first_fault (fun vs H Q E h => ?_) (fun cdv A outer s H vs Q E hr h => ?_)
  · obtain ⟨lk, lf, ks, fs, rfl, _⟩ := h
    rfl
  obtain ⟨lk, lf, ks, fs, rfl, hks, h4, ⟨fvs, hf, pf⟩, hfs, q⟩ := h
  refine ⟨_, (pss_cons (ps_for PassesOwn.never rfl (pi_list (pv 1)) (pg_name (i := 2) sc__law_first_fault.nd rfl (Or.inl rfl))
  (pss_cons (ps_set (i := 3) sc__law_first_fault.nd rfl (Or.inl rfl) (pe_callC c__law_fault (hr.mono (by decide)) rfl (pa_cons (pv 0) (pa_cons (pv 2) pa_nil))))
  (pss_one (ps_if (pt_cmpR op_gt (pv 3) pe_int (nomark _))
  (pss_one (ps_ret (pv 3)))
  pss_nil))))
  (pss_one (ps_ret pe_int))), ?_⟩
  have zf := Paired.length pf
  refine ⟨_, rfl, lf, rfl, ⟨_, SqL.of hf⟩, for_list (K := K) (a := lf) (xs := fvs) (fun i σ H' => H' = H ∧ faults ks fs = faults ks (fs.drop i) ∧ ∃ o o2, σ = [some (.ref lk), some (.ref lf), o, o2]) ⟨rfl, rfl, none, none, rfl⟩ (fun i σ H' _ ⟨e, _⟩ => by rw [e]; exact SqL.of hf) ?_ ?_⟩
  · rintro i y σ H' hi ⟨rfl, hfa, o, o2, rfl⟩
    obtain ⟨hif, ey⟩ := get_of hi
    have hiF : i < fs.length := by omega
    have hFa := paired_at pf i hiF hif
    rw [ey] at hFa
    have hF := hfs _ (List.getElem_mem hiF)
    rw [faults_drop hiF] at hfa
    refine ⟨_, rfl, _, rfl, lk, y, ks, fs[i], rfl, hks, hFa, (by have := (nameC_ok hF.k).2.1; omega), (fun k hk => by have := (nameC_ok (h4.ok k hk).1).2.1; omega), ?_⟩
    refine ⟨_, rfl, _, _, rfl, rfl, _, rfl, ?_⟩
    by_cases h0 : fault ks fs[i] = 0
    · rw [if_pos h0] at hfa
      rw [decide_eq_false (show ¬ (((fault ks fs[i] : Nat) : Int) > 0) by omega)]
      exact iteF ⟨rfl, hfa, _, _, rfl⟩
    · rw [if_neg h0] at hfa
      rw [decide_eq_true (show ((fault ks fs[i] : Nat) : Int) > 0 by omega)]
      rw [hfa] at q
      exact iteT ⟨_, rfl, q⟩
  · rintro σ H' ⟨rfl, hfa, o, o2, rfl⟩
    rw [List.drop_of_length_le (by omega)] at hfa
    rw [hfa] at q
    exact q
end
end K04
namespace K04
open PySem L2 K02 Bk
set_option maxHeartbeats 4000000
theorem upper_is : ∀ c ∈ aAll.cps.toList, Txt.isupper ⟨#[c]⟩ = decide (c ∈ aGreat.cps.toList) := by decide +kernel
theorem al_all {c : Nat} (h : isAl c = true) : c ∈ aAll.cps.toList := by
  have key : ∀ c ∈ aSmall.cps.toList ++ (aGreat.cps.toList ++ aFig.cps.toList), c ∈ aAll.cps.toList := by decide +kernel
  refine key c ?_
  unfold isAl at h
  rw [Bool.or_eq_true, Bool.or_eq_true] at h
  rcases h with h | h | h
  · exact List.mem_append_left _ (of_decide_eq_true h)
  · exact List.mem_append_right _ (List.mem_append_left _ (of_decide_eq_true h))
  · exact List.mem_append_right _ (List.mem_append_right _ (of_decide_eq_true h))
theorem upper_name {n : Cs} (h : nameC n = true) : Txt.isupper ⟨#[n.headD 0]⟩ = great n := by
  unfold nameC at h
  rw [Bool.and_eq_true, Bool.and_eq_true] at h
  cases n with
  | nil => have := of_decide_eq_true h.1; simp at this
  | cons c r =>
    have z := List.all_eq_true.mp h.2.2 c (List.mem_cons_self ..)
    exact upper_is c (al_all z)
section
variable {P : Program} {w : World} {K : PySem.W.Frag} {mg : Str → Option Value} {base : Heap} {f : Addr} {fd : FuncData} {C1 C2 : Addr}
theorem sc__law_known : FnScope ["_law_known_here", "_law_names_here", "_law_due_here", "_law_name"] ["_law_known_here", "_law_names_here"] (defScope s__law_known) := ⟨rfl, rfl, rfl, by decide +kernel, rfl, by decide +kernel, by decide +kernel⟩
theorem ok__law_known (F : Fun K "_law_known" "_law_known" s__law_known f fd) (m_list : mg "list" = none) : FnOk P w K mg base CX0 1 f fd ["_law_known_here", "_law_names_here"] (spKnownL K) := by
  refine F.ok sc__law_known (fun vs H Q E h => ?_) (fun cdv A outer s H vs Q E hr h => ?_)
  · obtain ⟨la, t, acc, ns, rfl, _⟩ := h
    rfl
  obtain ⟨la, t, acc, ns, rfl, hla, ht, hn, hok, q⟩ := h
  refine ⟨_, (pss_cons (ps_set (i := 2) sc__law_known.nd rfl (Or.inl rfl) (pe_callTy call_list_of rfl m_list PyProof.Rows.Boot.«list» (pa_cons (pv 0) pa_nil)))
  (pss_cons (ps_for PassesOwn.never rfl (pi_tup (pv 1)) (pg_name (i := 3) sc__law_known.nd rfl (Or.inl rfl))
  (pss_one (ps_if (PW.pt (pw_and (pt_val (pe_bm0 PySem.F.plainAttrs_str PySem.F.slot_str_isupper PySem.F.type_str_isupper mt_isupper (pe_ix ix_str (pv 3) pe_int (fun _ _ => rfl)))) (pw_and1 (pt_cmpR op_notIn_seq (pv 3) (pv 2) (by with_unfolding_all rfl)))))
  (pss_one (ps_expr (pe_bm PySem.F.plainAttrs_list PySem.F.slot_list_append PySem.F.type_list_append mt_append (pv 2) (pa_cons (pv 3) pa_nil))))
  pss_nil)))
  (pss_one (ps_ret (pv 2))))), ?_⟩
  refine ⟨_, rfl, la, _, rfl, .inl (SqL.of hla), fun l hl => ?_⟩
  have s1 : Same H (upd H l (.lst (acc.map tx))) := same_new hl _
  refine ⟨_, rfl, t, rfl, ⟨_, ht.same s1⟩, for_tup (K := K) (a := t) (xs := ns.map tx) (fun i σ H' => Same H H' ∧ H' l = some (.lst ((kn acc (ns.take i)).map tx)) ∧ ∃ o, σ = [some (.ref la), some (.ref t), some (.ref l), o]) ⟨s1, upd_same, none, rfl⟩ (fun i σ H' _ ⟨sm, _⟩ => ht.same sm) ?_ ?_⟩
  · rintro i y σ H' hi ⟨sm, hL, o, rfl⟩
    obtain ⟨hif, ey⟩ := get_of hi
    have hiN : i < ns.length := by simpa using hif
    have ey : tx ns[i] = y := by rw [← ey]; simp
    subst ey
    have hno := hok _ (List.getElem_mem hiN)
    have hco := nameC_ok hno
    have e1 : kn acc (ns.take (i + 1)) = knS (kn acc (ns.take i)) ns[i] := by
      rw [List.take_succ_eq_append_getElem hiN]
      unfold kn
      rw [List.foldl_append]
      rfl
    have hlen := kn_len (ns.take i) acc
    rw [List.length_take] at hlen
    generalize kn acc (ns.take i) = ac at e1 hlen hL ⊢
    have hl1 : 1 ≤ (S ns[i]).length := by
      rw [S_len]
      cases hh : ns[i] with
      | nil => exact absurd hh hco.1
      | cons a r => simp
    refine ⟨_, rfl, S ns[i], 0, _, rfl, rfl, (by rw [S_len]; exact sz (by have := hco.2.1; omega)), head_at hl1, rfl, _, rfl, rfl, _, rfl, ?_⟩
    rw [S_codes, upper_name hno]
    by_cases hg : great ns[i] = true
    · rw [hg]
      refine iteT ?_
      refine ⟨_, rfl, _, rfl, l, _, rfl, .inl (SqL.of hL), rfl, flat_map _, _, rfl, ?_⟩
      rw [if_pos rfl, inV_map]
      by_cases hm : ns[i] ∈ ac
      · rw [decide_eq_true hm]
        refine iteF ⟨sm, ?_, _, rfl⟩
        rw [hL, e1]
        unfold knS
        rw [if_pos hg, if_pos hm]
      · rw [decide_eq_false hm]
        refine iteT ⟨_, rfl, .inl ⟨rfl, _, SqL.of hL⟩, _, rfl, l, _, _, rfl, rfl, hL, (by rw [List.length_map, sizeLine_eq]; omega), ?_⟩
        refine ⟨Same.upd_new sm hl _, ?_, _, rfl⟩
        rw [upd_same, e1]
        unfold knS
        rw [if_pos hg, if_neg hm, List.map_append]
        rfl
    · have hg' : great ns[i] = false := by simpa using hg
      rw [hg']
      refine iteF (iteF ⟨sm, ?_, _, rfl⟩)
      rw [hL, e1]
      unfold knS
      rw [if_neg hg]
  · rintro σ H' ⟨sm, hL, o, rfl⟩
    rw [List.length_map, List.take_length] at hL
    exact ⟨_, rfl, q l H' sm hl hL⟩
theorem sc__law_due : FnScope ["_law_kinds_here", "_law_facts", "_law_bag", "_law_once", "_law_known_here", "_law_fact_here", "_law_same"] ["_law_kinds_here", "_law_facts"] (defScope s__law_due) := ⟨rfl, rfl, rfl, by decide +kernel, rfl, by decide +kernel, by decide +kernel⟩
theorem ok__law_due (F : Fun K "_law_due" "_law_due" s__law_due f fd) (c__law_known : Cal P w K mg base "_law_known" 1 ["_law_known_here", "_law_names_here"] (spKnownL K)) (c__law_lasts : Cal P w K mg base "_law_lasts" 1 ["_law_kinds_here", "_law_fact_here"] (spLastsL K)) (m_tuple : mg "tuple" = none) (m_sorted : mg "sorted" = none) :
    FnOk P w K mg base CX0 2 f fd ["_law_kinds_here", "_law_facts"] (spDue K) := by
  refine F.ok sc__law_due (fun vs H Q E h => ?_) (fun cdv A outer s H vs Q E hr h => ?_)
  · obtain ⟨lk, lf, ks, fs, rfl, _⟩ := h
    rfl
  obtain ⟨lk, lf, ks, fs, rfl, hks, h4, hFs, hfs, h64, hkn64, q⟩ := h
  refine ⟨_, (pss_cons (ps_set (i := 2) sc__law_due.nd rfl (Or.inl rfl) (pe_lst pa_nil))
  (pss_cons (ps_set (i := 3) sc__law_due.nd rfl (Or.inl rfl) (pe_lst pa_nil))
  (pss_cons (ps_set (i := 4) sc__law_due.nd rfl (Or.inl rfl) (pe_lst pa_nil))
  (pss_cons (ps_for PassesOwn.never rfl (pi_list (pv 1)) (pg_name (i := 5) sc__law_due.nd rfl (Or.inl rfl))
  (pss_cons (ps_set (i := 4) sc__law_due.nd rfl (Or.inl rfl) (pe_callC c__law_known (hr.mono (by decide)) rfl (pa_cons (pv 4) (pa_cons (pe_ix ix_tup (pv 5) pe_int (fun _ _ => rfl)) pa_nil))))
  (pss_one (ps_if (pt_not (pt_val (pe_callC c__law_lasts (hr.mono (by decide)) rfl (pa_cons (pv 0) (pa_cons (pv 5) pa_nil)))))
  (pss_one (ps_expr (pe_bm PySem.F.plainAttrs_list PySem.F.slot_list_append PySem.F.type_list_append mt_append (pv 2) (pa_cons (pv 5) pa_nil))))
  (pss_one (ps_if (pt_cmpR (op_notInT hr.units) (pv 5) (pv 3) (by with_unfolding_all rfl))
  (pss_one (ps_expr (pe_bm PySem.F.plainAttrs_list PySem.F.slot_list_append PySem.F.type_list_append mt_append (pv 3) (pa_cons (pv 5) pa_nil))))
  pss_nil))))))
  (pss_cons (ps_setc (i := 6) [] sc__law_due.nd rfl (Or.inl rfl) rfl (by kernel_rfl) (pi_list (pv 4)) (fun _ _ _ _ _ => pts_nil) (fun _ _ _ _ _ => (pe_tup (pa_cons (pv 0) (pa_cons (pv 0) pa_nil)))))
  (pss_one (ps_ret (pe_tup (pa_cons (pe_callTy call_tuple_of rfl m_tuple PyProof.Rows.Boot.«tuple» (pa_cons (pe_callB (call_sortedT hr.units) rfl m_sorted PyProof.Rows.boot_sorted (pa_cons (pv 2) pa_nil)) pa_nil)) (pa_cons (pe_callTy call_tuple_of rfl m_tuple PyProof.Rows.Boot.«tuple» (pa_cons (pe_callB (call_sortedT hr.units) rfl m_sorted PyProof.Rows.boot_sorted (pa_cons (pv 3) pa_nil)) pa_nil)) (pa_cons (pe_callTy call_tuple_of rfl m_tuple PyProof.Rows.Boot.«tuple» (pa_cons (pe_callB (call_sortedT hr.units) rfl m_sorted PyProof.Rows.boot_sorted (pa_cons (pv 6) pa_nil)) pa_nil)) (pa_cons pe_bl pa_nil)))))))))))), ?_⟩
  refine ⟨(by show 0 ≤ sizeLine; decide), fun lb hlb => ?_⟩
  refine ⟨(by show 0 ≤ sizeLine; decide), fun lo hlo => ?_⟩
  refine ⟨(by show 0 ≤ sizeLine; decide), fun l0 hl0 => ?_⟩
  have s1 : Same H (upd H lb (.lst [])) := same_new hlb _
  have s2 := same_new hlo (.lst [])
  have s3 := same_new hl0 (.lst [])
  have hb1 := s3 _ _ (s2 _ _ (upd_same (H := H) (a := lb) (o := .lst [])))
  have ho1 := s3 _ _ (upd_same (H := upd H lb (.lst [])) (a := lo) (o := .lst []))
  have hk1 := upd_same (H := upd (upd H lb (.lst [])) lo (.lst [])) (a := l0) (o := .lst [])
  have nbo : lb ≠ lo := ne_of_none upd_same hlo
  have nkb : l0 ≠ lb := fun e => by rw [e, s2 _ _ upd_same] at hl0; cases hl0
  have nko : l0 ≠ lo := fun e => by rw [e, upd_same] at hl0; cases hl0
  have hloH : H lo = none := s1.free hlo
  have sA : Same H (upd (upd (upd H lb (.lst [])) lo (.lst [])) l0 (.lst [])) := Same.trans s1 (Same.trans s2 s3)
  generalize upd (upd (upd H lb (.lst [])) lo (.lst [])) l0 (.lst []) = H1 at hb1 ho1 hk1 sA ⊢
  obtain ⟨fvs, hf, pf⟩ := hFs
  have zf := Paired.length pf
  refine ⟨_, rfl, lf, rfl, ⟨_, SqL.of (sA _ _ hf)⟩, for_list (K := K) (a := lf) (xs := fvs) (fun i σ H' => Same H H' ∧ (∃ yb, H' lb = some (.lst yb) ∧ Paired (Fact K H') (bagF ks (fs.take i)) yb) ∧ (∃ yo, H' lo = some (.lst yo) ∧ Ts K H' (dd ((lasF ks (fs.take i)).map fT)) yo) ∧ ∃ kn1 o6, kn1 ≠ lb ∧ kn1 ≠ lo ∧ H' kn1 = some (.lst ((kn [] ((fs.take i).flatMap (·.as))).map tx)) ∧ σ = [some (.ref lk), some (.ref lf), some (.ref lb), some (.ref lo), some (.ref kn1), o6, none])
    ⟨sA, ⟨[], hb1, .nil⟩, ⟨[], ho1, rfl, fun i h => by simp [dd, lasF] at h⟩, l0, none, nkb, nko, hk1, rfl⟩ (fun i σ H' _ ⟨sm, _⟩ => SqL.of (sm _ _ hf)) ?_ ?_⟩
  · rintro i y σ H' hi ⟨sm, ⟨yb, hyb, pyb⟩, ⟨yo, hyo, tyo⟩, k1, o6, n1, n2, hk1', rfl⟩
    obtain ⟨hif, ey⟩ := get_of hi
    have hiF : i < fs.length := by omega
    have hFa := Fact.sm sm (paired_at pf i hiF hif)
    rw [ey] at hFa
    have hF := hfs _ (List.getElem_mem hiF)
    obtain ⟨t, t2, et, g1, g2⟩ := id hFa
    subst et
    have hn1 := kn_len ((fs.take i).flatMap (·.as)) []
    have hn2 := flat_len (fs := fs.take i) fun g hg => (hfs g (List.mem_of_mem_take hg)).fs
    rw [List.length_take] at hn2
    simp only [List.length_nil] at hn1
    have hn3 := hF.n
    refine ⟨_, rfl, _, rfl, t, _, 1, _, rfl, rfl, g1, rfl, k1, t2, kn [] ((fs.take i).flatMap (·.as)), fs[i].as, rfl, hk1', g2, (by omega), hF.as, fun l H2 s4 hl hL => ?_⟩
    have nlb : l ≠ lb := fun e => by rw [e, hyb] at hl; cases hl
    have nlo : l ≠ lo := fun e => by rw [e, hyo] at hl; cases hl
    have hL2 : H2 l = some (.lst ((kn [] ((fs.take (i + 1)).flatMap (·.as))).map tx)) := by rw [flat_succ hiF, kn_app]; exact hL
    have sB := Same.trans sm s4
    have hFa2 := Fact.sm s4 hFa
    have hyb2 := s4 _ _ hyb
    have hyo2 := s4 _ _ hyo
    have pyb2 : Paired (Fact K H2) (bagF ks (fs.take i)) yb := paired_mono pyb fun _ _ _ => Fact.sm s4
    have tyo2 := ts_same s4 tyo
    refine ⟨_, rfl, _, rfl, lk, .ref t, ks, fs[i], rfl, hks.sm sB, h4.nd, hFa2, (by have := (nameC_ok hF.k).2.1; omega), (fun k hk => by have := (nameC_ok (h4.ok k hk).1).2.1; omega), ?_⟩
    have eb : bagF ks (fs.take (i + 1)) = bagF ks (fs.take i) ++ (if fs[i].k ∈ lastN ks then [] else [fs[i]]) := by
      unfold bagF
      rw [List.take_succ_eq_append_getElem hiF, List.filter_append]
      by_cases hm : fs[i].k ∈ lastN ks
      · rw [if_pos hm]; simp [hm]
      · rw [if_neg hm]; simp [hm]
    have el : lasF ks (fs.take (i + 1)) = lasF ks (fs.take i) ++ (if fs[i].k ∈ lastN ks then [fs[i]] else []) := by
      unfold lasF
      rw [List.take_succ_eq_append_getElem hiF, List.filter_append]
      by_cases hm : fs[i].k ∈ lastN ks
      · rw [if_pos hm]; simp [hm]
      · rw [if_neg hm]; simp [hm]
    by_cases hm : fs[i].k ∈ lastN ks
    · rw [if_pos hm] at eb el
      rw [List.append_nil] at eb
      rw [decide_eq_true hm]
      refine ⟨_, rfl, iteF ?_⟩
      have hs2 : ∀ t ∈ dd ((lasF ks (fs.take i)).map fT), (∃ q, t = .tup q) ∧ t.toD.deep ≤ 8 := fun u hu => by
        obtain ⟨g, rfl⟩ := dd_fT hu
        exact ⟨⟨_, rfl⟩, by unfold fT; rw [deep_fact]; decide⟩
      refine ⟨_, rfl, _, rfl, lo, yo, _, _, rfl, SqL.of hyo2, tyo2, Fact.isD hFa2, (by show (fT fs[i]).toD.deep ≤ 8; unfold fT; rw [deep_fact]; decide), hs2, _, rfl, ?_⟩
      have e2 : dd ((lasF ks (fs.take (i + 1))).map fT) = ddS (dd ((lasF ks (fs.take i)).map fT)) (fT fs[i]) := by
        rw [el, List.map_append]
        exact dd_app _ _
      have hbb : (∃ yb, H2 lb = some (.lst yb) ∧ Paired (Fact K H2) (bagF ks (fs.take (i + 1))) yb) := ⟨yb, hyb2, by rw [eb]; exact pyb2⟩
      show if (!(dd ((lasF ks (fs.take i)).map fT)).any fun a => eqT a (fT fs[i])) = true then _ else _
      cases ha : (dd ((lasF ks (fs.take i)).map fT)).any fun a => eqT a (fT fs[i]) with
      | true =>
        refine iteF ⟨sB, hbb, ⟨yo, hyo2, ?_⟩, l, _, nlb, nlo, hL2, rfl⟩
        rw [e2]
        unfold ddS
        rw [if_pos ha]
        exact tyo2
      | false =>
        have z1 := dd_len ((lasF ks (fs.take i)).map fT) _ (Nat.le_refl _)
        rw [List.take_length, List.length_map] at z1
        have z2 : (lasF ks (fs.take i)).length ≤ (fs.take i).length := List.length_filter_le _ _
        rw [List.length_take] at z2
        have z3 := tyo2.1
        refine iteT ⟨_, rfl, .inl ⟨rfl, _, SqL.of hyo2⟩, _, rfl, lo, _, _, rfl, rfl, hyo2, (by rw [sizeLine_eq]; omega), ?_⟩
        refine ⟨Same.upd_new sB hloH _, ⟨yb, by rw [upd_ne nbo]; exact hyb2, by rw [eb]; exact paired_mono pyb2 fun _ _ _ => fact_updL hyo2⟩, ⟨_, upd_same, ?_⟩, l, _, nlb, nlo, by rw [upd_ne nlo]; exact hL2, rfl⟩
        rw [e2]
        unfold ddS
        rw [if_neg (by rw [ha]; decide)]
        exact ts_app (ts_updL hyo2 tyo2) (Fact.isD (fact_updL hyo2 hFa2))
    · rw [if_neg hm] at eb el
      rw [List.append_nil] at el
      rw [decide_eq_false hm]
      refine ⟨_, rfl, iteT ?_⟩
      have z1 := Paired.length pyb2
      have z2 : (bagF ks (fs.take i)).length ≤ (fs.take i).length := List.length_filter_le _ _
      rw [List.length_take] at z2
      refine ⟨_, rfl, .inl ⟨rfl, _, SqL.of hyb2⟩, _, rfl, lb, _, _, rfl, rfl, hyb2, (by rw [sizeLine_eq]; omega), ?_⟩
      refine ⟨Same.upd_new sB hlb _, ⟨_, upd_same, by rw [eb]; exact paired_app (paired_mono pyb2 fun _ _ _ => fact_updL hyb2) (.cons (fact_updL hyb2 hFa2) .nil)⟩, ⟨yo, by rw [upd_ne (Ne.symm nbo)]; exact hyo2, by rw [el]; exact ts_updL hyb2 tyo2⟩, l, _, nlb, nlo, by rw [upd_ne nlb]; exact hL2, rfl⟩
  · rintro σ H' ⟨sm, ⟨yb, hyb, pyb⟩, ⟨yo, hyo, tyo⟩, k1, o6, n1, n2, hk1', rfl⟩
    rw [← zf, List.take_length] at pyb tyo hk1'
    generalize hkn : kn [] (fs.flatMap (·.as)) = nm at hk1' hkn64
    refine ⟨_, rfl, k1, rfl, ⟨_, SqL.of hk1'⟩, fun D hD => ?_⟩
    refine comp_rel (K := K) (xs := nm.map tx) nm (fun _ H n y => ∃ t, y = .ref t ∧ SqT K H t [tx n, tx n]) (fun _ _ _ _ _ k ⟨t, e, h⟩ => ⟨t, e, SqT.keep k h⟩) (fun _ _ _ _ _ _ h => h) (szl (by rw [List.length_map]; omega)) hD (SqL.of hk1') (by rw [List.length_map]) (fun i x b H2 R hx hb s2 hQ => ?_) (fun H2 yn s2 hL po => ?_)
    · obtain ⟨hib, eb⟩ := get_of hb
      have ex : x = tx b := by
        rw [List.getElem?_map, hb] at hx
        cases hx
        rfl
      subst ex
      exact ⟨_, rfl, _, rfl, (by show 2 ≤ sizeLine; decide), fun p hp => hQ _ _ (same_new hp _) ⟨p, rfl, SqT.of upd_same⟩⟩
    have z0 := Paired.length po
    have pyb2 : Paired (Fact K H2) (bagF ks fs) yb := paired_mono pyb fun _ _ _ => Fact.sm s2
    have z1 := Paired.length pyb2
    have z2 : (bagF ks fs).length ≤ fs.length := List.length_filter_le _ _
    have allB : ∀ (gs : List Fc), ∀ t ∈ gs.map fT, hdK t = 1 ∧ t.toD.deep ≤ 18 := fun gs t ht => by
      obtain ⟨g, _, rfl⟩ := List.mem_map.mp ht
      exact hd_fT g
    have shB : ∀ (gs : List Fc), ∀ t ∈ gs.map fT, ∀ u ∈ gs.map fT, shT t u = true := fun gs t ht u hu => by
      obtain ⟨g, _, rfl⟩ := List.mem_map.mp ht
      obtain ⟨g2, _, rfl⟩ := List.mem_map.mp hu
      exact sh_fT g g2
    refine ⟨_, rfl, lb, yb, _, 1, rfl, SqL.of (s2 _ _ hyb), ts_facts pyb2, (by omega), .inl rfl, allB _, shB _, fun a0 r0 ha0 hr0 => ?_⟩
    have sa0 := same_new ha0 (.lst r0)
    refine ⟨a0, r0, rfl, .inl ⟨SqL.of upd_same, fun t0 ht0 => ?_⟩⟩
    have s3 : Same H2 (upd (upd H2 a0 (.lst r0)) t0 (.tup r0)) := Same.trans sa0 (same_new ht0 _)
    have ht0' := upd_same (H := upd H2 a0 (.lst r0)) (a := t0) (o := .tup r0)
    have hr0' := ts_same s3 hr0
    generalize upd (upd H2 a0 (.lst r0)) t0 (.tup r0) = H3 at s3 ht0' hr0' ⊢
    have tyo3 := ts_same s3 (ts_same s2 tyo)
    have z3 := dd_len ((lasF ks fs).map fT) _ (Nat.le_refl _)
    rw [List.take_length, List.length_map] at z3
    have z4 : (lasF ks fs).length ≤ fs.length := List.length_filter_le _ _
    have z5 := tyo3.1
    refine ⟨_, rfl, lo, yo, _, 1, rfl, SqL.of (s3 _ _ (s2 _ _ hyo)), tyo3, (by omega), .inl rfl, (fun t ht => by obtain ⟨g, rfl⟩ := dd_fT ht; exact hd_fT g), (fun t ht u hu => by obtain ⟨g, rfl⟩ := dd_fT ht; obtain ⟨g2, rfl⟩ := dd_fT hu; exact sh_fT g g2), fun a1 r1 ha1 hr1 => ?_⟩
    have sa1 := same_new ha1 (.lst r1)
    refine ⟨a1, r1, rfl, .inl ⟨SqL.of upd_same, fun t1 ht1 => ?_⟩⟩
    have s4 : Same H3 (upd (upd H3 a1 (.lst r1)) t1 (.tup r1)) := Same.trans sa1 (same_new ht1 _)
    have ht1' := upd_same (H := upd H3 a1 (.lst r1)) (a := t1) (o := .tup r1)
    have hr1' := ts_same s4 hr1
    generalize upd (upd H3 a1 (.lst r1)) t1 (.tup r1) = H4 at s4 ht1' hr1' ⊢
    have tsn : Ts K H4 (nm.map pT) yn := by
      refine ⟨by rw [List.length_map]; omega, fun i h1 h2 => ?_⟩
      rw [List.getElem_map]
      obtain ⟨t, et, ht⟩ := paired_at po i (by simpa using h1) h2
      rw [et]
      show IsD K H4 (.tup [.str (S _), .str (S _)]) (.ref t)
      refine .tup ((ht.same s3).same s4) rfl fun j j1 j2 => ?_
      match j, j1, j2 with
      | 0, _, _ => exact .str _
      | 1, _, _ => exact .str _
    refine ⟨_, rfl, D, yn, _, 1, rfl, SqL.of (s4 _ _ (s3 _ _ hL)), tsn, (by omega), .inl rfl, (fun t ht => by obtain ⟨g, _, rfl⟩ := List.mem_map.mp ht; exact ⟨rfl, by show 1 ≤ 18; decide⟩), (fun t ht u hu => by obtain ⟨g, _, rfl⟩ := List.mem_map.mp ht; obtain ⟨g2, _, rfl⟩ := List.mem_map.mp hu; rfl), fun a2 r2 ha2 hr2 => ?_⟩
    have sa2 := same_new ha2 (.lst r2)
    refine ⟨a2, r2, rfl, .inl ⟨SqL.of upd_same, fun t2 ht2 => ?_⟩⟩
    have s5 : Same H4 (upd (upd H4 a2 (.lst r2)) t2 (.tup r2)) := Same.trans sa2 (same_new ht2 _)
    have ht2' := upd_same (H := upd H4 a2 (.lst r2)) (a := t2) (o := .tup r2)
    have hr2' := ts_same s5 hr2
    generalize upd (upd H4 a2 (.lst r2)) t2 (.tup r2) = H5 at s5 ht2' hr2' ⊢
    refine ⟨(by show 4 ≤ sizeLine; decide), fun p hp => ?_⟩
    have s6 : Same H5 (upd H5 p (.tup [.ref t0, .ref t1, .ref t2, .bl false])) := same_new hp _
    refine q _ _ (Same.trans sm (Same.trans s2 (Same.trans s3 (Same.trans s4 (Same.trans s5 s6))))) ⟨p, t0, t1, t2, r0, r1, r2, rfl, SqT.of upd_same, SqT.of (s6 _ _ (s5 _ _ (s4 _ _ ht0'))), ts_same (Same.trans s4 (Same.trans s5 s6)) hr0', SqT.of (s6 _ _ (s5 _ _ ht1')), ts_same (Same.trans s5 s6) hr1', SqT.of (s6 _ _ ht2'), ?_⟩
    rw [hkn]
    exact ts_same s6 hr2'
end
end K04
namespace K04
open PySem L2 K02 Bk
set_option maxHeartbeats 4000000
section
variable {P : Program} {w : World} {K : PySem.W.Frag} {mg : Str → Option Value} {base : Heap} {f : Addr} {fd : FuncData} {C1 C2 : Addr}
theorem sc__law_odd : FnScope ["_law_fact_here", "_law_stranger", "_law_number"] ["_law_fact_here", "_law_stranger", "_law_number"] (defScope s__law_odd) := ⟨rfl, rfl, rfl, by decide +kernel, rfl, by decide +kernel, by decide +kernel⟩
theorem ok__law_odd (F : Fun K "_law_odd" "_law_odd" s__law_odd f fd) (m_len : mg "len" = none) : FnOk P w K mg base CX0 1 f fd ["_law_fact_here", "_law_stranger", "_law_number"] (spOdd K) := by
  refine F.ok sc__law_odd (fun vs H Q E h => ?_) (fun cdv A outer s H vs Q E hr h => ?_)
  · obtain ⟨v, g, st, n, rfl, _⟩ := h
    rfl
  obtain ⟨v, g, st, n, rfl, ⟨t, t2, rfl, h1, h2⟩, hn, q⟩ := h
  refine ⟨_, (pss_cons (ps_if (pt_cmpR op_eq (pe_op op_mod (pv 2) pe_int) pe_int (nomark _))
  (pss_one (ps_ret (pe_tup (pa_cons (pv 1) (pa_cons (pe_ix ix_tup (pv 0) pe_int (fun _ _ => rfl)) pa_nil)))))
  pss_nil)
  (pss_cons (ps_if (PW.pt (pw_or (PW.pt (pw_and (pt_cmpR op_eq (pe_op op_mod (pe_op op_fdiv (pv 2) pe_int) pe_int) pe_int (nomark _)) (pw_and1 (pt_cmpR op_gt (pe_callB call_len_seq rfl m_len PySem.boot_len (pa_cons (pe_ix ix_tup (pv 0) pe_int (fun _ _ => rfl)) pa_nil)) pe_int (nomark _))))) (pw_or1 (pt_cmpR op_eq (pe_callB call_len_seq rfl m_len PySem.boot_len (pa_cons (pe_ix ix_tup (pv 0) pe_int (fun _ _ => rfl)) pa_nil)) pe_int (nomark _)))))
  (pss_one (ps_ret (pe_tup (pa_cons (pe_ix ix_tup (pv 0) pe_int (fun _ _ => rfl)) (pa_cons (pe_slice sl_tupA (pe_ix ix_tup (pv 0) pe_int (fun _ _ => rfl)) (po_some pe_int) po_none) pa_nil)))))
  pss_nil)
  (pss_one (ps_ret (pe_tup (pa_cons (pe_ix ix_tup (pv 0) pe_int (fun _ _ => rfl)) (pa_cons (pe_op op_catA (pe_ix ix_tup (pv 0) pe_int (fun _ _ => rfl)) (pe_tup (pa_cons (pv 1) pa_nil))) pa_nil))))))), ?_⟩
  refine ⟨_, rfl, _, _, rfl, rfl, (by show (0 : Int) < 2; decide), rfl, _, rfl, ite2 (fun c => ?_) (fun c => ?_)⟩
  · exact ⟨_, rfl, _, rfl, t, _, 1, _, rfl, rfl, h1, rfl, (by show 2 ≤ sizeLine; decide), fun p hp => q _ ⟨st, g.as⟩ _ (same_new hp _) ⟨p, t2, rfl, SqT.of upd_same, h2.same (same_new hp _)⟩ (.inr rfl) (fun a ha => .inl ha) (Nat.le_succ _)⟩
  have hA : ∀ p H', Same H H' → SqT K H' p (cutV (g.as.map tx) (some 1) none) → ∀ p2, H' p2 = none → Q (.ref p2) (upd H' p2 (.tup [tx g.k, .ref p])) := fun p H' sm hp p2 hp2 => by
    obtain ⟨ms, em, lm, im⟩ := cut_tx g.as (some 1) none
    rw [em] at hp
    exact q _ ⟨g.k, ms⟩ _ (Same.trans sm (same_new hp2 _)) ⟨p2, p, rfl, SqT.of upd_same, hp.same (same_new hp2 _)⟩ (.inl rfl) (fun a ha => .inl (im a ha)) (by show ms.length ≤ g.as.length + 1; omega)
  have hB : ∀ p H', Same H H' → SqT K H' p ((g.as ++ [st]).map tx) → ∀ p2, H' p2 = none → Q (.ref p2) (upd H' p2 (.tup [tx g.k, .ref p])) := fun p H' sm hp p2 hp2 => by
    exact q _ ⟨g.k, g.as ++ [st]⟩ _ (Same.trans sm (same_new hp2 _)) ⟨p2, p, rfl, SqT.of upd_same, hp.same (same_new hp2 _)⟩ (.inl rfl) (fun a ha => by rcases List.mem_append.mp ha with z | z; exact .inl z; exact .inr (List.mem_singleton.mp z)) (by show (g.as ++ [st]).length ≤ g.as.length + 1; simp)
  refine ⟨_, rfl, _, _, rfl, rfl, ⟨by decide, by decide⟩, _, _, rfl, rfl, (by show (0 : Int) < 2; decide), rfl, _, rfl, ite2 (fun c2 => ?_) (fun c2 => ?_)⟩
  · refine ⟨_, rfl, t, _, 1, _, rfl, rfl, h1, rfl, t2, _, rfl, .inr h2, _, _, rfl, rfl, _, rfl, ite2 (fun c3 => ?_) (fun c3 => ?_)⟩
    · refine ⟨_, rfl, t, _, 0, _, rfl, rfl, h1, rfl, _, rfl, t, _, 1, _, rfl, rfl, h1, rfl, ?_⟩
      exact ⟨_, rfl, t2, _, rfl, h2, fun p H' sm hp => ⟨(by show 2 ≤ sizeLine; decide), hA p H' sm hp⟩⟩
    · refine ⟨_, rfl, t, _, 1, _, rfl, rfl, h1, rfl, t2, _, rfl, .inr h2, rfl, _, rfl, ite2 (fun c4 => ?_) (fun c4 => ?_)⟩
      · refine ⟨_, rfl, t, _, 0, _, rfl, rfl, h1, rfl, _, rfl, t, _, 1, _, rfl, rfl, h1, rfl, ?_⟩
        exact ⟨_, rfl, t2, _, rfl, h2, fun p H' sm hp => ⟨(by show 2 ≤ sizeLine; decide), hA p H' sm hp⟩⟩
      · refine ⟨_, rfl, t, _, 0, _, rfl, rfl, h1, rfl, _, rfl, t, _, 1, _, rfl, rfl, h1, rfl, ?_⟩
        exact ⟨_, rfl, (by show 1 ≤ sizeLine; decide), fun pt hpt => ⟨t2, pt, g.as.map tx, [tx st], rfl, rfl, h2.same (same_new hpt _), SqT.of upd_same, (by rw [List.length_map, sizeLine_eq]; show g.as.length + 1 ≤ _; omega), (fun e => ⟨(by show 2 ≤ sizeLine; decide), hB _ _ (same_new hpt _) (by rw [List.map_append, e]; exact SqT.of upd_same)⟩), (fun _ e => nomatch e), fun _ _ p hp => ⟨(by show 2 ≤ sizeLine; decide), hB _ _ (Same.trans (same_new hpt _) (same_new hp _)) (by rw [List.map_append]; exact SqT.of upd_same)⟩⟩⟩
  · refine iteF ?_
    refine ⟨_, rfl, t, _, 1, _, rfl, rfl, h1, rfl, t2, _, rfl, .inr h2, rfl, _, rfl, ite2 (fun c4 => ?_) (fun c4 => ?_)⟩
    · refine ⟨_, rfl, t, _, 0, _, rfl, rfl, h1, rfl, _, rfl, t, _, 1, _, rfl, rfl, h1, rfl, ?_⟩
      exact ⟨_, rfl, t2, _, rfl, h2, fun p H' sm hp => ⟨(by show 2 ≤ sizeLine; decide), hA p H' sm hp⟩⟩
    · refine ⟨_, rfl, t, _, 0, _, rfl, rfl, h1, rfl, _, rfl, t, _, 1, _, rfl, rfl, h1, rfl, ?_⟩
      exact ⟨_, rfl, (by show 1 ≤ sizeLine; decide), fun pt hpt => ⟨t2, pt, g.as.map tx, [tx st], rfl, rfl, h2.same (same_new hpt _), SqT.of upd_same, (by rw [List.length_map, sizeLine_eq]; show g.as.length + 1 ≤ _; omega), (fun e => ⟨(by show 2 ≤ sizeLine; decide), hB _ _ (same_new hpt _) (by rw [List.map_append, e]; exact SqT.of upd_same)⟩), (fun _ e => nomatch e), fun _ _ p hp => ⟨(by show 2 ≤ sizeLine; decide), hB _ _ (Same.trans (same_new hpt _) (same_new hp _)) (by rw [List.map_append]; exact SqT.of upd_same)⟩⟩⟩
end
end K04
namespace K04
open PySem L2 K02 Bk
set_option maxHeartbeats 4000000
section
variable {P : Program} {w : World} {K : PySem.W.Frag} {mg : Str → Option Value} {base : Heap} {f : Addr} {fd : FuncData} {C1 C2 : Addr}
theorem at_mod {α : Type} {xs : List α} {v : Int} (h : 1 ≤ xs.length) : ∃ (j : Nat) (hj : j < xs.length), atI xs (v % (xs.length : Int)) = some xs[j] := by
  have hp : (0 : Int) < (xs.length : Int) := by omega
  have md := mid (a := v) hp
  refine ⟨(v % (xs.length : Int)).toNat, by omega, ?_⟩
  have z := atI_nat (xs := xs) (j := (v % (xs.length : Int)).toNat) (v := xs[(v % (xs.length : Int)).toNat]'(by omega)) (by rw [List.getElem?_eq_getElem])
  rw [show (((v % (xs.length : Int)).toNat : Nat) : Int) = v % (xs.length : Int) by omega] at z
  exact z
theorem sc__law_fact : FnScope ["_law_kinds_here", "_law_names_here", "_law_cell", "_law_number", "_law_kind", "_law_args", "_law_k"] ["_law_kinds_here", "_law_names_here", "_law_cell"] (defScope s__law_fact) := ⟨rfl, rfl, rfl, by decide +kernel, rfl, by decide +kernel, by decide +kernel⟩
theorem ok__law_fact (F : Fun K "_law_fact" "_law_fact" s__law_fact f fd) (c__law_mix : Cal P w K mg base "_law_mix" 1 ["_law_cell", "_law_k"] spMix) (m_len : mg "len" = none) (m_range : mg "range" = none) (m_tuple : mg "tuple" = none) : FnOk P w K mg base CX0 2 f fd ["_law_kinds_here", "_law_names_here", "_law_cell"] (spFactL K) := by
  refine F.ok sc__law_fact (fun vs H Q E h => ?_) (fun cdv A outer s H vs Q E hr h => ?_)
  · obtain ⟨lk, ln, c, ks, ns, rfl, _⟩ := h
    rfl
  obtain ⟨lk, ln, c, ks, ns, rfl, ⟨kvs, hk, pk⟩, h4, hln, hn1, hn2, q⟩ := h
  have zk := Paired.length pk
  have h4l := h4.len
  refine ⟨_, (pss_cons (ps_set (i := 3) sc__law_fact.nd rfl (Or.inl rfl) (pe_callC c__law_mix (hr.mono (by decide)) rfl (pa_cons (pv 2) (pa_cons pe_int pa_nil))))
  (pss_cons (ps_set (i := 4) sc__law_fact.nd rfl (Or.inl rfl) (pe_ix ix_list (pv 0) (pe_op op_mod (pv 3) (pe_callB call_len_seq rfl m_len PySem.boot_len (pa_cons (pv 0) pa_nil))) (fun _ _ => rfl)))
  (pss_cons (ps_set (i := 3) sc__law_fact.nd rfl (Or.inl rfl) (pe_op op_fdiv (pv 3) pe_int))
  (pss_cons (ps_set (i := 5) sc__law_fact.nd rfl (Or.inl rfl) (pe_lst pa_nil))
  (pss_cons (ps_for PassesOwn.never rfl (pi_range1 rfl m_range (pa_cons (pe_ix ix_tup (pv 4) pe_int (fun _ _ => rfl)) pa_nil)) (pg_name (i := 6) sc__law_fact.nd rfl (Or.inl rfl))
  (pss_cons (ps_expr (pe_bm PySem.F.plainAttrs_list PySem.F.slot_list_append PySem.F.type_list_append mt_append (pv 5) (pa_cons (pe_ix ix_list (pv 1) (pe_op op_mod (pv 3) (pe_callB call_len_seq rfl m_len PySem.boot_len (pa_cons (pv 1) pa_nil))) (fun _ _ => rfl)) pa_nil)))
  (pss_one (ps_set (i := 3) sc__law_fact.nd rfl (Or.inl rfl) (pe_op op_add (pe_op op_fdiv (pv 3) (pe_callB call_len_seq rfl m_len PySem.boot_len (pa_cons (pv 1) pa_nil))) (pe_op op_mul pe_int (pv 6)))))))
  (pss_one (ps_ret (pe_tup (pa_cons (pe_ix ix_tup (pv 4) pe_int (fun _ _ => rfl)) (pa_cons (pe_callTy call_tuple_of rfl m_tuple PyProof.Rows.Boot.«tuple» (pa_cons (pv 5) pa_nil)) pa_nil)))))))))), ?_⟩
  refine ⟨_, rfl, c, 2, rfl, by decide, by decide, fun v H1 s1 v0 => ?_⟩
  obtain ⟨j, hj, ej⟩ := at_mod (xs := kvs) (v := v) (by omega)
  refine ⟨_, rfl, _, rfl, _, rfl, lk, _, rfl, .inl (SqL.of (s1 _ _ hk)), _, _, rfl, rfl, (by show (0 : Int) < (kvs.length : Int); omega), lk, _, _, _, rfl, rfl, SqL.of (s1 _ _ hk), ej, ?_⟩
  have hjk : j < ks.length := by omega
  obtain ⟨tk, et, ht⟩ := paired_at pk j hjk hj
  rw [et]
  have ht1 := ht.same s1
  have hkj := h4.ok _ (List.getElem_mem hjk)
  refine ⟨_, rfl, _, _, rfl, rfl, ⟨by decide, by decide⟩, ?_⟩
  refine ⟨(by show 0 ≤ sizeLine; decide), fun l hl => ?_⟩
  have s2 : Same H1 (upd H1 l (.lst [])) := same_new hl _
  have sA := Same.trans s1 s2
  have hlH : H l = none := s1.free hl
  have hL0 := upd_same (H := H1) (a := l) (o := .lst [])
  refine ⟨_, rfl, tk, _, 1, _, rfl, rfl, ht1.same s2, rfl, ?_⟩
  have hc4 := hkj.2
  refine ⟨(ks[j].c : Int), rfl, by omega, by omega, ?_⟩
  have en : ((ks[j].c : Nat) : Int).toNat = ks[j].c := Int.toNat_natCast _
  rw [en]
  have hln2 : upd H1 l (.lst []) ln = some (.lst (ns.map tx)) := sA _ _ hln
  refine for_range (lo := 0) (n := ks[j].c) (fun i σ H' => Same H H' ∧ ∃ (as : List Cs) (nn : Int) (o6 : Option V), as.length = i ∧ (∀ a ∈ as, a ∈ ns) ∧ H' l = some (.lst (as.map tx)) ∧ σ = [some (.ref lk), some (.ref ln), some (.int c), some (.int nn), some (.ref tk), some (.ref l), o6]) ⟨sA, [], v / 5, none, rfl, (fun a ha => nomatch ha), hL0, rfl⟩ ?_ ?_
  · rintro i σ H' hi ⟨sm, as, nn, o6, hal, ham, hL, rfl⟩
    obtain ⟨j2, hj2, ej2⟩ := at_mod (xs := ns.map tx) (v := nn) (by rw [List.length_map]; omega)
    have hlnl : ln ≠ l := fun e => by rw [e, hlH] at hln; cases hln
    have hln3 : H' ln = some (.lst (ns.map tx)) := sm _ _ hln
    have hlp : (0 : Int) < ((ns.map tx).length : Int) := by rw [List.length_map]; omega
    have hlq : ((ns.map tx).length : Int) < 2 ^ 30 := by rw [List.length_map]; omega
    refine ⟨_, rfl, .inl ⟨rfl, _, SqL.of hL⟩, _, rfl, _, rfl, _, rfl, ln, _, rfl, .inl (SqL.of hln3), _, _, rfl, rfl, hlp, ln, _, _, _, rfl, rfl, SqL.of hln3, ej2, l, _, _, rfl, rfl, hL, (by rw [List.length_map, sizeLine_eq]; omega), ?_⟩
    have hj2' : j2 < ns.length := by simpa using hj2
    refine ⟨_, rfl, _, rfl, ln, _, rfl, .inl (SqL.of (by rw [upd_ne hlnl]; exact hln3)), _, _, rfl, rfl, ⟨by omega, by omega⟩, _, rfl, _, _, rfl, rfl, .inl ⟨by decide, by decide⟩, _, _, rfl, rfl, ?_⟩
    refine ⟨Same.upd_new sm hlH _, as ++ [ns[j2]], _, _, by simp [hal], (fun a ha => ?_), (by rw [upd_same, List.map_append]; simp), rfl⟩
    rcases List.mem_append.mp ha with z | z
    · exact ham a z
    · rw [List.mem_singleton.mp z]; exact List.getElem_mem hj2'
  · rintro σ H' ⟨sm, as, nn, o6, hal, ham, hL, rfl⟩
    have htk : SqT K H' tk [tx ks[j].n, .int ks[j].c, .bl ks[j].l] := ht.same sm
    refine ⟨_, rfl, tk, _, 0, _, rfl, rfl, htk, rfl, _, rfl, l, _, rfl, .inl ⟨SqL.of hL, fun p hp => ⟨(by show 2 ≤ sizeLine; decide), fun p2 hp2 => ?_⟩⟩⟩
    refine q _ ⟨ks[j].n, as⟩ _ (Same.trans sm (Same.trans (same_new hp _) (same_new hp2 _))) ⟨p2, p, rfl, SqT.of upd_same, SqT.of ?_⟩ ⟨_, List.getElem_mem hjk, rfl, hal⟩ ham
    rw [upd_ne (ne_of_none upd_same hp2)]
    exact upd_same
theorem sc__law_kinds : FnScope ["_law_cell", "_law_sizes", "_law_titles_here", "_law_number", "_law_rows", "_law_flags"] ["_law_cell", "_law_sizes"] (defScope s__law_kinds) := ⟨rfl, rfl, rfl, by decide +kernel, rfl, by decide +kernel, by decide +kernel⟩
theorem ok__law_kinds (F : Fun K "_law_kinds" "_law_kinds" s__law_kinds f fd) (c__law_mix : Cal P w K mg base "_law_mix" 1 ["_law_cell", "_law_k"] spMix) (c__law_titles : Cal P w K mg base "_law_titles" 3 ["_law_cell", "_law_many"] (spSome aSmall.cps.toList)) (m_len : mg "len" = none) (m_range : mg "range" = none) : FnOk P w K mg base CX0 4 f fd ["_law_cell", "_law_sizes"] (spKinds K) := by
  refine F.ok sc__law_kinds (fun vs H Q E h => ?_) (fun cdv A outer s H vs Q E hr h => ?_)
  · obtain ⟨c, l, ns, rfl, _⟩ := h
    rfl
  obtain ⟨c, l, ns, rfl, hl, hn1, hn2, hns, q⟩ := h
  refine ⟨_, (pss_cons (ps_set (i := 2) sc__law_kinds.nd rfl (Or.inr rfl) (pe_callC c__law_titles (hr.mono (by decide)) rfl (pa_cons (pv 0) (pa_cons pe_int pa_nil))))
  (pss_cons (ps_set (i := 3) sc__law_kinds.nd rfl (Or.inr rfl) (pe_callC c__law_mix (hr.mono (by decide)) rfl (pa_cons (pv 0) (pa_cons pe_int pa_nil))))
  (pss_cons (ps_set (i := 4) sc__law_kinds.nd rfl (Or.inl rfl) (pe_lst (pa_cons (pe_lst (pa_cons pe_bl (pa_cons pe_bl (pa_cons pe_bl (pa_cons pe_bl pa_nil))))) (pa_cons (pe_lst (pa_cons pe_bl (pa_cons pe_bl (pa_cons pe_bl (pa_cons pe_bl pa_nil))))) pa_nil))))
  (pss_cons (ps_set (i := 4) sc__law_kinds.nd rfl (Or.inl rfl) (pe_op op_cat (pv 4) (pe_lst (pa_cons (pe_lst (pa_cons pe_bl (pa_cons pe_bl (pa_cons pe_bl (pa_cons pe_bl pa_nil))))) (pa_cons (pe_lst (pa_cons pe_bl (pa_cons pe_bl (pa_cons pe_bl (pa_cons pe_bl pa_nil))))) pa_nil)))))
  (pss_cons (ps_set (i := 5) sc__law_kinds.nd rfl (Or.inr rfl) (pe_ix ix_list (pv 4) (pe_op op_mod (pv 3) pe_int) (fun _ _ => rfl)))
  (pss_one (ps_ret (pe_comp [2, 1, 3, 5] rfl (by kernel_rfl) (pi_range1 rfl m_range (pa_cons pe_int pa_nil)) (fun _ _ _ _ _ => pts_nil) (fun _ _ _ _ _ => (pe_tup (pa_cons (pe_ix (r := rIxL K) ix_list (pv 1) (pv 0) (fun _ _ => rfl)) (pa_cons (pe_ix (r := rIxL K) ix_list (pv 2) (pe_op op_mod (pe_op op_fdiv (pv 3) (pe_op op_add (pe_op op_mul pe_int (pv 0)) pe_int)) (pe_callB (call_len_K (K := K) rfl) rfl m_len PySem.boot_len (pa_cons (pv 2) pa_nil))) (fun _ _ => rfl)) (pa_cons (pe_ix (r := rIxL K) ix_list (pv 4) (pv 0) (fun _ _ => rfl)) pa_nil))))))))))))), ?_⟩
  refine ⟨_, rfl, c, 4, rfl, by decide, fun lt zs H1 s1 hlt hL1 hz1 hzg hznd => ?_⟩
  refine ⟨_, rfl, c, 1, rfl, by decide, by decide, fun v H2 s2 v0 => ?_⟩
  have z4 : 4 ≤ sizeLine := by decide
  have z2 : 2 ≤ sizeLine := by decide
  refine ⟨z4, fun r1 h1 => ⟨z4, fun r2 h2 => ⟨z2, fun rr hrr => ?_⟩⟩⟩
  have e1 := same_new h1 (.lst [.bl false, .bl true, .bl false, .bl true])
  have e2 := same_new h2 (.lst [.bl true, .bl false, .bl false, .bl true])
  have e3 := same_new hrr (.lst [.ref r1, .ref r2])
  refine ⟨_, rfl, z4, fun r3 h3 => ⟨z4, fun r4 h4 => ⟨z2, fun rb hrb => ?_⟩⟩⟩
  have e4 := same_new h3 (.lst [.bl false, .bl false, .bl true, .bl true])
  have e5 := same_new h4 (.lst [.bl true, .bl false, .bl true, .bl false])
  have e6 := same_new hrb (.lst [.ref r3, .ref r4])
  have hrr' := e6 _ _ (e5 _ _ (e4 _ _ (upd_same (H := upd (upd H2 r1 (.lst [.bl false, .bl true, .bl false, .bl true])) r2 (.lst [.bl true, .bl false, .bl false, .bl true])) (a := rr) (o := .lst [.ref r1, .ref r2]))))
  refine ⟨rr, rb, _, _, rfl, rfl, hrr', upd_same, z4, fun rc hrc => ?_⟩
  have e7 := same_new hrc (.lst ([.ref r1, .ref r2] ++ [.ref r3, .ref r4]))
  have g1 := e7 _ _ (e6 _ _ (e5 _ _ (e4 _ _ (e3 _ _ (e2 _ _ (upd_same (H := H2) (a := r1) (o := .lst [.bl false, .bl true, .bl false, .bl true])))))))
  have g2 := e7 _ _ (e6 _ _ (e5 _ _ (e4 _ _ (e3 _ _ (upd_same (H := upd H2 r1 (.lst [.bl false, .bl true, .bl false, .bl true])) (a := r2) (o := .lst [.bl true, .bl false, .bl false, .bl true]))))))
  have g3 := e7 _ _ (e6 _ _ (e5 _ _ (upd_same (a := r3) (o := .lst [.bl false, .bl false, .bl true, .bl true]))))
  have g4 := e7 _ _ (e6 _ _ (upd_same (a := r4) (o := .lst [.bl true, .bl false, .bl true, .bl false])))
  have sC := Same.trans e1 (Same.trans e2 (Same.trans e3 (Same.trans e4 (Same.trans e5 (Same.trans e6 e7)))))
  have hrc9 := upd_same (H := upd (upd (upd (upd (upd (upd H2 r1 (.lst [.bl false, .bl true, .bl false, .bl true])) r2 (.lst [.bl true, .bl false, .bl false, .bl true])) rr (.lst [.ref r1, .ref r2])) r3 (.lst [.bl false, .bl false, .bl true, .bl true])) r4 (.lst [.bl true, .bl false, .bl true, .bl false])) rb (.lst [.ref r3, .ref r4])) (a := rc) (o := .lst ([.ref r1, .ref r2] ++ [.ref r3, .ref r4]))
  generalize upd (upd (upd (upd (upd (upd (upd H2 r1 (.lst [.bl false, .bl true, .bl false, .bl true])) r2 (.lst [.bl true, .bl false, .bl false, .bl true])) rr (.lst [.ref r1, .ref r2])) r3 (.lst [.bl false, .bl false, .bl true, .bl true])) r4 (.lst [.bl true, .bl false, .bl true, .bl false])) rb (.lst [.ref r3, .ref r4])) rc (.lst ([.ref r1, .ref r2] ++ [.ref r3, .ref r4])) = H9 at g1 g2 g3 g4 sC hrc9 ⊢
  have hrc9 : H9 rc = some (.lst [.ref r1, .ref r2, .ref r3, .ref r4]) := hrc9
  obtain ⟨j, hj, ej⟩ := at_mod (xs := [V.ref r1, .ref r2, .ref r3, .ref r4]) (v := v) (show 1 ≤ 4 by decide)
  have ej : atI [V.ref r1, .ref r2, .ref r3, .ref r4] (v % 4) = _ := ej
  have hfl : ∃ (r : Addr) (bs : List Bool), [V.ref r1, .ref r2, .ref r3, .ref r4][j] = .ref r ∧ H9 r = some (.lst (bs.map V.bl)) ∧ bs.length = 4 := by
    match j, hj with
    | 0, _ => exact ⟨r1, [false, true, false, true], rfl, g1, rfl⟩
    | 1, _ => exact ⟨r2, [true, false, false, true], rfl, g2, rfl⟩
    | 2, _ => exact ⟨r3, [false, false, true, true], rfl, g3, rfl⟩
    | 3, _ => exact ⟨r4, [true, false, true, false], rfl, g4, rfl⟩
  obtain ⟨rj, bs, erj, hrj, hbs⟩ := hfl
  rw [erj] at ej
  refine ⟨_, rfl, _, rfl, _, _, rfl, rfl, (by show (0 : Int) < 4; decide), rc, _, _, _, rfl, rfl, SqL.of hrc9, ej, ?_⟩
  have sD := Same.trans s1 (Same.trans s2 sC)
  have hLt := sC _ _ (s2 _ _ hL1)
  have hl9 : SqL K H9 l (ns.map V.int) := sD.seq hl
  refine ⟨4, rfl, by decide, by decide, fun D hD => ?_⟩
  refine comp_range (n := 4) (lo := 0) (by decide) (fun i ys H' => Same H9 H' ∧ H' D = some (.lst ys) ∧ ∃ ks' : List Kd, Paired (Kind K H') ks' ys ∧ ks'.length = i ∧ ks'.map (·.n) = zs.take i ∧ ∀ k ∈ ks', k.c ≤ 4) ⟨same_new hD _, upd_same, [], .nil, rfl, rfl, fun k hk => nomatch hk⟩ (fun i ys H' p => ⟨p.2.1, ?_⟩) (fun i ys H' hi p => ?_) (fun ys H' p => ?_)
  · obtain ⟨_, _, ks', pk, hlen, _⟩ := p
    have := Paired.length pk
    omega
  · obtain ⟨sm, hDD, ks', pk, hlen, hnm, hcs⟩ := p
    unfold tAll
    simp only [if_true]
    have hiz : i < zs.length := by omega
    have a1 : atI (zs.map tx) (0 + (i : Int)) = some (tx zs[i]) := by rw [Int.zero_add]; exact atI_nat (by rw [List.getElem?_map, List.getElem?_eq_getElem hiz]; rfl)
    have hib : i < bs.length := by omega
    have a3 : atI (bs.map V.bl) (0 + (i : Int)) = some (V.bl bs[i]) := by rw [Int.zero_add]; exact atI_nat (by rw [List.getElem?_map, List.getElem?_eq_getElem hib]; rfl)
    obtain ⟨j2, hj2, a2⟩ := at_mod (xs := ns.map V.int) (v := v / (3 * (0 + (i : Int)) + 5)) (by rw [List.length_map]; exact hn1)
    have hj2' : j2 < ns.length := by simpa using hj2
    have hnb := hns _ (List.getElem_mem hj2')
    have e8 : (ns.map V.int)[j2] = V.int ((ns[j2].toNat : Nat) : Int) := by rw [List.getElem_map, Int.toNat_of_nonneg hnb.1]
    rw [e8] at a2
    have hlp : (0 : Int) < ((ns.map V.int).length : Int) := by rw [List.length_map]; omega
    refine ⟨_, rfl, _, rfl, lt, _, _, _, rfl, rfl, SqL.of (sm _ _ hLt), a1, _, rfl, _, rfl, _, rfl, _, _, rfl, rfl, .inl ⟨by decide, by decide⟩, _, _, rfl, rfl, _, _, rfl, rfl, ⟨by omega, by omega⟩, _, rfl, l, _, rfl, .inl (sm.seq hl9), _, _, rfl, rfl, hlp, l, _, _, _, rfl, rfl, sm.seq hl9, a2, _, rfl, _, rfl, rj, _, _, _, rfl, rfl, SqL.of (sm _ _ hrj), a3, (by show 3 ≤ sizeLine; decide), fun p hp => ?_⟩
    have s8 : Same H' (upd H' p (.tup [tx zs[i], .int ((ns[j2].toNat : Nat) : Int), .bl bs[i]])) := same_new hp _
    refine ⟨s8 _ _ hDD, ?_, upd_same, ks' ++ [⟨zs[i], ns[j2].toNat, bs[i]⟩], ?_, by simp [hlen], ?_, fun k hk => ?_⟩
    · exact Same.upd_new (Same.trans sm s8) hD _
    · refine paired_app (paired_mono pk fun k b _ hk => ?_) (.cons ⟨p, rfl, sqt_updL (s8 _ _ hDD) (SqT.of upd_same)⟩ .nil)
      obtain ⟨t, e, h⟩ := Kind.sm s8 hk
      exact ⟨t, e, sqt_updL (s8 _ _ hDD) h⟩
    · rw [List.map_append, hnm, List.take_succ_eq_append_getElem hiz]
      rfl
    · rcases List.mem_append.mp hk with z | z
      · exact hcs k z
      · rw [List.mem_singleton.mp z]
        show ns[j2].toNat ≤ 4
        omega
  · obtain ⟨sm, hDD, ks', pk, hlen, hnm, hcs⟩ := p
    have hnm' : ks'.map (·.n) = zs := by rw [hnm, ← hz1, List.take_length]
    refine q D ks' H' (Same.trans sD sm) (sD.free hD) ⟨ys, hDD, pk⟩ ⟨hlen, by rw [hnm']; exact hznd, fun k hk => ⟨?_, hcs k hk⟩⟩
    have hm : k.n ∈ zs := by rw [← hnm']; exact List.mem_map.mpr ⟨k, hk, rfl⟩
    exact (hzg _ hm).1
end
end K04
namespace K04
open PySem L2 K02 Bk
set_option maxHeartbeats 8000000
section
variable {P : Program} {w : World} {K : PySem.W.Frag} {mg : Str → Option Value} {base : Heap} {f : Addr} {fd : FuncData} {C1 C2 : Addr}
theorem sc_law : FnScope ["_law_script", "_law_head", "_law_kinds_here", "_law_stranger", "_law_names_here", "_law_facts", "_law_k", "_law_number", "_law_handed", "_law_found", "_law_fault_here"] ["_law_script"] (defScope s_law) := ⟨rfl, rfl, rfl, by decide +kernel, rfl, by decide +kernel, by decide +kernel⟩
theorem ok_law (F : Fun K "law" "law" s_law f fd) (c__law_cell_at : Cal P w K mg base "_law_cell_at" 1 ["_law_script", "_law_k"] (spCell K)) (c__law_kinds : Cal P w K mg base "_law_kinds" 4 ["_law_cell", "_law_sizes"] (spKinds K)) (c__law_titles : Cal P w K mg base "_law_titles" 3 ["_law_cell", "_law_many"] (spSome aSmall.cps.toList)) (c__law_opens : Cal P w K mg base "_law_opens" 3 ["_law_cell", "_law_many"] (spSome aGreat.cps.toList)) (c__law_words : Cal P w K mg base "_law_words" 3 ["_law_cell", "_law_many"] (spSome aSF.cps.toList))
    (c__law_fact : Cal P w K mg base "_law_fact" 2 ["_law_kinds_here", "_law_names_here", "_law_cell"] (spFactL K)) (c__law_mix : Cal P w K mg base "_law_mix" 1 ["_law_cell", "_law_k"] spMix) (c__law_odd : Cal P w K mg base "_law_odd" 1 ["_law_fact_here", "_law_stranger", "_law_number"] (spOdd K)) (c_start_pool : CalE P w K mg base "start_pool" 4 ["kinds", "facts"] (spStart K C1 C2)) (c__law_first_fault : Cal P w K mg base "_law_first_fault" 2 ["_law_kinds_here", "_law_facts"] (spFirst K)) (c__law_due : Cal P w K mg base "_law_due" 2 ["_law_kinds_here", "_law_facts"] (spDue K))
    (m_NoKind : mg "NoKind" = some (.ref C1)) (m_BadArgs : mg "BadArgs" = some (.ref C2)) (x11 : PySem.W.exmOne K (.ref C1) (.ref C1) = some true) (x21 : PySem.W.exmOne K (.ref C2) (.ref C1) = some false) (x22 : PySem.W.exmOne K (.ref C2) (.ref C2) = some true)
    (m_len : mg "len" = none) (m_range : mg "range" = none) (m_list : mg "list" = none) (m_isinstance : mg "isinstance" = none) (m_tuple : mg "tuple" = none) (m_bool : mg "bool" = none) : FnOk P w K mg base CX0 5 f fd ["_law_script"] (spLaw K) := by
  refine F.ok sc_law (fun vs H Q E h => ?_) (fun cdv A outer s H vs Q E hr h => ?_)
  · obtain ⟨a, ns, rfl, _⟩ := h
    rfl
  obtain ⟨a, ns, rfl, hS, hn, q⟩ := h
  refine ⟨_, (pss_cons (ps_set (i := 1) sc_law.nd rfl (Or.inl rfl) (pe_callC c__law_cell_at (hr.mono (by decide)) rfl (pa_cons (pv 0) (pa_cons pe_int pa_nil))))
  (pss_cons (ps_set (i := 2) sc_law.nd rfl (Or.inr rfl) (pe_callC c__law_kinds (hr.mono (by decide)) rfl (pa_cons (pv 1) (pa_cons (pe_lst (pa_cons pe_int (pa_cons pe_int (pa_cons pe_int (pa_cons pe_int (pa_cons pe_int (pa_cons pe_int (pa_cons pe_int pa_nil)))))))) pa_nil))))
  (pss_cons (ps_set (i := 3) sc_law.nd rfl (Or.inl rfl) (pe_ix ix_list (pe_callC c__law_titles (hr.mono (by decide)) rfl (pa_cons (pv 1) (pa_cons pe_int pa_nil))) pe_int (fun _ _ => rfl)))
  (pss_cons (ps_set (i := 4) sc_law.nd rfl (Or.inr rfl) (pe_op op_cat (pe_callC c__law_opens (hr.mono (by decide)) rfl (pa_cons (pe_callC c__law_cell_at (hr.mono (by decide)) rfl (pa_cons (pv 0) (pa_cons pe_int pa_nil))) (pa_cons pe_int pa_nil))) (pe_callC c__law_words (hr.mono (by decide)) rfl (pa_cons (pe_callC c__law_cell_at (hr.mono (by decide)) rfl (pa_cons (pv 0) (pa_cons pe_int pa_nil))) (pa_cons pe_int pa_nil)))))
  (pss_cons (ps_setc (i := 5) [2, 4] sc_law.nd rfl (Or.inl rfl) rfl (by kernel_rfl) (pi_list (pe_slice sl_list (pv 0) (po_some pe_int) (po_some pe_int))) (fun _ _ _ _ _ => pts_nil) (fun _ _ _ _ _ => (pe_callC c__law_fact (hr.mono (by decide)) rfl (pa_cons (pv 1) (pa_cons (pv 2) (pa_cons (pv 0) pa_nil))))))
  (pss_cons (ps_if (pt_cmpR op_eq (pe_op op_mod (pe_callC c__law_cell_at (hr.mono (by decide)) rfl (pa_cons (pv 0) (pa_cons pe_int pa_nil))) pe_int) pe_int (nomark _))
  (pss_one (ps_for PassesOwn.never rfl (pi_range1 rfl m_range (pa_cons (pe_callB call_len_seq rfl m_len PySem.boot_len (pa_cons (pv 5) pa_nil)) pa_nil)) (pg_name (i := 6) sc_law.nd rfl (Or.inl rfl))
  (pss_cons (ps_set (i := 7) sc_law.nd rfl (Or.inl rfl) (pe_callC c__law_mix (hr.mono (by decide)) rfl (pa_cons (pe_ix ix_list (pv 0) (pe_op op_add pe_int (pv 6)) (fun _ _ => rfl)) (pa_cons pe_int pa_nil))))
  (pss_one (ps_if (pt_cmpR op_eq (pe_op op_mod (pv 7) pe_int) pe_int (nomark _))
  (pss_one (ps_asg (pe_callC c__law_odd (hr.mono (by decide)) rfl (pa_cons (pe_ix ix_list (pv 5) (pv 6) (fun _ _ => rfl)) (pa_cons (pv 3) (pa_cons (pe_op op_fdiv (pv 7) pe_int) pa_nil)))) (pg_sub (pv 5) (pv 6) set_list)))
  pss_nil)))))
  pss_nil)
  (pss_cons (ps_set (i := 8) sc_law.nd rfl (Or.inl rfl) (pe_lst (pa_cons (pe_callTy call_list_of rfl m_list PyProof.Rows.Boot.«list» (pa_cons (pv 2) pa_nil)) (pa_cons (pe_callTy call_list_of rfl m_list PyProof.Rows.Boot.«list» (pa_cons (pv 5) pa_nil)) pa_nil))))
  (pss_cons (ps_set (i := 9) sc_law.nd rfl (Or.inl rfl) pe_non)
  (pss_cons (ps_set (i := 10) sc_law.nd rfl (Or.inl rfl) pe_int)
  (pss_cons (ps_try (fun pn R => (pss_one (ps_set (i := 9) sc_law.nd rfl (Or.inl rfl) (pe_callT c_start_pool (hr.mono (by decide)) rfl (pa_cons (pe_ix (r := rIxL K) ix_list (pv 8) pe_int (fun _ _ => rfl)) (pa_cons (pe_ix (r := rIxL K) ix_list (pv 8) pe_int (fun _ _ => rfl)) pa_nil)))))) (ph_cons rfl m_NoKind (fun _ => (pss_one (ps_set (i := 10) sc_law.nd rfl (Or.inl rfl) pe_int))) (ph_cons rfl m_BadArgs (fun _ => (pss_one (ps_set (i := 10) sc_law.nd rfl (Or.inl rfl) pe_int))) ph_nil)))
  (pss_cons (ps_if (PW.pt (pw_or (pt_cmpR (op_neR hr.units) (pe_ix ix_list (pv 8) pe_int (fun _ _ => rfl)) (pv 2) (nomark _)) (pw_or (pt_cmpR (op_neR hr.units) (pe_ix ix_list (pv 8) pe_int (fun _ _ => rfl)) (pv 5) (nomark _)) (pw_or1 (pt_cmpR op_ne (pv 10) (pe_callC c__law_first_fault (hr.mono (by decide)) rfl (pa_cons (pv 2) (pa_cons (pv 5) pa_nil))) (nomark _))))))
  (pss_one (ps_ret pe_bl))
  pss_nil)
  (pss_cons (ps_if (pt_cmpR op_gt (pv 10) pe_int (nomark _))
  (pss_one (ps_ret pe_bl))
  pss_nil)
  (pss_cons (ps_if (PW.pt (pw_or (pt_not (pt_val (pe_callB call_isinstT rfl m_isinstance PyProof.Rows.boot_isinstance (pa_cons (pv 9) (pa_cons (pe_bltn rfl m_tuple PyProof.Rows.Boot.«tuple» (v := .ty "tuple") rfl) pa_nil))))) (pw_or (pt_cmpR op_ne (pe_callB call_len_seq rfl m_len PySem.boot_len (pa_cons (pv 9) pa_nil)) pe_int (nomark _)) (pw_or1 (pt_not (pt_val (pe_callB call_isinst rfl m_isinstance PyProof.Rows.boot_isinstance (pa_cons (pe_ix ix_tup (pv 9) pe_int (fun _ _ => rfl)) (pa_cons (pe_bltn rfl m_bool PyProof.Rows.boot_bool (v := .ty "bool") rfl) pa_nil)))))))))
  (pss_one (ps_ret pe_bl))
  pss_nil)
  (pss_one (ps_ret (pe_cmpR (op_eqD hr.units) (pv 9) (pe_callC c__law_due (hr.mono (by decide)) rfl (pa_cons (pv 2) (pa_cons (pv 5) pa_nil))) (nomark _))))))))))))))))), ?_⟩
  refine ⟨_, rfl, a, ns, 0, rfl, hS, by decide, fun v => ?_⟩
  refine ⟨_, rfl, (by show 7 ≤ sizeLine; decide), fun lz hlz => ⟨v, lz, [0, 1, 2, 2, 1, 3, 4], rfl, SqL.of upd_same, by decide, by decide, by decide, fun lk ks H1 s1 hlk hks h4 => ?_⟩⟩
  have sA : Same H H1 := Same.trans (same_new hlz _) s1
  refine ⟨_, rfl, v, 5, rfl, by decide, fun lt zs H2 s2 hlt hLt hz hzg hznd => ?_⟩
  have hz4 : 4 < zs.length := by omega
  have at4 : atI (zs.map tx) 4 = some (tx zs[4]) := atI_nat (j := 4) (by rw [List.getElem?_map, List.getElem?_eq_getElem hz4]; rfl)
  refine ⟨lt, _, 4, _, rfl, rfl, SqL.of hLt, at4, ?_⟩
  have hst := hzg _ (List.getElem_mem hz4)
  generalize zs[4] = st at hst ⊢
  have sB := Same.trans sA s2
  have hS2 : SqL K H2 a (ns.map V.int) := sB.seq hS
  refine ⟨_, rfl, a, ns, 1, rfl, hS2, by decide, fun v1 => ⟨v1, 4, rfl, by decide, fun lo os H3 s3 hlo hLo ho hog hond => ?_⟩⟩
  have hS3 : SqL K H3 a (ns.map V.int) := s3.seq hS2
  refine ⟨_, rfl, a, ns, 2, rfl, hS3, by decide, fun v2 => ⟨v2, 3, rfl, by decide, fun lw ws H4 s4 hlw hLw hw hwg hwnd => ?_⟩⟩
  refine ⟨lo, lw, _, _, rfl, rfl, s4 _ _ hLo, hLw, (by rw [List.length_map, List.length_map, sizeLine_eq]; omega), fun ln hln => ?_⟩
  have s5 : Same H4 (upd H4 ln (.lst (os.map tx ++ ws.map tx))) := same_new hln _
  have hL5 := upd_same (H := H4) (a := ln) (o := .lst (os.map tx ++ ws.map tx))
  rw [← List.map_append] at s5 hL5 ⊢
  have sC := Same.trans sB (Same.trans s3 (Same.trans s4 s5))
  have hks5 := hks.sm (Same.trans s2 (Same.trans s3 (Same.trans s4 s5)))
  generalize upd H4 ln (.lst ((os ++ ws).map tx)) = H5 at s5 hL5 sC hks5 ⊢
  have hS5 : SqL K H5 a (ns.map V.int) := sC.seq hS
  refine ⟨_, rfl, _, rfl, _, rfl, a, _, rfl, hS5, fun lsl hlsl => ?_⟩
  obtain ⟨ms, ems, hms⟩ := cut4 ns
  have ems : cutV (ns.map V.int) (some 4) (some 204) = ms.map V.int := ems
  rw [ems]
  have s6 : Same H5 (upd H5 lsl (.lst (ms.map V.int))) := same_new hlsl _
  have hL6 := upd_same (H := H5) (a := lsl) (o := .lst (ms.map V.int))
  generalize upd H5 lsl (.lst (ms.map V.int)) = H6 at s6 hL6 ⊢
  have hks6 := hks5.sm s6
  have hln6 := s6 _ _ hL5
  have hS6 : SqL K H6 a (ns.map V.int) := s6.seq hS5
  refine ⟨lsl, rfl, ⟨_, SqL.of hL6⟩, fun D hD => ?_⟩
  refine comp_rel (K := K) (xs := ms.map V.int) (List.replicate ms.length ()) (fun _ H _ y => ∃ f, Fact K H f y ∧ GF os 4 f) (fun _ _ _ _ _ k ⟨f, h, g⟩ => ⟨f, Fact.keep k h, g⟩) (fun _ _ _ _ _ _ h => h) (szl (by rw [List.length_map]; omega)) hD (SqL.of hL6) (by rw [List.length_replicate, List.length_map]) (fun i x b H' R hx hb sm hQ => ?_) (fun H7 ys s7 hL7 po => ?_)
  · obtain ⟨hi, ex⟩ := get_of hx
    have ex : V.int (ms[i]'(by simpa using hi)) = x := by rw [← ex, List.getElem_map]
    subst ex
    refine ⟨_, rfl, _, rfl, _, rfl, lk, ln, _, ks, os ++ ws, rfl, hks6.sm sm, h4, sm _ _ hln6, (by rw [List.length_append]; omega), (by rw [List.length_append]; omega), fun v' g H'' s'' hF hk ha => hQ _ _ s'' ⟨g, hF, ?_⟩⟩
    obtain ⟨k, hk1, hk2, hk3⟩ := hk
    have hk4 := h4.ok k hk1
    refine ⟨by rw [hk2]; exact hk4.1, fun a ha' => ?_, by rw [hk3]; exact hk4.2⟩
    rcases List.mem_append.mp (ha a ha') with z | z
    · exact ⟨(hog a z).1, fun _ => z⟩
    · exact ⟨(hwg a z).1, fun g => by rw [sf_not_great (hwg a z)] at g; cases g⟩
  obtain ⟨fs0, pf0, hg0⟩ := pick_facts po
  have zf0 : fs0.length = ms.length := by
    have z1 := Paired.length pf0
    have z2 := Paired.length po
    rw [List.length_replicate] at z2
    omega
  have hm59 : ms.length + 4 ≤ max 4 ns.length := hms
  refine gname_go ?_
  dsimp only
  refine seq_fin (Good := fun σ' H' => Same H6 H' ∧ ∃ (ys : List V) (fs : List Fc) (o6 o7 : Option V), H' D = some (.lst ys) ∧ Paired (Fact K H') fs ys ∧ fs.length = ms.length ∧ (∀ f ∈ fs, GF os 70 f) ∧ σ' = [some (.ref a), some (.int v), some (.ref lk), some (tx st), some (.ref ln), some (.ref D), o6, o7, none, none, none]) (fun fin => ?_) (fun σ' H' hg => ?_)
  · have hS7 : SqL K H7 a (ns.map V.int) := s7.seq hS6
    refine ⟨_, rfl, a, ns, 3, rfl, hS7, by decide, fun v3 => ⟨_, _, rfl, rfl, (by show (0 : Int) < 3; decide), rfl, _, rfl, ite2 (fun c => ?_) (fun c => ?_)⟩⟩
    · have zy0 := Paired.length pf0
      refine ⟨_, rfl, D, _, rfl, .inl (SqL.of hL7), (ys.length : Int), rfl, by omega, by omega, ?_⟩
      have en : ((ys.length : Nat) : Int).toNat = ys.length := Int.toNat_natCast _
      rw [en]
      refine for_range (lo := 0) (n := ys.length) (fun i σ' H' => Same H6 H' ∧ ∃ (ys : List V) (fs : List Fc) (o6 o7 : Option V), H' D = some (.lst ys) ∧ Paired (Fact K H') fs ys ∧ fs.length = ms.length ∧ (∀ f ∈ fs, GF os (4 + i) f) ∧ σ' = [some (.ref a), some (.int v), some (.ref lk), some (tx st), some (.ref ln), some (.ref D), o6, o7, none, none, none]) ⟨s7, ys, fs0, none, none, hL7, pf0, zf0, hg0, rfl⟩ ?_ ?_
      · rintro i σ' H' hi ⟨sm, ys1, fs1, o6, o7, hD1, pf1, zf1, hg1, rfl⟩
        have zy1 := Paired.length pf1
        have hin : 4 + i < ns.length := by omega
        have at1 : atI (ns.map V.int) (4 + (0 + (i : Int))) = some (V.int ns[4 + i]) := by
          rw [show (4 + (0 + (i : Int))) = ((4 + i : Nat) : Int) by omega]
          exact atI_nat (by rw [List.getElem?_map, List.getElem?_eq_getElem hin]; rfl)
        refine ⟨_, rfl, _, rfl, _, _, rfl, rfl, a, _, _, _, rfl, rfl, sm.seq hS6, at1, _, 6, rfl, by decide, by decide, fun u H2 s2 u0 => ?_⟩
        have smB := Same.trans sm s2
        have hD2 := s2 _ _ hD1
        have pf2 : Paired (Fact K H2) fs1 ys1 := paired_mono pf1 fun _ _ _ => Fact.sm s2
        refine ⟨_, rfl, _, _, rfl, rfl, (by show (0 : Int) < 5; decide), rfl, _, rfl, ite2 (fun c5 => ?_) (fun c5 => ?_)⟩
        · have hiy : i < ys1.length := by omega
          have hif : i < fs1.length := by omega
          have at2 : atI ys1 (0 + (i : Int)) = some ys1[i] := by rw [Int.zero_add]; exact atI_nat (List.getElem?_eq_getElem hiy)
          have hFa := paired_at pf2 i hif hiy
          have hGa := hg1 _ (List.getElem_mem hif)
          refine ⟨_, rfl, _, rfl, D, _, _, _, rfl, rfl, SqL.of hD2, at2, _, rfl, _, rfl, _, _, rfl, rfl, ⟨by decide, by decide⟩, _, fs1[i], st, _, rfl, hFa, (by have := hGa.n; omega), fun v' f' H3 s3 hF' hk' ha' hl' => ?_⟩
          have hD3 := s3 _ _ hD2
          have pf3 : Paired (Fact K H3) fs1 ys1 := paired_mono pf2 fun _ _ _ => Fact.sm s3
          refine ⟨_, rfl, _, rfl, D, ys1, _, i, rfl, rfl, hD3, ?_, ?_⟩
          · rw [Int.zero_add]
            unfold ixN
            rw [if_pos (by omega), if_pos (by omega)]
            simp
          · refine ⟨Same.upd_new (Same.trans smB s3) hD _, ys1.set i v', fs1.set i f', _, _, upd_same, paired_mono (paired_set hF' i pf3) fun _ _ _ => fact_updL hD3, by rw [List.length_set]; exact zf1, fun g hg => ?_, rfl⟩
            rcases List.mem_or_eq_of_mem_set hg with z | z
            · exact ⟨(hg1 g z).k, (hg1 g z).as, by have := (hg1 g z).n; omega⟩
            · rw [z]
              refine ⟨?_, fun a' ha2 => ?_, by have := hGa.n; omega⟩
              · rcases hk' with e | e
                · rw [e]; exact hGa.k
                · rw [e]; exact hst.1
              · rcases ha' a' ha2 with e | e
                · exact hGa.as a' e
                · rw [e]; exact ⟨hst.1, fun g => by rw [sm_not_great hst] at g; cases g⟩
        · exact ⟨smB, ys1, fs1, _, _, hD2, pf2, zf1, fun g hg => ⟨(hg1 g hg).k, (hg1 g hg).as, by have := (hg1 g hg).n; omega⟩, rfl⟩
      · rintro σ' H' ⟨sm, ys1, fs1, o6, o7, hD1, pf1, zf1, hg1, rfl⟩
        exact fin _ _ ⟨sm, ys1, fs1, _, _, hD1, pf1, zf1, fun g hg => ⟨(hg1 g hg).k, (hg1 g hg).as, by have := (hg1 g hg).n; omega⟩, rfl⟩
    · exact fin _ _ ⟨s7, ys, fs0, none, none, hL7, pf0, zf0, fun f hf => ⟨(hg0 f hf).k, (hg0 f hf).as, by have := (hg0 f hf).n; omega⟩, rfl⟩
  obtain ⟨sm, ys1, fs, o6, o7, hD1, pf1, zf1, hg1, rfl⟩ := hg
  clear hg0 pf0 po zf0
  have hks1 := hks6.sm sm
  obtain ⟨kvs, hkk, pkk⟩ := id hks1
  have hfl : ∀ f ∈ fs, FL f := fun f hf => (hg1 f hf).fl (by decide)
  have hfs : ∀ f ∈ fs, FS f := fun f hf => (hfl f hf).fs
  have h64 : fs.length < 64 := by omega
  have hkn : (kn [] (fs.flatMap (·.as))).length < 64 := kn_few (os := os) (m := 70) (by omega) hg1
  refine ⟨_, rfl, lk, _, rfl, .inl (SqL.of hkk), fun l1 hl1 => ?_⟩
  have t1 := same_new hl1 (.lst kvs)
  refine ⟨_, rfl, D, _, rfl, .inl (SqL.of (t1 _ _ hD1)), fun l2 hl2 => ?_⟩
  have t2 := same_new hl2 (.lst ys1)
  refine ⟨(by show 2 ≤ sizeLine; decide), fun lh hlh => ?_⟩
  have t3 := same_new hlh (.lst [.ref l1, .ref l2])
  have h1a := t3 _ _ (t2 _ _ (upd_same (H := H') (a := l1) (o := .lst kvs)))
  have h2a := t3 _ _ (upd_same (H := upd H' l1 (.lst kvs)) (a := l2) (o := .lst ys1))
  have h3a := upd_same (H := upd (upd H' l1 (.lst kvs)) l2 (.lst ys1)) (a := lh) (o := .lst [.ref l1, .ref l2])
  have sT := Same.trans t1 (Same.trans t2 t3)
  generalize upd (upd (upd H' l1 (.lst kvs)) l2 (.lst ys1)) lh (.lst [.ref l1, .ref l2]) = H8 at h1a h2a h3a sT ⊢
  have hks8 := hks1.sm sT
  have pk8 : Paired (Kind K H8) ks kvs := paired_mono pkk fun _ _ _ => Kind.sm sT
  have pf8 : Paired (Fact K H8) fs ys1 := paired_mono pf1 fun _ _ _ => Fact.sm sT
  have hD8 := sT _ _ hD1
  have hk8 := sT _ _ hkk
  have rk : ∀ x ∈ kvs, ∃ p, x = .ref p := fun x hx => by
    obtain ⟨i, hi, rfl⟩ := List.mem_iff_getElem.mp hx
    have z := Paired.length pk8
    obtain ⟨t, e, _⟩ := paired_at pk8 i (by omega) hi
    exact ⟨t, e⟩
  have rf : ∀ x ∈ ys1, ∃ p, x = .ref p := fun x hx => by
    obtain ⟨i, hi, rfl⟩ := List.mem_iff_getElem.mp hx
    have z := Paired.length pf8
    obtain ⟨t, t2, e, _⟩ := paired_at pf8 i (by omega) hi
    exact ⟨t, e⟩
  refine gname_go ?_
  dsimp only
  refine asg_const (asg_const ?_)
  refine seq_fin (Good := fun σ' H' => Same H8 H' ∧ ∃ (fv : V), (faults ks fs = 0 → Made K H' fv ks fs) ∧ σ' = [some (.ref a), some (.int v), some (.ref lk), some (tx st), some (.ref ln), some (.ref D), o6, o7, some (.ref lh), some fv, some (.int (faults ks fs))]) (fun fin => ?_) (fun σ' H9 hg => ?_)
  · refine ⟨_, rfl, lh, _, 0, _, rfl, rfl, SqL.of h3a, rfl, _, rfl, lh, _, 1, _, rfl, rfl, SqL.of h3a, rfl, l1, l2, ks, fs, rfl, ⟨⟨kvs, h1a, pk8⟩, h4.nd, (by rw [h4.len]; decide), ⟨ys1, h2a, pf8⟩, hfs⟩, h64, hkn, ⟨fun e H9 s9 => ?_, fun e H9 s9 => ?_⟩, fun e fv H9 s9 hm => ?_⟩
    · exact ⟨true, x11, fun _ => fin _ _ ⟨s9, .non, (fun z => by omega), by rw [e]; rfl⟩, fun z => nomatch z⟩
    · exact ⟨false, x21, (fun z => nomatch z), fun _ => ⟨true, x22, fun _ => fin _ _ ⟨s9, .non, (fun z => by omega), by rw [e]; rfl⟩, fun z => nomatch z⟩⟩
    · exact fin _ _ ⟨s9, fv, fun _ => hm, by rw [e]; rfl⟩
  obtain ⟨s9, fv, hmade, rfl⟩ := hg
  have pf9 : Paired (Fact K H9) fs ys1 := paired_mono pf8 fun _ _ _ => Fact.sm s9
  have hD9 := s9 _ _ hD8
  have hFs9 : FsAt K H9 D fs := ⟨ys1, hD9, pf9⟩
  refine ⟨_, rfl, lh, _, 0, _, rfl, rfl, SqL.of (s9 _ _ h3a), rfl, _, rfl, l1, lk, kvs, rfl, rfl, SqL.of (s9 _ _ h1a), SqL.of (s9 _ _ hk8), rk, _, rfl, iteF ?_⟩
  refine ⟨_, rfl, lh, _, 1, _, rfl, rfl, SqL.of (s9 _ _ h3a), rfl, _, rfl, l2, D, ys1, rfl, rfl, SqL.of (s9 _ _ h2a), SqL.of hD9, rf, _, rfl, iteF ?_⟩
  refine ⟨_, rfl, _, rfl, _, rfl, lk, D, ks, fs, rfl, hks8.sm s9, h4, hFs9, hfl, rfl, _, rfl, ?_⟩
  rw [decide_eq_true rfl]
  refine iteF ?_
  refine ⟨_, rfl, _, _, rfl, rfl, _, rfl, ite2 (fun c => q _) (fun c => ?_)⟩
  have h0 : faults ks fs = 0 := by
    have z : ¬ (0 < ((faults ks fs : Nat) : Int)) := by simpa using c
    omega
  have hM := hmade h0
  obtain ⟨p, t0, u1, u2, y0, y1, y2, rfl, hp, _⟩ := id hM
  refine ⟨_, rfl, p, _, "tuple", true, rfl, hp, kit_self, _, rfl, iteF ?_⟩
  refine ⟨_, rfl, p, _, rfl, .inr hp, rfl, _, rfl, ?_⟩
  rw [decide_eq_true (show V.int (([V.ref t0, .ref u1, .ref u2, .bl false].length : Nat) : Int) = V.int 4 from rfl)]
  refine iteF ?_
  refine ⟨_, rfl, p, _, 3, _, rfl, rfl, hp, rfl, .bl false, "bool", _, true, rfl, .bl _, kit_self, _, rfl, iteF ?_⟩
  refine ⟨_, rfl, _, rfl, _, rfl, lk, D, ks, fs, rfl, hks8.sm s9, h4, hFs9, hfl, h64, hkn, fun v' H10 s10 hm' => ?_⟩
  refine ⟨_, _, (PoolV.isD hM).same s10, PoolV.isD hm', made_deep ks fs, ⟨_, rfl⟩, ⟨_, rfl⟩, ?_⟩
  rw [poolD_self]
  exact q _
end
end K04
namespace K04
open PySem L2 K02 Bk
open PySem.W (nsIn findIn keepIn mg_of isFn mroIn)
set_option maxHeartbeats 4000000
theorem all_mk {l : PySem.W.OpenLaw} {w : World} {K : PySem.W.Frag} {h : Heap} {mg : Str → Option Value} {fa C_NoKind C_BadArgs f_0 f_1 f_2 f_3 f_4 f_5 f_6 f_7 f_8 f_9 f_10 f_11 f_12 f_13 f_14 f_15 f_16 f_17 f_18 f_19 f_20 f_21 f_22 : Addr} (X : K.In h) (G : h.Ns mainGlobals mg) (hfa : mg "law" = some (.ref fa))
    {d_is_great d_check_taken d_taken_out d_know d_written d_check_facts d_moved d_start_pool d__law_cell_at d__law_mix d__law_names d__law_titles d__law_opens d__law_words d__law_fault d__law_lasts d__law_first_fault d__law_known d__law_due d__law_odd d__law_fact d__law_kinds : FuncData} {od_law an_law : Option Addr} {sl_law : Array (Option Value)} {oc_law kV_law dc_law pm_law cd_law ct_law : Value}
    {t_GREAT : Tok}
    {a_EMPTY a_BROKEN e_0 e_1 e_2 : Addr}
    {n_E n_0 n_1 n_2 : Nat}
    {sl_E sl_0 sl_1 sl_2 : Array (Option Value)}
    (aC_NoKind : nsIn K mainGlobals "NoKind" = some (some (.ref C_NoKind)))
    (aC_BadArgs : nsIn K mainGlobals "BadArgs" = some (some (.ref C_BadArgs)))
    (a_is_great : nsIn K mainGlobals "is_great" = some (some (.ref f_0)))
    (a_check_taken : nsIn K mainGlobals "check_taken" = some (some (.ref f_1)))
    (a_taken_out : nsIn K mainGlobals "taken_out" = some (some (.ref f_2)))
    (a_know : nsIn K mainGlobals "know" = some (some (.ref f_3)))
    (a_written : nsIn K mainGlobals "written" = some (some (.ref f_4)))
    (a_check_facts : nsIn K mainGlobals "check_facts" = some (some (.ref f_5)))
    (a_moved : nsIn K mainGlobals "moved" = some (some (.ref f_6)))
    (a_start_pool : nsIn K mainGlobals "start_pool" = some (some (.ref f_7)))
    (a__law_cell_at : nsIn K mainGlobals "_law_cell_at" = some (some (.ref f_8)))
    (a__law_mix : nsIn K mainGlobals "_law_mix" = some (some (.ref f_9)))
    (a__law_names : nsIn K mainGlobals "_law_names" = some (some (.ref f_10)))
    (a__law_titles : nsIn K mainGlobals "_law_titles" = some (some (.ref f_11)))
    (a__law_opens : nsIn K mainGlobals "_law_opens" = some (some (.ref f_12)))
    (a__law_words : nsIn K mainGlobals "_law_words" = some (some (.ref f_13)))
    (a__law_fault : nsIn K mainGlobals "_law_fault" = some (some (.ref f_14)))
    (a__law_lasts : nsIn K mainGlobals "_law_lasts" = some (some (.ref f_15)))
    (a__law_first_fault : nsIn K mainGlobals "_law_first_fault" = some (some (.ref f_16)))
    (a__law_known : nsIn K mainGlobals "_law_known" = some (some (.ref f_17)))
    (a__law_due : nsIn K mainGlobals "_law_due" = some (some (.ref f_18)))
    (a__law_odd : nsIn K mainGlobals "_law_odd" = some (some (.ref f_19)))
    (a__law_fact : nsIn K mainGlobals "_law_fact" = some (some (.ref f_20)))
    (a__law_kinds : nsIn K mainGlobals "_law_kinds" = some (some (.ref f_21)))
    (a_law : nsIn K mainGlobals "law" = some (some (.ref f_22)))
    (F_is_great : Fun K "is_great" "is_great" s_is_great f_0 d_is_great)
    (F_check_taken : Fun K "check_taken" "check_taken" s_check_taken f_1 d_check_taken)
    (F_taken_out : Fun K "taken_out" "taken_out" s_taken_out f_2 d_taken_out)
    (F_know : Fun K "know" "know" s_know f_3 d_know)
    (F_written : Fun K "written" "written" s_written f_4 d_written)
    (F_check_facts : Fun K "check_facts" "check_facts" s_check_facts f_5 d_check_facts)
    (F_moved : Fun K "moved" "moved" s_moved f_6 d_moved)
    (F_start_pool : Fun K "start_pool" "start_pool" s_start_pool f_7 d_start_pool)
    (F__law_cell_at : Fun K "_law_cell_at" "_law_cell_at" s__law_cell_at f_8 d__law_cell_at)
    (F__law_mix : Fun K "_law_mix" "_law_mix" s__law_mix f_9 d__law_mix)
    (F__law_names : Fun K "_law_names" "_law_names" s__law_names f_10 d__law_names)
    (F__law_titles : Fun K "_law_titles" "_law_titles" s__law_titles f_11 d__law_titles)
    (F__law_opens : Fun K "_law_opens" "_law_opens" s__law_opens f_12 d__law_opens)
    (F__law_words : Fun K "_law_words" "_law_words" s__law_words f_13 d__law_words)
    (F__law_fault : Fun K "_law_fault" "_law_fault" s__law_fault f_14 d__law_fault)
    (F__law_lasts : Fun K "_law_lasts" "_law_lasts" s__law_lasts f_15 d__law_lasts)
    (F__law_first_fault : Fun K "_law_first_fault" "_law_first_fault" s__law_first_fault f_16 d__law_first_fault)
    (F__law_known : Fun K "_law_known" "_law_known" s__law_known f_17 d__law_known)
    (F__law_due : Fun K "_law_due" "_law_due" s__law_due f_18 d__law_due)
    (F__law_odd : Fun K "_law_odd" "_law_odd" s__law_odd f_19 d__law_odd)
    (F__law_fact : Fun K "_law_fact" "_law_fact" s__law_fact f_20 d__law_fact)
    (F__law_kinds : Fun K "_law_kinds" "_law_kinds" s__law_kinds f_21 d__law_kinds)
    (l_law : K.lookup f_22 = some ⟨oc_law, od_law, .func (PySem.W.fnOf "law" "law" (defArgs s_law) (defBody s_law) (defScope s_law) .none kV_law dc_law pm_law an_law cd_law ct_law), sl_law⟩)
    (c_law : PySem.W.codeIn K cd_law "law" = true)
    (k_law : keepIn K (.ref f_22) = true)
    (g_GREAT : nsIn K mainGlobals "GREAT" = some (some (.str aGreat t_GREAT)))
    (z_bool : nsIn K mainGlobals "bool" = some none)
    (z_dict : nsIn K mainGlobals "dict" = some none)
    (z_isinstance : nsIn K mainGlobals "isinstance" = some none)
    (z_len : nsIn K mainGlobals "len" = some none)
    (z_list : nsIn K mainGlobals "list" = some none)
    (z_range : nsIn K mainGlobals "range" = some none)
    (z_set : nsIn K mainGlobals "set" = some none)
    (z_sorted : nsIn K mainGlobals "sorted" = some none)
    (z_tuple : nsIn K mainGlobals "tuple" = some none)
    (g_EMPTY : nsIn K mainGlobals "EMPTY" = some (some (.ref a_EMPTY)))
    (g_BROKEN : nsIn K mainGlobals "BROKEN" = some (some (.ref a_BROKEN)))
    (l_EMPTY : K.lookup a_EMPTY = some ⟨.type "tuple", none, .seq #[.ref e_0, .ref e_1, .ref e_2, .bool false] n_E, sl_E⟩)
    (l_e0 : K.lookup e_0 = some ⟨.type "tuple", none, .seq #[] n_0, sl_0⟩)
    (l_e1 : K.lookup e_1 = some ⟨.type "tuple", none, .seq #[] n_1, sl_1⟩)
    (l_e2 : K.lookup e_2 = some ⟨.type "tuple", none, .seq #[] n_2, sl_2⟩)
    (x_NoKind : PySem.W.excIn K C_NoKind bmV newV = true)
    (x_BadArgs : PySem.W.excIn K C_BadArgs bmV newV = true)
    (x11 : PySem.W.exmOne K (.ref C_NoKind) (.ref C_NoKind) = some true)
    (x21 : PySem.W.exmOne K (.ref C_BadArgs) (.ref C_NoKind) = some false)
    (x22 : PySem.W.exmOne K (.ref C_BadArgs) (.ref C_BadArgs) = some true)
    : ∃ fd : FuncData, (∀ (s : Shared) (v : Value), BindsTo s fd ⟨[v], []⟩ [("_law_script", v)]) ∧ ∀ base : Heap, K.In base → base.Ns mainGlobals mg → FnOk l.prog w K mg base CX0 5 fa fd ["_law_script"] (spLaw K) := by
  have e := hfa.symm.trans (mg_of X G a_law)
  cases e
  have b_is_great := F_is_great.binds (ps := ["name"]) fun _ _ _ _ _ _ us hl => match us, hl with | [_], _ => rfl
  have M_is_great := mg_of X G a_is_great
  have b_check_taken := F_check_taken.binds (ps := ["lasts", "taken"]) fun _ _ _ _ _ _ us hl => match us, hl with | [_, _], _ => rfl
  have M_check_taken := mg_of X G a_check_taken
  have b_taken_out := F_taken_out.binds (ps := ["passing", "taken"]) fun _ _ _ _ _ _ us hl => match us, hl with | [_, _], _ => rfl
  have M_taken_out := mg_of X G a_taken_out
  have b_know := F_know.binds (ps := ["stand", "names"]) fun _ _ _ _ _ _ us hl => match us, hl with | [_, _], _ => rfl
  have M_know := mg_of X G a_know
  have b_written := F_written.binds (ps := ["stand", "fact"]) fun _ _ _ _ _ _ us hl => match us, hl with | [_, _], _ => rfl
  have M_written := mg_of X G a_written
  have b_check_facts := F_check_facts.binds (ps := ["kinds", "facts"]) fun _ _ _ _ _ _ us hl => match us, hl with | [_, _], _ => rfl
  have M_check_facts := mg_of X G a_check_facts
  have b_moved := F_moved.binds (ps := ["kinds", "pool", "taken", "put", "told"]) fun _ _ _ _ _ _ us hl => match us, hl with | [_, _, _, _, _], _ => rfl
  have M_moved := mg_of X G a_moved
  have b_start_pool := F_start_pool.binds (ps := ["kinds", "facts"]) fun _ _ _ _ _ _ us hl => match us, hl with | [_, _], _ => rfl
  have M_start_pool := mg_of X G a_start_pool
  have b__law_cell_at := F__law_cell_at.binds (ps := ["_law_script", "_law_k"]) fun _ _ _ _ _ _ us hl => match us, hl with | [_, _], _ => rfl
  have M__law_cell_at := mg_of X G a__law_cell_at
  have b__law_mix := F__law_mix.binds (ps := ["_law_cell", "_law_k"]) fun _ _ _ _ _ _ us hl => match us, hl with | [_, _], _ => rfl
  have M__law_mix := mg_of X G a__law_mix
  have b__law_names := F__law_names.binds (ps := ["_law_cell", "_law_many", "_law_firsts"]) fun _ _ _ _ _ _ us hl => match us, hl with | [_, _, _], _ => rfl
  have M__law_names := mg_of X G a__law_names
  have b__law_titles := F__law_titles.binds (ps := ["_law_cell", "_law_many"]) fun _ _ _ _ _ _ us hl => match us, hl with | [_, _], _ => rfl
  have M__law_titles := mg_of X G a__law_titles
  have b__law_opens := F__law_opens.binds (ps := ["_law_cell", "_law_many"]) fun _ _ _ _ _ _ us hl => match us, hl with | [_, _], _ => rfl
  have M__law_opens := mg_of X G a__law_opens
  have b__law_words := F__law_words.binds (ps := ["_law_cell", "_law_many"]) fun _ _ _ _ _ _ us hl => match us, hl with | [_, _], _ => rfl
  have M__law_words := mg_of X G a__law_words
  have b__law_fault := F__law_fault.binds (ps := ["_law_kinds_here", "_law_fact_here"]) fun _ _ _ _ _ _ us hl => match us, hl with | [_, _], _ => rfl
  have M__law_fault := mg_of X G a__law_fault
  have b__law_lasts := F__law_lasts.binds (ps := ["_law_kinds_here", "_law_fact_here"]) fun _ _ _ _ _ _ us hl => match us, hl with | [_, _], _ => rfl
  have M__law_lasts := mg_of X G a__law_lasts
  have b__law_first_fault := F__law_first_fault.binds (ps := ["_law_kinds_here", "_law_facts"]) fun _ _ _ _ _ _ us hl => match us, hl with | [_, _], _ => rfl
  have M__law_first_fault := mg_of X G a__law_first_fault
  have b__law_known := F__law_known.binds (ps := ["_law_known_here", "_law_names_here"]) fun _ _ _ _ _ _ us hl => match us, hl with | [_, _], _ => rfl
  have M__law_known := mg_of X G a__law_known
  have b__law_due := F__law_due.binds (ps := ["_law_kinds_here", "_law_facts"]) fun _ _ _ _ _ _ us hl => match us, hl with | [_, _], _ => rfl
  have M__law_due := mg_of X G a__law_due
  have b__law_odd := F__law_odd.binds (ps := ["_law_fact_here", "_law_stranger", "_law_number"]) fun _ _ _ _ _ _ us hl => match us, hl with | [_, _, _], _ => rfl
  have M__law_odd := mg_of X G a__law_odd
  have b__law_fact := F__law_fact.binds (ps := ["_law_kinds_here", "_law_names_here", "_law_cell"]) fun _ _ _ _ _ _ us hl => match us, hl with | [_, _, _], _ => rfl
  have M__law_fact := mg_of X G a__law_fact
  have b__law_kinds := F__law_kinds.binds (ps := ["_law_cell", "_law_sizes"]) fun _ _ _ _ _ _ us hl => match us, hl with | [_, _], _ => rfl
  have M__law_kinds := mg_of X G a__law_kinds
  have F_law := fun_mk (st := s_law) l_law c_law k_law
  have M_law := mg_of X G a_law
  have MC_NoKind := mg_of X G aC_NoKind
  have MC_BadArgs := mg_of X G aC_BadArgs
  have Z_bool := PySem.W.mg_none_of X G z_bool
  have Z_dict := PySem.W.mg_none_of X G z_dict
  have Z_isinstance := PySem.W.mg_none_of X G z_isinstance
  have Z_len := PySem.W.mg_none_of X G z_len
  have Z_list := PySem.W.mg_none_of X G z_list
  have Z_range := PySem.W.mg_none_of X G z_range
  have Z_set := PySem.W.mg_none_of X G z_set
  have Z_sorted := PySem.W.mg_none_of X G z_sorted
  have Z_tuple := PySem.W.mg_none_of X G z_tuple
  have G_GREAT := mg_of X G g_GREAT
  refine ⟨PySem.W.fnOf "law" "law" (defArgs s_law) (defBody s_law) (defScope s_law) .none kV_law dc_law pm_law an_law cd_law ct_law, fun s v => .of_eq rfl, fun base _ _ => ?_⟩
  have G_EMPTY := mg_of X G g_EMPTY
  have G_BROKEN := mg_of X G g_BROKEN
  have hpe : ∀ H : Hp, SqT K H a_EMPTY [.ref e_0, .ref e_1, .ref e_2, .bl false] := fun H => .inr ⟨_, _, n_E, l_EMPTY, rfl, rfl, (by show 4 ≤ sizeLine; decide), .cons rfl (.cons rfl (.cons rfl (.cons rfl .nil)))⟩
  have he0 : ∀ H : Hp, SqT K H e_0 [] := fun H => .inr ⟨_, _, n_0, l_e0, rfl, rfl, (by show 0 ≤ sizeLine; decide), .nil⟩
  have he1 : ∀ H : Hp, SqT K H e_1 [] := fun H => .inr ⟨_, _, n_1, l_e1, rfl, rfl, (by show 0 ≤ sizeLine; decide), .nil⟩
  have he2 : Nil0 K e_2 := ⟨_, _, l_e2⟩
  have c_is_great : Cal l.prog w K mg base "is_great" 1 ["name"] spGreat := ⟨_, _, ok_is_great F_is_great G_GREAT ⟨t_GREAT, rfl⟩, b_is_great, F_is_great.2, M_is_great⟩
  have c_check_taken : Cal l.prog w K mg base "check_taken" 1 ["lasts", "taken"] (spCheckT K) := ⟨_, _, ok_check_taken F_check_taken, b_check_taken, F_check_taken.2, M_check_taken⟩
  have c_taken_out : Cal l.prog w K mg base "taken_out" 1 ["passing", "taken"] (spTaken0 K) := ⟨_, _, ok_taken_out F_taken_out Z_list Z_len, b_taken_out, F_taken_out.2, M_taken_out⟩
  have c_know : Cal l.prog w K mg base "know" 2 ["stand", "names"] (spKnow K) := ⟨_, _, ok_know F_know c_is_great, b_know, F_know.2, M_know⟩
  have c_written : Cal l.prog w K mg base "written" 1 ["stand", "fact"] (spWritten K) := ⟨_, _, ok_written F_written Z_tuple, b_written, F_written.2, M_written⟩
  have c_check_facts : CalE l.prog w K mg base "check_facts" 1 ["kinds", "facts"] (spCheckE K C_NoKind C_BadArgs) := ⟨_, _, ok_check_facts F_check_facts Z_dict Z_len x_NoKind MC_NoKind x_BadArgs MC_BadArgs, b_check_facts, F_check_facts.2, M_check_facts⟩
  have c_moved : CalE l.prog w K mg base "moved" 3 ["kinds", "pool", "taken", "put", "told"] (spMoved K C_NoKind C_BadArgs) := ⟨_, _, ok_moved F_moved c_check_facts c_check_taken c_taken_out c_know c_written G_BROKEN rfl Z_dict Z_list Z_len Z_tuple Z_sorted Z_set, b_moved, F_moved.2, M_moved⟩
  have c_start_pool : CalE l.prog w K mg base "start_pool" 4 ["kinds", "facts"] (spStart K C_NoKind C_BadArgs) := ⟨_, _, ok_start_pool F_start_pool c_moved G_EMPTY rfl hpe he0 he1 he2, b_start_pool, F_start_pool.2, M_start_pool⟩
  have c__law_cell_at : Cal l.prog w K mg base "_law_cell_at" 1 ["_law_script", "_law_k"] (spCell K) := ⟨_, _, ok__law_cell_at F__law_cell_at Z_len, b__law_cell_at, F__law_cell_at.2, M__law_cell_at⟩
  have c__law_mix : Cal l.prog w K mg base "_law_mix" 1 ["_law_cell", "_law_k"] spMix := ⟨_, _, ok__law_mix F__law_mix, b__law_mix, F__law_mix.2, M__law_mix⟩
  have c__law_names : Cal l.prog w K mg base "_law_names" 2 ["_law_cell", "_law_many", "_law_firsts"] spNames := ⟨_, _, ok__law_names F__law_names c__law_mix Z_len Z_range, b__law_names, F__law_names.2, M__law_names⟩
  have c__law_titles : Cal l.prog w K mg base "_law_titles" 3 ["_law_cell", "_law_many"] (spSome aSmall.cps.toList) := ⟨_, _, ok__law_titles F__law_titles c__law_names, b__law_titles, F__law_titles.2, M__law_titles⟩
  have c__law_opens : Cal l.prog w K mg base "_law_opens" 3 ["_law_cell", "_law_many"] (spSome aGreat.cps.toList) := ⟨_, _, ok__law_opens F__law_opens c__law_names, b__law_opens, F__law_opens.2, M__law_opens⟩
  have c__law_words : Cal l.prog w K mg base "_law_words" 3 ["_law_cell", "_law_many"] (spSome aSF.cps.toList) := ⟨_, _, ok__law_words F__law_words c__law_names, b__law_words, F__law_words.2, M__law_words⟩
  have c__law_fault : Cal l.prog w K mg base "_law_fault" 1 ["_law_kinds_here", "_law_fact_here"] (spFaultL K) := ⟨_, _, ok__law_fault F__law_fault Z_len, b__law_fault, F__law_fault.2, M__law_fault⟩
  have c__law_lasts : Cal l.prog w K mg base "_law_lasts" 1 ["_law_kinds_here", "_law_fact_here"] (spLastsL K) := ⟨_, _, ok__law_lasts F__law_lasts, b__law_lasts, F__law_lasts.2, M__law_lasts⟩
  have c__law_first_fault : Cal l.prog w K mg base "_law_first_fault" 2 ["_law_kinds_here", "_law_facts"] (spFirst K) := ⟨_, _, ok__law_first_fault F__law_first_fault c__law_fault, b__law_first_fault, F__law_first_fault.2, M__law_first_fault⟩
  have c__law_known : Cal l.prog w K mg base "_law_known" 1 ["_law_known_here", "_law_names_here"] (spKnownL K) := ⟨_, _, ok__law_known F__law_known Z_list, b__law_known, F__law_known.2, M__law_known⟩
  have c__law_due : Cal l.prog w K mg base "_law_due" 2 ["_law_kinds_here", "_law_facts"] (spDue K) := ⟨_, _, ok__law_due F__law_due c__law_known c__law_lasts Z_tuple Z_sorted, b__law_due, F__law_due.2, M__law_due⟩
  have c__law_odd : Cal l.prog w K mg base "_law_odd" 1 ["_law_fact_here", "_law_stranger", "_law_number"] (spOdd K) := ⟨_, _, ok__law_odd F__law_odd Z_len, b__law_odd, F__law_odd.2, M__law_odd⟩
  have c__law_fact : Cal l.prog w K mg base "_law_fact" 2 ["_law_kinds_here", "_law_names_here", "_law_cell"] (spFactL K) := ⟨_, _, ok__law_fact F__law_fact c__law_mix Z_len Z_range Z_tuple, b__law_fact, F__law_fact.2, M__law_fact⟩
  have c__law_kinds : Cal l.prog w K mg base "_law_kinds" 4 ["_law_cell", "_law_sizes"] (spKinds K) := ⟨_, _, ok__law_kinds F__law_kinds c__law_mix c__law_titles Z_len Z_range, b__law_kinds, F__law_kinds.2, M__law_kinds⟩
  exact ok_law F_law c__law_cell_at c__law_kinds c__law_titles c__law_opens c__law_words c__law_fact c__law_mix c__law_odd c_start_pool c__law_first_fault c__law_due MC_NoKind MC_BadArgs x11 x21 x22 Z_len Z_range Z_list Z_isinstance Z_tuple Z_bool
theorem walk {l : PySem.W.OpenLaw} {q : Program} {loose : List Str} {XP : (Str → Option Value) → Heap → Prop} {YP : World → Heap → Prop} {d : DefRec} {K : Params → PySem.W.Frag} (hn : l.most = some 63) (hdf : d.params.defaults = [])
    (hY : ∀ (w : World) (h : Heap), YP w h → (K w.params).In h)
    (F : ∀ (w : World) (mg : Str → Option Value) (fa : Addr) (h : Heap), (K w.params).In h → h.Ns mainGlobals mg → mg d.name = some (.ref fa) →
      ∃ fd : FuncData, (∀ (s : Shared) (u : Value), BindsTo s fd ⟨[u], []⟩ [("_law_script", u)]) ∧ ∀ base : Heap, (K w.params).In base → base.Ns mainGlobals mg → FnOk l.prog w (K w.params) mg base CX0 5 fa fd ["_law_script"] (spLaw (K w.params))) :
    PySem.W.WalkO q loose XP YP l.row.toRowW d [] (fun f vs => PySem.call f vs) :=
  L2.walk_of (n := 63) (k := 5) (x := "_law_script") (CX := fun _ => CX0) (sp := fun w => spLaw (K w.params)) hn (by decide) hdf ⟨rfl, by decide, by decide, rfl⟩ hY F (fun _ _ a ns hl _ hS => ⟨a, ns, rfl, hS, hl, fun _ => rfl⟩) fun _ _ _ _ _ z => z
end K04
open PySem PySem.W PyProof.Rows
def PySem.W.Fast.tw17578504985397629790 : Nat := 0
def PySem.W.Fast.tw16398226508900405587 : Nat := 0
def PySem.W.Fast.tw11195520778842905480 : Nat := 0
def PySem.W.Fast.tw11895809461513107696 : Nat := 0
def PySem.W.Fast.tw5317388537150954759 : Nat := 0
def PySem.W.Fast.tw12655359890146744793 : Nat := 0
def PySem.W.Fast.tw11349398666235004480 : Nat := 0
def PySem.W.Fast.tw8399296485632004412 : Nat := 0
def PySem.W.Fast.tw17503763492642899828 : Nat := 0
def PySem.W.Fast.tw8905007844658174638 : Nat := 0
def PySem.W.Fast.tw12870653712949248863 : Nat := 0
def PySem.W.Fast.tw6046124149501983597 : Nat := 0
def PySem.W.Fast.tw12530618174417035365 : Nat := 0
def PySem.W.Fast.tw18078325170089926485 : Nat := 0
def PySem.W.Fast.tw5650115023125428325 : Nat := 0
def PySem.W.Fast.tw3674889227828318253 : Nat := 0
def PySem.W.Fast.tw17509578738004228272 : Nat := 0
def PySem.W.Fast.tw15819680667744861551 : Nat := 0
def PySem.W.Fast.tw9600855859524631623 : Nat := 0
def PySem.W.Fast.tw13190569379997422010 : Nat := 0
def PySem.W.Fast.tw3968593403600454628 : Nat := 0
def PySem.W.Fast.tw17607263728946354219 : Nat := 0
def PySem.W.Fast.tw13501079156446946941 : Nat := 0
def PySem.W.Fast.tw1691356754251915059 : Nat := 0
def PySem.W.Fast.tw5933604633465701015 : Nat := 0
def PySem.W.Fast.tw15984987187458758324 : Nat := 0
def PySem.W.Fast.tw14534474927279610621 : Nat := 0
def PySem.W.Fast.tw9877285903017566098 : Nat := 0
def PySem.W.Fast.tw4897793126726404441 : Nat := 0
def PySem.W.Fast.tw14469950509658251205 : Nat := 0
def PySem.W.Fast.tw9943155876057559578 : Nat := 0
def PySem.W.Fast.tw15817089588301190921 : Nat := 0
def PySem.W.Fast.tw12577599925861129467 : Nat := 0
def PySem.W.Fast.tw2727236837009037722 : Nat := 0
def PySem.W.Fast.tw9166144170421776140 : Nat := 0
def PySem.W.Fast.tw5903349547732100531 : Nat := 0
def PySem.W.Fast.tw14678708433801544079 : Nat := 0
def PySem.W.Fast.tw1655134696073791581 : Nat := 0
def PySem.W.Fast.tw1403388832250584156 : Nat := 0
def PySem.W.Fast.tw17636994121670308295 : Nat := 0
def PySem.W.Fast.tw7466489908033786339 : Nat := 0
def PySem.W.Fast.tw10814770105938945072 : Nat := 0
def PySem.W.Fast.tw3757714630021111850 : Nat := 0
set_option maxRecDepth 100000 in
set_option maxHeartbeats 0 in
theorem PySem.Challenge.cw_poolrules_k04_a_pool_of_facts_holds : PySem.Challenge.rw_poolrules_k04_a_pool_of_facts.Holds := by
  w_on; o_law; k_head; (case hw => w_witness2)
  k_fill
  refine K04.walk (l := PySem.Challenge.rw_poolrules_k04_a_pool_of_facts) rfl rfl (fun w h Y => PySem.W.kIn_of Y) ?F
  case F =>
    intro w mg fa h KX G hmg
    refine' K04.all_mk KX G hmg ?aC_NoKind ?aC_BadArgs ?a_is_great ?a_check_taken ?a_taken_out ?a_know ?a_written ?a_check_facts ?a_moved ?a_start_pool ?a__law_cell_at ?a__law_mix ?a__law_names ?a__law_titles ?a__law_opens ?a__law_words ?a__law_fault ?a__law_lasts ?a__law_first_fault ?a__law_known ?a__law_due ?a__law_odd ?a__law_fact ?a__law_kinds ?a_law ?F_is_great ?F_check_taken ?F_taken_out ?F_know ?F_written ?F_check_facts ?F_moved ?F_start_pool ?F__law_cell_at ?F__law_mix ?F__law_names ?F__law_titles ?F__law_opens ?F__law_words ?F__law_fault ?F__law_lasts ?F__law_first_fault ?F__law_known ?F__law_due ?F__law_odd ?F__law_fact ?F__law_kinds ?l_law ?c_law ?k_law ?g_GREAT ?z_bool ?z_dict ?z_isinstance ?z_len ?z_list ?z_range ?z_set ?z_sorted ?z_tuple ?g_EMPTY ?g_BROKEN ?l_EMPTY ?l_e0 ?l_e1 ?l_e2 ?x_NoKind ?x_BadArgs ?x11 ?x21 ?x22
    (case aC_NoKind => k_is)
    (case aC_BadArgs => k_is)
    (case a_is_great => k_is)
    (case a_check_taken => k_is)
    (case a_taken_out => k_is)
    (case a_know => k_is)
    (case a_written => k_is)
    (case a_check_facts => k_is)
    (case a_moved => k_is)
    (case a_start_pool => k_is)
    (case a__law_cell_at => k_is)
    (case a__law_mix => k_is)
    (case a__law_names => k_is)
    (case a__law_titles => k_is)
    (case a__law_opens => k_is)
    (case a__law_words => k_is)
    (case a__law_fault => k_is)
    (case a__law_lasts => k_is)
    (case a__law_first_fault => k_is)
    (case a__law_known => k_is)
    (case a__law_due => k_is)
    (case a__law_odd => k_is)
    (case a__law_fact => k_is)
    (case a__law_kinds => k_is)
    (case a_law => k_is)
    (case F_is_great => exact L2.fun_mk (by k_is) (by k_is) (by k_is))
    (case F_check_taken => exact L2.fun_mk (by k_is) (by k_is) (by k_is))
    (case F_taken_out => exact L2.fun_mk (by k_is) (by k_is) (by k_is))
    (case F_know => exact L2.fun_mk (by k_is) (by k_is) (by k_is))
    (case F_written => exact L2.fun_mk (by k_is) (by k_is) (by k_is))
    (case F_check_facts => exact L2.fun_mk (by k_is) (by k_is) (by k_is))
    (case F_moved => exact L2.fun_mk (by k_is) (by k_is) (by k_is))
    (case F_start_pool => exact L2.fun_mk (by k_is) (by k_is) (by k_is))
    (case F__law_cell_at => exact L2.fun_mk (by k_is) (by k_is) (by k_is))
    (case F__law_mix => exact L2.fun_mk (by k_is) (by k_is) (by k_is))
    (case F__law_names => exact L2.fun_mk (by k_is) (by k_is) (by k_is))
    (case F__law_titles => exact L2.fun_mk (by k_is) (by k_is) (by k_is))
    (case F__law_opens => exact L2.fun_mk (by k_is) (by k_is) (by k_is))
    (case F__law_words => exact L2.fun_mk (by k_is) (by k_is) (by k_is))
    (case F__law_fault => exact L2.fun_mk (by k_is) (by k_is) (by k_is))
    (case F__law_lasts => exact L2.fun_mk (by k_is) (by k_is) (by k_is))
    (case F__law_first_fault => exact L2.fun_mk (by k_is) (by k_is) (by k_is))
    (case F__law_known => exact L2.fun_mk (by k_is) (by k_is) (by k_is))
    (case F__law_due => exact L2.fun_mk (by k_is) (by k_is) (by k_is))
    (case F__law_odd => exact L2.fun_mk (by k_is) (by k_is) (by k_is))
    (case F__law_fact => exact L2.fun_mk (by k_is) (by k_is) (by k_is))
    (case F__law_kinds => exact L2.fun_mk (by k_is) (by k_is) (by k_is))
    (case l_law => k_is)
    (case c_law => k_is)
    (case k_law => k_is)
    (case g_GREAT => k_is)
    (case z_bool => k_is)
    (case z_dict => k_is)
    (case z_isinstance => k_is)
    (case z_len => k_is)
    (case z_list => k_is)
    (case z_range => k_is)
    (case z_set => k_is)
    (case z_sorted => k_is)
    (case z_tuple => k_is)
    (case g_EMPTY => k_is)
    (case g_BROKEN => k_is)
    (case l_EMPTY => k_is)
    (case l_e0 => k_is)
    (case l_e1 => k_is)
    (case l_e2 => k_is)
    (case x_NoKind => k_exc)
    (case x_BadArgs => k_exc)
    (case x11 => kts_exm)
    (case x21 => kts_exm)
    (case x22 => kts_exm)
