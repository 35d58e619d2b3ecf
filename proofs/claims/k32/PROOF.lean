import PyProof.Rows.All
import Wide.All
import OpenK.AllK
import Wide.FinOn
import Lean
import PyProof.EqAt
import PyProof.EqKinds
import PyProof.TupleCall
import KE.KIntText
import KE.KDictList
import KE.KDictOf
import PyProof.AttrMissHeap
import PyProof.DictUpdate
import PyProof.ToksMono
import PyProof.NeKinds
import PyProof.EnumFor
import PyProof.EnumStmt
import PyProof.EnumMake
import KE.KRevIter
import PyProof.StrOps2
import PyProof.ZipIter
import PyProof.SumWalkG
import PySem.Challenge.RW_poolrules_k32_the_first_breaker
set_option Elab.async false
set_option linter.all false
set_option maxRecDepth 100000
/-! THE HAND LAYER, for ints, bools, texts, own classes, LISTS and tuples (index, slices, in, append, pop ..), calls, loops. Paste it whole ahead of your own text; what your proof does not reach may be deleted. -/
namespace L2
open PySem PySem.Spec PyProof.Rows
/-- a key: an int or a str -/
abbrev Key := Sum Int Str
def keyIs : Key → Value → Bool
  | .inl k, v => Value.isInt k v
  | .inr x, v => Value.isStrOf x v
def keyH (w : World) : Key → Int
  | .inl k => hashInt k
  | .inr x => hashStr w x
theorem keyIs_shape : ∀ {k : Key} {v : Value}, keyIs k v = true → (∃ i t, k = Sum.inl i ∧ v = Value.int i t) ∨ (∃ x t, k = Sum.inr x ∧ v = Value.str x t)
  | .inl i, v, h => by
    obtain ⟨t, e⟩ := Value.isInt_shape (k := i) (v := v) h
    exact .inl ⟨i, t, rfl, e⟩
  | .inr x, v, h => by
    obtain ⟨t, e⟩ := Value.isStrOf_shape (x := x) (v := v) h
    exact .inr ⟨x, t, rfl, e⟩
theorem keyIs_int (i : Int) (t : Tok) : keyIs (.inl i) (.int i t) = true := by simp [keyIs, Value.isInt]
theorem keyIs_str (x : Str) (t : Tok) : keyIs (.inr x) (.str x t) = true := by simp [keyIs, Value.isStrOf]
theorem key_ll (a b : Int) : decide ((Sum.inl a : Key) = Sum.inl b) = (a == b) := by
  by_cases e : a = b
  · subst e; simp
  · have h : ¬ (Sum.inl a : Key) = Sum.inl b := fun q => e (Sum.inl.inj q)
    rw [decide_eq_false h]
    exact (beq_eq_false_iff_ne.mpr e).symm
theorem key_rr (a b : Str) : decide ((Sum.inr a : Key) = Sum.inr b) = decide (a = b) := by
  by_cases e : a = b
  · subst e; simp
  · have h : ¬ (Sum.inr a : Key) = Sum.inr b := fun q => e (Sum.inr.inj q)
    rw [decide_eq_false h, decide_eq_false e]
theorem key_lr (a : Int) (b : Str) : decide ((Sum.inl a : Key) = Sum.inr b) = false := decide_eq_false (fun q => nomatch q)
theorem key_rl (a : Str) (b : Int) : decide ((Sum.inr a : Key) = Sum.inl b) = false := decide_eq_false (fun q => nomatch q)
def mixKind (prog : Program) (w : World) : PySem.KeyKind prog w Key where
  is := keyIs
  hash := keyH w
  inj := fun v a b ha hb => by
    rcases keyIs_shape ha with ⟨i, t, rfl, rfl⟩ | ⟨x, t, rfl, rfl⟩
    · rcases keyIs_shape hb with ⟨j, u, rfl, e⟩ | ⟨y, u, rfl, e⟩
      · injection e with e1 _; rw [e1]
      · exact nomatch e
    · rcases keyIs_shape hb with ⟨j, u, rfl, e⟩ | ⟨y, u, rfl, e⟩
      · exact nomatch e
      · injection e with e1 _; rw [e1]
  byValue := fun k v h => by
    rcases keyIs_shape h with ⟨i, t, rfl, rfl⟩ | ⟨x, t, rfl, rfl⟩ <;> rfl
  pyHash := fun hv h => by
    rcases keyIs_shape hv with ⟨i, t, rfl, rfl⟩ | ⟨x, t, rfl, rfl⟩
    · exact wpAny_pyHash_int h
    · exact wpAny_pyHash_str h
  eqBool := fun hu hv h => by
    rcases keyIs_shape hu with ⟨i, t, rfl, rfl⟩ | ⟨x, t, rfl, rfl⟩
    · rcases keyIs_shape hv with ⟨j, u, rfl, rfl⟩ | ⟨y, u, rfl, rfl⟩
      · rw [key_ll] at h; exact wpAny_eqBool_int h
      · rw [key_lr] at h; exact SeqAt.EqAt.int_str i t y u _ _ _ _ h
    · rcases keyIs_shape hv with ⟨j, u, rfl, rfl⟩ | ⟨y, u, rfl, rfl⟩
      · rw [key_rl] at h; exact SeqAt.EqAt.str_int x t j u _ _ _ _ h
      · rw [key_rr] at h; exact wpAny_eqBool_str h
  «strs» := fun k x t v h => by
    rcases keyIs_shape h with ⟨i, u, rfl, e⟩ | ⟨y, u, rfl, e⟩
    · exact nomatch e
    · injection e with e1 _
      subst e1
      cases v <;> rfl
theorem mixKind_int (prog : Program) (w : World) (i : Int) (t : Tok) : (mixKind prog w).is (.inl i) (.int i t) = true := keyIs_int i t
theorem mixKind_str (prog : Program) (w : World) (x : Str) (t : Tok) : (mixKind prog w).is (.inr x) (.str x t) = true := keyIs_str x t
end L2
namespace L2
open PySem PySem.Spec PyProof.Rows
/-- a value, without the heap -/
inductive V where
  | non | bl (b : Bool) | int (i : Int) | str (x : Str) | byt (b : Array UInt8) | flt (b : UInt64) | ref (a : Addr) | ty (n : String)
  deriving DecidableEq
def RelV : V → Value → Prop
  | .non, u => u = Value.none
  | .bl b, u => u = Value.bool b
  | .int i, u => ∃ t, u = Value.int i t
  | .str x, u => ∃ t, u = Value.str x t
  | .byt b, u => ∃ t, u = Value.bytes b t
  | .flt b, u => ∃ t, u = Value.float b t
  | .ref a, u => u = Value.ref a
  | .ty n, u => u = Value.type n
abbrev Vals : List V → List Value → Prop := Paired RelV
theorem Vals.length {xs : List V} {us : List Value} (r : Vals xs us) : xs.length = us.length := Paired.length r
theorem Vals.get : ∀ {xs : List V} {us : List Value} {i : Nat} {x : V}, Vals xs us → xs[i]? = some x → ∃ u, us[i]? = some u ∧ RelV x u
  | _, _, _, _, .nil, e => by simp at e
  | _, _, 0, _, .cons r _, e => by simp at e; subst e; exact ⟨_, rfl, r⟩
  | _, _, i + 1, x, .cons _ t, e => by
    obtain ⟨u, h1, h2⟩ := Vals.get (i := i) (x := x) t (by simpa using e)
    exact ⟨u, by simpa using h1, h2⟩
theorem Vals.set {x : V} {u : Value} (r : RelV x u) : ∀ {xs : List V} {us : List Value} (i : Nat), Vals xs us → Vals (xs.set i x) (us.set i u)
  | _, _, _, .nil => .nil
  | _, _, 0, .cons _ t => .cons r t
  | _, _, i + 1, .cons q t => .cons q (Vals.set r i t)
theorem Vals.append : ∀ {xs ys : List V} {us ws : List Value}, Vals xs us → Vals ys ws → Vals (xs ++ ys) (us ++ ws)
  | _, _, _, _, .nil, s => s
  | _, _, _, _, .cons r t, s => .cons r (Vals.append t s)
theorem Vals.take : ∀ {xs : List V} {us : List Value} (n : Nat), Vals xs us → Vals (xs.take n) (us.take n)
  | _, _, 0, _ => .nil
  | _, _, _ + 1, .nil => .nil
  | _, _, n + 1, .cons r t => .cons r (Vals.take n t)
theorem Vals.drop : ∀ {xs : List V} {us : List Value} (n : Nat), Vals xs us → Vals (xs.drop n) (us.drop n)
  | _, _, 0, r => r
  | _, _, _ + 1, .nil => .nil
  | _, _, n + 1, .cons _ t => Vals.drop n t
theorem Vals.none_of : ∀ {xs : List V} {us : List Value} {i : Nat}, Vals xs us → xs[i]? = none → us[i]? = none := fun {xs us i} r e => by
  have h1 := r.length
  have h2 : xs.length ≤ i := List.getElem?_eq_none_iff.mp e
  exact List.getElem?_eq_none_iff.mpr (by omega)
def RelO : Option V → Option Value → Prop
  | some v, some u => RelV v u
  | none, none => True
  | _, _ => False
def KV {κ : Type} : List (κ × V) → List (κ × Value) → Prop := Paired fun (p : κ × V) (q : κ × Value) => p.1 = q.1 ∧ RelV p.2 q.2
/-- a key of a dict (00_mix): an int or a text -/
def kV : Key → V
  | .inl i => .int i
  | .inr x => .str x
/-- what stands at a tracked address -/
inductive HO where
  /-- a list -/
  | lst (xs : List V)
  /-- a tuple (never changes) -/
  | tup (xs : List V)
  /-- a dict whose keys are ints and texts; one whose keys are tuples of ints and texts (the empty one is both) -/
  | dK (kvs : List (Key × V)) | dT (kvs : List (List Key × V))
  /-- a set of ints: its members, its size -/
  | set (S : Int → Bool) (n : Nat)
  /-- an instance of the class at C, its dict at dx, its attributes -/
  | ins (C dx : Addr) (fs : List (Str × V))
  /-- the dict of the instance at x -/
  | own (x : Addr)
  /-- the dict of an exception -/
  | xd (fs : List (Str × V))
  /-- a bound method, f of x -/
  | met (f x : Addr)
  /-- a range object lo, lo + 1, .. below hi -/
  | rng (lo hi : Int)
  /-- a thing that is known to the object (the script; a dict while a loop walks it): read, never written while it is so -/
  | frz (o : Obj) (u : HO)
  /-- a code object's table -/
  | tbl (ps : Array Value)
  /-- any other thing, by what is true of its one object (a def of one's own: SetO a S n := HO.ext fun h => ..) -/
  | ext (φ : Heap → Prop)
abbrev Hp := Addr → Option HO
def upd (H : Hp) (a : Addr) (o : HO) : Hp := fun b => if b = a then some o else H b
theorem upd_same {H : Hp} {a : Addr} {o : HO} : upd H a o a = some o := by unfold upd; rw [if_pos rfl]
theorem upd_ne {H : Hp} {a b : Addr} {o : HO} (h : b ≠ a) : upd H a o b = H b := by unfold upd; rw [if_neg h]
/-- two objects of different content stand apart -/
theorem ne_of {H : Hp} {a b : Addr} {o u : HO} (h : H a = some o) (h' : H b = some u) (d : o ≠ u) : a ≠ b := by
  intro e; subst e; rw [h] at h'; exact d (Option.some.inj h')
theorem ne_of_none {H : Hp} {a b : Addr} {o : HO} (h : H a = some o) (h' : H b = none) : a ≠ b := by
  intro e; subst e; rw [h] at h'; cases h'
section
variable (P : Program) (w : World)
def ObjOk (H : Hp) (h : Heap) (a : Addr) : HO → Prop
  | .lst xs => xs.length ≤ sizeLine ∧ ∃ (its : List Value) (n : Nat), Vals xs its ∧ h.get? a = some { cls := .type "list", data := .seq its.toArray n }
  | .tup xs => xs.length ≤ sizeLine ∧ ∃ its : List Value, Vals xs its ∧ IsTup h a its.toArray
  | .dK kvs => kvs.length ≤ sizeLine ∧ (a == sysModules) = false ∧ ∃ vs, KV kvs vs ∧ h.DictOf (mixKind P w) a vs
  | .dT kvs => kvs.length ≤ sizeLine ∧ (a == sysModules) = false ∧ ∃ xs : List (List Key × Addr × Value),
      Paired (fun (p : List Key × V) (q : List Key × Addr × Value) => p.1 = q.1 ∧ H q.2.1 = some (.tup (p.1.map kV)) ∧ RelV p.2 q.2.2) kvs xs ∧
      ∃ o es ep, h.get? a = some o ∧ o.ExactDict ∧ o.data = .dict es ep ∧ es.toList = xs.map (entryOfKey (tupleKind (mixKind P w))) ∧ (xs.map (·.1)).Nodup
  | .set S n => h.SetOf (intKind P w) a S n
  | .ins C dx fs => H dx = some (.own a) ∧ fs.length ≤ 1000 ∧ dx ≠ a ∧ h.get? a = some (PySem.W.instObj C dx) ∧
      ∃ mA, h.Ns1 dx mA ∧ (∀ f, RelO (fs.lookup f) (mA f)) ∧ PySem.Within mA (fs.map (·.1))
  | .own _ => ∃ o, h.get? a = some o
  | .xd fs => ∃ mA, h.Ns1 a mA ∧ ∀ f, RelO (fs.lookup f) (mA f)
  | .rng lo hi => ∃ t u v, h.get? a = some { cls := .type "range", data := .fields #[.int lo t, .int hi u, .int 1 v] }
  | .frz o u => h.get? a = some o ∧ ObjOk H h a u
  | .tbl ps => h.get? a = some { cls := .none, data := .fields ps }
  | .met f x => h.get? a = some (PySem.W.methodObj (.ref f) (.ref x))
  | .ext φ => φ h ∧ (∃ o, h.get? a = some o) ∧ ∀ h1 h2 : Heap, φ h1 → (∀ o, h1.get? a = some o → h2.get? a = some o) → φ h2
/-- the abstract heap is held -/
def HOk (H : Hp) (h : Heap) : Prop := ∀ a o, H a = some o → ObjOk P w H h a o
end
section
variable {P : Program} {w : World} {H H' : Hp} {h h' : Heap} {a : Addr} {o : HO}
theorem ObjOk.lt (x : ObjOk P w H h a o) : a < h.objs.size := by
  cases o with
  | lst xs => obtain ⟨_, _, _, _, e⟩ := x; exact Heap.lt_size e
  | tup xs => obtain ⟨_, _, _, p⟩ := x; exact p.lt
  | dK kvs => obtain ⟨_, _, _, _, o, _, _, e, _⟩ := x; exact Heap.lt_size e
  | dT kvs => obtain ⟨_, _, _, _, o, _, _, e, _⟩ := x; exact Heap.lt_size e
  | set S n => obtain ⟨o, _, _, _, e, _⟩ := x; exact Heap.lt_size e
  | ins C dx fs => obtain ⟨_, _, _, e, _⟩ := x; exact Heap.lt_size e
  | own y => obtain ⟨_, e⟩ := x; exact Heap.lt_size e
  | xd fs => obtain ⟨_, ⟨_, _, _, e, _⟩, _⟩ := x; exact Heap.lt_size e
  | rng lo hi => obtain ⟨_, _, _, e⟩ := x; exact Heap.lt_size e
  | frz ob u => obtain ⟨e, _⟩ := x; exact Heap.lt_size e
  | tbl ps => exact Heap.lt_size (show h.get? a = some _ from x)
  | met f y => exact Heap.lt_size (show h.get? a = some _ from x)
  | ext φ => obtain ⟨_, ⟨_, e⟩, _⟩ := x; exact Heap.lt_size e
theorem Paired.mapP {α β : Type} {F G : α → β → Prop} : ∀ {l₁ : List α} {l₂ : List β}, Paired F l₁ l₂ → (∀ a b, F a b → G a b) → Paired G l₁ l₂
  | _, _, .nil, _ => .nil
  | _, _, .cons r t, f => .cons (f _ _ r) (Paired.mapP t f)
/-- what an object's description leans on: its own object, its own dict, the tuples -/
theorem ObjOk.stay (x : ObjOk P w H h a o) (k : ∀ b u, (b = a ∨ H b = some (.own a)) → h.get? b = some u → h'.get? b = some u)
    (ho : ∀ b, H b = some (.own a) → H' b = some (.own a)) (ht : ∀ b xs, H b = some (.tup xs) → H' b = some (.tup xs)) : ObjOk P w H' h' a o := by
  induction o with
  | lst xs => obtain ⟨z, its, n, r, e⟩ := x; exact ⟨z, its, n, r, k _ _ (.inl rfl) e⟩
  | tup xs => obtain ⟨z, its, r, ob, e, c⟩ := x; exact ⟨z, its, r, ob, k _ _ (.inl rfl) e, c⟩
  | dK kvs => obtain ⟨z, y, vs, r, ob, es, ep, e, c⟩ := x; exact ⟨z, y, vs, r, ob, es, ep, k _ _ (.inl rfl) e, c⟩
  | dT kvs =>
    obtain ⟨z, y, xs, r, ob, es, ep, e, c⟩ := x
    exact ⟨z, y, xs, Paired.mapP r fun p q z => ⟨z.1, ht _ _ z.2.1, z.2.2⟩, ob, es, ep, k _ _ (.inl rfl) e, c⟩
  | set S n => obtain ⟨ob, es, ep, t, e, c⟩ := x; exact ⟨ob, es, ep, t, k _ _ (.inl rfl) e, c⟩
  | ins C dx fs =>
    obtain ⟨d, z, ne, e, mA, ⟨od, es, ep, e2, c⟩, r⟩ := x
    exact ⟨ho _ d, z, ne, k _ _ (.inl rfl) e, mA, ⟨od, es, ep, k _ _ (.inr d) e2, c⟩, r⟩
  | own y => obtain ⟨ob, e⟩ := x; exact ⟨ob, k _ _ (.inl rfl) e⟩
  | xd fs => obtain ⟨mA, ⟨od, es, ep, e, c⟩, r⟩ := x; exact ⟨mA, ⟨od, es, ep, k _ _ (.inl rfl) e, c⟩, r⟩
  | rng lo hi => obtain ⟨t, u, v, e⟩ := x; exact ⟨t, u, v, k _ _ (.inl rfl) e⟩
  | frz ob u ih => obtain ⟨e, q⟩ := x; exact ⟨k _ _ (.inl rfl) e, ih q⟩
  | tbl ps =>
    have e : h.get? a = some { cls := .none, data := .fields ps } := x
    show h'.get? a = some { cls := .none, data := .fields ps }
    exact k a _ (.inl rfl) e
  | met f y =>
    have e : h.get? a = some (PySem.W.methodObj (.ref f) (.ref y)) := x
    show h'.get? a = some (PySem.W.methodObj (.ref f) (.ref y))
    exact k a _ (.inl rfl) e
  | ext φ => obtain ⟨p, ⟨o, e⟩, st⟩ := x; exact ⟨st _ _ p fun o q => k _ _ (.inl rfl) q, ⟨o, k _ _ (.inl rfl) e⟩, st⟩
theorem HOk.lt (x : HOk P w H h) (e : H a = some o) : a < h.objs.size := (x a o e).lt
theorem HOk.fresh (x : HOk P w H h) (e : h.objs.size ≤ a) : H a = none := by
  cases q : H a with
  | none => rfl
  | some u => exact absurd (Nat.lt_of_lt_of_le (x.lt q) e) (Nat.lt_irrefl _)
/-- every object of the heap is kept -/
theorem HOk.kept (x : HOk P w H h) (k : ∀ b u, h.get? b = some u → h'.get? b = some u) : HOk P w H h' := fun a o e =>
  (x a o e).stay (fun b u _ q => k b u q) (fun _ q => q) fun _ _ q => q
/-- a new object is laid and tracked -/
theorem HOk.laid (x : HOk P w H h) (k : ∀ b u, h.get? b = some u → h'.get? b = some u) (hp : h.objs.size ≤ a) (new : ObjOk P w (upd H a o) h' a o) : HOk P w (upd H a o) h' := fun b u e => by
  have hn := x.fresh hp
  by_cases hb : b = a
  · subst hb; rw [upd_same] at e; cases e; exact new
  · rw [upd_ne hb] at e
    exact (x b u e).stay (fun c v _ q => k c v q) (fun c q => by rw [upd_ne (ne_of_none q hn)]; exact q) fun c xs q => by rw [upd_ne (ne_of_none q hn)]; exact q
end
/-- what may be read as u: it is u, or a known u -/
def Rd (H : Hp) (a : Addr) (u : HO) : Prop := H a = some u ∨ ∃ o, H a = some (.frz o u)
theorem Rd.of {H : Hp} {a : Addr} {u : HO} (h : H a = some u) : Rd H a u := .inl h
theorem Rd.ok {P : Program} {w : World} {H : Hp} {h : Heap} {a : Addr} {u : HO} (r : Rd H a u) (x : HOk P w H h) : ObjOk P w H h a u := by
  rcases r with r | ⟨o, r⟩
  · exact x a u r
  · obtain ⟨_, q⟩ := x a _ r
    exact q
/-- what may be written -/
def Mut : Option HO → Prop
  | some (.lst _) => True
  | some (.dK _) => True
  | some (.dT _) => True
  | some (.set _ _) => True
  | some (.ins _ _ _) => True
  | some (.ext _) => True
  | _ => False
section
variable {P : Program} {w : World} {H : Hp} {h h' : Heap} {x e : Addr} {o' : HO}
/-- the object at e is changed: x itself, or the dict of the instance x -/
theorem HOk.write (ok : HOk P w H h) (mu : Mut (H x)) (he : e = x ∨ H e = some (.own x)) (k : ∀ b u, b ≠ e → h.get? b = some u → h'.get? b = some u) (heo : ∃ u, h'.get? e = some u)
    (new : ObjOk P w (upd H x o') h' x o') : HOk P w (upd H x o') h' := fun b u q => by
  have nown : ∀ c y, H c = some (.own y) → c ≠ x := fun c y r z => by subst z; rw [r] at mu; exact mu
  have ntup : ∀ c xs, H c = some (.tup xs) → c ≠ x := fun c xs r z => by subst z; rw [r] at mu; exact mu
  by_cases hb : b = x
  · subst hb; rw [upd_same] at q; cases q; exact new
  · rw [upd_ne hb] at q
    by_cases hbe : b = e
    · have q' : H b = some (.own x) := by
        rcases he with z | z
        · exact absurd (hbe.trans z) hb
        · rw [hbe]; exact z
      rw [q] at q'; cases q'
      obtain ⟨v, hv⟩ := heo
      exact ⟨v, by rw [hbe]; exact hv⟩
    · refine (ok b u q).stay (fun c v hc r => k c v ?_ r) (fun c r => by rw [upd_ne (nown c b r)]; exact r) fun c xs r => by rw [upd_ne (ntup c xs r)]; exact r
      rcases hc with rfl | hc
      · exact hbe
      · rintro rfl
        rcases he with z | z
        · exact nown c b hc z
        · rw [hc] at z; cases z; exact hb rfl
end
/-! ### kept unless tracked; of the frames at fs (the callers') the slots may change (an exception that passes writes there); of the records at ex (iterators) nothing is said -/
structure Un (fs ex : List Addr) (H H' : Hp) (h h' : Heap) : Prop where
  keep : ∀ b o, h.get? b = some o → H b = none → b ∉ fs → b ∉ ex → h'.get? b = some o
  slot : ∀ b o, h.get? b = some o → H b = none → b ∈ fs → b ∉ ex → ∃ sl, h'.get? b = some { o with slots := sl }
  free : ∀ b o, h.get? b = some o → H b = none → b ∉ ex → H' b = none
  there : ∀ b o, h.get? b = some o → b ∉ ex → ∃ o', h'.get? b = some o'
  tups : ∀ b xs, H b = some (.tup xs) → H' b = some (.tup xs)
  frzs : ∀ b o u, H b = some (.frz o u) → H' b = some (.frz o u)
  tbls : ∀ b ps, H b = some (.tbl ps) → ∃ more, H' b = some (.tbl (ps ++ more))
section
variable {fs fs' ex ex' : List Addr} {H H1 H2 : Hp} {h h1 h2 h' : Heap} {a x e : Addr} {o : HO}
theorem Un.any (u : Un fs ex H H1 h h1) {b : Addr} {ob : Obj} (q : h.get? b = some ob) (n : H b = none) (hx : b ∉ ex) : ∃ sl, h1.get? b = some { ob with slots := sl } := by
  by_cases hb : b ∈ fs
  · exact u.slot b ob q n hb hx
  · exact ⟨ob.slots, u.keep b ob q n hb hx⟩
theorem Un.trans (a : Un fs ex H H1 h h1) (b : Un fs ex H1 H2 h1 h2) : Un fs ex H H2 h h2 where
  keep := fun c ob q n hc hx => b.keep c ob (a.keep c ob q n hc hx) (a.free c ob q n hx) hc hx
  slot := fun c ob q n hc hx => by
    obtain ⟨sl, e1⟩ := a.slot c ob q n hc hx
    obtain ⟨sl', e2⟩ := b.slot c _ e1 (a.free c ob q n hx) hc hx
    exact ⟨sl', e2⟩
  free := fun c ob q n hx => by
    obtain ⟨o', e1⟩ := a.there c ob q hx
    exact b.free c o' e1 (a.free c ob q n hx) hx
  there := fun c ob q hx => by
    obtain ⟨o', e1⟩ := a.there c ob q hx
    exact b.there c o' e1 hx
  tups := fun c xs q => b.tups c xs (a.tups c xs q)
  frzs := fun c ob xs q => b.frzs c ob xs (a.frzs c ob xs q)
  tbls := fun c ps q => by
    obtain ⟨m1, e1⟩ := a.tbls c ps q
    obtain ⟨m2, e2⟩ := b.tbls c _ e1
    exact ⟨m1 ++ m2, by rw [e2, Array.append_assoc]⟩
theorem Un.kept (k : ∀ b u, h.get? b = some u → h'.get? b = some u) : Un fs ex H H h h' :=
  ⟨fun b ob q _ _ _ => k b ob q, fun b ob q _ _ _ => ⟨ob.slots, k b ob q⟩, fun _ _ _ n _ => n, fun b ob q _ => ⟨ob, k b ob q⟩, fun _ _ q => q, fun _ _ _ q => q, fun _ ps q => ⟨#[], by rw [q]; simp⟩⟩
theorem Un.refl : Un fs ex H H h h := Un.kept fun _ _ q => q
theorem Un.laid (k : ∀ b u, h.get? b = some u → h'.get? b = some u) (hp : h.objs.size ≤ a) (hn : H a = none) : Un fs ex H (upd H a o) h h' where
  keep := fun b u q _ _ _ => k b u q
  slot := fun b u q _ _ _ => ⟨u.slots, k b u q⟩
  free := fun b u q n _ => by rw [upd_ne (Nat.ne_of_lt (Nat.lt_of_lt_of_le (Heap.lt_size q) hp))]; exact n
  there := fun b u q _ => ⟨u, k b u q⟩
  tups := fun b xs q => by rw [upd_ne (ne_of_none q hn)]; exact q
  frzs := fun b u xs q => by rw [upd_ne (ne_of_none q hn)]; exact q
  tbls := fun b ps q => ⟨#[], by rw [upd_ne (ne_of_none q hn), q]; simp⟩
theorem Un.write (mu : Mut (H x)) (he : e = x ∨ H e = some (.own x)) (k : ∀ b u, b ≠ e → h.get? b = some u → h'.get? b = some u) (heo : ∃ u, h'.get? e = some u) : Un fs ex H (upd H x o) h h' := by
  have hx : ∀ b, H b = none → b ≠ x := fun b n z => by subst z; rw [n] at mu; exact mu
  have hb : ∀ b, H b = none → b ≠ e := fun b n z => by
    subst z
    rcases he with r | r
    · exact hx b n r
    · rw [n] at r; cases r
  have hm : ∀ b u, H b = some u → ¬ Mut (some u) → b ≠ x := fun b u q nm z => by subst z; rw [q] at mu; exact nm mu
  refine ⟨fun b u q n _ _ => k b u (hb b n) q, fun b u q n _ _ => ⟨u.slots, k b u (hb b n) q⟩, fun b u q n _ => by rw [upd_ne (hx b n)]; exact n, fun b u q _ => ?_,
    fun b xs q => by rw [upd_ne (hm b _ q fun z => z)]; exact q, fun b u xs q => by rw [upd_ne (hm b _ q fun z => z)]; exact q, fun b ps q => ⟨#[], by rw [upd_ne (hm b _ q fun z => z), q]; simp⟩⟩
  by_cases hbe : b = e
  · subst hbe; exact heo
  · exact ⟨u, k b u hbe q⟩
theorem Un.mono (u : Un fs ex H H1 h h1) (hs : ∀ b ∈ fs, b ∈ fs') (hx : ∀ b ∈ ex, b ∈ ex') : Un fs' ex' H H1 h h1 :=
  ⟨fun b ob q n hb he => u.keep b ob q n (fun z => hb (hs b z)) fun z => he (hx b z), fun _ _ q n _ he => u.any q n fun z => he (hx _ z), fun b ob q n he => u.free b ob q n fun z => he (hx b z), fun b ob q he => u.there b ob q fun z => he (hx b z), u.tups, u.frzs, u.tbls⟩
end
/-! ### the heap without what is tracked -/
def trk (h : Heap) (H : Hp) : List Addr := (List.range h.objs.size).filter fun a => (H a).isSome
def hidT (h : Heap) (H : Hp) : Heap := PySem.W.hideAll h (trk h H)
theorem hidT_size (h : Heap) (H : Hp) : (hidT h H).objs.size = h.objs.size := PySem.W.hideAll_size _ _
theorem hidT_get {h : Heap} {H : Hp} {b : Addr} {o : Obj} (e : h.get? b = some o) (n : H b = none) : (hidT h H).get? b = some o :=
  PySem.W.hideAll_get _ e fun hm => by
    have q : (H b).isSome = true := (List.mem_filter.mp hm).2
    rw [n] at q; simp at q
theorem of_hidT {h : Heap} {H : Hp} {b : Addr} {o : Obj} (e : (hidT h H).get? b = some o) : h.get? b = some o ∧ H b = none := by
  have e' : h.get? b = some o := PySem.W.of_hideAll (trk h H) e
  refine ⟨e', ?_⟩
  cases q : H b with
  | none => rfl
  | some x =>
    have hm : b ∈ trk h H := List.mem_filter.mpr ⟨List.mem_range.mpr (Heap.lt_size e'), by simp [q]⟩
    have z : (hidT h H).get? b = none := PySem.W.hideAll_none (trk h H) hm
    rw [z] at e; cases e
/-! ### OpenK's ledger, filled with every new object but one -/
def allNews (g h : Heap) (L : Addr) : List (Addr × Obj) := (List.range h.objs.size).filterMap fun a => if a = L ∨ (g.get? a).isSome = true then none else (h.get? a).map fun o => (a, o)
def rest (g h : Heap) (L d : Addr) : List (Addr × Obj) := (allNews g h L).filter fun p => decide (p.1 ≠ d)
end L2
namespace L2
open PySem PySem.Spec PyProof.Rows
/-- the module's facts, over the base: the heap at the law's entry without what is tracked there -/
structure Mod (K : PySem.W.Frag) (mg : Str → Option Value) (base : Heap) : Prop where
  kin : K.In base
  glob : base.Ns mainGlobals mg
  blt : ∃ mb, base.Ns builtinsNs mb ∧ ∀ x : Str, x ≠ "__name__" → mb x = bootBuiltins x
  nolimit : base.NoLimit
/-- the context: a def's body (or a comprehension's block) running. base: fixed through the whole law; s₀, H₀: the entry; outer: the frames whose slots others may change (a def's callers); stack: all frames that run;
   ex: iterators that were made ahead of the entry and are walked here (a comprehension's); fn: the names whose cells were made at the entry (a def: all; a comprehension's block: its own); calm: not within an except suite; pn: pins that every state bears; xe: what is wanted of an exception that leaves the code -/
structure Cx where
  prog : Program
  w : World
  K : PySem.W.Frag
  mg : Str → Option Value
  base : Heap
  A : Around
  N : List Str
  s₀ : Shared
  H₀ : Hp
  env : Env
  outer : List Env
  stack : List Env
  ex : List Addr
  fn : Str → Bool
  calm : Bool
  pn : List (Addr × Obj)
  xe : Value → Shared → Prop
/-- the callers' frames -/
def frs (l : List Env) : List Addr := l.filterMap (·.frame)
abbrev Cx.fs (X : Cx) : List Addr := frs X.outer
def Vis (sc : Scope) (x : Str) : Prop := sc.names.lookup x = some .local ∨ sc.names.lookup x = some .cell ∨ sc.names.lookup x = some .free
def Loc (sc : Scope) (x : Str) : Prop := sc.names.lookup x = some .local ∨ sc.names.lookup x = some .cell
def Look (env : Env) (h : Heap) (m : Str → Option Value) (x : Str) (u : Value) : Prop :=
  (env.kindOf x = some .local ∧ m x = some u) ∨ ((env.kindOf x = some .cell ∨ env.kindOf x = some .free) ∧ ∃ c, env.cells.lookup x = some c ∧ h.IsCell c (some u))
structure Cx.Ok (X : Cx) : Prop where
  mod : Mod X.K X.mg X.base
  kind : X.env.scope.kind = .function
  glob : X.env.globals = mainGlobals
  blt : X.env.builtins = builtinsNs
  above : X.s₀.heap.objs.size ≤ X.env.locals
  inj : ∀ x y c, X.env.cells.lookup x = some c → X.env.cells.lookup y = some c → x = y
  has : ∀ x, (X.env.kindOf x = some .cell ∨ X.env.kindOf x = some .free) → ∃ c, X.env.cells.lookup x = some c
  cab : ∀ x c, X.fn x = true → X.env.cells.lookup x = some c → X.s₀.heap.objs.size ≤ c
  hd : X.calm = true → X.A.handled = none
  frames : X.A.frames = some X.stack
  stk : X.stack = X.outer ∨ (X.stack = X.env :: X.outer ∧ X.env.frame = some X.env.locals)
  exf : ∀ b ∈ X.ex, b ≠ X.env.locals ∧ ∀ x c, X.env.cells.lookup x = some c → c ≠ b
  bs : ∀ b o, X.base.get? b = some o → X.s₀.heap.get? b = some o ∧ X.H₀ b = none
  bsz : X.base.objs.size ≤ X.s₀.heap.objs.size
  noex : ∀ b o, X.base.get? b = some o → b ∉ X.ex
  exfs : ∀ b ∈ X.ex, b ∉ X.fs
  funs : X.s₀.heap.FunFrames X.base X.outer
  frf : ∀ b ∈ X.fs, X.H₀ b = none
structure Inv (X : Cx) (pins : List (Addr × Obj)) (σ : List (Option V)) (H : Hp) (s : Shared) : Prop where
  ok : X.Ok
  os : s.os = X.s₀.os
  bare : AllBare s.gens
  base : Un X.fs X.ex X.H₀ H X.s₀.heap s.heap
  loc : ∃ m, s.heap.Ns X.env.locals m ∧ ∀ (i : Nat) (x : Str) (v : V), X.N[i]? = some x → σ[i]? = some (some v) → Vis X.env.scope x → ∃ u, RelV v u ∧ Look X.env s.heap m x u
  cell : ∀ x c, X.env.cells.lookup x = some c → ∃ v, s.heap.IsCell c v
  free : H X.env.locals = none
  freeC : ∀ x c, X.env.cells.lookup x = some c → H c = none
  pin : ∀ p ∈ X.pn ++ pins, s.heap.get? p.1 = some p.2 ∧ H p.1 = none ∧ p.1 ≠ X.env.locals ∧ p.1 ∉ X.fs ∧ ∀ v, p.2.data ≠ .cell v
  hok : HOk X.prog X.w H s.heap
  len : σ.length = X.N.length
section
variable {X : Cx} {pins : List (Addr × Obj)} {σ : List (Option V)} {H H' : Hp} {s : Shared} {h' : Heap}
theorem Cx.Ok.nofr (ok : X.Ok) {b : Addr} {o : Obj} (e : X.base.get? b = some o) : b ∉ X.fs := fun hb => by
  have := (ok.funs.mem hb).1
  rw [e] at this; cases this
theorem Inv.bs (I : Inv X pins σ H s) : ∀ b o, X.base.get? b = some o → s.heap.get? b = some o ∧ H b = none := fun b o e =>
  ⟨I.base.keep b o (I.ok.bs b o e).1 (I.ok.bs b o e).2 (I.ok.nofr e) (I.ok.noex b o e), I.base.free b o (I.ok.bs b o e).1 (I.ok.bs b o e).2 (I.ok.noex b o e)⟩
theorem Inv.bk (I : Inv X pins σ H s) : ∀ b o, X.base.get? b = some o → s.heap.get? b = some o := fun b o e => (I.bs b o e).1
theorem Inv.mod (I : Inv X pins σ H s) : Mod X.K X.mg X.base := I.ok.mod
theorem Inv.kIn (I : Inv X pins σ H s) : X.K.In s.heap := I.ok.mod.kin.keeps I.bk
theorem Inv.nolimit (I : Inv X pins σ H s) : s.heap.NoLimit := I.ok.mod.nolimit.keeps I.bk
/-- the frame over the base: for OpenK's rules (K.In X.base is I.mod.kin) -/
theorem Inv.fr (I : Inv X pins σ H s) : ∃ m, Fr X.base X.env.locals s.heap m :=
  let ⟨m, hn, _⟩ := I.loc
  ⟨m, hn, I.bk, Nat.le_trans I.ok.bsz I.ok.above⟩
theorem Inv.lt (I : Inv X pins σ H s) : X.env.locals < s.heap.objs.size := let ⟨_, hn, _⟩ := I.loc; hn.lt
theorem Inv.sz (I : Inv X pins σ H s) : X.s₀.heap.objs.size ≤ s.heap.objs.size := Nat.le_trans I.ok.above (Nat.le_of_lt I.lt)
theorem Inv.nofs (I : Inv X pins σ H s) {a : Addr} (h : s.heap.objs.size ≤ a) : a ∉ X.fs := fun hb => by
  obtain ⟨_, o, ho, _⟩ := I.ok.funs.mem hb
  exact absurd (Nat.lt_of_lt_of_le (Heap.lt_size ho) (Nat.le_trans I.sz h)) (Nat.lt_irrefl _)
theorem Inv.cne (I : Inv X pins σ H s) : ∀ x c, X.env.cells.lookup x = some c → c ≠ X.env.locals := fun x c e z => by
  obtain ⟨v, o, ho, hd⟩ := I.cell x c e
  obtain ⟨m, ⟨o', es, ep, ho', hd', _⟩, _⟩ := I.loc
  rw [z, ho'] at ho; cases ho; rw [hd'] at hd; cases hd
theorem Inv.funs (I : Inv X pins σ H s) : s.heap.FunFrames X.base X.outer := by
  have all : ∀ (l : List Env), (∀ b ∈ frs l, b ∈ X.fs) → X.s₀.heap.FunFrames X.base l → s.heap.FunFrames X.base l := by
    intro l
    induction l with
    | nil => intro _ _; trivial
    | cons env r ih =>
      intro hs hl
      obtain ⟨hk, ⟨L, o, hf, hn, ho, hd⟩, hr⟩ := hl
      have hL : L ∈ X.fs := hs L (by unfold frs; rw [List.filterMap_cons, hf]; exact List.mem_cons_self)
      obtain ⟨sl, e⟩ := I.base.slot L o ho (I.ok.frf L hL) hL fun z => I.ok.exfs L z hL
      exact ⟨hk, ⟨L, _, hf, hn, e, hd⟩, ih (fun b hb => hs b (by unfold frs; rw [List.filterMap_cons, hf]; exact List.mem_cons_of_mem _ hb)) hr⟩
  exact all X.outer (fun _ hb => hb) I.ok.funs
/-- the frames that run, for a call -/
theorem Inv.stack (I : Inv X pins σ H s) : s.heap.FunFrames X.base X.stack := by
  rcases I.ok.stk with e | ⟨e, hf⟩
  · rw [e]; exact I.funs
  · rw [e]
    obtain ⟨m, hn, _⟩ := I.loc
    refine .cons (by rw [I.ok.kind]; decide) hf hn ?_ I.funs
    exact Heap.get?_none_of_le (Nat.le_trans I.ok.bsz I.ok.above)
theorem Inv.stkSub (I : Inv X pins σ H s) : ∀ b ∈ frs X.stack, b ∈ X.env.locals :: X.fs := fun b hb => by
  rcases I.ok.stk with e | ⟨e, hf⟩
  · rw [e] at hb; exact List.mem_cons_of_mem _ hb
  · rw [e] at hb
    unfold frs at hb
    rw [List.filterMap_cons, hf] at hb
    exact hb
theorem Inv.stkFree (I : Inv X pins σ H s) : ∀ b ∈ frs X.stack, H b = none := fun b hb => by
  rcases List.mem_cons.mp (I.stkSub b hb) with e | hb
  · rw [e]; exact I.free
  · obtain ⟨_, o, ho, _⟩ := I.ok.funs.mem hb
    exact I.base.free b o ho (I.ok.frf b hb) fun z => I.ok.exfs b z hb
/-- THE STEP: the untracked objects but the frame and the records at ch are kept (the callers' frames up to slots), the frame's map is kept, the new abstract heap is held -/
theorem Inv.step {g' : Array GenState} {t' : Nat} {d' : Drawn} {ch : List Addr} (I : Inv X pins σ H s)
    (hch : ∀ b ∈ ch, (b ∈ X.ex ∨ X.s₀.heap.objs.size ≤ b) ∧ b ≠ X.env.locals ∧ (∀ x c, X.env.cells.lookup x = some c → c ≠ b) ∧ ∀ p ∈ X.pn ++ pins, p.1 ≠ b)
    (keep : ∀ b o, b ≠ X.env.locals → b ∉ X.fs → b ∉ ch → s.heap.get? b = some o → H b = none → h'.get? b = some o)
    (slot : ∀ b o, b ≠ X.env.locals → b ∈ X.fs → b ∉ ch → s.heap.get? b = some o → H b = none → ∃ sl, h'.get? b = some { o with slots := sl }) (free : ∀ b o, b ∉ ch → s.heap.get? b = some o → H b = none → H' b = none)
    (there : ∀ b o, b ∉ ch → s.heap.get? b = some o → ∃ o', h'.get? b = some o')
    (tups : ∀ b xs, H b = some (.tup xs) → H' b = some (.tup xs)) (frzs : ∀ b o u, H b = some (.frz o u) → H' b = some (.frz o u)) (tbls : ∀ b ps, H b = some (.tbl ps) → ∃ more, H' b = some (.tbl (ps ++ more)))
    (ns : ∀ m, s.heap.Ns X.env.locals m → h'.Ns X.env.locals m) (hok : HOk X.prog X.w H' h') (hg : AllBare g') :
    Inv X pins σ H' { s with heap := h', gens := g', drawn := d', toks := t' } := by
  have neL : ∀ b o, X.s₀.heap.get? b = some o → b ≠ X.env.locals := fun b o e => Nat.ne_of_lt (Nat.lt_of_lt_of_le (Heap.lt_size e) I.ok.above)
  have neC : ∀ b o, X.s₀.heap.get? b = some o → b ∉ X.ex → b ∉ ch := fun b o e hx hb => by
    rcases (hch b hb).1 with z | z
    · exact hx z
    · exact absurd (Nat.lt_of_lt_of_le (Heap.lt_size e) z) (Nat.lt_irrefl _)
  have cellK : ∀ x c, X.env.cells.lookup x = some c → ∀ v, s.heap.IsCell c v → h'.IsCell c v := fun x c e v ⟨o, ho, hd⟩ => by
    have nch : c ∉ ch := fun z => (hch c z).2.2.1 x c e rfl
    by_cases hc : c ∈ X.fs
    · obtain ⟨sl, q⟩ := slot c o (I.cne x c e) hc nch ho (I.freeC x c e)
      exact ⟨_, q, hd⟩
    · exact ⟨o, keep c o (I.cne x c e) hc nch ho (I.freeC x c e), hd⟩
  refine ⟨I.ok, I.os, hg, ⟨fun b o e n hb hx => ?_, fun b o e n hb hx => ?_, fun b o e n hx => ?_, fun b o e hx => ?_, fun b xs e => tups b xs (I.base.tups b xs e), fun b o xs e => frzs b o xs (I.base.frzs b o xs e), fun b ps e => ?_⟩, ?_, fun x c e => ?_, ?_, fun x c e => ?_, fun p hp => ?_, hok, I.len⟩
  · exact keep b o (neL b o e) hb (neC b o e hx) (I.base.keep b o e n hb hx) (I.base.free b o e n hx)
  · obtain ⟨sl, e1⟩ := I.base.slot b o e n hb hx
    obtain ⟨sl', e2⟩ := slot b _ (neL b o e) hb (neC b o e hx) e1 (I.base.free b o e n hx)
    exact ⟨sl', e2⟩
  · obtain ⟨o', e1⟩ := I.base.there b o e hx
    exact free b o' (neC b o e hx) e1 (I.base.free b o e n hx)
  · obtain ⟨o', e1⟩ := I.base.there b o e hx
    exact there b o' (neC b o e hx) e1
  · obtain ⟨m1, e1⟩ := I.base.tbls b ps e
    obtain ⟨m2, e2⟩ := tbls b _ e1
    exact ⟨m1 ++ m2, by rw [e2, Array.append_assoc]⟩
  · obtain ⟨m, hn, hl⟩ := I.loc
    refine ⟨m, ns m hn, fun i x v e1 e2 e3 => ?_⟩
    obtain ⟨u, r, l⟩ := hl i x v e1 e2 e3
    refine ⟨u, r, ?_⟩
    rcases l with l | ⟨k, c, e, z⟩
    · exact .inl l
    · exact .inr ⟨k, c, e, cellK x c e _ z⟩
  · obtain ⟨v, z⟩ := I.cell x c e
    exact ⟨v, cellK x c e v z⟩
  · obtain ⟨m, ⟨o, _, _, ho, _⟩, _⟩ := I.loc
    exact free _ o (fun z => (hch _ z).2.1 rfl) ho I.free
  · obtain ⟨v, o, ho, hd⟩ := I.cell x c e
    exact free c o (fun z => (hch c z).2.2.1 x c e rfl) ho (I.freeC x c e)
  · obtain ⟨e, n, ne, nf, d⟩ := I.pin p hp
    have nch : p.1 ∉ ch := fun z => (hch p.1 z).2.2.2 p hp rfl
    exact ⟨keep p.1 p.2 ne nf nch e n, free p.1 p.2 nch e n, ne, nf, d⟩
/-- .. where the frame's own object is kept too -/
theorem Inv.un {t' : Nat} (I : Inv X pins σ H s) (u : Un X.fs [] H H' s.heap h') (hok : HOk X.prog X.w H' h') : Inv X pins σ H' { s with heap := h', toks := t' } := by
  obtain ⟨m, ⟨o, es, ep, ho, r⟩, _⟩ := id I.loc
  obtain ⟨sl, hL⟩ := u.any ho I.free (by simp)
  exact I.step (g' := s.gens) (d' := s.drawn) (ch := []) (fun _ z => nomatch z) (fun b o _ hb _ e n => u.keep b o e n hb (by simp)) (fun b o _ hb _ e n => u.slot b o e n hb (by simp)) (fun b o _ e n => u.free b o e n (by simp)) (fun b o _ e => u.there b o e (by simp)) u.tups u.frzs u.tbls (fun m' hm => by
    obtain ⟨o', es', ep', ho', r'⟩ := hm
    rw [ho] at ho'; cases ho'
    exact ⟨_, es', ep', hL, r'⟩) hok I.bare
/-- behind a call (or a comprehension's block): the slots of this frame may have changed too, the records at ch may have turned -/
theorem Inv.call {g' : Array GenState} {t' : Nat} {d' : Drawn} {ch : List Addr} (I : Inv X pins σ H s) (u : Un (frs X.stack) ch H H' s.heap h') (hok : HOk X.prog X.w H' h') (hg : AllBare g')
    (hch : ∀ b ∈ ch, (b ∈ X.ex ∨ X.s₀.heap.objs.size ≤ b) ∧ b ≠ X.env.locals ∧ (∀ x c, X.env.cells.lookup x = some c → c ≠ b) ∧ ∀ p ∈ X.pn ++ pins, p.1 ≠ b) :
    Inv X pins σ H' { s with heap := h', gens := g', drawn := d', toks := t' } := by
  obtain ⟨m, ⟨o, es, ep, ho, r⟩, _⟩ := id I.loc
  obtain ⟨sl, hL⟩ := u.any ho I.free fun z => (hch _ z).2.1 rfl
  exact I.step (ch := ch) hch (fun b o hL hb hc e n => u.keep b o e n (fun z => (List.mem_cons.mp (I.stkSub b z)).elim hL hb) hc) (fun b o _ _ hc e n => u.any e n hc) (fun b o hc e n => u.free b o e n hc) (fun b o hc e => u.there b o e hc) u.tups u.frzs u.tbls (fun m' hm => by
    obtain ⟨o', es', ep', ho', r'⟩ := hm
    rw [ho] at ho'; cases ho'
    exact ⟨_, es', ep', hL, r'⟩) hok hg
/-- an untracked record of ours (an iterator) has turned -/
theorem Inv.turned {t' : Nat} {it : Addr} (I : Inv X pins σ H s) (k : ∀ b o, b ≠ it → s.heap.get? b = some o → h'.get? b = some o) (hn : H it = none) (hL : it ≠ X.env.locals)
    (h1 : it ∈ X.ex ∨ X.s₀.heap.objs.size ≤ it) (h2 : ∀ x c, X.env.cells.lookup x = some c → c ≠ it) (h3 : ∀ p ∈ X.pn ++ pins, p.1 ≠ it) : Inv X pins σ H { s with heap := h', toks := t' } := by
  have nit : ∀ b u, H b = some u → b ≠ it := fun b u e z => by rw [z, hn] at e; cases e
  refine I.step (g' := s.gens) (d' := s.drawn) (ch := [it]) (fun b hb => ?_) (fun b o _ _ hc e _ => k b o (fun z => hc (by simp [z])) e) (fun b o _ _ hc e _ => ⟨o.slots, k b o (fun z => hc (by simp [z])) e⟩) (fun _ _ _ _ n => n)
    (fun b o hc e => ⟨o, k b o (fun z => hc (by simp [z])) e⟩) (fun _ _ e => e) (fun _ _ _ e => e) (fun b ps e => ⟨#[], by rw [e]; simp⟩) (fun m hm => ?_) (fun b u e => ?_) I.bare
  · have e : b = it := by simpa using hb
    subst e
    exact ⟨h1, hL, h2, h3⟩
  · obtain ⟨o, es, ep, ho, r⟩ := hm
    exact ⟨o, es, ep, k _ o (Ne.symm hL) ho, r⟩
  · refine (I.hok b u e).stay (fun c v hc q => k c v ?_ q) (fun _ q => q) fun _ _ q => q
    rcases hc with z | z
    · rw [z]; exact nit b u e
    · exact nit c _ z
theorem Inv.tok (I : Inv X pins σ H s) (t : Nat) : Inv X pins σ H { s with toks := t } := I.un (h' := s.heap) (t' := t) Un.refl I.hok
/-- all objects kept -/
theorem Inv.kept {t' : Nat} (I : Inv X pins σ H s) (k : ∀ b u, s.heap.get? b = some u → h'.get? b = some u) : Inv X pins σ H { s with heap := h', toks := t' } := I.un (Un.kept k) (I.hok.kept k)
/-- a new object laid and tracked -/
theorem Inv.laid {a : Addr} {o : HO} {t' : Nat} (I : Inv X pins σ H s) (k : ∀ b u, s.heap.get? b = some u → h'.get? b = some u) (hp : s.heap.objs.size ≤ a) (new : ObjOk X.prog X.w (upd H a o) h' a o) :
    Inv X pins σ (upd H a o) { s with heap := h', toks := t' } := I.un (Un.laid k hp (I.hok.fresh hp)) (I.hok.laid k hp new)
/-- an object written -/
theorem Inv.write {x e : Addr} {o : HO} {t' : Nat} (I : Inv X pins σ H s) (mu : Mut (H x)) (he : e = x ∨ H e = some (.own x)) (k : ∀ b u, b ≠ e → s.heap.get? b = some u → h'.get? b = some u) (heo : ∃ u, h'.get? e = some u)
    (new : ObjOk X.prog X.w (upd H x o) h' x o) : Inv X pins σ (upd H x o) { s with heap := h', toks := t' } := I.un (Un.write mu he k heo) (I.hok.write mu he k heo new)
theorem Inv.pins_of {pins' : List (Addr × Obj)} (I : Inv X pins σ H s) (h : ∀ p ∈ pins', s.heap.get? p.1 = some p.2 ∧ H p.1 = none ∧ p.1 ≠ X.env.locals ∧ p.1 ∉ X.fs ∧ ∀ v, p.2.data ≠ .cell v) : Inv X pins' σ H s :=
  ⟨I.ok, I.os, I.bare, I.base, I.loc, I.cell, I.free, I.freeC, fun p hp => (List.mem_append.mp hp).elim (fun z => I.pin p (List.mem_append_left _ z)) (h p), I.hok, I.len⟩
theorem nodup_ix {N : List Str} (hN : N.Nodup) {i j : Nat} {x : Str} (a : N[i]? = some x) (b : N[j]? = some x) : i = j := by
  obtain ⟨h1, e1⟩ := List.getElem?_eq_some_iff.mp a
  obtain ⟨h2, e2⟩ := List.getElem?_eq_some_iff.mp b
  exact (List.getElem_inj hN).mp (e1.trans e2.symm)
/-- a name is stored; what changed -/
theorem store_ok2 {M : Model} {A : Around} {E : Value → Shared → Prop} {i : Nat} {x : Str} {v : V} {u : Value} {Q : Unit → Shared → Prop} (I : Inv X pins σ H s) (hN : X.N.Nodup) (hi : X.N[i]? = some x) (hx : Loc X.env.scope x) (r : RelV v u)
    (h : ∀ s', Inv X pins (σ.set i (some v)) H s' → (∃ a, Heap.SameBut a s.heap s'.heap ∧ (a = X.env.locals ∨ X.env.cells.lookup x = some a)) → Q () s') (hf : X.fn x = true ∨ X.env.scope.names.lookup x = some .local := by first | exact .inl rfl | exact .inr rfl | assumption) : wpAny M A (storeName X.env x u) Q E s := by
  obtain ⟨m, hn, hl⟩ := id I.loc
  have hcls : (X.env.scope.kind == .class || (X.env.scope.kind == .module && X.env.locals != X.env.globals)) = false := by rw [I.ok.kind]; rfl
  have hiσ : i < σ.length := by rw [I.len]; exact (List.getElem?_eq_some_iff.mp hi).1
  have cne := I.cne
  have tracked : ∀ {a : Addr} {h' : Heap}, (∃ o, s.heap.get? a = some o ∧ H a = none) → Heap.SameBut a s.heap h' → HOk X.prog X.w H h' := fun {a h'} ha hs b ob e => by
    obtain ⟨_, _, hfree⟩ := ha
    refine (I.hok b ob e).stay (fun c w' hc q => (hs.2 c ?_).trans q) (fun _ q => q) fun _ _ q => q
    rintro rfl
    rcases hc with rfl | hc
    · rw [hfree] at e; cases e
    · rw [hfree] at hc; cases hc
  rcases hx with hk | hk
  · refine wpAny_storeName_local hk hn (fun h' hn' hs => ?_) hcls
    obtain ⟨oL, _, _, hoL, _⟩ := id hn
    refine h _ ⟨I.ok, I.os, I.bare, ⟨fun b o e n hb hx => ?_, fun b o e n hb hx => ?_, I.base.free, fun b o e hx => ?_, I.base.tups, I.base.frzs, I.base.tbls⟩, ⟨_, hn', fun j y v' e1 e2 e3 => ?_⟩, fun y c e => ?_, I.free, I.freeC, fun p hp => ?_, tracked ⟨oL, hoL, I.free⟩ hs, by simpa using I.len⟩ ⟨_, hs, .inl rfl⟩
    · exact (hs.2 b (Nat.ne_of_lt (Nat.lt_of_lt_of_le (Heap.lt_size e) I.ok.above))).trans (I.base.keep b o e n hb hx)
    · obtain ⟨sl, e1⟩ := I.base.slot b o e n hb hx
      exact ⟨sl, (hs.2 b (Nat.ne_of_lt (Nat.lt_of_lt_of_le (Heap.lt_size e) I.ok.above))).trans e1⟩
    · obtain ⟨o', e1⟩ := I.base.there b o e hx
      exact ⟨o', (hs.2 b (Nat.ne_of_lt (Nat.lt_of_lt_of_le (Heap.lt_size e) I.ok.above))).trans e1⟩
    · by_cases hj : j = i
      · subst hj
        rw [hi] at e1; cases e1
        rw [List.getElem?_set_self hiσ] at e2
        cases e2
        exact ⟨u, r, .inl ⟨hk, by simp⟩⟩
      · rw [List.getElem?_set_ne (Ne.symm hj)] at e2
        obtain ⟨u', r', q⟩ := hl j y v' e1 e2 e3
        refine ⟨u', r', ?_⟩
        rcases q with ⟨k, e⟩ | ⟨k, c, e, z⟩
        · refine .inl ⟨k, ?_⟩
          have : y ≠ x := fun e => hj (nodup_ix hN e1 (e ▸ hi))
          simp [this, e]
        · exact .inr ⟨k, c, e, z.sameBut hs (cne y c e)⟩
    · obtain ⟨w', z⟩ := I.cell y c e
      exact ⟨w', z.sameBut hs (cne y c e)⟩
    · obtain ⟨e, n, ne, nf, d⟩ := I.pin p hp
      exact ⟨(hs.2 p.1 ne).trans e, n, ne, nf, d⟩
  · have hfn : X.fn x = true := by
      rcases hf with z | z
      · exact z
      · rw [z] at hk; cases hk
    obtain ⟨c, hc⟩ := I.ok.has x (.inl hk)
    obtain ⟨w', z⟩ := I.cell x c hc
    refine wpAny_storeName_cell I.ok.kind hk hc z (fun h' hc' hs => ?_)
    obtain ⟨oc, hoc, hocd⟩ := id z
    refine h { s with heap := h' } ⟨I.ok, I.os, I.bare, ⟨fun b o e n hb hx => ?_, fun b o e n hb hx => ?_, I.base.free, fun b o e hx => ?_, I.base.tups, I.base.frzs, I.base.tbls⟩, ⟨m, hn.sameBut hs (Ne.symm (cne x c hc)), fun j y v' e1 e2 e3 => ?_⟩, fun y c' e => ?_, I.free, I.freeC, fun p hp => ?_, tracked ⟨oc, hoc, I.freeC x c hc⟩ hs, by simpa using I.len⟩ ⟨c, hs, .inr hc⟩
    · exact (hs.2 b (Nat.ne_of_lt (Nat.lt_of_lt_of_le (Heap.lt_size e) (I.ok.cab x c hfn hc)))).trans (I.base.keep b o e n hb hx)
    · obtain ⟨sl, e1⟩ := I.base.slot b o e n hb hx
      exact ⟨sl, (hs.2 b (Nat.ne_of_lt (Nat.lt_of_lt_of_le (Heap.lt_size e) (I.ok.cab x c hfn hc)))).trans e1⟩
    · obtain ⟨o', e1⟩ := I.base.there b o e hx
      exact ⟨o', (hs.2 b (Nat.ne_of_lt (Nat.lt_of_lt_of_le (Heap.lt_size e) (I.ok.cab x c hfn hc)))).trans e1⟩
    · by_cases hj : j = i
      · subst hj
        rw [hi] at e1; cases e1
        rw [List.getElem?_set_self hiσ] at e2
        cases e2
        exact ⟨u, r, .inr ⟨.inl hk, c, hc, hc'⟩⟩
      · rw [List.getElem?_set_ne (Ne.symm hj)] at e2
        obtain ⟨u', r', q⟩ := hl j y v' e1 e2 e3
        refine ⟨u', r', ?_⟩
        rcases q with q | ⟨k, c', e, z'⟩
        · exact .inl q
        · refine .inr ⟨k, c', e, z'.sameBut hs ?_⟩
          rintro rfl
          exact hj (nodup_ix hN e1 (I.ok.inj _ _ _ e hc ▸ hi))
    · by_cases hcc : c' = c
      · subst hcc; exact ⟨_, hc'⟩
      · obtain ⟨w2, z2⟩ := I.cell y c' e
        exact ⟨w2, z2.sameBut hs hcc⟩
    · obtain ⟨e, n, ne, nf, d⟩ := I.pin p hp
      refine ⟨(hs.2 p.1 ?_).trans e, n, ne, nf, d⟩
      intro q
      rw [q, hoc] at e
      have q' : oc = p.2 := Option.some.inj e
      exact d w' (by rw [← q']; exact hocd)
theorem store_ok {M : Model} {A : Around} {E : Value → Shared → Prop} {i : Nat} {x : Str} {v : V} {u : Value} {Q : Unit → Shared → Prop} (I : Inv X pins σ H s) (hN : X.N.Nodup) (hi : X.N[i]? = some x) (hx : Loc X.env.scope x) (r : RelV v u)
    (h : ∀ s', Inv X pins (σ.set i (some v)) H s' → Q () s') (hf : X.fn x = true ∨ X.env.scope.names.lookup x = some .local := by first | exact .inl rfl | exact .inr rfl | assumption) : wpAny M A (storeName X.env x u) Q E s :=
  store_ok2 I hN hi hx r (fun s' I' _ => h s' I') hf
/-- behind a call or a block, the state as it is -/
theorem Inv.call' {s' : Shared} {ch : List Addr} (I : Inv X pins σ H s) (ho : s'.os = s.os) (u : Un (frs X.stack) ch H H' s.heap s'.heap) (hok : HOk X.prog X.w H' s'.heap) (hg : AllBare s'.gens)
    (hch : ∀ b ∈ ch, (b ∈ X.ex ∨ X.s₀.heap.objs.size ≤ b) ∧ b ≠ X.env.locals ∧ (∀ x c, X.env.cells.lookup x = some c → c ≠ b) ∧ ∀ p ∈ X.pn ++ pins, p.1 ≠ b) : Inv X pins σ H' s' := by
  obtain ⟨h', g', d', t', o'⟩ := s'
  have e : o' = s.os := ho
  subst e
  exact I.call (g' := g') (t' := t') (d' := d') u hok hg hch
end
/-! ### the judgements -/
/-- an exception: its class, its own dict's address (where it has one), the abstract heap behind it -/
abbrev XK := Value → Option Addr → Hp → Prop
abbrev St := List (Option V)
abbrev VK := V → Hp → Prop
/-- an expression's reading; a test's; an argument list's -/
abbrev TE := St → Hp → VK → Prop
abbrev TT := St → Hp → (Bool → Hp → Prop) → Prop
abbrev TA := St → Hp → (List V → Hp → Prop) → Prop
/-- what is wanted behind a statement -/
structure Ends where
  nx : St → Hp → Prop
  rt : VK
  bk : St → Hp → Prop := fun _ _ => False
  ct : St → Hp → Prop := fun _ _ => False
abbrev TS := Ends → St → Hp → Prop
def EP (X : Cx) (pins : List (Addr × Obj)) (σ : St) (Q : VK) (u : Value) (s' : Shared) : Prop := ∃ v H', Inv X pins σ H' s' ∧ RelV v u ∧ Q v H'
def TP (X : Cx) (pins : List (Addr × Obj)) (σ : St) (Q : Bool → Hp → Prop) (b : Bool) (s' : Shared) : Prop := ∃ H', Inv X pins σ H' s' ∧ Q b H'
def AP (X : Cx) (pins : List (Addr × Obj)) (σ : St) (Q : List V → Hp → Prop) (us : List Value) (s' : Shared) : Prop := ∃ vs H', Inv X pins σ H' s' ∧ Vals vs us ∧ Q vs H'
def SP (X : Cx) (pins : List (Addr × Obj)) (D : Ends) (f : Flow) (s' : Shared) : Prop :=
  match f with
  | .next => ∃ σ' H', Inv X pins σ' H' s' ∧ D.nx σ' H'
  | .brk => ∃ σ' H', Inv X pins σ' H' s' ∧ D.bk σ' H'
  | .cont => ∃ σ' H', Inv X pins σ' H' s' ∧ D.ct σ' H'
  | .ret u => ∃ v σ' H', Inv X pins σ' H' s' ∧ RelV v u ∧ D.rt v H'
def PE (X : Cx) (e : Expr) (t : TE) : Prop :=
  ∀ (pins : List (Addr × Obj)) (s : Shared) (σ : St) (H : Hp) (Q : VK), Inv X pins σ H s → t σ H Q → wpAny (model X.prog X.w) X.A (eval e X.env) (EP X pins σ Q) X.xe s
def PT (X : Cx) (e : Expr) (t : TT) : Prop :=
  ∀ (pins : List (Addr × Obj)) (s : Shared) (σ : St) (H : Hp) (Q : Bool → Hp → Prop), Inv X pins σ H s → t σ H Q → wpAny (model X.prog X.w) X.A (isTrue e X.env (eval e X.env)) (TP X pins σ Q) X.xe s
/-- a test whatever its 'whole' is (and, or) -/
def PW (X : Cx) (e : Expr) (t : TT) : Prop :=
  ∀ (whole : Sem Value) (pins : List (Addr × Obj)) (s : Shared) (σ : St) (H : Hp) (Q : Bool → Hp → Prop), Inv X pins σ H s → t σ H Q → wpAny (model X.prog X.w) X.A (isTrue e X.env whole) (TP X pins σ Q) X.xe s
theorem PW.pt {X : Cx} {e : Expr} {t : TT} (h : PW X e t) : PT X e t := h _
/-- an argument list (no star), from the left -/
def PA (X : Cx) (es : List Expr) (t : TA) : Prop :=
  ∀ (pos : Pos) (pins : List (Addr × Obj)) (s : Shared) (σ : St) (H : Hp) (Q : List V → Hp → Prop), Inv X pins σ H s → t σ H Q → wpAny (model X.prog X.w) X.A (spliced (backTo pos (starEach es X.env))) (AP X pins σ Q) X.xe s
def PS (X : Cx) (st : Stmt) (t : TS) : Prop :=
  ∀ (pins : List (Addr × Obj)) (s : Shared) (σ : St) (H : Hp) (D : Ends), Inv X pins σ H s → t D σ H → wpAny (model X.prog X.w) X.A (exec st X.env) (SP X pins D) X.xe s
def PSs (X : Cx) (st : List Stmt) (t : TS) : Prop :=
  ∀ (pins : List (Addr × Obj)) (s : Shared) (σ : St) (H : Hp) (D : Ends), Inv X pins σ H s → t D σ H → wpAny (model X.prog X.w) X.A (execs st X.env) (SP X pins D) X.xe s
/-- weaken the end -/
theorem thn {α : Type} {t : Sem α} {Q Q' : α → Shared → Prop} {M : Model} {A : Around} {E : Value → Shared → Prop} {s : Shared} (h : wpAny M A t Q E s) (hQ : ∀ a s, Q a s → Q' a s) : wpAny M A t Q' E s := wpAny_mono h hQ fun _ _ x => x
end L2
namespace L2
open PySem PySem.Spec PyProof.Rows
section
variable {X : Cx}
/-- two expressions in a row -/
theorem bin {a b : Expr} {ta tb : TE} (ha : PE X a ta) (hb : PE X b tb) {pins : List (Addr × Obj)} {s : Shared} {σ : St} {H : Hp} {R : V → V → Hp → Prop} (I : Inv X pins σ H s) (h : ta σ H fun x H1 => tb σ H1 fun y H2 => R x y H2)
    {α : Type} {Q : α → Shared → Prop} {f : Value → Value → Sem α}
    (hf : ∀ v u s2 x y H2, Inv X pins σ H2 s2 → RelV x v → RelV y u → R x y H2 → wpAny (model X.prog X.w) X.A (f v u) Q X.xe s2) :
    wpAny (model X.prog X.w) X.A (eval a X.env) (fun v s₁ => wpAny (model X.prog X.w) X.A (eval b X.env) (fun u s₂ => wpAny (model X.prog X.w) X.A (f v u) Q X.xe s₂) X.xe s₁) X.xe s := by
  refine thn (ha pins s σ H _ I h) fun v s1 ⟨x, H1, I1, r1, q1⟩ => ?_
  refine thn (hb pins s1 σ H1 _ I1 q1) fun u s2 ⟨y, H2, I2, r2, q2⟩ => ?_
  exact hf v u s2 x y H2 I2 r1 r2 q2
/-! ### names and constants -/
def tVar (i : Nat) : TE := fun σ H Q => ∃ v, σ[i]? = some (some v) ∧ Q v H
def tC (v : V) : TE := fun _ H Q => Q v H
theorem pe_var {i : Nat} {x : Str} {pos : Pos} (hN : X.N[i]? = some x) (hv : Vis X.env.scope x) (hd : (x == ("__debug__" : Str)) = false := by decide) (hcd : (x == ("__classdict__" : Str)) = false := by decide) : PE X (.Name x pos) (tVar i) := by
  intro pins s σ H Q I h
  obtain ⟨v, e, h⟩ := h
  obtain ⟨m, hn, hl⟩ := I.loc
  obtain ⟨u, r, l⟩ := hl i x v hN e hv
  have fin : EP X pins σ Q u s := ⟨v, H, I, r, h⟩
  rcases l with ⟨hk, hm⟩ | ⟨hk, c, hc, hcell⟩
  · exact wpAny_Name (wpAny_loadName_local I.ok.kind hk hn hm fin) hd
  · rcases hk with hk | hk
    · exact wpAny_Name (wpAny_loadName_cell I.ok.kind hk hc hcell fin) hd
    · exact wpAny_Name (wpAny_loadName_free I.ok.kind hk hc hcell fin hcd) hd
theorem pe_int {i j pos} : PE X (.Constant (.int i) j pos) (tC (.int i)) := fun _ _ _ H _ I h => wpAny_Constant_int ⟨.int i, H, I.tok _, ⟨_, rfl⟩, h⟩
theorem pe_bl {b j pos} : PE X (.Constant (.bool b) j pos) (tC (.bl b)) := fun _ _ _ H _ I h => Constant_bool ⟨.bl b, H, I, rfl, h⟩
theorem pe_non {j pos} : PE X (.Constant .none j pos) (tC .non) := fun _ _ _ H _ I h => Constant_none ⟨.non, H, I, rfl, h⟩
theorem pe_str {x j pos} : PE X (.Constant (.str x) j pos) (tC (.str x)) := fun _ _ _ H _ I h => Calls.Constant_str ⟨.str x, H, I.tok _, ⟨_, rfl⟩, h⟩
/-- a global name of the def -/
def Gl (X : Cx) (x : Str) : Prop := X.env.kindOf x = some .globalImplicit
theorem ld_glob {E : Value → Shared → Prop} {pins : List (Addr × Obj)} {s : Shared} {σ : St} {H : Hp} {x : Str} {u : Value} {pos : Pos} {Q : Value → Shared → Prop} (I : Inv X pins σ H s) (hg : Gl X x) (hm : X.mg x = some u) (h : Q u s)
    (hd : (x == ("__debug__" : Str)) = false := by decide) : wpAny (model X.prog X.w) X.A (eval (.Name x pos) X.env) Q E s :=
  Calls.Name_function_global I.ok.kind hg (Calls.loadGlobal_global (by rw [I.ok.glob]; exact I.mod.glob.keeps I.bk) hm h) hd
theorem ld_blt {E : Value → Shared → Prop} {pins : List (Addr × Obj)} {s : Shared} {σ : St} {H : Hp} {x : Str} {u : Value} {pos : Pos} {Q : Value → Shared → Prop} (I : Inv X pins σ H s) (hg : Gl X x) (hm : X.mg x = none) (hv : bootBuiltins x = some u) (h : Q u s)
    (hn : x ≠ "__name__" := by decide) (hd : (x == ("__debug__" : Str)) = false := by decide) : wpAny (model X.prog X.w) X.A (eval (.Name x pos) X.env) Q E s := by
  obtain ⟨mb, h1, h2⟩ := I.mod.blt
  exact Calls.Name_function_global I.ok.kind hg (Calls.loadGlobal_builtin (by rw [I.ok.glob]; exact I.mod.glob.keeps I.bk) hm (by rw [I.ok.blt]; exact h1.keeps I.bk) ((h2 x hn).trans hv) h) hd
/-- a module's constant, a class, a function, as a value -/
theorem pe_glob {x : Str} {v : V} {u : Value} {pos : Pos} (hg : Gl X x) (hm : X.mg x = some u) (r : RelV v u) (hd : (x == ("__debug__" : Str)) = false := by decide) : PE X (.Name x pos) (tC v) :=
  fun _ _ _ H _ I h => ld_glob I hg hm ⟨v, H, I, r, h⟩ hd
theorem pe_bltn {x : Str} {v : V} {u : Value} {pos : Pos} (hg : Gl X x) (hm : X.mg x = none) (hv : bootBuiltins x = some u) (r : RelV v u) (hn : x ≠ "__name__" := by decide) (hd : (x == ("__debug__" : Str)) = false := by decide) : PE X (.Name x pos) (tC v) :=
  fun _ _ _ H _ I h => ld_blt I hg hm hv ⟨v, H, I, r, h⟩ hn hd
/-! ### arithmetic -/
/-- two ints -/
def t2I (ta tb : TE) (k : Int → Int → Hp → Prop) : St → Hp → Prop := fun σ H => ta σ H fun x H1 => tb σ H1 fun y H2 => ∃ i j, x = .int i ∧ y = .int j ∧ k i j H2
variable {a b : Expr} {ta tb : TE} {pos : Pos}
/-! ### comparisons -/
def PC (X : Cx) (op : CmpOp) (a b : Expr) (t : TE) : Prop :=
  ∀ (pins : List (Addr × Obj)) (s : Shared) (σ : St) (H : Hp) (Q : VK), Inv X pins σ H s → t σ H Q →
    wpAny (model X.prog X.w) X.A (eval a X.env) (fun v s₁ => wpAny (model X.prog X.w) X.A (eval b X.env) (fun u s₂ => wpAny (model X.prog X.w) X.A (compareOp op v u) (EP X pins σ Q) X.xe s₂) X.xe s₁) X.xe s
theorem nobehind (b : Expr) {op : CmpOp} (h : op ≠ .In) (h2 : op ≠ .NotIn) : behindInMarks op b = false := by
  have e1 : (op == CmpOp.In) = false := by cases op <;> first | rfl | exact absurd rfl h
  have e2 : (op == CmpOp.NotIn) = false := by cases op <;> first | rfl | exact absurd rfl h2
  cases b <;> simp [behindInMarks, e1, e2]
def tCmp (p : Int → Int → Bool) (ta tb : TE) : TE := fun σ H Q => t2I ta tb (fun i j H2 => Q (.bl (p i j)) H2) σ H
abbrev tLt : TE → TE → TE := tCmp fun i j => decide (i < j)
abbrev tLe : TE → TE → TE := tCmp fun i j => decide (i ≤ j)
abbrev tGt : TE → TE → TE := tCmp fun i j => decide (j < i)
abbrev tGe : TE → TE → TE := tCmp fun i j => decide (j ≤ i)
abbrev tEqI : TE → TE → TE := tCmp fun i j => decide (i = j)
abbrev tNeI : TE → TE → TE := tCmp fun i j => !decide (i = j)
/-- a comparison as a value, as a test -/
def tB (t : TE) : TT := fun σ H Q => t σ H fun x H1 => ∃ c, x = .bl c ∧ Q c H1
theorem pt_cmp {op : CmpOp} {t : TE} (h : PC X op a b t) (h1 : behindInMarks op b = false := by first | exact nobehind _ (by decide) (by decide) | rfl) : PT X (.Compare a [op] [b] pos) (tB t) := by
  intro pins s σ H Q I hw
  refine wpAny_isTrue_Compare1 (thn (h pins s σ H _ I hw) fun v s1 h1 => thn h1 fun u s2 h2 => thn h2 fun c s3 ⟨x, H1, I1, r1, q1⟩ => ?_) h1
  obtain ⟨d, rfl, q⟩ := q1
  cases r1
  exact wpAny_truthy_bool ⟨H1, I1, q⟩
/-- an expression whose value is a bool, as a test -/
theorem pt_val {e : Expr} {t : TE} (h : PE X e t) (he : ∀ whole, isTrue e X.env whole = (do let v ← whole; standAt e.pos; holding [v] (truthy v)) := by intro _; rfl) : PT X e (tB t) := by
  intro pins s σ H Q I hw
  refine isTrue_plain (thn (h pins s σ H _ I hw) fun v s1 ⟨x, H1, I1, r1, q1⟩ => ?_) (he _)
  obtain ⟨d, rfl, q⟩ := q1
  cases r1
  exact wpAny_truthy_bool ⟨H1, I1, q⟩
/-! ### and, or, not -/
variable {tA tB' : TT} {rest : List Expr}
def tAnd (t u : TT) : TT := fun σ H Q => t σ H fun c H1 => if c = true then u σ H1 Q else Q false H1
def tOr (t u : TT) : TT := fun σ H Q => t σ H fun c H1 => if c = true then Q true H1 else u σ H1 Q
def tNot (t : TT) : TT := fun σ H Q => t σ H fun c H1 => Q (!c) H1
theorem pw_and1 (ha : PT X a tA) : PW X (.BoolOp .And [a] pos) tA := by
  intro wh pins s σ H Q I h
  refine isTrue_and (thn (ha pins s σ H Q I h) fun c s1 e => ?_)
  cases c with
  | true => exact isTrue_and_nil e
  | false => exact e
theorem pw_or1 (ha : PT X a tA) : PW X (.BoolOp .Or [a] pos) tA := by
  intro wh pins s σ H Q I h
  refine isTrue_or (thn (ha pins s σ H Q I h) fun c s1 e => ?_)
  cases c with
  | false => exact isTrue_or_nil e
  | true => exact e
theorem pw_and (ha : PT X a tA) (hb : PW X (.BoolOp .And (b :: rest) pos) tB') : PW X (.BoolOp .And (a :: b :: rest) pos) (tAnd tA tB') := by
  intro wh pins s σ H Q I h
  refine isTrue_and (thn (ha pins s σ H _ I h) fun c s1 ⟨H1, I1, q1⟩ => ?_)
  cases c with
  | true => exact hb wh pins s1 σ H1 Q I1 q1
  | false => exact ⟨H1, I1, q1⟩
theorem pw_or (ha : PT X a tA) (hb : PW X (.BoolOp .Or (b :: rest) pos) tB') : PW X (.BoolOp .Or (a :: b :: rest) pos) (tOr tA tB') := by
  intro wh pins s σ H Q I h
  refine isTrue_or (thn (ha pins s σ H _ I h) fun c s1 ⟨H1, I1, q1⟩ => ?_)
  cases c with
  | true => exact ⟨H1, I1, q1⟩
  | false => exact hb wh pins s1 σ H1 Q I1 q1
theorem pt_not (ha : PT X a tA) : PT X (.UnaryOp .Not a pos) (tNot tA) := by
  intro pins s σ H Q I h
  exact isTrue_not (ha pins s σ H (fun c H1 => Q (!c) H1) I h)
/-- .. as values (bools) -/
def tAndV (ta tb : TE) : TE := fun σ H Q => ta σ H fun x H1 => ∃ c, x = .bl c ∧ if c = true then tb σ H1 Q else Q (.bl false) H1
def tOrV (ta tb : TE) : TE := fun σ H Q => ta σ H fun x H1 => ∃ c, x = .bl c ∧ if c = true then Q (.bl true) H1 else tb σ H1 Q
theorem pe_one {op} {t : TE} (h : PE X a t) : PE X (.BoolOp op [a] pos) t := fun pins s σ H Q I hw => BoolOp_one (h pins s σ H Q I hw)
theorem pe_and (ha : PE X a ta) (hb : PE X (.BoolOp .And (b :: rest) pos) tb) : PE X (.BoolOp .And (a :: b :: rest) pos) (tAndV ta tb) := by
  intro pins s σ H Q I h
  refine BoolOp_and (thn (ha pins s σ H _ I h) fun v s1 ⟨x, H1, I1, r1, q1⟩ => ?_)
  obtain ⟨c, rfl, q1⟩ := q1
  cases r1
  refine wpAny_truthy_bool ?_
  cases c with
  | true => exact hb pins s1 σ H1 Q I1 q1
  | false => exact ⟨.bl false, H1, I1, rfl, q1⟩
theorem pe_or (ha : PE X a ta) (hb : PE X (.BoolOp .Or (b :: rest) pos) tb) : PE X (.BoolOp .Or (a :: b :: rest) pos) (tOrV ta tb) := by
  intro pins s σ H Q I h
  refine BoolOp_or (thn (ha pins s σ H _ I h) fun v s1 ⟨x, H1, I1, r1, q1⟩ => ?_)
  obtain ⟨c, rfl, q1⟩ := q1
  cases r1
  refine wpAny_truthy_bool ?_
  cases c with
  | false => exact hb pins s1 σ H1 Q I1 q1
  | true => exact ⟨.bl true, H1, I1, rfl, q1⟩
end
end L2
namespace L2
open PySem PySem.Spec PyProof.Rows
/-! ### a list, a tuple that is read: tracked, frozen, or an object of the module -/
def SqL (K : PySem.W.Frag) (H : Hp) (a : Addr) (xs : List V) : Prop :=
  Rd H a (.lst xs) ∨
    ∃ (o : Obj) (its : Array Value) (n : Nat), K.lookup a = some o ∧ o.cls = .type "list" ∧ o.dict = none ∧ o.data = .seq its n ∧ its.size ≤ sizeLine ∧ Vals xs its.toList
def SqT (K : PySem.W.Frag) (H : Hp) (a : Addr) (xs : List V) : Prop :=
  Rd H a (.tup xs) ∨
    ∃ (o : Obj) (its : Array Value) (n : Nat), K.lookup a = some o ∧ o.cls = .type "tuple" ∧ o.data = .seq its n ∧ its.size ≤ sizeLine ∧ Vals xs its.toList
def absV : Value → Option V
  | .none => some .non
  | .bool b => some (.bl b)
  | .int i _ => some (.int i)
  | .str x _ => some (.str x)
  | .bytes b _ => some (.byt b)
  | .float b _ => some (.flt b)
  | .ref a => some (.ref a)
  | .type n => some (.ty n)
  | _ => none
theorem RelV.abs {x : V} {u : Value} (r : RelV x u) : absV u = some x := by
  cases x with
  | non => cases r; rfl
  | bl _ => cases r; rfl
  | int _ => obtain ⟨t, rfl⟩ := r; rfl
  | str _ => obtain ⟨t, rfl⟩ := r; rfl
  | byt _ => obtain ⟨t, rfl⟩ := r; rfl
  | flt _ => obtain ⟨t, rfl⟩ := r; rfl
  | ref _ => cases r; rfl
  | ty _ => cases r; rfl
theorem RelV.inj {x y : V} {u : Value} (r : RelV x u) (q : RelV y u) : x = y := Option.some.inj (r.abs.symm.trans q.abs)
theorem Vals.inj : ∀ {xs ys : List V} {us : List Value}, Vals xs us → Vals ys us → xs = ys
  | _, _, _, .nil, .nil => rfl
  | _, _, _, .cons r t, .cons r' t' => by rw [r.inj r', Vals.inj t t']
section
variable {X : Cx} {pins : List (Addr × Obj)} {σ : St} {H : Hp} {s : Shared} {a : Addr} {xs ys : List V}
theorem SqL.of {K : PySem.W.Frag} (h : H a = some (.lst xs)) : SqL K H a xs := .inl (.inl h)
theorem SqT.of {K : PySem.W.Frag} (h : H a = some (.tup xs)) : SqT K H a xs := .inl (.inl h)
theorem Inv.list (I : Inv X pins σ H s) (h : SqL X.K H a xs) : ∃ its : List Value, Vals xs its ∧ PlainL s.heap a its.toArray ∧ xs.length ≤ sizeLine := by
  rcases h with h | ⟨o, its, n, hk, hc, hd, hs, hz, r⟩
  · obtain ⟨z, its, n, r, e⟩ := h.ok I.hok
    exact ⟨its, r, ⟨_, n, e, rfl, rfl, rfl⟩, z⟩
  · refine ⟨its.toList, r, ⟨o, n, I.kIn a o hk, hc, hd, by simpa using hs⟩, ?_⟩
    have e := r.length
    simp only [Array.length_toList] at e
    omega
theorem Inv.tuple (I : Inv X pins σ H s) (h : SqT X.K H a xs) : ∃ its : List Value, Vals xs its ∧ IsTup s.heap a its.toArray ∧ xs.length ≤ sizeLine := by
  rcases h with h | ⟨o, its, n, hk, hc, hs, hz, r⟩
  · obtain ⟨z, its, r, p⟩ := h.ok I.hok
    exact ⟨its, r, p, z⟩
  · refine ⟨its.toList, r, ⟨o, I.kIn a o hk, hc, n, by simpa using hs⟩, ?_⟩
    have e := r.length
    simp only [Array.length_toList] at e
    omega
theorem Inv.list_inj (I : Inv X pins σ H s) (h : SqL X.K H a xs) (h' : SqL X.K H a ys) : xs = ys := by
  obtain ⟨its, r, ⟨o, n, e, _, _, d⟩, _⟩ := I.list h
  obtain ⟨its', r', ⟨o', n', e', _, _, d'⟩, _⟩ := I.list h'
  rw [e] at e'; cases e'
  rw [d] at d'
  injection d' with d1 _
  have : its = its' := by simpa using congrArg Array.toList d1
  subst this
  exact r.inj r'
theorem Inv.tuple_inj (I : Inv X pins σ H s) (h : SqT X.K H a xs) (h' : SqT X.K H a ys) : xs = ys := by
  obtain ⟨its, r, ⟨o, e, _, n, d⟩, _⟩ := I.tuple h
  obtain ⟨its', r', ⟨o', e', _, n', d'⟩, _⟩ := I.tuple h'
  rw [e] at e'; cases e'
  rw [d] at d'
  injection d' with d1 _
  have : its = its' := by simpa using congrArg Array.toList d1
  subst this
  exact r.inj r'
end
/-! ### another wish about exceptions -/
abbrev Cx.wish (X : Cx) (E : Value → Shared → Prop) : Cx := { X with xe := E }
/-- no exception leaves -/
abbrev Cx.nox (X : Cx) : Cx := X.wish fun _ _ => False
theorem Cx.Ok.wish {X : Cx} (ok : X.Ok) (E : Value → Shared → Prop) : (X.wish E).Ok :=
  ⟨ok.mod, ok.kind, ok.glob, ok.blt, ok.above, ok.inj, ok.has, ok.cab, ok.hd, ok.frames, ok.stk, ok.exf, ok.bs, ok.bsz, ok.noex, ok.exfs, ok.funs, ok.frf⟩
theorem Cx.Ok.unwish {X : Cx} {E : Value → Shared → Prop} (ok : (X.wish E).Ok) : X.Ok :=
  ⟨ok.mod, ok.kind, ok.glob, ok.blt, ok.above, ok.inj, ok.has, ok.cab, ok.hd, ok.frames, ok.stk, ok.exf, ok.bs, ok.bsz, ok.noex, ok.exfs, ok.funs, ok.frf⟩
section
variable {X : Cx} {pins : List (Addr × Obj)} {σ : St} {H : Hp} {s : Shared} {E : Value → Shared → Prop}
theorem Inv.wish (I : Inv X pins σ H s) (E : Value → Shared → Prop) : Inv (X.wish E) pins σ H s := ⟨I.ok.wish E, I.os, I.bare, I.base, I.loc, I.cell, I.free, I.freeC, I.pin, I.hok, I.len⟩
theorem Inv.unwish (I : Inv (X.wish E) pins σ H s) : Inv X pins σ H s := ⟨I.ok.unwish, I.os, I.bare, I.base, I.loc, I.cell, I.free, I.freeC, I.pin, I.hok, I.len⟩
theorem SP.unwish {D : Ends} {f : Flow} {s' : Shared} (h : SP (X.wish E) pins D f s') : SP X pins D f s' := by
  cases f with
  | next => obtain ⟨σ', H', I, q⟩ := h; exact ⟨σ', H', I.unwish, q⟩
  | brk => obtain ⟨σ', H', I, q⟩ := h; exact ⟨σ', H', I.unwish, q⟩
  | cont => obtain ⟨σ', H', I, q⟩ := h; exact ⟨σ', H', I.unwish, q⟩
  | ret u => obtain ⟨v, σ', H', I, r, q⟩ := h; exact ⟨v, σ', H', I.unwish, r, q⟩
theorem PE.nox {e : Expr} {t : TE} (h : PE X.nox e t) : PE X e t := fun pins s σ H Q I hw =>
  wpAny_mono (h pins s σ H Q (I.wish _) hw) (fun _ _ ⟨v, H', I', r, q⟩ => ⟨v, H', I'.unwish, r, q⟩) fun _ _ z => False.elim z
theorem PT.nox {e : Expr} {t : TT} (h : PT X.nox e t) : PT X e t := fun pins s σ H Q I hw =>
  wpAny_mono (h pins s σ H Q (I.wish _) hw) (fun _ _ ⟨H', I', q⟩ => ⟨H', I'.unwish, q⟩) fun _ _ z => False.elim z
theorem PSs.nox {st : List Stmt} {t : TS} (h : PSs X.nox st t) : PSs X st t := fun pins s σ H D I hw =>
  wpAny_mono (h pins s σ H D (I.wish _) hw) (fun _ _ q => q.unwish) fun _ _ z => False.elim z
end
/-! ### blocks and small statements -/
section
variable {X : Cx} {st : Stmt} {rest : List Stmt} {t u : TS} {e : Expr} {te : TE} {pos : Pos}
def tNext : TS := fun D σ H => D.nx σ H
def tSeq (t u : TS) : TS := fun D σ H => t { D with nx := u D } σ H
theorem pss_nil : PSs X [] tNext := fun _ _ σ H _ I h => wpAny_execs_nil ⟨σ, H, I, h⟩
theorem pss_cons (h1 : PS X st t) (h2 : PSs X rest u) : PSs X (st :: rest) (tSeq t u) := by
  intro pins s σ H D I h
  refine wpAny_execs_cons (thn (h1 pins s σ H { D with nx := u D } I h) fun f s1 q => ?_)
  cases f with
  | next =>
    obtain ⟨σ', H', I', q⟩ := q
    exact h2 pins s1 σ' H' D I' q
  | ret v => exact q
  | brk => exact q
  | cont => exact q
theorem pss_one (h1 : PS X st t) : PSs X [st] t := by
  intro pins s σ H D I h
  refine wpAny_execs_cons (thn (h1 pins s σ H D I h) fun f s1 q => ?_)
  cases f with
  | next => exact wpAny_execs_nil q
  | ret v => exact q
  | brk => exact q
  | cont => exact q
def tBreak : TS := fun D σ H => D.bk σ H
def tCont : TS := fun D σ H => D.ct σ H
theorem ps_break : PS X (.Break pos) tBreak := fun _ _ σ H _ I h => wpAny_Break ⟨σ, H, I, h⟩
theorem ps_continue : PS X (.Continue pos) tCont := fun _ _ σ H _ I h => wpAny_Continue ⟨σ, H, I, h⟩
/-- in a def's body nothing is shown -/
theorem Inv.quiet {pins : List (Addr × Obj)} {σ : St} {H : Hp} {s : Shared} (I : Inv X pins σ H s) : interactive X.env = false := by simp [interactive, I.ok.kind]
/-- an expression whose value is dropped -/
def tDrop (te : TE) : TS := fun D σ H => te σ H fun _ H1 => D.nx σ H1
theorem ps_expr (he : PE X e te) (hs : swapsWith e none pos.line X.env = pure false := by rfl) : PS X (.Expr e pos) (tDrop te) := by
  intro pins s σ H D I h
  exact wpAny_Expr_any (thn (he pins s σ H _ I h) fun v s1 ⟨x, H1, I1, r1, q1⟩ => ⟨σ, H1, I1, q1⟩) I.quiet hs
def tRet (te : TE) : TS := fun D σ H => te σ H D.rt
theorem ps_ret (he : PE X e te) : PS X (.Return (some e) pos) (tRet te) := by
  intro pins s σ H D I h
  exact wpAny_Return_some (thn (he pins s σ H _ I h) fun v s1 ⟨x, H1, I1, r1, q1⟩ => ⟨x, σ, H1, I1, r1, q1⟩)
def tRetN : TS := fun D _ H => D.rt .non H
theorem ps_retN : PS X (.Return none pos) tRetN := fun _ _ σ H _ I h => wpAny_Return_none ⟨.non, σ, H, I, rfl, h⟩
def tIfS (c : TT) (t u : TS) : TS := fun D σ H => c σ H fun b H1 => if b = true then t D σ H1 else u D σ H1
theorem ps_if {c : Expr} {a b : List Stmt} {tc : TT} (hc : PT X c tc) (ha : PSs X a t) (hb : PSs X b u) : PS X (.If c a b pos) (tIfS tc t u) := by
  intro pins s σ H D I h
  refine wpAny_If (thn (hc pins s σ H _ I h) fun d s1 ⟨H1, I1, q1⟩ => ?_)
  cases d with
  | true => exact ha pins s1 σ H1 D I1 q1
  | false => exact hb pins s1 σ H1 D I1 q1
/-- code that the proof never comes to -/
def tNever : TS := fun _ _ _ => False
theorem ps_never : PS X st tNever := fun _ _ _ _ _ _ h => h.elim
theorem pss_never {sts : List Stmt} : PSs X sts tNever := fun _ _ _ _ _ _ h => h.elim
end
/-! ### targets -/
abbrev TG := V → St → Hp → (St → Hp → Prop) → Prop
abbrev TGs := List V → St → Hp → (St → Hp → Prop) → Prop
def PG (X : Cx) (target : Expr) (t : TG) : Prop :=
  ∀ (pins : List (Addr × Obj)) (s : Shared) (σ : St) (H : Hp) (v : V) (u : Value) (Q : St → Hp → Prop), Inv X pins σ H s → RelV v u → t v σ H Q →
    wpAny (model X.prog X.w) X.A (assign target X.env u) (fun _ s' => ∃ σ' H', Inv X pins σ' H' s' ∧ Q σ' H') X.xe s
/-- several targets, one after another -/
def PGs (X : Cx) (ts : List Expr) (t : TGs) : Prop :=
  ∀ (pins : List (Addr × Obj)) (s : Shared) (σ : St) (H : Hp) (vs : List V) (us : List Value) (Q : St → Hp → Prop), Inv X pins σ H s → Vals vs us → t vs σ H Q →
    wpAny (model X.prog X.w) X.A (assignInOrder ((assignEach ts X.env).map (·.2)) us) (fun _ s' => ∃ σ' H', Inv X pins σ' H' s' ∧ Q σ' H') X.xe s
/-- o[i] = v, by values -/
abbrev TSet := V → V → V → Hp → (Hp → Prop) → Prop
def PSet (X : Cx) (t : TSet) : Prop :=
  ∀ (pins : List (Addr × Obj)) (s : Shared) (σ : St) (H : Hp) (o i v : V) (ov iv u : Value) (Q : Hp → Prop), Inv X pins σ H s → RelV o ov → RelV i iv → RelV v u → t o i v H Q →
    wpAny (model X.prog X.w) X.A (setItem ov iv u) (fun _ s' => ∃ H', Inv X pins σ H' s' ∧ Q H') X.xe s
/-- a op= b, by values -/
abbrev TIp := V → V → Hp → VK → Prop
def PIp (X : Cx) (op : Operator) (t : TIp) : Prop :=
  ∀ (pins : List (Addr × Obj)) (s : Shared) (σ : St) (H : Hp) (x y : V) (v u : Value) (Q : VK), Inv X pins σ H s → RelV x v → RelV y u → t x y H Q →
    wpAny (model X.prog X.w) X.A (inplaceOp op v u) (EP X pins σ Q) X.xe s
section
variable {X : Cx} {pos : Pos}
def gName (i : Nat) : TG := fun v σ H Q => Q (σ.set i (some v)) H
theorem pg_name {i : Nat} {x : Str} (hN : X.N.Nodup) (hi : X.N[i]? = some x) (hx : Loc X.env.scope x) (hf : X.fn x = true ∨ X.env.scope.names.lookup x = some .local := by first | exact .inl rfl | exact .inr rfl | assumption) : PG X (.Name x pos) (gName i) := by
  intro pins s σ H v u Q I r h
  exact wpAny_assign_Name (store_ok I hN hi hx r (fun s' I' => ⟨_, H, I', h⟩) hf)
def gNil : TGs := fun vs σ H Q => vs = [] ∧ Q σ H
def gCons (t : TG) (u : TGs) : TGs := fun vs σ H Q => ∃ v r, vs = v :: r ∧ t v σ H fun σ' H' => u r σ' H' Q
theorem pgs_nil : PGs X [] gNil := by
  intro pins s σ H vs us Q I r h
  obtain ⟨e, h⟩ := h
  subst e
  cases r
  exact assignInOrder_nil ⟨σ, H, I, h⟩
theorem pgs_cons {e : Expr} {es : List Expr} {t : TG} {u : TGs} (h1 : PG X e t) (h2 : PGs X es u)
    (hs : (assignEach (e :: es) X.env).map (·.2) = assign e X.env :: (assignEach es X.env).map (·.2) := by rfl) : PGs X (e :: es) (gCons t u) := by
  intro pins s σ H vs us Q I r h
  obtain ⟨v, vr, e1, h⟩ := h
  subst e1
  cases r with
  | cons r rr =>
    rw [hs]
    refine assignInOrder_cons (thn (h1 pins s σ H _ _ _ I r h) fun _ s1 ⟨σ1, H1, I1, q1⟩ => ?_)
    exact h2 pins s1 σ1 H1 _ _ Q I1 rr q1
/-- (a, b, ..) = a tuple of that length -/
def gTup (K : PySem.W.Frag) (n : Nat) (t : TGs) : TG := fun v σ H Q => ∃ a xs, v = .ref a ∧ SqT K H a xs ∧ xs.length = n ∧ t xs σ H Q
theorem pg_tup {es : List Expr} {k : Nat} {t : TGs} {n : Nat} (hc : X.calm = true) (h : PGs X es t)
    (hn : (assignEach es X.env).length = n := by rfl) (hst : (assignEach es X.env).findIdx? (·.1) = none := by rfl) : PG X (.Tuple es k pos) (gTup X.K n t) := by
  intro pins s σ H v u Q I r hw
  obtain ⟨a, xs, e1, hq, hl, hw⟩ := hw
  subst e1
  cases r
  obtain ⟨its, rv, ht, hz⟩ := I.tuple hq
  refine assign_Tuple_tuple (I.ok.hd hc) ht (by simp [hn, ← hl, rv.length]) hst fun h' hx => ?_
  have I1 : Inv X pins σ H { s with heap := h' } := I.kept (t' := s.toks) fun b o e => hx b o (Nat.ne_of_lt (Heap.lt_size e)) e
  exact h pins _ σ H xs _ Q I1 (by simpa using rv) hw
/-- o[i] = .. -/
def gSub (to ti : TE) (t : TSet) : TG := fun v σ H Q => to σ H fun o H1 => ti σ H1 fun i H2 => t o i v H2 fun H3 => Q σ H3
theorem pg_sub {o i : Expr} {to ti : TE} {t : TSet} (ho : PE X o to) (hi : PE X i ti) (hs : PSet X t)
    (ha : ∀ v, assign (.Subscript o i pos) X.env v = (do
      let ov ← holding [v] (eval o X.env)
      let iv ← holding [v, ov] (eval i X.env)
      standAt pos
      holding [v, ov, iv] (setItem ov iv v)
      release [v, ov, iv] []) := by intro _; rfl) : PG X (.Subscript o i pos) (gSub to ti t) := by
  intro pins s σ H v u Q I r h
  rw [ha]
  refine wpAny_bind (wpAny_holding (thn (ho pins s σ H _ I h) fun ov s1 ⟨x, H1, I1, r1, q1⟩ => ?_))
  refine wpAny_bind (wpAny_holding (thn (hi pins s1 σ H1 _ I1 q1) fun iv s2 ⟨y, H2, I2, r2, q2⟩ => ?_))
  refine wpAny_bind (wpAny_standAt (wpAny_bind (wpAny_holding (thn (hs pins s2 σ H2 x y v ov iv u _ I2 r1 r2 r q2) fun _ s3 ⟨H3, I3, q3⟩ => ?_))))
  exact wpAny_release ⟨σ, H3, I3, q3⟩
/-- target = value -/
def tAsg (te : TE) (g : TG) : TS := fun D σ H => te σ H fun x H1 => g x σ H1 D.nx
theorem ps_asg {tg e : Expr} {te : TE} {g : TG} (he : PE X e te) (hg : PG X tg g) (hs : swapsWithSole [tg] e pos.line X.env = pure false := by rfl) (hw : swappedStores [tg] e X.env = pure none := by rfl)
    (h1 : (assignEach [tg] X.env).map (·.2) = [assign tg X.env] := by rfl) : PS X (.Assign [tg] e pos) (tAsg te g) := by
  intro pins s σ H D I h
  refine wpAny_Assign_stores (thn (he pins s σ H _ I h) fun v s1 ⟨x, H1, I1, r1, q1⟩ => ?_) hs hw
  rw [h1]
  exact thn (hg pins s1 σ H1 x v _ I1 r1 q1) fun _ s2 q => q
/-- name = value -/
theorem ps_set {i : Nat} {x : Str} {e : Expr} {te : TE} {pos' : Pos} (hN : X.N.Nodup) (hi : X.N[i]? = some x) (hx : Loc X.env.scope x) (he : PE X e te) (hs : swapsWith e (some (.Name x pos')) pos.line X.env = pure false := by rfl) (hf : X.fn x = true ∨ X.env.scope.names.lookup x = some .local := by first | exact .inl rfl | exact .inr rfl | assumption) :
    PS X (.Assign [.Name x pos'] e pos) (tAsg te (gName i)) := by
  intro pins s σ H D I h
  refine wpAny_Assign_Name (thn (he pins s σ H _ I h) fun v s1 ⟨y, H1, I1, r1, q1⟩ => ?_) hs
  exact store_ok I1 hN hi hx r1 (fun s2 I2 => ⟨_, H1, I2, q1⟩) hf
/-- name op= e -/
def tAug (i : Nat) (te : TE) (ti : TIp) : TS := fun D σ H => ∃ x, σ[i]? = some (some x) ∧ te σ H fun y H1 => ti x y H1 fun z H2 => D.nx (σ.set i (some z)) H2
theorem ps_aug {i : Nat} {x : Str} {e : Expr} {te : TE} {op : Operator} {ti : TIp} {pos' : Pos} (hN : X.N.Nodup) (hi : X.N[i]? = some x) (hx : Loc X.env.scope x) (he : PE X e te) (ho : PIp X op ti) (hf : X.fn x = true ∨ X.env.scope.names.lookup x = some .local := by first | exact .inl rfl | exact .inr rfl | assumption) :
    PS X (.AugAssign (.Name x pos') op e pos) (tAug i te ti) := by
  intro pins s σ H D I h
  obtain ⟨v, e1, h⟩ := h
  obtain ⟨m, hn, hl⟩ := I.loc
  have vis : Vis X.env.scope x := by rcases hx with k | k; exact .inl k; exact .inr (.inl k)
  obtain ⟨u, r, l⟩ := hl i x v hi e1 vis
  refine wpAny_AugAssign_Name ?_
  have go : wpAny (model X.prog X.w) X.A (eval e X.env) (fun w s₂ => wpAny (model X.prog X.w) X.A (inplaceOp op u w) (fun r s₃ => wpAny (model X.prog X.w) X.A (storeName X.env x r) (fun _ => SP X pins D .next) X.xe s₃) X.xe s₂) X.xe s := by
    refine thn (he pins s σ H _ I h) fun w s1 ⟨y, H1, I1, r1, q1⟩ => ?_
    refine thn (ho pins s1 σ H1 v y u w _ I1 r r1 q1) fun z s2 ⟨zv, H2, I2, r2, q2⟩ => ?_
    exact store_ok I2 hN hi hx r2 (fun s3 I3 => ⟨_, H2, I3, q2⟩) hf
  rcases l with ⟨hk, hm⟩ | ⟨hk, c, hc, hcell⟩
  · exact wpAny_loadName_local I.ok.kind hk hn hm go
  · rcases hk with hk | hk
    · exact wpAny_loadName_cell I.ok.kind hk hc hcell go
    · rcases hx with k | k
      · have : X.env.scope.names.lookup x = some .free := hk
        rw [k] at this; cases this
      · have : X.env.scope.names.lookup x = some .free := hk
        rw [k] at this; cases this
/-- ints -/
def ipI (f : Int → Int → Int) : TIp := fun x y H Q => ∃ i j, x = .int i ∧ y = .int j ∧ Q (.int (f i j)) H
theorem ip_add : PIp X .Add (ipI fun i j => i + j) := by
  intro pins s σ H x y v u Q I r1 r2 h
  obtain ⟨i, j, e1, e2, q⟩ := h
  subst e1; subst e2
  obtain ⟨t, rfl⟩ := r1
  obtain ⟨t', rfl⟩ := r2
  exact iadd_int ⟨.int _, H, I.tok _, ⟨_, rfl⟩, q⟩
end
/-! ### while -/
section
variable {X : Cx} {pos : Pos}
/-- the invariant W with its measure -/
def tWhile (c : TT) (tb : TS) : TS := fun D σ H => ∃ W : Nat → St → Hp → Prop, (∃ m, W m σ H) ∧ ∀ m σ H, W m σ H →
  c σ H fun b H1 => if b = true then ∃ N : St → Hp → Prop, (∀ σ' H', N σ' H' → ∃ m', m' < m ∧ W m' σ' H') ∧ tb { D with nx := N, ct := N, bk := D.nx } σ H1 else D.nx σ H1
theorem ps_while {c : Expr} {body : List Stmt} {tc : TT} {tb : TS} (hp : PassesOwn (model X.prog X.w) X.A X.env X.xe) (hc : PT X c tc) (hb : PSs X body tb) : PS X (.While c body [] pos) (tWhile tc tb) := by
  intro pins s σ H D I h
  obtain ⟨W, ⟨m0, w0⟩, turn⟩ := h
  refine wpAny_While (codeAny_whileLoop (fun n s' => ∃ σ' H', Inv X pins σ' H' s' ∧ W n σ' H') ?_ m0 ⟨σ, H, I, w0⟩)
  rintro n s1 ⟨σ1, H1, I1, w1⟩
  refine wpAny_passesOwn hp (thn (hc pins s1 σ1 H1 _ I1 (turn n σ1 H1 w1)) fun b s2 ⟨H2, I2, q2⟩ => ?_)
  cases b with
  | true =>
    obtain ⟨N, hN, q2⟩ := q2
    rw [if_pos rfl]
    refine wpAny_passesOwn hp (thn (hb pins s2 σ1 H2 _ I2 q2) fun f s3 q3 => ?_)
    cases f with
    | next =>
      obtain ⟨σ3, H3, I3, n3⟩ := q3
      obtain ⟨m', hm, w3⟩ := hN σ3 H3 n3
      exact ⟨m', hm, σ3, H3, I3, w3⟩
    | cont =>
      obtain ⟨σ3, H3, I3, n3⟩ := q3
      obtain ⟨m', hm, w3⟩ := hN σ3 H3 n3
      exact ⟨m', hm, σ3, H3, I3, w3⟩
    | brk => exact q3
    | ret v => exact q3
  | false =>
    rw [if_neg Bool.false_ne_true]
    exact wpAny_execs_nil ⟨σ1, H2, I2, q2⟩
end
/-! ### what a loop or a comprehension walks -/
/-- at turn i: it yields x (the heap may grow), or it stops -/
structure It where
  go : Nat → Hp → Prop
  yld : Nat → Hp → V → Hp → Prop
  stop : Nat → Hp → Prop
/-- the iterator's own objects may turn: they are not the frame's, not pinned, younger than the entry (or a comprehension's own) -/
def FpOk (X : Cx) (pins : List (Addr × Obj)) (H : Hp) (b : Addr) : Prop :=
  H b = none ∧ b ≠ X.env.locals ∧ b ∉ X.fs ∧ (b ∈ X.ex ∨ X.s₀.heap.objs.size ≤ b) ∧ (∀ x c, X.env.cells.lookup x = some c → c ≠ b) ∧ ∀ p ∈ X.pn ++ pins, p.1 ≠ b
theorem Inv.fpOk {X : Cx} {pins : List (Addr × Obj)} {σ : St} {H H' : Hp} {s : Shared} {b : Addr} (I : Inv X pins σ H s) (hb : s.heap.objs.size ≤ b) (hn : H' b = none) : FpOk X pins H' b := by
  refine ⟨hn, Nat.ne_of_gt (Nat.lt_of_lt_of_le I.lt hb), I.nofs hb, .inr (Nat.le_trans I.sz hb), fun x c e z => ?_, fun p hp z => ?_⟩
  · obtain ⟨v, q⟩ := I.cell x c e
    exact absurd (Nat.lt_of_lt_of_le q.lt (by rw [z]; exact hb)) (Nat.lt_irrefl _)
  · exact absurd (Nat.lt_of_lt_of_le (Heap.lt_size (I.pin p hp).1) (by rw [z]; exact hb)) (Nat.lt_irrefl _)
structure Turn (P : Program) (w : World) (K : PySem.W.Frag) (tg : Expr) (J : It) (fp : List Addr) (it : Addr) (tn : Nat → Heap → Prop) : Prop where
  mem : it ∈ fp
  obj : ∀ i h, tn i h → ∀ b ∈ fp, ∃ o, h.get? b = some o ∧ ∀ v, o.data ≠ .cell v
  keep : ∀ i h h', tn i h → (∀ b ∈ fp, ∀ o, h.get? b = some o → h'.get? b = some o) → tn i h'
  item : ∀ (X : Cx), X.prog = P → X.w = w → X.K = K → X.calm = true → ∀ (i : Nat) (pins : List (Addr × Obj)) (s : Shared) (σ : St) (H : Hp) (E : Value → Shared → Prop), Inv X pins σ H s → (∀ b ∈ fp, FpOk X pins H b) → tn i s.heap → J.go i H →
    wpAny (model P w) X.A (pyNext (.ref it)) (fun r s1 => ∃ u, r = some u ∧
      wpAny (model P w) X.A (letOwnedTupleGo tg (.ref it) u) (fun _ s2 => ∃ x H', Inv X pins σ H' s2 ∧ RelV x u ∧ J.yld i H x H' ∧ tn (i + 1) s2.heap ∧ ∀ b ∈ fp, H' b = none) E s1) E s
  done : ∀ (X : Cx), X.prog = P → X.w = w → X.K = K → X.calm = true → ∀ (i : Nat) (pins : List (Addr × Obj)) (s : Shared) (σ : St) (H : Hp) (E : Value → Shared → Prop), Inv X pins σ H s → (∀ b ∈ fp, FpOk X pins H b) → tn i s.heap → J.stop i H →
    wpAny (model P w) X.A (pyNext (.ref it)) (fun r s1 => r = none ∧ Inv X pins σ H s1) E s
  self : ∀ (A : Around) (i : Nat) (s : Shared) (Q : Value → Shared → Prop) (E : Value → Shared → Prop), tn i s.heap → Q (.ref it) s → wpAny (model P w) A (pyIter (.ref it)) Q E s
abbrev TI := St → Hp → (It → Hp → Prop) → Prop
/-- an iterator has come -/
def PIE (X : Cx) (pins : List (Addr × Obj)) (σ : St) (tg : Expr) (R : It → Hp → Prop) (itv : Value) (s2 : Shared) : Prop :=
  ∃ (it : Addr) (fp : List Addr) (tn : Nat → Heap → Prop) (J : It) (H' : Hp), itv = .ref it ∧ Inv X pins σ H' s2 ∧ Turn X.prog X.w X.K tg J fp it tn ∧ tn 0 s2.heap ∧ (∀ b ∈ fp, FpOk X pins H' b) ∧ R J H'
def PI (X : Cx) (tg iter : Expr) (wi : TI) : Prop :=
  ∀ (pins : List (Addr × Obj)) (s : Shared) (σ : St) (H : Hp) (R : It → Hp → Prop), Inv X pins σ H s → wi σ H R →
    wpAny (model X.prog X.w) X.A (eval iter X.env) (fun v s1 => wpAny (model X.prog X.w) X.A (pyIter v) (PIE X pins σ tg R) X.xe s1) X.xe s
/-- the step ahead of the store is nothing for an iterator that keeps no tuple -/
theorem go_of {M : Model} {A : Around} {E : Value → Shared → Prop} {s : Shared} {tg : Expr} {it : Addr} {u : Value} {o : Obj} {n : String} {vs : Array Value} {Q : Unit → Shared → Prop} (ho : s.heap.get? it = some o) (hc : o.cls = .type n) (hd : o.data = .fields vs)
    (hn : ["enumerate", "zip", "dict_itemiterator", "dict_reverseitemiterator", "odict_iterator", "itertools.zip_longest", "itertools.pairwise"].contains n = false) (hQ : Q () s) : wpAny M A (letOwnedTupleGo tg (.ref it) u) Q E s := by
  unfold letOwnedTupleGo
  cases tg <;> first
    | exact wpAny_pure hQ
    | (cases u <;> first
        | exact wpAny_pure hQ
        | (refine wpAny_bind (wpAny_load ho ?_)
           rw [hc, hd]
           show wpAny M A (if (["enumerate", "zip", "dict_itemiterator", "dict_reverseitemiterator", "odict_iterator", "itertools.zip_longest", "itertools.pairwise"].contains n && vs[0]? == some (rawInt _)) = true then _ else _) Q E s
           rw [if_neg (by intro h; rw [hn, Bool.false_and] at h; cases h)]
           exact wpAny_pure hQ))
/-- the list at a, as it stands at each turn (a loop may append to it) -/
def Itl (K : PySem.W.Frag) (a : Addr) : It :=
  ⟨fun i H => ∃ xs x, SqL K H a xs ∧ xs[i]? = some x, fun i H x H' => H' = H ∧ ∀ xs, SqL K H a xs → xs[i]? = some x, fun i H => ∃ xs, SqL K H a xs ∧ xs.length ≤ i⟩
def Itt (K : PySem.W.Frag) (a : Addr) : It :=
  ⟨fun i H => ∃ xs x, SqT K H a xs ∧ xs[i]? = some x, fun i H x H' => H' = H ∧ ∀ xs, SqT K H a xs → xs[i]? = some x, fun i H => ∃ xs, SqT K H a xs ∧ xs.length ≤ i⟩
/-- lo, lo + 1, .. (n of them) -/
def Itr (lo : Int) (n : Nat) : It := ⟨fun i _ => i < n, fun i H x H' => H' = H ∧ x = .int (lo + i), fun i _ => n ≤ i⟩
theorem turn_list {P : Program} {w : World} {K : PySem.W.Frag} {tg : Expr} (a it : Addr) : Turn P w K tg (Itl K a) [it] it (fun i h => h.IsListIter it a i) where
  mem := by simp
  obj := fun i h st b hb => by
    have e : b = it := by simpa using hb
    subst e
    obtain ⟨o, e, c, d⟩ := st
    exact ⟨o, e, fun v z => by rw [d] at z; cases z⟩
  keep := fun i h h' st k => st.at fun o e => k it (by simp) o e
  item := by
    intro X hP hw hK hc i pins s σ H E I hf st hg
    subst hP hw hK
    obtain ⟨xs, x, hq, hx⟩ := hg
    obtain ⟨its, rv, p, hz⟩ := I.list hq
    obtain ⟨u, hu, ru⟩ := rv.get hx
    obtain ⟨f0, f1, f2, f3, f4, f5⟩ := hf it (by simp)
    refine wpAny_pyNext_list_item st p.isList (x := u) (by simpa using hu) fun h' st' sb => ?_
    have I1 : Inv X pins σ H { s with heap := h' } := I.turned (t' := s.toks) (fun b o hb e => (sb.2 b hb).trans e) f0 f1 f3 f4 f5
    obtain ⟨o, e, c, d⟩ := id st'
    exact ⟨u, rfl, go_of (s := { s with heap := h' }) e c d (by decide) ⟨x, H, I1, ru, ⟨rfl, fun ys hy => by rw [I.list_inj hy hq]; exact hx⟩, st', fun b hb => (hf b hb).1⟩⟩
  done := by
    intro X hP hw hK hc i pins s σ H E I hf st hg
    subst hP hw hK
    obtain ⟨xs, hq, hx⟩ := hg
    obtain ⟨its, rv, p, hz⟩ := I.list hq
    obtain ⟨f0, f1, f2, f3, f4, f5⟩ := hf it (by simp)
    have hl := rv.length
    exact wpAny_pyNext_list_end (I.ok.hd hc) st p.isList (by simp; omega) fun h' eb => ⟨rfl, I.turned (t' := s.toks) (fun b o hb e => eb b o hb e) f0 f1 f3 f4 f5⟩
  self := fun _ _ _ _ _ st h => wpAny_pyIter_listiter st h
theorem turn_tuple {P : Program} {w : World} {K : PySem.W.Frag} {tg : Expr} (a it : Addr) : Turn P w K tg (Itt K a) [it] it (fun i h => h.IsTupleIter it a i) where
  mem := by simp
  obj := fun i h st b hb => by
    have e : b = it := by simpa using hb
    subst e
    obtain ⟨o, e, c, d⟩ := st
    exact ⟨o, e, fun v z => by rw [d] at z; cases z⟩
  keep := fun i h h' st k => st.at fun o e => k it (by simp) o e
  item := by
    intro X hP hw hK hc i pins s σ H E I hf st hg
    subst hP hw hK
    obtain ⟨xs, x, hq, hx⟩ := hg
    obtain ⟨its, rv, p, hz⟩ := I.tuple hq
    obtain ⟨u, hu, ru⟩ := rv.get hx
    obtain ⟨f0, f1, f2, f3, f4, f5⟩ := hf it (by simp)
    refine wpAny_pyNext_tuple_item st (show s.heap.IsTuple a its.toArray from p) (x := u) (by simpa using hu) fun h' st' sb => ?_
    have I1 : Inv X pins σ H { s with heap := h' } := I.turned (t' := s.toks) (fun b o hb e => (sb.2 b hb).trans e) f0 f1 f3 f4 f5
    obtain ⟨o, e, c, d⟩ := id st'
    exact ⟨u, rfl, go_of (s := { s with heap := h' }) e c d (by decide) ⟨x, H, I1, ru, ⟨rfl, fun ys hy => by rw [I.tuple_inj hy hq]; exact hx⟩, st', fun b hb => (hf b hb).1⟩⟩
  done := by
    intro X hP hw hK hc i pins s σ H E I hf st hg
    subst hP hw hK
    obtain ⟨xs, hq, hx⟩ := hg
    obtain ⟨its, rv, p, hz⟩ := I.tuple hq
    obtain ⟨f0, f1, f2, f3, f4, f5⟩ := hf it (by simp)
    have hl := rv.length
    exact wpAny_pyNext_tuple_end (I.ok.hd hc) st (show s.heap.IsTuple a its.toArray from p) (by simp; omega) fun h' eb => ⟨rfl, I.turned (t' := s.toks) (fun b o hb e => eb b o hb e) f0 f1 f3 f4 f5⟩
  self := fun _ _ _ _ _ st h => wpAny_pyIter_tupleiter st h
theorem turn_range {P : Program} {w : World} {K : PySem.W.Frag} {tg : Expr} (it : Addr) (lo : Int) (n : Nat) : Turn P w K tg (Itr lo n) [it] it (fun i h => IsRangeIter h it (lo + (i : Nat) * 1) ((n : Int) - (i : Nat)) 1) where
  mem := by simp
  obj := fun i h st b hb => by
    have e : b = it := by simpa using hb
    subst e
    exact ⟨_, st, fun v z => by
      have z' : Data.fields _ = Data.cell v := z
      cases z'⟩
  keep := fun i h h' st k => k it (by simp) _ st
  item := by
    intro X hP hw hK hc i pins s σ H E I hf st hg
    subst hP hw hK
    obtain ⟨f0, f1, f2, f3, f4, f5⟩ := hf it (by simp)
    have W := Walks.range (prog := X.prog) (w := X.w) (I.ok.hd hc) it lo 1 n
    refine W.item i s _ _ hg st fun v h' tk hv st' kk => ?_
    obtain ⟨t, rfl⟩ := hv
    have I1 : Inv X pins σ H { s with heap := h', toks := tk } := I.turned (fun b o hb e => kk b o (by simpa using hb) e) f0 f1 f3 f4 f5
    refine ⟨_, rfl, go_of (s := { s with heap := h', toks := tk }) (n := "range_iterator") st' rfl rfl (by decide) ⟨.int (lo + i), H, I1, ⟨t, ?_⟩, ⟨rfl, rfl⟩, st', fun b hb => (hf b hb).1⟩⟩
    rw [Int.mul_one]
  done := by
    intro X hP hw hK hc i pins s σ H E I hf st hg
    subst hP hw hK
    obtain ⟨f0, f1, f2, f3, f4, f5⟩ := hf it (by simp)
    exact wpAny_pyNext_range_end (I.ok.hd hc) st (by have : n ≤ i := hg; omega) fun h' eb => ⟨rfl, I.turned (t' := s.toks) (fun b o hb e => eb b o hb e) f0 f1 f3 f4 f5⟩
  self := fun _ _ _ _ _ st h => wpAny_pyIter_rangeiter st h
end L2
namespace L2
open PySem PySem.Spec PyProof.Rows
section
variable {X : Cx} {tg : Expr}
def iList (K : PySem.W.Frag) (tl : TE) : TI := fun σ H R => tl σ H fun x H1 => ∃ a, x = .ref a ∧ (∃ xs, SqL K H1 a xs) ∧ R (Itl K a) H1
def iTup (K : PySem.W.Frag) (tl : TE) : TI := fun σ H R => tl σ H fun x H1 => ∃ a, x = .ref a ∧ (∃ xs, SqT K H1 a xs) ∧ R (Itt K a) H1
theorem pi_list {l : Expr} {tl : TE} (hl : PE X l tl) : PI X tg l (iList X.K tl) := by
  intro pins s σ H R I h
  refine thn (hl pins s σ H _ I h) fun v s1 ⟨x, H1, I1, r1, q1⟩ => ?_
  obtain ⟨a, e, ⟨xs, hq⟩, q⟩ := q1
  subst e
  cases r1
  obtain ⟨its, rv, p, hz⟩ := I1.list hq
  refine wpAny_pyIter_list p.isList ?_
  refine ⟨s1.heap.objs.size, [s1.heap.objs.size], _, _, H1, rfl, I1.kept (t' := s1.toks) fun b o e => Heap.get?_push_of_some _ e, turn_list a _, ⟨_, Heap.get?_push_size _ rfl, rfl, rfl⟩, fun b hb => ?_, q⟩
  have e : b = s1.heap.objs.size := by simpa using hb
  subst e
  exact I1.fpOk (Nat.le_refl _) (I1.hok.fresh (Nat.le_refl _))
theorem pi_tup {l : Expr} {tl : TE} (hl : PE X l tl) : PI X tg l (iTup X.K tl) := by
  intro pins s σ H R I h
  refine thn (hl pins s σ H _ I h) fun v s1 ⟨x, H1, I1, r1, q1⟩ => ?_
  obtain ⟨a, e, ⟨xs, hq⟩, q⟩ := q1
  subst e
  cases r1
  obtain ⟨its, rv, p, hz⟩ := I1.tuple hq
  refine wpAny_pyIter_tuple (show s1.heap.IsTuple a its.toArray from p) ?_
  refine ⟨s1.heap.objs.size, [s1.heap.objs.size], _, _, H1, rfl, I1.kept (t' := s1.toks) fun b o e => Heap.get?_push_of_some _ e, turn_tuple a _, ⟨_, Heap.get?_push_size _ rfl, rfl, rfl⟩, fun b hb => ?_, q⟩
  have e : b = s1.heap.objs.size := by simpa using hb
  subst e
  exact I1.fpOk (Nat.le_refl _) (I1.hok.fresh (Nat.le_refl _))
/-- a range object just made, walked -/
theorem range_it {pins : List (Addr × Obj)} {σ : St} {H : Hp} {s : Shared} {R : It → Hp → Prop} {E : Value → Shared → Prop} {lo hi : Int} {t u v : Tok} {tk : Nat} (I : Inv X pins σ H s) (h1 : -(2 ^ 62) ≤ lo) (h2 : lo < 2 ^ 62) (h3 : -(2 ^ 62) ≤ hi) (h4 : hi < 2 ^ 62)
    (q : R (Itr lo (hi - lo).toNat) H) : wpAny (model X.prog X.w) X.A (pyIter (.ref s.heap.objs.size)) (PIE X pins σ tg R) E { s with heap := s.heap.push { cls := .type "range", data := .fields #[.int lo t, .int hi u, .int 1 v] }, toks := tk } := by
  refine wpAny_pyIter_range (IsRange.new ..) (small_one h1 h2 h3 h4) ?_
  have I1 : Inv X pins σ H { s with heap := s.heap.push { cls := .type "range", data := .fields #[.int lo t, .int hi u, .int 1 v] }, toks := tk } := I.kept fun b o e => Heap.get?_push_of_some _ e
  refine ⟨(s.heap.push { cls := .type "range", data := .fields #[.int lo t, .int hi u, .int 1 v] }).objs.size, [(s.heap.push { cls := .type "range", data := .fields #[.int lo t, .int hi u, .int 1 v] }).objs.size], _, _, H, rfl,
    I1.kept (t' := tk) fun b o e => Heap.get?_push_of_some _ e, turn_range _ lo (hi - lo).toNat, ?_, fun b hb => ?_, q⟩
  · have e1 : lo + ((0 : Nat) : Int) * 1 = lo := by simp
    have e2 : (((hi - lo).toNat : Nat) : Int) - ((0 : Nat) : Int) = Builtin.Range.rangeSize lo hi 1 := by rw [rangeSize_one]; split <;> omega
    show IsRangeIter _ _ (lo + ((0 : Nat) : Int) * 1) ((((hi - lo).toNat : Nat) : Int) - ((0 : Nat) : Int)) 1
    rw [e1, e2]
    exact Heap.get?_push_size _ rfl
  · have e : b = (s.heap.push { cls := .type "range", data := .fields #[.int lo t, .int hi u, .int 1 v] }).objs.size := by simpa using hb
    subst e
    exact I1.fpOk (Nat.le_refl _) (I1.hok.fresh (Nat.le_refl _))
def iRng1 (ta : TA) : TI := fun σ H R => ta σ H fun vs H1 => ∃ j : Int, vs = [.int j] ∧ -(2 ^ 62) ≤ j ∧ j < 2 ^ 62 ∧ R (Itr 0 j.toNat) H1
theorem pi_range1 {a : Expr} {ta : TA} {p pos : Pos} (hg : Gl X "range") (hm : X.mg "range" = none) (ha : PA X [a] ta) (hs : starEach [a] X.env = [(false, eval a X.env)] := by rfl) : PI X tg (.Call (.Name "range" p) [a] [] pos) (iRng1 ta) := by
  intro pins s σ H R I h
  refine Call_ (ld_blt I hg hm boot_range (PyProof.Rows.callWith_type1 (thn (ha pos pins s σ H _ I h) fun us s1 ⟨vs, H1, I1, r1, q1⟩ => ?_) hs rfl))
  obtain ⟨j, e, q1, q2, q⟩ := q1
  subst e
  cases r1 with
  | cons r rr =>
    cases rr
    obtain ⟨t, rfl⟩ := r
    exact call_range_1 (range_it I1 (by omega) (by omega) q1 q2 (by simpa using q))
/-! ### for -/
/-- W: the invariant by the turn and a measure; N: what the body is to reach -/
def tFor (wi : TI) (g : TG) (tb : TS) : TS := fun D σ H => wi σ H fun J H1 => ∃ W : Nat → Nat → St → Hp → Prop, (∃ m, W 0 m σ H1) ∧ ∀ i m σ H, W i m σ H →
  (J.stop i H ∧ D.nx σ H) ∨ (J.go i H ∧ ∃ N : St → Hp → Prop, (∀ σ' H', N σ' H' → ∃ m', m' < m ∧ W (i + 1) m' σ' H') ∧ ∀ x H', J.yld i H x H' → g x σ H' fun σ2 H2 => tb { D with nx := N, ct := N, bk := D.nx } σ2 H2)
/-- the records at fp as they stand -/
def pinsAt (fp : List Addr) (h : Heap) : List (Addr × Obj) := fp.filterMap fun b => (h.get? b).map fun o => (b, o)
theorem mem_pinsAt {fp : List Addr} {h : Heap} {b : Addr} {o : Obj} (hb : b ∈ fp) (e : h.get? b = some o) : (b, o) ∈ pinsAt fp h := List.mem_filterMap.mpr ⟨b, hb, by rw [e]; rfl⟩
theorem of_pinsAt {fp : List Addr} {h : Heap} {p : Addr × Obj} (hp : p ∈ pinsAt fp h) : p.1 ∈ fp ∧ h.get? p.1 = some p.2 := by
  obtain ⟨b, hb, e⟩ := List.mem_filterMap.mp hp
  cases q : h.get? b with
  | none => rw [q] at e; cases e
  | some o =>
    rw [q] at e
    have e' : (b, o) = p := Option.some.inj e
    subst e'
    exact ⟨hb, q⟩
theorem Inv.pinned {pins : List (Addr × Obj)} {σ : St} {H : Hp} {s : Shared} {fp : List Addr} (I : Inv X pins σ H s) (hf : ∀ b ∈ fp, FpOk X pins H b) (ho : ∀ b ∈ fp, ∃ o, s.heap.get? b = some o ∧ ∀ v, o.data ≠ .cell v) : Inv X (pins ++ pinsAt fp s.heap) σ H s :=
  I.pins_of fun p hp => (List.mem_append.mp hp).elim (fun z => I.pin p (List.mem_append_right _ z)) fun z => by
    obtain ⟨hb, e⟩ := of_pinsAt z
    obtain ⟨f0, f1, f2, _⟩ := hf p.1 hb
    obtain ⟨o, e', d⟩ := ho p.1 hb
    rw [e] at e'; cases e'
    exact ⟨e, f0, f1, f2, d⟩
theorem Inv.unpinned {pins pl : List (Addr × Obj)} {σ : St} {H : Hp} {s : Shared} (I : Inv X (pins ++ pl) σ H s) : Inv X pins σ H s := I.pins_of fun p hp => I.pin p (List.mem_append_right _ (List.mem_append_left _ hp))
theorem ps_for {iter : Expr} {body : List Stmt} {wi : TI} {g : TG} {tb : TS} {pos : Pos} (hp : PassesOwn (model X.prog X.w) X.A X.env X.xe) (hc : X.calm = true) (hi : PI X tg iter wi) (hg : PG X tg g) (hb : PSs X body tb)
    (hs : ∀ x, foldedSetIterable iter X.env x = pure x := by intro _; rfl) : PS X (.For tg iter body [] pos) (tFor wi g tb) := by
  intro pins s σ H D I h
  refine wpAny_For (thn (hi pins s σ H _ I h) fun v s1 h1 => thn h1 fun itv s2 h2 => ?_) hs
  obtain ⟨it, fp, tn, J, H2, e, I2, T, st2, f2, W, ⟨m0, w0⟩, turn⟩ := h2
  subst e
  -- what stays true of the iterator's objects through the loop
  have stat : ∀ {H' : Hp}, (∀ b ∈ fp, H' b = none) → ∀ b ∈ fp, FpOk X pins H' b := fun hn b hb => ⟨hn b hb, (f2 b hb).2⟩
  refine codeAny_forLoop_any (fun n s' => ∃ i σ' H', Inv X pins σ' H' s' ∧ tn i s'.heap ∧ (∀ b ∈ fp, H' b = none) ∧ W i n σ' H') ?_ m0 ⟨0, σ, H2, I2, st2, fun b hb => (f2 b hb).1, w0⟩
  rintro n s3 ⟨i, σ3, H3, I3, st3, fr3, w3⟩
  rcases turn i n σ3 H3 w3 with ⟨stop, qn⟩ | ⟨go, N, hN, step⟩
  · refine wpAny_passesOwn hp (thn (T.done X rfl rfl rfl hc i pins s3 σ3 H3 X.xe I3 (stat fr3) st3 stop) fun r s4 ⟨hr, I4⟩ => ?_)
    subst hr
    exact wpAny_execs_nil ⟨σ3, H3, I4, qn⟩
  · refine wpAny_passesOwn hp (thn (T.item X rfl rfl rfl hc i pins s3 σ3 H3 X.xe I3 (stat fr3) st3 go) fun r s4 ⟨u, hr, h4⟩ => ?_)
    subst hr
    refine wpAny_passesOwn hp (thn h4 fun _ s5 ⟨x, H5, I5, r5, y5, st5, fr5⟩ => ?_)
    have I5' := I5.pinned (stat fr5) (T.obj _ _ st5)
    refine wpAny_passesOwn hp (thn (hg _ s5 σ3 H5 x u _ I5' r5 (step x H5 y5)) fun _ s6 ⟨σ6, H6, I6, q6⟩ => ?_)
    refine wpAny_passesOwn hp (thn (hb _ s6 σ6 H6 _ I6 q6) fun f s7 q7 => ?_)
    have again : ∀ {σ7 : St} {H7 : Hp}, Inv X (pins ++ pinsAt fp s5.heap) σ7 H7 s7 → N σ7 H7 → ∃ m, m < n ∧ ∃ i σ' H', Inv X pins σ' H' s7 ∧ tn i s7.heap ∧ (∀ b ∈ fp, H' b = none) ∧ W i m σ' H' := fun {σ7 H7} I7 n7 => by
      obtain ⟨m', hm, w7⟩ := hN σ7 H7 n7
      refine ⟨m', hm, i + 1, σ7, H7, I7.unpinned, T.keep _ _ _ st5 fun b hb o e => (I7.pin (b, o) (List.mem_append_right _ (List.mem_append_right _ (mem_pinsAt hb e)))).1, fun b hb => ?_, w7⟩
      obtain ⟨o, e, d⟩ := T.obj _ _ st5 b hb
      exact (I7.pin (b, o) (List.mem_append_right _ (List.mem_append_right _ (mem_pinsAt hb e)))).2.1
    cases f with
    | next => obtain ⟨σ7, H7, I7, n7⟩ := q7; exact again I7 n7
    | cont => obtain ⟨σ7, H7, I7, n7⟩ := q7; exact again I7 n7
    | brk => obtain ⟨σ7, H7, I7, q7⟩ := q7; exact ⟨σ7, H7, I7.unpinned, q7⟩
    | ret v => obtain ⟨x7, σ7, H7, I7, r7, q7⟩ := q7; exact ⟨x7, σ7, H7, I7.unpinned, r7, q7⟩
end
/-! ### the forms one uses -/
/-- over a list that the body leaves as it is -/
theorem for_list {K : PySem.W.Frag} {a : Addr} {xs : List V} {g : TG} {tb : TS} {D : Ends} {σ : St} {H : Hp} (Pv : Nat → St → Hp → Prop) (h0 : Pv 0 σ H) (hl : ∀ i σ H, i ≤ xs.length → Pv i σ H → SqL K H a xs)
    (hs : ∀ i x σ H, xs[i]? = some x → Pv i σ H → g x σ H fun σ2 H2 => tb { D with nx := Pv (i + 1), ct := Pv (i + 1), bk := D.nx } σ2 H2) (hd : ∀ σ H, Pv xs.length σ H → D.nx σ H) :
    ∃ W : Nat → Nat → St → Hp → Prop, (∃ m, W 0 m σ H) ∧ ∀ i m σ H, W i m σ H →
      ((Itl K a).stop i H ∧ D.nx σ H) ∨ ((Itl K a).go i H ∧ ∃ N : St → Hp → Prop, (∀ σ' H', N σ' H' → ∃ m', m' < m ∧ W (i + 1) m' σ' H') ∧ ∀ x H', (Itl K a).yld i H x H' → g x σ H' fun σ2 H2 => tb { D with nx := N, ct := N, bk := D.nx } σ2 H2) := by
  refine ⟨fun i m σ H => m = xs.length - i ∧ i ≤ xs.length ∧ Pv i σ H, ⟨xs.length, by simp, Nat.zero_le _, h0⟩, ?_⟩
  rintro i m σ H ⟨rfl, hi, p⟩
  have q := hl i σ H hi p
  by_cases hlt : i < xs.length
  · refine .inr ⟨⟨xs, xs[i], q, by simp [hlt]⟩, Pv (i + 1), fun σ' H' p' => ⟨xs.length - (i + 1), by omega, rfl, hlt, p'⟩, fun x H' y => ?_⟩
    obtain ⟨e, y⟩ := y
    subst e
    exact hs i x σ _ (y xs q) p
  · have e : i = xs.length := by omega
    subst e
    exact .inl ⟨⟨xs, q, Nat.le_refl _⟩, hd σ H p⟩
theorem for_tup {K : PySem.W.Frag} {a : Addr} {xs : List V} {g : TG} {tb : TS} {D : Ends} {σ : St} {H : Hp} (Pv : Nat → St → Hp → Prop) (h0 : Pv 0 σ H) (hl : ∀ i σ H, i ≤ xs.length → Pv i σ H → SqT K H a xs)
    (hs : ∀ i x σ H, xs[i]? = some x → Pv i σ H → g x σ H fun σ2 H2 => tb { D with nx := Pv (i + 1), ct := Pv (i + 1), bk := D.nx } σ2 H2) (hd : ∀ σ H, Pv xs.length σ H → D.nx σ H) :
    ∃ W : Nat → Nat → St → Hp → Prop, (∃ m, W 0 m σ H) ∧ ∀ i m σ H, W i m σ H →
      ((Itt K a).stop i H ∧ D.nx σ H) ∨ ((Itt K a).go i H ∧ ∃ N : St → Hp → Prop, (∀ σ' H', N σ' H' → ∃ m', m' < m ∧ W (i + 1) m' σ' H') ∧ ∀ x H', (Itt K a).yld i H x H' → g x σ H' fun σ2 H2 => tb { D with nx := N, ct := N, bk := D.nx } σ2 H2) := by
  refine ⟨fun i m σ H => m = xs.length - i ∧ i ≤ xs.length ∧ Pv i σ H, ⟨xs.length, by simp, Nat.zero_le _, h0⟩, ?_⟩
  rintro i m σ H ⟨rfl, hi, p⟩
  have q := hl i σ H hi p
  by_cases hlt : i < xs.length
  · refine .inr ⟨⟨xs, xs[i], q, by simp [hlt]⟩, Pv (i + 1), fun σ' H' p' => ⟨xs.length - (i + 1), by omega, rfl, hlt, p'⟩, fun x H' y => ?_⟩
    obtain ⟨e, y⟩ := y
    subst e
    exact hs i x σ _ (y xs q) p
  · have e : i = xs.length := by omega
    subst e
    exact .inl ⟨⟨xs, q, Nat.le_refl _⟩, hd σ H p⟩
theorem for_range {lo : Int} {n : Nat} {g : TG} {tb : TS} {D : Ends} {σ : St} {H : Hp} (Pv : Nat → St → Hp → Prop) (h0 : Pv 0 σ H)
    (hs : ∀ i σ H, i < n → Pv i σ H → g (.int (lo + i)) σ H fun σ2 H2 => tb { D with nx := Pv (i + 1), ct := Pv (i + 1), bk := D.nx } σ2 H2) (hd : ∀ σ H, Pv n σ H → D.nx σ H) :
    ∃ W : Nat → Nat → St → Hp → Prop, (∃ m, W 0 m σ H) ∧ ∀ i m σ H, W i m σ H →
      ((Itr lo n).stop i H ∧ D.nx σ H) ∨ ((Itr lo n).go i H ∧ ∃ N : St → Hp → Prop, (∀ σ' H', N σ' H' → ∃ m', m' < m ∧ W (i + 1) m' σ' H') ∧ ∀ x H', (Itr lo n).yld i H x H' → g x σ H' fun σ2 H2 => tb { D with nx := N, ct := N, bk := D.nx } σ2 H2) := by
  refine ⟨fun i m σ H => m = n - i ∧ i ≤ n ∧ Pv i σ H, ⟨n, by simp, Nat.zero_le _, h0⟩, ?_⟩
  rintro i m σ H ⟨rfl, hi, p⟩
  by_cases hlt : i < n
  · refine .inr ⟨hlt, Pv (i + 1), fun σ' H' p' => ⟨n - (i + 1), by omega, rfl, hlt, p'⟩, fun x H' y => ?_⟩
    obtain ⟨e, y⟩ := y
    subst e y
    exact hs i σ _ hlt p
  · have e : i = n := by omega
    subst e
    exact .inl ⟨Nat.le_refl _, hd σ H p⟩
end L2
namespace L2
open PySem PySem.Spec PyProof.Rows
abbrev R2 := V → V → Hp → VK → Prop
/-- a two-place operation on values: f is binaryOp op, inplaceOp op or compareOp op -/
def OpR (X : Cx) (f : Value → Value → Sem Value) (r : R2) : Prop :=
  ∀ (pins : List (Addr × Obj)) (s : Shared) (σ : St) (H : Hp) (x y : V) (v u : Value) (Q : VK), Inv X pins σ H s → RelV x v → RelV y u → r x y H Q →
    wpAny (model X.prog X.w) X.A (f v u) (EP X pins σ Q) X.xe s
/-- a one-place operation -/
def UnR (X : Cx) (f : Value → Sem Value) (r : V → Hp → VK → Prop) : Prop :=
  ∀ (pins : List (Addr × Obj)) (s : Shared) (σ : St) (H : Hp) (x : V) (v : Value) (Q : VK), Inv X pins σ H s → RelV x v → r x H Q →
    wpAny (model X.prog X.w) X.A (f v) (EP X pins σ Q) X.xe s
/-- a call of a value that is known (a builtin, a type) with values -/
def CallR (X : Cx) (f : Value) (r : List V → Hp → VK → Prop) : Prop :=
  ∀ (pins : List (Addr × Obj)) (s : Shared) (σ : St) (H : Hp) (xs : List V) (us : List Value) (Q : VK), Inv X pins σ H s → Vals xs us → r xs H Q →
    wpAny (model X.prog X.w) X.A (call f us) (EP X pins σ Q) X.xe s
def tOp (r : R2) (ta tb : TE) : TE := fun σ H Q => ta σ H fun x H1 => tb σ H1 fun y H2 => r x y H2 Q
def tUn (r : V → Hp → VK → Prop) (ta : TE) : TE := fun σ H Q => ta σ H fun x H1 => r x H1 Q
/-- ints in, under C, and a value out -/
def rI (C : Int → Int → Prop) (g : Int → Int → V) : R2 := fun x y H Q => ∃ i j, x = .int i ∧ y = .int j ∧ C i j ∧ Q (g i j) H
def rI0 (g : Int → Int → V) : R2 := fun x y H Q => ∃ i j, x = .int i ∧ y = .int j ∧ Q (g i j) H
def rU (g : Int → V) : V → Hp → VK → Prop := fun x H Q => ∃ i, x = .int i ∧ Q (g i) H
section
variable {X : Cx} {a b c : Expr} {ta tb tc : TE} {pos : Pos}
theorem binT (ha : PE X a ta) (hb : PE X b tb) {pins : List (Addr × Obj)} {s : Shared} {σ : St} {H : Hp} {R : V → V → Hp → Prop} (I : Inv X pins σ H s)
    (h : ta σ H fun x H1 => tb σ H1 fun y H2 => R x y H2) {Q : Value → Shared → Prop} {f : Value → Value → Sem Value}
    (hf : ∀ v u s2 x y H2, Inv X pins σ H2 s2 → RelV x v → RelV y u → R x y H2 → wpAny (model X.prog X.w) X.A (f v u) Q X.xe s2) :
    wpAny (model X.prog X.w) X.A (eval a X.env) (fun v s₁ => wpAny (model X.prog X.w) X.A (eval b X.env) (fun u s₂ => wpAny (model X.prog X.w) X.A (f v u) Q X.xe s₂) X.xe s₁) X.xe s := by
  refine thn (ha pins s σ H _ I h) fun v s1 ⟨x, H1, I1, r1, q1⟩ => ?_
  refine thn (hb pins s1 σ H1 _ I1 q1) fun u s2 ⟨y, H2, I2, r2, q2⟩ => ?_
  exact hf v u s2 x y H2 I2 r1 r2 q2
theorem pe_op {op : Operator} {r : R2} (ho : OpR X (binaryOp op) r) (ha : PE X a ta) (hb : PE X b tb) : PE X (.BinOp a op b pos) (tOp r ta tb) := by
  intro pins s σ H Q I h
  exact wpAny_BinOp (binT ha hb I h fun v u s2 x y H2 I2 rx ry q => ho pins s2 σ H2 x y v u Q I2 rx ry q)
theorem pe_un {op : UnaryOp} {r : V → Hp → VK → Prop} (ho : UnR X (unaryOp op) r) (ha : PE X a ta) : PE X (.UnaryOp op a pos) (tUn r ta) := by
  intro pins s σ H Q I h
  exact UnaryOp_ (thn (ha pins s σ H _ I h) fun v s1 ⟨x, H1, I1, r1, q1⟩ => ho pins s1 σ H1 x v Q I1 r1 q1)
/-! ### ints -/
theorem opI {f : Value → Value → Sem Value} {C : Int → Int → Prop} {g : Int → Int → Int}
    (rule : ∀ (i j : Int) (t u : Tok) (s : Shared) (Q : Value → Shared → Prop) (E : Value → Shared → Prop), C i j → Q (.int (g i j) s.toks) { s with toks := s.toks + 1 } → wpAny (model X.prog X.w) X.A (f (.int i t) (.int j u)) Q E s) :
    OpR X f (rI C fun i j => .int (g i j)) := by
  intro pins s σ H x y v u Q I rx ry h
  obtain ⟨i, j, rfl, rfl, hc, q⟩ := h
  obtain ⟨t, rfl⟩ := rx
  obtain ⟨t', rfl⟩ := ry
  exact rule i j t t' s _ _ hc ⟨.int (g i j), H, I.tok _, ⟨_, rfl⟩, q⟩
theorem opI0 {f : Value → Value → Sem Value} {g : Int → Int → Int}
    (rule : ∀ (i j : Int) (t u : Tok) (s : Shared) (Q : Value → Shared → Prop) (E : Value → Shared → Prop), Q (.int (g i j) s.toks) { s with toks := s.toks + 1 } → wpAny (model X.prog X.w) X.A (f (.int i t) (.int j u)) Q E s) :
    OpR X f (rI0 fun i j => .int (g i j)) := by
  intro pins s σ H x y v u Q I rx ry h
  obtain ⟨i, j, rfl, rfl, q⟩ := h
  obtain ⟨t, rfl⟩ := rx
  obtain ⟨t', rfl⟩ := ry
  exact rule i j t t' s _ _ ⟨.int (g i j), H, I.tok _, ⟨_, rfl⟩, q⟩
theorem opB0 {f : Value → Value → Sem Value} {g : Int → Int → Bool}
    (rule : ∀ (i j : Int) (t u : Tok) (s : Shared) (Q : Value → Shared → Prop) (E : Value → Shared → Prop), Q (.bool (g i j)) s → wpAny (model X.prog X.w) X.A (f (.int i t) (.int j u)) Q E s) :
    OpR X f (rI0 fun i j => .bl (g i j)) := by
  intro pins s σ H x y v u Q I rx ry h
  obtain ⟨i, j, rfl, rfl, q⟩ := h
  obtain ⟨t, rfl⟩ := rx
  obtain ⟨t', rfl⟩ := ry
  exact rule i j t t' s _ _ ⟨.bl (g i j), H, I, rfl, q⟩
def CDiv (i j : Int) : Prop := 0 < j ∧ j < 1073741824
def CPow (i j : Int) : Prop := 0 ≤ j ∧ j ≤ 1000000 ∧ i.natAbs < 2 ^ 64
def CMul (i j : Int) : Prop := (-(2 ^ 64) < i ∧ i < 2 ^ 64) ∨ (-(2 ^ 64) < j ∧ j < 2 ^ 64)
theorem CMul.ok {i j : Int} (h : CMul i j) : IntMulOk i j := by
  rcases h with ⟨h1, h2⟩ | ⟨h1, h2⟩
  · exact .of_left (intBits_le_64 h1 h2)
  · exact .of_right (intBits_le_64 h1 h2)
theorem op_add : OpR X (binaryOp .Add) (rI0 fun i j => .int (i + j)) := opI0 fun _ _ _ _ _ _ _ q => add_int q
theorem op_sub : OpR X (binaryOp .Sub) (rI0 fun i j => .int (i - j)) := opI0 fun _ _ _ _ _ _ _ q => sub_int q
theorem op_mul : OpR X (binaryOp .Mult) (rI CMul fun i j => .int (i * j)) := opI fun _ _ _ _ _ _ _ hc q => mul_int q hc.ok
/-- // by a positive divisor -/
theorem op_fdiv : OpR X (binaryOp .FloorDiv) (rI CDiv fun i j => .int (i / j)) := opI fun i j _ _ _ _ _ hc q => by
  have h1 : (0 : Int) < j := hc.1
  have h2 : j < 1073741824 := hc.2
  exact floordiv_int (by omega) (by rw [Int.fdiv_eq_ediv_of_nonneg i (by omega)]; exact q) (.inl (PyProof.noPylong_small (by omega)))
/-- % by a positive divisor of any size -/
theorem op_mod : OpR X (binaryOp .Mod) (rI (fun _ j => 0 < j) fun i j => .int (i % j)) := opI fun i j _ _ _ _ _ hc q => by
  have h1 : (0 : Int) < j := hc
  exact mod_int' (by omega) (by rw [Int.fmod_eq_emod_of_nonneg i (by omega)]; exact q)
theorem op_pow : OpR X (binaryOp .Pow) (rI CPow fun i j => .int (i ^ j.toNat)) := opI fun _ _ _ _ _ _ _ hc q => pow_int_small hc.1 hc.2.1 hc.2.2 q
theorem unI {f : Value → Sem Value} {g : Int → Int}
    (rule : ∀ (i : Int) (t : Tok) (s : Shared) (Q : Value → Shared → Prop) (E : Value → Shared → Prop), Q (.int (g i) s.toks) { s with toks := s.toks + 1 } → wpAny (model X.prog X.w) X.A (f (.int i t)) Q E s) :
    UnR X f (rU fun i => .int (g i)) := by
  intro pins s σ H x v Q I rx h
  obtain ⟨i, rfl, q⟩ := h
  obtain ⟨t, rfl⟩ := rx
  exact rule i t s _ _ ⟨.int (g i), H, I.tok _, ⟨_, rfl⟩, q⟩
theorem un_neg : UnR X (unaryOp .USub) (rU fun i => .int (-i)) := unI fun _ _ _ _ _ q => neg_int q
/-! ### bools among ints: n += (a < b) -/
end
/-! ### comparisons -/
/-- the scalars that == tells apart as data does -/
def scal : V → V → Bool
  | .non, .non => true | .non, .int _ => true | .int _, .non => true | .non, .bl _ => true | .bl _, .non => true | .non, .str _ => true | .str _, .non => true
  | .int _, .int _ => true | .bl _, .bl _ => true | .str _, .str _ => true | .byt _, .byt _ => true
  | .int _, .str _ => true | .str _, .int _ => true | .bl _, .str _ => true | .str _, .bl _ => true
  | _, _ => false
def rEq : R2 := fun x y H Q => scal x y = true ∧ Q (.bl (decide (x = y))) H
def rNe : R2 := fun x y H Q => scal x y = true ∧ Q (.bl (!decide (x = y))) H
theorem dec_int {i j : Int} : decide (V.int i = V.int j) = (i == j) := by
  rw [Bool.eq_iff_iff]
  simp
theorem dec_bl {i j : Bool} : decide (V.bl i = V.bl j) = (i == j) := by
  rw [Bool.eq_iff_iff]
  simp
theorem dec_str {i j : Str} : decide (V.str i = V.str j) = (i == j) := by
  rw [Bool.eq_iff_iff]
  simp
theorem dec_byt {i j : Array UInt8} : decide (V.byt i = V.byt j) = (i.toList == j.toList) := by
  rw [Bool.eq_iff_iff]
  cases i
  cases j
  simp
section
variable {X : Cx} {a b c : Expr} {ta tb tc : TE} {pos : Pos}
theorem fin_bl {pins : List (Addr × Obj)} {σ : St} {H : Hp} {s : Shared} {Q : VK} {k k' : Bool} (I : Inv X pins σ H s) (q : Q (.bl k) H) (e : k = k') : EP X pins σ Q (.bool k') s := by
  subst e
  exact ⟨.bl k, H, I, rfl, q⟩
theorem op_eq : OpR X (compareOp .Eq) rEq := by
  intro pins s σ H x y v u Q I rx ry h
  obtain ⟨hs, q⟩ := h
  cases x with
  | non =>
    cases rx
    cases y with
    | non => cases ry; exact PySem.EqNone.eq_none_none (fin_bl I q (by simp))
    | bl j => cases ry; exact PySem.EqNone.eq_none_bool (fin_bl I q (by simp))
    | int j => obtain ⟨t', rfl⟩ := ry; exact PySem.EqNone.eq_none_int (fin_bl I q (by simp))
    | str j => obtain ⟨t', rfl⟩ := ry; exact PySem.EqNone.eq_none_str (fin_bl I q (by simp))
    | _ => exact absurd (show false = true from hs) Bool.false_ne_true
  | bl i =>
    cases rx
    cases y with
    | non => cases ry; exact PySem.EqNone.eq_bool_none (fin_bl I q (by simp))
    | bl j => cases ry; exact eq_bool (fin_bl I q dec_bl)
    | str j => obtain ⟨t', rfl⟩ := ry; exact PySem.EqMixed.eq_bool_str (fin_bl I q (by simp))
    | _ => exact absurd (show false = true from hs) Bool.false_ne_true
  | int i =>
    obtain ⟨t, rfl⟩ := rx
    cases y with
    | non => cases ry; exact PySem.EqNone.eq_int_none (fin_bl I q (by simp))
    | int j => obtain ⟨t', rfl⟩ := ry; exact eq_int (fin_bl I q dec_int)
    | str j => obtain ⟨t', rfl⟩ := ry; exact PySem.EqMixed.eq_int_str (fin_bl I q (by simp))
    | _ => exact absurd (show false = true from hs) Bool.false_ne_true
  | str i =>
    obtain ⟨t, rfl⟩ := rx
    cases y with
    | non => cases ry; exact PySem.EqNone.eq_str_none (fin_bl I q (by simp))
    | bl j => cases ry; exact PySem.EqMixed.eq_str_bool (fin_bl I q (by simp))
    | int j => obtain ⟨t', rfl⟩ := ry; exact PySem.EqMixed.eq_str_int (fin_bl I q (by simp))
    | str j => obtain ⟨t', rfl⟩ := ry; exact eq_str (fin_bl I q dec_str)
    | _ => exact absurd (show false = true from hs) Bool.false_ne_true
  | byt i =>
    obtain ⟨t, rfl⟩ := rx
    cases y with
    | byt j => obtain ⟨t', rfl⟩ := ry; exact PySem.W.eq_bytes (fin_bl I q dec_byt)
    | _ => exact absurd (show false = true from hs) Bool.false_ne_true
  | _ => cases y <;> exact absurd (show false = true from hs) Bool.false_ne_true
theorem op_ne : OpR X (compareOp .NotEq) rNe := by
  intro pins s σ H x y v u Q I rx ry h
  obtain ⟨hs, q⟩ := h
  cases x with
  | non =>
    cases rx
    cases y with
    | non => cases ry; exact PySem.EqNone.ne_none_none (fin_bl I q (by simp))
    | bl j => cases ry; exact PySem.EqNone.ne_none_bool (fin_bl I q (by simp))
    | int j => obtain ⟨t', rfl⟩ := ry; exact PySem.EqNone.ne_none_int (fin_bl I q (by simp))
    | str j => obtain ⟨t', rfl⟩ := ry; exact PySem.EqNone.ne_none_str (fin_bl I q (by simp))
    | _ => exact absurd (show false = true from hs) Bool.false_ne_true
  | bl i =>
    cases rx
    cases y with
    | non => cases ry; exact PySem.EqNone.ne_bool_none (fin_bl I q (by simp))
    | bl j => cases ry; exact ne_bool (fin_bl I q (congrArg not dec_bl))
    | str j => obtain ⟨t', rfl⟩ := ry; exact PySem.EqMixed.ne_bool_str (fin_bl I q (by simp))
    | _ => exact absurd (show false = true from hs) Bool.false_ne_true
  | int i =>
    obtain ⟨t, rfl⟩ := rx
    cases y with
    | non => cases ry; exact PySem.EqNone.ne_int_none (fin_bl I q (by simp))
    | int j => obtain ⟨t', rfl⟩ := ry; exact ne_int (fin_bl I q (congrArg not dec_int))
    | str j => obtain ⟨t', rfl⟩ := ry; exact PySem.EqMixed.ne_int_str (fin_bl I q (by simp))
    | _ => exact absurd (show false = true from hs) Bool.false_ne_true
  | str i =>
    obtain ⟨t, rfl⟩ := rx
    cases y with
    | non => cases ry; exact PySem.EqNone.ne_str_none (fin_bl I q (by simp))
    | bl j => cases ry; exact PySem.EqMixed.ne_str_bool (fin_bl I q (by simp))
    | int j => obtain ⟨t', rfl⟩ := ry; exact PySem.EqMixed.ne_str_int (fin_bl I q (by simp))
    | str j => obtain ⟨t', rfl⟩ := ry; exact ne_str (fin_bl I q (congrArg not dec_str))
    | _ => exact absurd (show false = true from hs) Bool.false_ne_true
  | byt i =>
    obtain ⟨t, rfl⟩ := rx
    cases y with
    | byt j => obtain ⟨t', rfl⟩ := ry; exact PySem.W.ne_bytes (fin_bl I q (congrArg not dec_byt))
    | _ => exact absurd (show false = true from hs) Bool.false_ne_true
  | _ => cases y <;> exact absurd (show false = true from hs) Bool.false_ne_true
theorem op_lt : OpR X (compareOp .Lt) (rI0 fun i j => .bl (decide (i < j))) := opB0 fun _ _ _ _ _ _ _ q => lt_int q
theorem op_le : OpR X (compareOp .LtE) (rI0 fun i j => .bl (decide (i ≤ j))) := opB0 fun _ _ _ _ _ _ _ q => le_int q
theorem op_gt : OpR X (compareOp .Gt) (rI0 fun i j => .bl (decide (j < i))) := opB0 fun _ _ _ _ _ _ _ q => gt_int q
/-- the one string within the other -/
theorem op_in_str : OpR X (compareOp .In) (fun x y H Q => ∃ i j, x = .str i ∧ y = .str j ∧ Q (.bl (!(Builtin.Str.occurrences j i 0 j.length 1).isEmpty)) H) := by
  intro pins s σ H x y v u Q I rx ry h
  obtain ⟨i, j, rfl, rfl, q⟩ := h
  obtain ⟨t, rfl⟩ := rx
  obtain ⟨t', rfl⟩ := ry
  exact in_str (fin_bl I q rfl)
theorem op_notN : OpR X (compareOp .IsNot) (fun x y H Q => y = .non ∧ Q (.bl (!decide (x = .non))) H) := by
  intro pins s σ H x y v u Q I rx ry h
  obtain ⟨rfl, q⟩ := h
  cases ry
  refine isnot_none_gen (fin_bl I q ?_)
  cases x <;> first
    | (cases rx; rfl)
    | (obtain ⟨t, rfl⟩ := rx; rfl)
/-- two rules for one operation: by cases -/
theorem OpR.or {f : Value → Value → Sem Value} {r r' : R2} (h : OpR X f r) (h' : OpR X f r') : OpR X f (fun x y H Q => r x y H Q ∨ r' x y H Q) := by
  intro pins s σ H x y v u Q I rx ry q
  rcases q with q | q
  · exact h pins s σ H x y v u Q I rx ry q
  · exact h' pins s σ H x y v u Q I rx ry q
theorem nomark (b : Expr) {op : CmpOp} (h : op ≠ .In := by decide) (h2 : op ≠ .NotIn := by decide) : behindInMarks op b = false := by
  have e1 : (op == CmpOp.In) = false := by cases op <;> first | rfl | exact absurd rfl h
  have e2 : (op == CmpOp.NotIn) = false := by cases op <;> first | rfl | exact absurd rfl h2
  cases b <;> simp [behindInMarks, e1, e2]
/-- a comparison as a value; hm: nomark b, or (for in, not in) by with_unfolding_all rfl -/
theorem pe_cmpR {op : CmpOp} {r : R2} (ho : OpR X (compareOp op) r) (ha : PE X a ta) (hb : PE X b tb) (hm : behindInMarks op b = false) : PE X (.Compare a [op] [b] pos) (tOp r ta tb) := by
  intro pins s σ H Q I h
  exact wpAny_Compare1 (binT ha hb I h fun v u s2 x y H2 I2 rx ry q => ho pins s2 σ H2 x y v u Q I2 rx ry q) hm
/-- a reading of a value as a test -/
def tTest (t : TE) : TT := fun σ H Q => t σ H fun x H' => ∃ k, x = .bl k ∧ Q k H'
theorem pt_cmpR {op : CmpOp} {r : R2} (ho : OpR X (compareOp op) r) (ha : PE X a ta) (hb : PE X b tb) (hm : behindInMarks op b = false) : PT X (.Compare a [op] [b] pos) (tTest (tOp r ta tb)) := by
  intro pins s σ H Q I h
  refine wpAny_isTrue_Compare1 (thn (ha pins s σ H _ I h) fun v s1 ⟨x, H1, I1, r1, q1⟩ => thn (hb pins s1 σ H1 _ I1 q1) fun u s2 ⟨y, H2, I2, r2, q2⟩ =>
    thn (ho pins s2 σ H2 x y v u _ I2 r1 r2 q2) fun c s3 ⟨z, H3, I3, r3, k, e, q3⟩ => ?_) hm
  subst e
  cases r3
  exact wpAny_truthy_bool ⟨H3, I3, q3⟩
/-- a op1 b op2 c -/
def tChain (r r' : R2) (ta tb tc : TE) : TE := fun σ H Q => ta σ H fun x H1 => tb σ H1 fun y H2 => r x y H2 fun z H3 => ∃ k, z = .bl k ∧
  (if k = true then tc σ H3 fun w' H4 => r' y w' H4 Q else Q (.bl false) H3)
theorem pe_chain {op op' : CmpOp} {r r' : R2} (ho : OpR X (compareOp op) r) (ho' : OpR X (compareOp op') r') (ha : PE X a ta) (hb : PE X b tb) (hc : PE X c tc)
    (hm : lastMarks [op, op'] [b, c] = false := by with_unfolding_all rfl) : PE X (.Compare a [op, op'] [b, c] pos) (tChain r r' ta tb tc) := by
  intro pins s σ H Q I h
  refine Compare_chain (thn (ha pins s σ H _ I h) fun v s1 ⟨x, H1, I1, r1, q1⟩ => chain_link (thn (hb pins s1 σ H1 _ I1 q1) fun u s2 ⟨y, H2, I2, r2, q2⟩ =>
    thn (ho pins s2 σ H2 x y v u _ I2 r1 r2 q2) fun d s3 ⟨z, H3, I3, r3, k, e, q3⟩ => ?_)) hm
  subst e
  cases r3
  refine wpAny_truthy_bool ?_
  cases k with
  | false => exact ite_ff ⟨.bl false, H3, I3, rfl, q3⟩
  | true => exact ite_tt (chain_last (thn (hc pins s3 σ H3 _ I3 q3) fun w' s4 ⟨z', H4, I4, r4, q4⟩ => ho' pins s4 σ H4 y z' u w' Q I4 r2 r4 q4))
/-! ### truth -/
theorem line63 : (sizeLine : Nat) < 2 ^ 63 := by rw [sizeLine_eq]; decide
/-! ### strs and bytes -/
theorem op_add_str : OpR X (binaryOp .Add) (fun x y H Q => ∃ i j, x = .str i ∧ y = .str j ∧ i.length + j.length ≤ sizeLine ∧ Q (.str (i ++ j)) H) := by
  intro pins s σ H x y v u Q I rx ry h
  obtain ⟨i, j, rfl, rfl, hz, q⟩ := h
  obtain ⟨t, rfl⟩ := rx
  obtain ⟨t', rfl⟩ := ry
  exact add_str (fun t' tk => ⟨.str (i ++ j), H, I.tok _, ⟨_, rfl⟩, q⟩) hz
/-! ### scalar builtins, by CallR -/
theorem vals1 {x : V} {us : List Value} (r : Vals [x] us) : ∃ u, us = [u] ∧ RelV x u := by
  cases r with
  | cons r1 r2 => cases r2; exact ⟨_, rfl, r1⟩
theorem vals2 {x y : V} {us : List Value} (r : Vals [x, y] us) : ∃ u w', us = [u, w'] ∧ RelV x u ∧ RelV y w' := by
  cases r with
  | cons r1 r2 =>
    cases r2 with
    | cons r3 r4 => cases r4; exact ⟨_, _, rfl, r1, r3⟩
theorem call_str_int : CallR X (.type "str") (fun xs H Q => ∃ i, xs = [.int i] ∧ i.natAbs.log2 < 1920 ∧ Q (.str (toString i)) H) := by
  intro pins s σ H xs us Q I r h
  obtain ⟨i, rfl, hz, q⟩ := h
  obtain ⟨u, rfl, t, rfl⟩ := vals1 r
  exact PySem.P.str_of_int hz ⟨.str _, H, I.tok _, ⟨_, rfl⟩, q⟩
end
end L2
namespace L2
open PySem PySem.Spec PyProof.Rows
/-! ### an instance, its attributes a map -/
structure ObjM (h : Heap) (x dx C : Addr) (mA : Str → Option Value) : Prop where
  obj : h.get? x = some (PySem.W.instObj C dx)
  ns : h.Ns1 dx mA
  ne : dx ≠ x
theorem lookIn_ns {h : Heap} {dx : Addr} {mA : Str → Option Value} (n : h.Ns1 dx mA) : ∃ od, h.get? dx = some od ∧ ∀ name, PySem.W.lookIn name od = some (mA name) := by
  obtain ⟨o, es, ep, ho, hd, hk, _, hm⟩ := n
  refine ⟨o, ho, fun name => ?_⟩
  have e := hm name
  unfold nsFind findBy at e
  rw [← Array.find?_toList] at e
  unfold PySem.W.lookIn
  rw [hd]
  dsimp only
  split
  · rename_i y q
    rw [q] at e
    exact congrArg some e
  · rename_i q
    rw [q] at e
    have a : es.toList.any (·.refKey) = false := by
      rw [List.any_eq_false]
      intro y hy
      obtain ⟨z, t, hkey⟩ := hk y (Array.mem_toList_iff.mp hy)
      simp [DictEntry.refKey, hkey]
    have a' : ¬ es.toList.any (·.refKey) = true := by rw [a]; exact Bool.false_ne_true
    rw [if_neg a']
    exact congrArg some e
theorem ObjM.look {h : Heap} {x dx C : Addr} {mA : Str → Option Value} (I : ObjM h x dx C mA) : ∃ od, PySem.W.InstAt h x (PySem.W.instObj C dx) C (some od) ∧ ∀ name, PySem.W.lookIn name od = some (mA name) :=
  let ⟨od, ho, hl⟩ := lookIn_ns I.ns
  ⟨od, ⟨I.obj, rfl, rfl, ho⟩, hl⟩
section
variable {prog : Program} {w : World} {A : Around} {E : Value → Shared → Prop} {s : Shared} {K : PySem.W.Frag} {x dx C f : Addr} {mA : Str → Option Value} {name : Str} {v : Value}
theorem get_map {expr : Bool} {Q : Value → Shared → Prop} (X : K.In s.heap) (I : ObjM s.heap x dx C mA) (hg : PySem.W.plainGet K C name = true) (hh : PySem.W.hasDictIn K C = true)
    (ha : PySem.W.findIn K (.ref C) name = some none) (hv : mA name = some v) (hv' : PySem.W.handedIn v = true) (h : Q v { s with toks := s.toks + 1 }) :
    wpAny (model prog w) A (getAttr (.ref x) name expr) Q E s := by
  obtain ⟨od, J, hl⟩ := I.look
  exact PySem.W.get_value X J (PySem.W.plainGet_of hg).1 (PySem.W.findObj_own hh ha rfl (by rw [hl, hv])) hv' h
theorem get_meth {pl : Sem Bool} {Q : Value × List Value → Shared → Prop} (X : K.In s.heap) (I : ObjM s.heap x dx C mA) (hg : PySem.W.plainGet K C name = true)
    (hf : PySem.W.findIn K (.ref C) name = some (some (.ref f))) (ht : PySem.W.isFn K (.ref f) = true) (hv : mA name = none) (h : Q (.ref f, [.ref x]) s) :
    wpAny (model prog w) A (getMethod (.ref x) name pl) Q E s := by
  obtain ⟨od, J, hl⟩ := I.look
  exact PySem.W.method_fn X J (PySem.W.plainGet_of hg).1 (PySem.W.plainGet_of hg).2 hf (beq_iff_eq.mp ht) (by show (PySem.W.lookIn name od).map (·.isSome) = some false; rw [hl, hv]; rfl) h
theorem set_map {ns : List Str} {Q : Unit → Shared → Prop} (X : K.In s.heap) (I : ObjM s.heap x dx C mA)
    (hs : PySem.W.findIn K (.ref C) "__setattr__" = some (some (.builtin "object.__setattr__"))) (hp : PySem.W.plainOver K C = true) (ht : PySem.W.takerIn K C name = some none) (hh : PySem.W.hasDictIn K C = true)
    (hw : PySem.Within mA ns) (hsz : ns.length ≤ sizeLine)
    (h : ∀ h', ObjM h' x dx C (fun y => if y = name then some v else mA y) → Heap.SameBut dx s.heap h' → Q () { s with heap := h', toks := s.toks + 2 }) :
    wpAny (model prog w) A (setAttr (.ref x) name v) Q E s := by
  obtain ⟨od, J, hl⟩ := I.look
  refine PySem.W.set_plain X J hs (PySem.W.osa_open (s := { s with toks := s.toks + 1 }) (r := none) X J hp ht fun b => ?_)
  obtain ⟨cd, hc, hd'⟩ := PySem.W.any_some hh
  have hx : s.heap.get? x = some ⟨.ref C, some dx, .plain, #[]⟩ := I.obj
  refine wpAny_bind (wpAny_pure (wpAny_bind (wpAny_bind (wpAny_loadPart hx (wpAny_bind (PySem.W.Looks.here (s := { s with toks := s.toks + 1 }) (PySem.W.looks_clsIn X hc) ?_))))))
  rw [hd']
  refine wpAny_pure (a := some dx) (wpAny_bind (wpAny_pure (wpAny_bind ?_)))
  refine wpAny_nsSet1 (s := { s with toks := s.toks + 1 }) I.ns fun h' hn2 hs2 => ?_
  obtain ⟨oD, esD, epD, hoD, hdD, hcD⟩ := hn2.count (PySem.Within.cons name v hw)
  refine wpAny_bind (wpAny_lookBehind hoD (by rw [hdD]; exact pastItsLine_dict (Nat.le_trans hcD (by rw [List.length_cons]; omega))) ?_)
  exact wpAny_pure (h _ ⟨(hs2.2 _ (Ne.symm I.ne)).trans I.obj, hn2, I.ne⟩ hs2)
/-- C(..): the dict at the heap's end, the instance behind it; then its __init__ -/
theorem make_map {R : Result → Shared → Prop} {vs : List Value} {kw : List (Str × Value)} (X : K.In s.heap) (hm : PySem.W.makesIn K C = true)
    (hi : PySem.W.findIn K (.ref C) "__init__" = some (some (.ref f))) (hf : PySem.W.typeIn K (.ref f) = some (.type "function"))
    (h : codeAny (model prog w) (A.under (.builtin "type.__call__" ⟨.ref C :: vs, kw⟩)) (.call (.ref f) ⟨.ref (s.heap.objs.size + 1) :: vs, kw⟩) (PySem.W.InitBack (s.heap.objs.size + 1) R)
      { s with heap := (s.heap.push PySem.W.emptyDict).push (PySem.W.instObj C s.heap.objs.size) }) :
    codeAny (model prog w) A (.call (.ref C) ⟨vs, kw⟩) R s := by
  obtain ⟨hh, g, d, t, os⟩ := s
  exact PySem.W.make_core (PySem.W.makes_of X hm) (PySem.W.looks_findIn X hi) (fun self => PySem.W.bind_fn X self hf) (.inl rfl) h
end
/-! ### the attributes as a list of pairs -/
def putF (f : Str) (v : V) : List (Str × V) → List (Str × V)
  | [] => [(f, v)]
  | (g, x) :: r => if g = f then (g, v) :: r else (g, x) :: putF f v r
theorem lookup_putF (f g : Str) (v : V) : ∀ fs : List (Str × V), (putF f v fs).lookup g = if g = f then some v else fs.lookup g
  | [] => by
    show List.lookup g [(f, v)] = _
    by_cases h : g = f
    · have hb : (g == f) = true := beq_iff_eq.mpr h
      simp only [List.lookup, hb, if_pos h]
    · have hb : (g == f) = false := beq_eq_false_iff_ne.mpr h
      simp only [List.lookup, hb, if_neg h]
  | (k, x) :: r => by
    have ih := lookup_putF f g v r
    rw [show putF f v ((k, x) :: r) = (if k = f then (k, v) :: r else (k, x) :: putF f v r) from rfl]
    by_cases hk : k = f
    · rw [if_pos hk]
      by_cases h : g = k
      · have hb : (g == k) = true := beq_iff_eq.mpr h
        simp only [List.lookup, hb, if_pos (h.trans hk)]
      · have hb : (g == k) = false := beq_eq_false_iff_ne.mpr h
        simp only [List.lookup, hb, if_neg (fun e : g = f => h (e.trans hk.symm))]
    · rw [if_neg hk]
      by_cases h : g = k
      · have hb : (g == k) = true := beq_iff_eq.mpr h
        simp only [List.lookup, hb, if_neg (fun e : g = f => hk (h.symm.trans e))]
      · have hb : (g == k) = false := beq_eq_false_iff_ne.mpr h
        simp only [List.lookup, hb]
        exact ih
theorem keys_putF (f : Str) (v : V) : ∀ fs : List (Str × V), f ∈ (putF f v fs).map (·.1) ∧ ∀ g, g ∈ fs.map (·.1) → g ∈ (putF f v fs).map (·.1)
  | [] => ⟨by simp [putF], fun g h => by simp at h⟩
  | (k, x) :: r => by
    obtain ⟨i1, i2⟩ := keys_putF f v r
    rw [show putF f v ((k, x) :: r) = (if k = f then (k, v) :: r else (k, x) :: putF f v r) from rfl]
    by_cases hk : k = f
    · rw [if_pos hk]
      subst hk
      exact ⟨by simp, fun g h => by simpa using h⟩
    · rw [if_neg hk]
      refine ⟨?_, fun g h => ?_⟩
      · rw [List.map_cons]
        exact List.mem_cons_of_mem _ i1
      · rw [List.map_cons] at h ⊢
        rcases List.mem_cons.mp h with e | e
        · exact List.mem_cons.mpr (.inl e)
        · exact List.mem_cons_of_mem _ (i2 g e)
theorem length_putF (f : Str) (v : V) : ∀ fs : List (Str × V), (putF f v fs).length ≤ fs.length + 1
  | [] => by simp [putF]
  | (k, x) :: r => by
    have ih := length_putF f v r
    rw [show putF f v ((k, x) :: r) = (if k = f then (k, v) :: r else (k, x) :: putF f v r) from rfl]
    by_cases hk : k = f
    · rw [if_pos hk, List.length_cons, List.length_cons]; omega
    · rw [if_neg hk, List.length_cons, List.length_cons]; omega
theorem RelO.some_of {v : V} {o : Option Value} (r : RelO (some v) o) : ∃ u, o = some u ∧ RelV v u := by
  cases o with
  | none => exact (show False from r).elim
  | some u => exact ⟨u, rfl, r⟩
theorem RelO.none_of {o : Option Value} (r : RelO none o) : o = none := by
  cases o with
  | none => rfl
  | some u => exact (show False from r).elim
theorem handed_of {v : V} {u : Value} (r : RelV v u) : PySem.W.handedIn u = true := by
  cases v with
  | non => cases (show u = Value.none from r); rfl
  | bl b => cases (show u = Value.bool b from r); rfl
  | int i => obtain ⟨t, e⟩ := (show ∃ t, u = Value.int i t from r); cases e; rfl
  | str x => obtain ⟨t, e⟩ := (show ∃ t, u = Value.str x t from r); cases e; rfl
  | byt b => obtain ⟨t, e⟩ := (show ∃ t, u = Value.bytes b t from r); cases e; rfl
  | flt b => obtain ⟨t, e⟩ := (show ∃ t, u = Value.float b t from r); cases e; rfl
  | ref a => cases (show u = Value.ref a from r); rfl
  | ty n => cases (show u = Value.type n from r); rfl
section
variable {P : Program} {w : World} {H H' : Hp} {h h' : Heap} {a C dx : Addr} {fs fs' : List (Str × V)}
theorem ins_get (hok : HOk P w H h) (e : H a = some (.ins C dx fs)) : ∃ mA, ObjM h a dx C mA ∧ (∀ f, RelO (fs.lookup f) (mA f)) ∧ PySem.Within mA (fs.map (·.1)) ∧ fs.length ≤ 1000 ∧ H dx = some (.own a) := by
  obtain ⟨d, z, ne, ob, mA, n, r, q⟩ := (show ObjOk P w H h a (.ins C dx fs) from hok a _ e)
  exact ⟨mA, ⟨ob, n, ne⟩, r, q, z, d⟩
end
/-! ### what of the text a class must have -/
structure Cls (K : PySem.W.Frag) (C : Addr) : Prop where
  pg : PySem.W.plainGet K C Str.empty = true
  hd : PySem.W.hasDictIn K C = true
  po : PySem.W.plainOver K C = true
  sa : PySem.W.findIn K (.ref C) "__setattr__" = some (some (.builtin "object.__setattr__"))
theorem Cls.get {K : PySem.W.Frag} {C : Addr} (c : Cls K C) (f : Str) : PySem.W.plainGet K C f = true := c.pg
/-- no class of it has the name -/
def NoAttr (K : PySem.W.Frag) (C : Addr) (f : Str) : Prop := PySem.W.findIn K (.ref C) f = some none
theorem NoAttr.taker {K : PySem.W.Frag} {C : Addr} {f : Str} (n : NoAttr K C f) : PySem.W.takerIn K C f = some none := by
  unfold PySem.W.takerIn
  rw [show PySem.W.findIn K (.ref C) f = some none from n]
  rfl
/-- a constant of the class -/
structure Con (K : PySem.W.Frag) (C : Addr) (f : Str) (v : V) (u : Value) : Prop where
  at_ : PySem.W.findIn K (.ref C) f = some (some u)
  rel : RelV v u
  get : PySem.W.specialIn K u "__get__" = some none
  cp : PySem.W.copiedNames.contains f = false
/-- a method: a plain def of the class or of one above it -/
structure Meth (K : PySem.W.Frag) (C : Addr) (m : Str) (f : Addr) : Prop where
  at_ : PySem.W.findIn K (.ref C) m = some (some (.ref f))
  fn : PySem.W.isFn K (.ref f) = true
  kp : PySem.W.keepIn K (.ref f) = true
section
variable {X : Cx} {pins : List (Addr × Obj)} {σ : St} {H : Hp} {s : Shared} {a C dx : Addr} {fs : List (Str × V)} {f : Str} {v : V} {A : Around} {E : Value → Shared → Prop}
theorem getattr_ok {b : Bool} {Q : Value → Shared → Prop} (I : Inv X pins σ H s) (e : H a = some (.ins C dx fs)) (c : Cls X.K C) (n : NoAttr X.K C f) (l : fs.lookup f = some v)
    (h : ∀ u s', Inv X pins σ H s' → RelV v u → Q u s') : wpAny (model X.prog X.w) A (getAttr (.ref a) f b) Q E s := by
  obtain ⟨mA, O, r, _, _, _⟩ := ins_get I.hok e
  obtain ⟨u, hu, ru⟩ := RelO.some_of (v := v) (o := mA f) (by rw [← l]; exact r f)
  exact get_map I.kIn O (c.get f) c.hd n hu (handed_of ru) (h u _ (I.tok _) ru)
theorem getmeth_ok {m : Str} {g : Addr} {pl : Sem Bool} {Q : Value × List Value → Shared → Prop} (I : Inv X pins σ H s) (e : H a = some (.ins C dx fs)) (c : Cls X.K C) (k : Meth X.K C m g) (l : fs.lookup m = none)
    (h : Q (.ref g, [.ref a]) s) : wpAny (model X.prog X.w) A (getMethod (.ref a) m pl) Q E s := by
  obtain ⟨mA, O, r, _, _, _⟩ := ins_get I.hok e
  have hn : mA m = none := RelO.none_of (by rw [← l]; exact r m)
  exact get_meth I.kIn O (c.get m) k.at_ k.fn hn h
theorem setattr_ok {y : V} {u : Value} {Q : Unit → Shared → Prop} (I : Inv X pins σ H s) (e : H a = some (.ins C dx fs)) (c : Cls X.K C) (n : NoAttr X.K C f) (hl : fs.length < 1000) (ry : RelV y u)
    (h : ∀ s', Inv X pins σ (upd H a (.ins C dx (putF f y fs))) s' → Q () s') : wpAny (model X.prog X.w) A (setAttr (.ref a) f u) Q E s := by
  obtain ⟨mA, O, r, wi, _, ho⟩ := ins_get I.hok e
  have hz : (fs.map (·.1)).length ≤ sizeLine := by rw [List.length_map, sizeLine_eq]; omega
  refine set_map I.kIn O c.sa c.po n.taker c.hd wi hz fun h' O' sb => h _ ?_
  have hd : ∃ o, h'.get? dx = some o := let ⟨o, _, _, e', _⟩ := O'.ns; ⟨o, e'⟩
  refine I.write (x := a) (e := dx) (by rw [e]; exact True.intro) (.inr ho) (fun b q hb z => (sb.2 b hb).trans z) hd ?_
  refine ⟨by rw [upd_ne O.ne]; exact ho, ?_, O.ne, O'.obj, _, O'.ns, fun g => ?_, fun g hg => ?_⟩
  · have := length_putF f y fs; omega
  · show RelO ((putF f y fs).lookup g) (if g = f then some u else mA g)
    rw [lookup_putF]
    by_cases q : g = f
    · rw [if_pos q, if_pos q]; exact ry
    · rw [if_neg q, if_neg q]; exact r g
  · by_cases q : g = f
    · rw [q]; exact (keys_putF f y fs).1
    · refine (keys_putF f y fs).2 g (wi g fun z => hg ?_)
      show (if g = f then some u else mA g) = none
      rw [if_neg q]; exact z
/-- a new instance, tracked, without attributes -/
theorem Inv.made (I : Inv X pins σ H s) : Inv X pins σ (upd (upd H s.heap.objs.size (.own (s.heap.objs.size + 1))) (s.heap.objs.size + 1) (.ins C s.heap.objs.size []))
    { s with heap := (s.heap.push PySem.W.emptyDict).push (PySem.W.instObj C s.heap.objs.size) } := by
  have e1 : (s.heap.push PySem.W.emptyDict).get? s.heap.objs.size = some PySem.W.emptyDict := Heap.get?_push_size s.heap rfl
  have e2 : ((s.heap.push PySem.W.emptyDict).push (PySem.W.instObj C s.heap.objs.size)).get? (s.heap.objs.size + 1) = some (PySem.W.instObj C s.heap.objs.size) := by
    have := Heap.get?_push_size (s.heap.push PySem.W.emptyDict) (o := PySem.W.instObj C s.heap.objs.size) rfl
    rwa [Heap.size_push] at this
  have e3 : (s.heap.push PySem.W.emptyDict).Ns s.heap.objs.size (fun _ => none) := ⟨PySem.W.emptyDict, #[], _, e1, rfl, (fun e he => absurd he (by simp)), fun _ => rfl⟩
  have I1 := I.laid (a := s.heap.objs.size) (o := .own (s.heap.objs.size + 1)) (h' := s.heap.push PySem.W.emptyDict) (t' := s.toks) (fun b u q => Heap.get?_push_of_some _ q) (Nat.le_refl _) ⟨_, e1⟩
  refine I1.laid (a := s.heap.objs.size + 1) (o := .ins C s.heap.objs.size []) (t' := s.toks) (fun b u q => Heap.get?_push_of_some _ q) (Nat.le_of_eq (Heap.size_push _ _)) ?_
  have ne : s.heap.objs.size ≠ s.heap.objs.size + 1 := Nat.ne_of_lt (Nat.lt_succ_self _)
  refine ⟨by rw [upd_ne ne, upd_same], Nat.zero_le _, ne, e2, fun _ => none, (Heap.Ns1.of_empty e3).at fun o q => Heap.get?_push_of_some _ q, fun _ => True.intro, fun y hy => absurd rfl hy⟩
/-- e.f where nothing but the object is asked: through attributeBase (super) and the last hold -/
theorem attr_of {prog : Program} {w : World} {env : Env} {e : Expr} {f : Str} {pos : Pos} {s : Shared} {Q : Value → Shared → Prop} (hb : attributeBase e f env (eval e env) = eval e env)
    (h : wpAny (model prog w) A (eval e env) (fun o s₁ => wpAny (model prog w) A (getAttr o f true) Q E s₁) E s) : wpAny (model prog w) A (eval (.Attribute e f pos) env) Q E s :=
  Attribute_any_ h (by rw [arm_eval_Attribute, hb])
end
/-! ### readings and rules -/
/-- e.f, an attribute of the instance -/
def tFld (K : PySem.W.Frag) (ta : TE) (f : Str) : TE := fun σ H Q => ta σ H fun x H1 => ∃ a C dx fs v, x = .ref a ∧ H1 a = some (.ins C dx fs) ∧ Cls K C ∧ NoAttr K C f ∧ fs.lookup f = some v ∧ Q v H1
/-- e.f = value -/
def sFld (K : PySem.W.Frag) (ta tv : TE) (f : Str) : TS := fun D σ H => tv σ H fun y H1 => ta σ H1 fun x H2 => ∃ a C dx fs, x = .ref a ∧ H2 a = some (.ins C dx fs) ∧ Cls K C ∧ NoAttr K C f ∧ fs.length < 1000 ∧
  D.nx σ (upd H2 a (.ins C dx (putF f y fs)))
section
variable {X : Cx} {o e value : Expr} {f : Str} {pos pos' tpos : Pos} {ta tv : TE}
theorem pe_fld (he : PE X e ta) (hb : attributeBase e f X.env (eval e X.env) = eval e X.env) : PE X (.Attribute e f pos) (tFld X.K ta f) := by
  intro pins s σ H Q I h
  refine attr_of hb (thn (he pins s σ H _ I h) fun u s1 ⟨x, H1, I1, rx, a, C, dx, fs, v, ex, ea, c, n, l, q⟩ => ?_)
  subst ex
  obtain rfl : u = Value.ref a := rx
  exact getattr_ok I1 ea c n l fun u' s2 I2 ru => ⟨v, H1, I2, ru, q⟩
theorem ps_fld (ha : PE X o ta) (hv : PE X value tv) (hs : swapsWith value (some (.Attribute o f pos')) pos.line X.env = pure false) : PS X (.Assign [.Attribute o f pos'] value pos) (sFld X.K ta tv f) := by
  intro pins s σ H D I h
  refine plainObj_wpAny_Assign_Attribute (thn (hv pins s σ H _ I h) fun u s1 ⟨y, H1, I1, ry, q⟩ => thn (ha pins s1 σ H1 _ I1 q) fun ov s2 ⟨x, H2, I2, rx, a, C, dx, fs, ex, ea, c, n, l, q2⟩ => ?_) hs
  subst ex
  obtain rfl : ov = Value.ref a := rx
  exact setattr_ok I2 ea c n l ry fun s3 I3 => ⟨σ, _, I3, q2⟩
/-- what is between an instance and its method: the tree of a method call -/
theorem methcall_of {pl : Sem Bool} {m : Str} {apos : Pos} {args : List Expr} {pins : List (Addr × Obj)} {s : Shared} {σ : St} {H : Hp} {Q : Value → Shared → Prop} {te : TE} (he : PE X e te) (I : Inv X pins σ H s)
    (h : te σ H fun x H1 => ∃ a C dx fs g, x = .ref a ∧ H1 a = some (.ins C dx fs) ∧ Cls X.K C ∧ Meth X.K C m g ∧ fs.lookup m = none ∧
      ∀ s1, Inv X pins σ H1 s1 → wpAny (model X.prog X.w) X.A (callWith pos (.ref g) [.ref a] (backTo pos (starEach args X.env)) (backToKw pos (keywordEach [] X.env))) Q X.xe s1)
    (ht : eval (.Call (.Attribute e m apos) args [] pos) X.env = (do
      let ov ← eval e X.env
      standAt apos.atName
      let (f, first) ← holding [ov] (getMethod ov m pl)
      callWith pos f first (backTo pos (starEach args X.env)) (backToKw pos (keywordEach [] X.env)))) :
    wpAny (model X.prog X.w) X.A (eval (.Call (.Attribute e m apos) args [] pos) X.env) Q X.xe s := by
  refine PySem.W.methodCall_KW (pl := pl) (thn (he pins s σ H _ I h) fun u s1 ⟨x, H1, I1, rx, a, C, dx, fs, g, ex, ea, c, k, l, q⟩ => ?_) ht
  subst ex
  obtain rfl : u = Value.ref a := rx
  exact getmeth_ok I1 ea c k l (q s1 I1)
end
/-! ### isinstance -/
section
variable {X : Cx} {pins : List (Addr × Obj)} {σ : St} {H : Hp} {s : Shared} {A : Around} {E : Value → Shared → Prop} {Q : Value → Shared → Prop} {c : Value} {b : Bool}
/-- the type of a value, as the fragment's deciders take it; for an instance its class -/
inductive TyOf (K : PySem.W.Frag) (H : Hp) : V → Value → Prop where
  | non : TyOf K H .non (.type "NoneType")
  | bl (x : Bool) : TyOf K H (.bl x) (.type "bool")
  | int (i : Int) : TyOf K H (.int i) (.type "int")
  | str (x : Str) : TyOf K H (.str x) (.type "str")
  | flt (x : UInt64) : TyOf K H (.flt x) (.type "float")
  | lst {a : Addr} {xs : List V} (e : H a = some (.lst xs)) : TyOf K H (.ref a) (.type "list")
  | frz {a : Addr} {o : Obj} {xs : List V} (e : H a = some (.frz o (.lst xs))) : TyOf K H (.ref a) (.type "list")
  | tup {a : Addr} {xs : List V} (e : H a = some (.tup xs)) : TyOf K H (.ref a) (.type "tuple")
  | dK {a : Addr} {kvs : List (Key × V)} (e : H a = some (.dK kvs)) : TyOf K H (.ref a) (.type "dict")
  | dT {a : Addr} {kvs : List (List Key × V)} (e : H a = some (.dT kvs)) : TyOf K H (.ref a) (.type "dict")
  | ins {a C dx : Addr} {fs : List (Str × V)} (e : H a = some (.ins C dx fs)) (cl : Cls K C) (ha : PySem.W.findIn K (.ref C) "__class__" = some (some (.builtin "object.__class__")))
      (hn : PySem.W.specialIn K (.builtin "object.__class__") "__get__" = some (some (.builtin "getset_descriptor.__get__"))) (htk : PySem.W.takesIn K (.builtin "object.__class__") = some true)
      (hm : PySem.W.mroIn K C (.type "object") = some true) : TyOf K H (.ref a) (.ref C)
/-- isinstance(x, c) for one class c, a built-in or an own one: kitOne's answer -/
theorem isinst_ok {x : V} {u t : Value} (I : Inv X pins σ H s) (rx : RelV x u) (ty : TyOf X.K H x t) (e : PySem.W.kitOne X.K t c = some b) (h : ∀ tk, Q (.bool b) { s with toks := tk }) :
    wpAny (model X.prog X.w) A (call (.builtin "isinstance") [u, c]) Q E s := by
  cases ty with
  | non => cases (show u = Value.none from rx); exact PySem.W.kia_one PySem.W.kitx_none I.kIn True.intro e (fun z => nomatch z) h
  | bl y => cases (show u = Value.bool y from rx); exact PySem.W.kia_one PySem.W.kitx_bool I.kIn True.intro e (fun z => nomatch z) h
  | int i => obtain ⟨t, q⟩ := (show ∃ t, u = Value.int i t from rx); cases q; exact PySem.W.kia_one PySem.W.kitx_int I.kIn True.intro e (fun z => nomatch z) h
  | str y => obtain ⟨t, q⟩ := (show ∃ t, u = Value.str y t from rx); cases q; exact PySem.W.kia_one PySem.W.kitx_str I.kIn True.intro e (fun z => nomatch z) h
  | flt y => obtain ⟨t, q⟩ := (show ∃ t, u = Value.float y t from rx); cases q; exact PySem.W.kia_one PySem.W.kitx_float I.kIn True.intro e (fun z => nomatch z) h
  | @lst a xs ea =>
    cases (show u = Value.ref a from rx)
    obtain ⟨_, _, n, _, h1⟩ := (show ObjOk X.prog X.w H s.heap a (.lst xs) from I.hok a _ ea)
    exact PySem.W.kia_one PySem.W.kitx_list I.kIn ⟨_, h1, rfl⟩ e (fun z => nomatch z) h
  | @frz a ob xs ea =>
    cases (show u = Value.ref a from rx)
    obtain ⟨_, _, _, n, _, h1⟩ := (show ObjOk X.prog X.w H s.heap a (.frz ob (.lst xs)) from I.hok a _ ea)
    exact PySem.W.kia_one PySem.W.kitx_list I.kIn ⟨_, h1, rfl⟩ e (fun z => nomatch z) h
  | @tup a xs ea =>
    cases (show u = Value.ref a from rx)
    obtain ⟨_, _, _, p⟩ := (show ObjOk X.prog X.w H s.heap a (.tup xs) from I.hok a _ ea)
    obtain ⟨o, h1, h2, _⟩ := p
    exact PySem.W.kia_one PySem.W.kitx_tuple I.kIn ⟨o, h1, h2⟩ e (fun z => nomatch z) h
  | @dK a kvs ea =>
    cases (show u = Value.ref a from rx)
    obtain ⟨_, _, vs, _, p⟩ := (show ObjOk X.prog X.w H s.heap a (.dK kvs) from I.hok a _ ea)
    obtain ⟨o, es, ep, h1, h2, _⟩ := p
    exact PySem.W.kia_one PySem.W.kitx_dict I.kIn ⟨o, h1, h2.1⟩ e (fun z => nomatch z) h
  | @dT a kvs ea =>
    cases (show u = Value.ref a from rx)
    obtain ⟨_, _, xs, _, o, es, ep, h1, h2, _⟩ := (show ObjOk X.prog X.w H s.heap a (.dT kvs) from I.hok a _ ea)
    exact PySem.W.kia_one PySem.W.kitx_dict I.kIn ⟨o, h1, h2.1⟩ e (fun z => nomatch z) h
  | @ins a C dx fs ea cl ha hn htk hm =>
    cases (show u = Value.ref a from rx)
    obtain ⟨mA, O, _⟩ := ins_get I.hok ea
    obtain ⟨od, J, _⟩ := O.look
    exact PySem.W.kia_one (PySem.W.kitx_own (cl.get _) cl.hd ha hn htk hm) I.kIn J e (fun z => nomatch z) h
end
end L2
namespace L2
open PySem PySem.Spec PyProof.Rows
/-! ### room -/
structure Room (k : Nat) (A : Around) : Prop where
  hd : A.handled = none
  dp : A.depth + 3 * k + 5 < recursionLimit
  un : A.units + 16 * k + 200 < cLine
theorem Room.mono {j k : Nat} {A : Around} (r : Room k A) (h : j ≤ k) : Room j A := ⟨r.hd, by have := r.dp; omega, by have := r.un; omega⟩
theorem Room.deeper {k : Nat} {A : Around} (r : Room (k + 1) A) (env : Env) : Room k (A.deeper env) :=
  ⟨r.hd, by have := r.dp; show A.depth + 1 + 3 * k + 5 < _; omega, by have := r.un; show A.units + 3 + 16 * k + 200 < _; omega⟩
theorem Room.in1 {k : Nat} {A : Around} (r : Room (k + 1) A) : Room k A.in1 :=
  ⟨r.hd, by have := r.dp; show A.depth + 3 * k + 5 < _; omega, by have := r.un; show A.units + 1 + 16 * k + 200 < _; omega⟩
theorem make_depth {A : Around} {C : Addr} {us : List Value} {kw : List (Str × Value)} : (A.under (.builtin "type.__call__" ⟨.ref C :: us, kw⟩)).depth = A.depth + 1 := by
  first | rfl | simp [Around.under, Code.weight, Code.isCreation, Code.isGuard, Code.isCaller, Code.frames, Code.isFrame, guardIds]
theorem make_units {A : Around} {C : Addr} {us : List Value} {kw : List (Str × Value)} : (A.under (.builtin "type.__call__" ⟨.ref C :: us, kw⟩)).units = A.units + 1 := by
  first | rfl | simp [Around.under, Code.cUnits, Code.frames, Code.isFrame]
theorem Room.make {k : Nat} {A : Around} (r : Room (k + 1) A) (C : Addr) (us : List Value) (kw : List (Str × Value)) : Room k (A.under (.builtin "type.__call__" ⟨.ref C :: us, kw⟩)) :=
  ⟨r.hd, by have := r.dp; rw [make_depth]; omega, by have := r.un; rw [make_units]; omega⟩
theorem Room.depth {k : Nat} {A : Around} (r : Room k A) : A.depth < recursionLimit := by have := r.dp; omega
theorem Room.units {k : Nat} {A : Around} (r : Room k A) : A.units + 64 < cLine := by have := r.un; omega
/-! ### argument lists and displays -/
def tNil : TA := fun _ H Q => Q [] H
def tCons (ta : TE) (tr : TA) : TA := fun σ H Q => ta σ H fun x H1 => tr σ H1 fun xs H2 => Q (x :: xs) H2
section
variable {X : Cx} {e : Expr} {es : List Expr} {te : TE} {t : TA} {pos : Pos}
theorem pa_nil : PA X [] tNil := fun _ _ _ _ H Q I h => Calls.spliced_nil ⟨[], H, I, .nil, h⟩
theorem pa_cons (ha : PE X e te) (hr : PA X es t) (hs : starEach (e :: es) X.env = (false, eval e X.env) :: starEach es X.env := by rfl) : PA X (e :: es) (tCons te t) := by
  intro pos pins s σ H Q I h
  rw [hs]
  show wpAny _ _ (spliced ((false, eval e X.env) :: backTo pos (starEach es X.env))) _ _ s
  refine Calls.spliced_cons (thn (ha pins s σ H _ I h) fun u s1 ⟨x, H1, I1, r1, q1⟩ => ?_)
  exact thn (hr pos pins s1 σ H1 _ I1 q1) fun us s2 ⟨xs, H2, I2, r2, q2⟩ => ⟨x :: xs, H2, I2, .cons r1 r2, q2⟩
/-- a tuple, a list of written items -/
def tTup (t : TA) : TE := fun σ H Q => t σ H fun xs H1 => xs.length ≤ sizeLine ∧ ∀ p, H1 p = none → Q (.ref p) (upd H1 p (.tup xs))
def tLst (t : TA) : TE := fun σ H Q => t σ H fun xs H1 => xs.length ≤ sizeLine ∧ ∀ p, H1 p = none → Q (.ref p) (upd H1 p (.lst xs))
theorem pe_tup {x1} (h : PA X es t) : PE X (.Tuple es x1 pos) (tTup t) := by
  intro pins s σ H Q I hq
  refine wpAny_Tuple_spliced (thn (h pos pins s σ H _ I hq) fun us s1 ⟨xs, H1, I1, r, z, q⟩ => ⟨by rw [← r.length]; exact z, ?_⟩)
  have hf : H1 s1.heap.objs.size = none := I1.hok.fresh (Nat.le_refl _)
  refine ⟨.ref s1.heap.objs.size, upd H1 s1.heap.objs.size (.tup xs), I1.laid (t' := s1.toks) (fun b u e => Heap.get?_push_of_some _ e) (Nat.le_refl _) ?_, rfl, q _ hf⟩
  exact ⟨z, us, r, ⟨_, Heap.get?_push_size _ rfl, rfl, _, rfl⟩⟩
theorem pe_lst (h : PA X es t) : PE X (.List es pos) (tLst t) := by
  intro pins s σ H Q I hq
  refine wpAny_List_spliced (thn (h pos pins s σ H _ I hq) fun us s1 ⟨xs, H1, I1, r, z, q⟩ => ⟨by rw [← r.length]; exact z, ?_⟩)
  have hf : H1 s1.heap.objs.size = none := I1.hok.fresh (Nat.le_refl _)
  refine ⟨.ref s1.heap.objs.size, upd H1 s1.heap.objs.size (.lst xs), I1.laid (t' := s1.toks) (fun b u e => Heap.get?_push_of_some _ e) (Nat.le_refl _) ?_, rfl, q _ hf⟩
  exact ⟨z, us, 0, r, Heap.get?_push_size _ rfl⟩
end
/-! ### what a def promises -/
/-- a def's promise: the bound arguments in the parameters' order, the heap, the wanted end, the wanted exception -/
abbrev Sp := List V → Hp → VK → XK → Prop
/-- how an exception lies behind a call (file 08 gives it): the callers' frames, abstract heap and state ahead of the call, the wish, the exception, the state -/
abbrev CXT := List Env → Hp → Shared → XK → Value → Shared → Prop
/-- the state at a call -/
structure Env0 (P : Program) (w : World) (K : PySem.W.Frag) (mg : Str → Option Value) (base : Heap) (A : Around) (outer : List Env) (s : Shared) (H : Hp) : Prop where
  frames : A.frames = some outer
  mod : Mod K mg base
  bs : ∀ b o, base.get? b = some o → s.heap.get? b = some o ∧ H b = none
  bsz : base.objs.size ≤ s.heap.objs.size
  funs : s.heap.FunFrames base outer
  frf : ∀ b ∈ frs outer, H b = none
  hok : HOk P w H s.heap
  bare : AllBare s.gens
/-- a call's end -/
def CE (outer : List Env) (P : Program) (w : World) (H : Hp) (s : Shared) (Q : VK) (u : Value) (s' : Shared) : Prop :=
  ∃ v H', s'.os = s.os ∧ AllBare s'.gens ∧ Un (frs outer) [] H H' s.heap s'.heap ∧ HOk P w H' s'.heap ∧ RelV v u ∧ Q v H'
def CR (CX : CXT) (outer : List Env) (P : Program) (w : World) (H : Hp) (s : Shared) (Q : VK) (E : XK) (r : Result) (s' : Shared) : Prop :=
  match r with
  | .ok (.ret u) => CE outer P w H s Q u s'
  | .ok _ => False
  | .error e => CX outer H s E e s'
structure FnOk (P : Program) (w : World) (K : PySem.W.Frag) (mg : Str → Option Value) (base : Heap) (CX : CXT) (k : Nat) (f : Addr) (fd : FuncData) (ps : List Str) (sp : Sp) : Prop where
  len : ∀ vs H Q E, sp vs H Q E → vs.length = ps.length
  run : ∀ (A : Around) (outer : List Env) (s : Shared) (H : Hp) (args : Args) (us : List Value) (vs : List V) (Q : VK) (E : XK), Room k A → Env0 P w K mg base A outer s H → BindsTo s fd args (ps.zip us) → Vals vs us → sp vs H Q E →
    codeAny (model P w) A (.call (.ref f) args) (CR CX outer P w H s Q E) s
theorem FnOk.mono {P : Program} {w : World} {K : PySem.W.Frag} {mg : Str → Option Value} {base : Heap} {CX : CXT} {j k : Nat} {f : Addr} {fd : FuncData} {ps : List Str} {sp : Sp} (F : FnOk P w K mg base CX j f fd ps sp) (h : j ≤ k) :
    FnOk P w K mg base CX k f fd ps sp := ⟨F.len, fun A outer s H args us vs Q E hr => F.run A outer s H args us vs Q E (hr.mono h)⟩
/-- a weaker promise -/
theorem FnOk.imp {P : Program} {w : World} {K : PySem.W.Frag} {mg : Str → Option Value} {base : Heap} {CX : CXT} {k : Nat} {f : Addr} {fd : FuncData} {ps : List Str} {sp sp' : Sp} (F : FnOk P w K mg base CX k f fd ps sp)
    (h : ∀ vs H Q E, sp' vs H Q E → sp vs H Q E) : FnOk P w K mg base CX k f fd ps sp' :=
  ⟨fun vs H Q E q => F.len vs H Q E (h _ _ _ _ q), fun A outer s H args us vs Q E hr he hb hv hs => F.run A outer s H args us vs Q E hr he hb hv (h _ _ _ _ hs)⟩
theorem Env0.make {P : Program} {w : World} {K : PySem.W.Frag} {mg : Str → Option Value} {base : Heap} {A : Around} {outer : List Env} {s : Shared} {H : Hp} (e : Env0 P w K mg base A outer s H) (C : Addr) (us : List Value) (kw : List (Str × Value)) :
    Env0 P w K mg base (A.under (.builtin "type.__call__" ⟨.ref C :: us, kw⟩)) outer s H := ⟨by first | exact e.frames | (simpa [Around.under, Code.envs, Code.isFrame, pushEnvs] using e.frames), e.mod, e.bs, e.bsz, e.funs, e.frf, e.hok, e.bare⟩
theorem Env0.in1 {P : Program} {w : World} {K : PySem.W.Frag} {mg : Str → Option Value} {base : Heap} {A : Around} {outer : List Env} {s : Shared} {H : Hp} (e : Env0 P w K mg base A outer s H) :
    Env0 P w K mg base A.in1 outer s H := ⟨e.frames, e.mod, e.bs, e.bsz, e.funs, e.frf, e.hok, e.bare⟩
section
variable {X : Cx} {pins : List (Addr × Obj)} {σ : St} {H : Hp} {s s' : Shared}
/-- from a body: what a callee wants -/
theorem Inv.env0 (I : Inv X pins σ H s) : Env0 X.prog X.w X.K X.mg X.base X.A X.stack s H :=
  ⟨I.ok.frames, I.ok.mod, I.bs, Nat.le_trans I.ok.bsz I.sz, I.stack, I.stkFree, I.hok, I.bare⟩
/-- behind a call -/
theorem Inv.after {Q : VK} {u : Value} (I : Inv X pins σ H s) (h : CE X.stack X.prog X.w H s Q u s') : EP X pins σ Q u s' := by
  obtain ⟨v, H', os, bare, un, hok, r, q⟩ := h
  obtain ⟨hh, g, d, t, os'⟩ := s'
  obtain rfl : os' = s.os := os
  exact ⟨v, H', I.call (h' := hh) (g' := g) (d' := d) (t' := t) (ch := []) un hok bare (fun b z => absurd z (by simp)), r, q⟩
end
/-! ### calls -/
/-- f(..): the written arguments, then the defaults dvs; E: what is wanted of an exception -/
def tCall (sp : Sp) (dvs : List V) (E : XK) (t : TA) : TE := fun σ H Q => t σ H fun vs H1 => sp (vs ++ dvs) H1 Q E
/-- o.m(..) of an instance of the class at C -/
def tMeth (C : Addr) (m : Str) (sp : Sp) (dvs : List V) (E : XK) (ta : TE) (t : TA) : TE := fun σ H Q => ta σ H fun x H1 => ∃ a dx fs, x = .ref a ∧ H1 a = some (.ins C dx fs) ∧ fs.lookup m = none ∧
  t σ H1 fun vs H2 => sp (x :: (vs ++ dvs)) H2 Q E
/-- C(..): a new instance and its dict, then __init__ -/
def tMake (C : Addr) (sp : Sp) (dvs : List V) (E : XK) (t : TA) : TE := fun σ H Q => t σ H fun vs H1 => ∀ x dx, H1 x = none → H1 dx = none → dx ≠ x →
  sp (.ref x :: (vs ++ dvs)) (upd (upd H1 dx (.own x)) x (.ins C dx [])) (fun v H2 => v = .non ∧ Q (.ref x) H2) E
/-- how the parameters are bound: us the positional arguments, kw the keywords' values by name, ds the defaults that fill up -/
def Binds (K : PySem.W.Frag) (fd : FuncData) (ps : List Str) (ds : List Value) : Prop :=
  ∀ (s : Shared) (us : List Value), K.In s.heap → (us ++ ds).length = ps.length → BindsTo s fd ⟨us, []⟩ (ps.zip (us ++ ds))
/-- every parameter is given -/
theorem Binds.all {K : PySem.W.Frag} {fd : FuncData} {ps : List Str} (h : ∀ us : List Value, us.length = ps.length → bindArgs fd ⟨us, []⟩ = pure (ps.zip us)) : Binds K fd ps [] := fun s us _ hl => by
  rw [List.append_nil] at hl ⊢
  exact .of_eq (h us hl)
/-- an exception of a callee reaches what this body wants of exceptions -/
def Passes (CX : CXT) (X : Cx) (E : XK) : Prop := ∀ (pins : List (Addr × Obj)) (σ : St) (H : Hp) (s : Shared) (e : Value) (s' : Shared), Inv X pins σ H s → CX X.stack H s E e s' → X.xe e s'
section
variable {X : Cx} {CX : CXT} {k : Nat} {f C : Addr} {fd : FuncData} {ps : List Str} {sp : Sp} {dvs : List V} {ds : List Value} {E : XK} {x m : Str} {p pos apos : Pos} {e o : Expr} {es : List Expr} {ta : TE} {t : TA}
/-- the callee runs -/
theorem run_fn {pins : List (Addr × Obj)} {σ : St} {H : Hp} {s : Shared} {Q : VK} {us : List Value} {vs : List V} (F : FnOk X.prog X.w X.K X.mg X.base CX k f fd ps sp) (hr : Room k X.A) (hb : Binds X.K fd ps ds) (hd : Vals dvs ds) (hx : Passes CX X E)
    (I : Inv X pins σ H s) (r : Vals vs us) (h : sp (vs ++ dvs) H Q E) : wpAny (model X.prog X.w) X.A (call (.ref f) us) (EP X pins σ Q) X.xe s := by
  have r2 : Vals (vs ++ dvs) (us ++ ds) := r.append hd
  have hl : (us ++ ds).length = ps.length := by rw [← r2.length]; exact F.len _ _ _ _ h
  refine wpAny_call (codeAny_mono (F.run X.A X.stack s H ⟨us, []⟩ (us ++ ds) (vs ++ dvs) Q E hr I.env0 (hb s us I.kIn hl) r2 h) fun r s' hq => ?_)
  cases r with
  | error e => exact hx pins σ H s e s' I hq
  | ok fl =>
    cases fl with
    | ret u => exact I.after hq
    | next => exact False.elim hq
    | brk => exact False.elim hq
    | cont => exact False.elim hq
theorem pe_call (F : FnOk X.prog X.w X.K X.mg X.base CX k f fd ps sp) (hr : Room k X.A) (hg : Gl X x) (hm : X.mg x = some (.ref f)) (hk : PySem.W.keepIn X.K (.ref f) = true) (hb : Binds X.K fd ps ds) (hd : Vals dvs ds) (hx : Passes CX X E)
    (ha : PA X (e :: es) t) (hdb : (x == ("__debug__" : Str)) = false := by decide) (he : starEach (e :: es) X.env = (false, eval e X.env) :: starEach es X.env := by rfl) (hpl : (backTo pos (starEach es X.env)).any (·.1) = false := by rfl) :
    PE X (.Call (.Name x p) (e :: es) [] pos) (tCall sp dvs E t) := by
  intro pins s σ H Q I h
  refine wpAny_Call_Name_kw (ld_glob I hg hm ?_ hdb)
  refine PySem.W.callWith_K (h₀ := X.base) I.ok.mod.kin hk (thn (ha pos pins s σ H _ I h) fun us s1 ⟨vs, H1, I1, r, q⟩ => ⟨I1.kIn, ?_⟩) he hpl
  exact run_fn F hr hb hd hx I1 r q
/-- o.m(e, ..) -/
theorem pe_meth {pl : Sem Bool} (he : PE X o ta) (c : Cls X.K C) (hm : Meth X.K C m f) (F : FnOk X.prog X.w X.K X.mg X.base CX k f fd ps sp) (hr : Room k X.A) (hb : Binds X.K fd ps ds) (hd : Vals dvs ds) (hx : Passes CX X E) (ha : PA X (e :: es) t)
    (hst : starEach (e :: es) X.env = (false, eval e X.env) :: starEach es X.env := by rfl) (hpl : (backTo pos (starEach es X.env)).any (·.1) = false := by rfl)
    (ht : eval (.Call (.Attribute o m apos) (e :: es) [] pos) X.env = (do
      let ov ← eval o X.env
      standAt apos.atName
      let (f, first) ← holding [ov] (getMethod ov m pl)
      callWith pos f first (backTo pos (starEach (e :: es) X.env)) (backToKw pos (keywordEach [] X.env))) := by rfl) :
    PE X (.Call (.Attribute o m apos) (e :: es) [] pos) (tMeth C m sp dvs E ta t) := by
  intro pins s σ H Q I h
  refine PySem.W.methodCall_KW (pl := pl) (thn (he pins s σ H _ I h) fun u s1 ⟨x, H1, I1, rx, a, dx, fs, ex, ea, l, q⟩ => ?_) ht
  subst ex
  obtain rfl : u = Value.ref a := rx
  refine getmeth_ok I1 ea c hm l ?_
  refine PySem.W.callWith_K (first := [.ref a]) (h₀ := X.base) I.ok.mod.kin hm.kp (thn (ha pos pins s1 σ H1 _ I1 q) fun us s2 ⟨vs, H2, I2, r, q2⟩ => ⟨I2.kIn, ?_⟩) hst hpl
  exact run_fn (us := .ref a :: us) (vs := .ref a :: vs) F hr hb hd hx I2 (.cons rfl r) q2
/-- o.m() -/
theorem pe_meth0 {pl : Sem Bool} (he : PE X o ta) (c : Cls X.K C) (hm : Meth X.K C m f) (F : FnOk X.prog X.w X.K X.mg X.base CX k f fd ps sp) (hr : Room k X.A) (hb : Binds X.K fd ps ds) (hd : Vals dvs ds) (hx : Passes CX X E)
    (ht : eval (.Call (.Attribute o m apos) [] [] pos) X.env = (do
      let ov ← eval o X.env
      standAt apos.atName
      let (f, first) ← holding [ov] (getMethod ov m pl)
      callWith pos f first (backTo pos (starEach [] X.env)) (backToKw pos (keywordEach [] X.env))) := by rfl) :
    PE X (.Call (.Attribute o m apos) [] [] pos) (tMeth C m sp dvs E ta tNil) := by
  intro pins s σ H Q I h
  refine PySem.W.methodCall_KW (pl := pl) (thn (he pins s σ H _ I h) fun u s1 ⟨x, H1, I1, rx, a, dx, fs, ex, ea, l, q⟩ => ?_) ht
  subst ex
  obtain rfl : u = Value.ref a := rx
  refine getmeth_ok I1 ea c hm l ?_
  exact PySem.W.callWith_K0 (first := [.ref a]) I1.kIn hm.kp (run_fn (us := [.ref a]) (vs := [.ref a]) F hr hb hd hx I1 (.cons rfl .nil) q)
/-- what a class must have to be made -/
structure Mk (K : PySem.W.Frag) (C f : Addr) : Prop where
  makes : PySem.W.makesIn K C = true
  init : PySem.W.findIn K (.ref C) "__init__" = some (some (.ref f))
  fn : PySem.W.isFn K (.ref f) = true
  kp : PySem.W.keepIn K (.ref C) = true
theorem run_make {pins : List (Addr × Obj)} {σ : St} {H : Hp} {s : Shared} {Q : VK} {us : List Value} {vs : List V} (M : Mk X.K C f) (F : FnOk X.prog X.w X.K X.mg X.base CX k f fd ps sp) (hr : Room (k + 1) X.A) (hb : Binds X.K fd ps ds) (hd : Vals dvs ds)
    (hx : Passes CX X E) (I : Inv X pins σ H s) (r : Vals vs us)
    (h : ∀ x dx, H x = none → H dx = none → dx ≠ x → sp (.ref x :: (vs ++ dvs)) (upd (upd H dx (.own x)) x (.ins C dx [])) (fun v H2 => v = .non ∧ Q (.ref x) H2) E) :
    wpAny (model X.prog X.w) X.A (call (.ref C) us) (EP X pins σ Q) X.xe s := by
  have hq := h (s.heap.objs.size + 1) s.heap.objs.size (I.hok.fresh (Nat.le_succ _)) (I.hok.fresh (Nat.le_refl _)) (Nat.ne_of_lt (Nat.lt_succ_self _))
  have I2 := Inv.made (C := C) I
  have r2 : Vals (V.ref (s.heap.objs.size + 1) :: (vs ++ dvs)) (Value.ref (s.heap.objs.size + 1) :: (us ++ ds)) := .cons rfl (r.append hd)
  have hl : (Value.ref (s.heap.objs.size + 1) :: us ++ ds).length = ps.length := by
    have e := r2.length
    rw [F.len _ _ _ _ hq] at e
    exact e.symm
  refine wpAny_call (make_map (f := f) I.kIn M.makes M.init (beq_iff_eq.mp M.fn) (codeAny_mono (F.run _ X.stack _ _ ⟨Value.ref (s.heap.objs.size + 1) :: us, []⟩ (Value.ref (s.heap.objs.size + 1) :: (us ++ ds)) _ _ E (hr.make C us [])
    (I2.env0.make C us []) (hb _ (Value.ref (s.heap.objs.size + 1) :: us) I2.kIn hl) r2 hq) fun r s' hq' => ?_))
  cases r with
  | error e => exact hx pins σ _ _ e s' I2 hq'
  | ok fl =>
    cases fl with
    | ret u =>
      obtain ⟨v, H', I3, rv, ev, q3⟩ := I2.after hq'
      subst ev
      exact ⟨rv, ⟨V.ref (s.heap.objs.size + 1), H', I3, rfl, q3⟩⟩
    | next => exact False.elim hq'
    | brk => exact False.elim hq'
    | cont => exact False.elim hq'
theorem pe_make (M : Mk X.K C f) (F : FnOk X.prog X.w X.K X.mg X.base CX k f fd ps sp) (hr : Room (k + 1) X.A) (hg : Gl X x) (hm : X.mg x = some (.ref C)) (hb : Binds X.K fd ps ds) (hd : Vals dvs ds) (hx : Passes CX X E)
    (ha : PA X (e :: es) t) (hdb : (x == ("__debug__" : Str)) = false := by decide) (he : starEach (e :: es) X.env = (false, eval e X.env) :: starEach es X.env := by rfl) (hpl : (backTo pos (starEach es X.env)).any (·.1) = false := by rfl) :
    PE X (.Call (.Name x p) (e :: es) [] pos) (tMake C sp dvs E t) := by
  intro pins s σ H Q I h
  refine wpAny_Call_Name_kw (ld_glob I hg hm ?_ hdb)
  refine PySem.W.callWith_K (h₀ := X.base) I.ok.mod.kin M.kp (thn (ha pos pins s σ H _ I h) fun us s1 ⟨vs, H1, I1, r, q⟩ => ⟨I1.kIn, ?_⟩) he hpl
  exact run_make M F hr hb hd hx I1 r q
end
/-! ### keywords -/
section
variable {X : Cx} {CX : CXT} {k : Nat} {f C : Addr} {fd : FuncData} {ps ks : List Str} {sp : Sp} {E : XK} {x m : Str} {p pos apos kpos : Pos} {e o : Expr} {es : List Expr} {kws : List Keyword} {te ta : TE} {t tk : TA} {nm : Option Str}
/-- how a call with keywords binds: g puts the positional values us and the keywords' values ws (names ks) in the parameters' order, defaults among them -/
structure KBinds (K : PySem.W.Frag) (fd : FuncData) (ps ks : List Str) (g : List Value → List Value → List Value) (gV : List V → List V → List V) : Prop where
  to : ∀ (s : Shared) (us ws : List Value), K.In s.heap → (g us ws).length = ps.length → BindsTo s fd ⟨us, ks.zip ws⟩ (ps.zip (g us ws))
  rel : ∀ {vs : List V} {us : List Value} {zs : List V} {ws : List Value}, Vals vs us → Vals zs ws → Vals (gV vs zs) (g us ws)
variable {g : List Value → List Value → List Value} {gV : List V → List V → List V}
end
/-! ### a def's body keeps its promise -/
/-- names: the parameters first -/
structure FnScope (N P : List Str) (sc : Scope) : Prop where
  kind : sc.kind = .function
  co : sc.isCoroutine = false
  gen : sc.isGenerator = false
  nd : N.Nodup
  pre : N.take P.length = P
  par : ∀ x ∈ P, sc.names.lookup x = some .local ∨ sc.names.lookup x = some .cell
  nofree : ∀ y ∈ sc.names, y.2 ≠ .free
theorem bindL_out {kindOf : Str → Option NameKind} {x : Str} : ∀ {binds : List (Str × Value)} {m : Str → Option Value}, (∀ v, (x, v) ∉ binds) → bindL kindOf binds m x = m x
  | [], _, _ => rfl
  | (n, v) :: r, m, h => by
    unfold bindL
    rw [bindL_out fun w hw => h w (List.mem_cons_of_mem _ hw)]
    split
    · have : x ≠ n := by rintro rfl; exact h v List.mem_cons_self
      simp [this]
    · rfl
theorem bindC_out {kindOf : Str → Option NameKind} {x : Str} : ∀ {binds : List (Str × Value)} {m : Str → Option Value}, (∀ v, (x, v) ∉ binds) → bindC kindOf binds m x = m x
  | [], _, _ => rfl
  | (n, v) :: r, m, h => by
    unfold bindC
    rw [bindC_out fun w hw => h w (List.mem_cons_of_mem _ hw)]
    split
    · rfl
    · have : x ≠ n := by rintro rfl; exact h v List.mem_cons_self
      simp [this]
theorem bindL_get {kindOf : Str → Option NameKind} {x : Str} {v : Value} : ∀ {P : List Str} {vs : List Value} {i : Nat} {m : Str → Option Value}, P.Nodup → P[i]? = some x → vs[i]? = some v → kindOf x = some .local →
    bindL kindOf (P.zip vs) m x = some v
  | [], _, _, _, _, h, _, _ => by simp at h
  | _ :: _, [], _, _, _, _, h, _ => by simp at h
  | p :: P, w :: vs, 0, m, nd, h1, h2, hk => by
    simp at h1 h2; subst h1; subst h2
    show bindL kindOf ((p, w) :: P.zip vs) m p = _
    unfold bindL
    rw [bindL_out fun v hv => (List.nodup_cons.mp nd).1 (List.of_mem_zip hv).1, if_pos hk]
    simp
  | p :: P, w :: vs, i + 1, m, nd, h1, h2, hk => by
    show bindL kindOf ((p, w) :: P.zip vs) m x = _
    unfold bindL
    exact bindL_get (i := i) (List.nodup_cons.mp nd).2 (by simpa using h1) (by simpa using h2) hk
theorem bindC_get {kindOf : Str → Option NameKind} {x : Str} {v : Value} : ∀ {P : List Str} {vs : List Value} {i : Nat} {m : Str → Option Value}, P.Nodup → P[i]? = some x → vs[i]? = some v → kindOf x ≠ some .local →
    bindC kindOf (P.zip vs) m x = some v
  | [], _, _, _, _, h, _, _ => by simp at h
  | _ :: _, [], _, _, _, _, h, _ => by simp at h
  | p :: P, w :: vs, 0, m, nd, h1, h2, hk => by
    simp at h1 h2; subst h1; subst h2
    show bindC kindOf ((p, w) :: P.zip vs) m p = _
    unfold bindC
    rw [bindC_out fun v hv => (List.nodup_cons.mp nd).1 (List.of_mem_zip hv).1, if_neg hk]
    simp
  | p :: P, w :: vs, i + 1, m, nd, h1, h2, hk => by
    show bindC kindOf ((p, w) :: P.zip vs) m x = _
    unfold bindC
    exact bindC_get (i := i) (List.nodup_cons.mp nd).2 (by simpa using h1) (by simpa using h2) hk
/-- the names' values at the entry -/
def start (N : List Str) (vs : List V) : St := vs.map some ++ List.replicate (N.length - vs.length) none
/-- the context of a def's body, at its entry; an exception leaves the frame, then lies as CX says -/
def cxOf (CX : CXT) (P : Program) (w : World) (K : PySem.W.Frag) (mg : Str → Option Value) (base : Heap) (N : List Str) (qual : Str) (scope : Scope) (f : Addr) (cd : Value) (A : Around) (outer : List Env) (s : Shared) (H : Hp) (E : XK) : Cx where
  prog := P
  w := w
  K := K
  mg := mg
  base := base
  A := A.deeper (envOfC qual scope s.heap.objs.size f cd)
  N := N
  s₀ := s
  H₀ := H
  env := envOfC qual scope s.heap.objs.size f cd
  outer := outer
  stack := envOfC qual scope s.heap.objs.size f cd :: outer
  ex := []
  calm := true
  fn := fun _ => true
  pn := []
  xe := fun e s' => wpAny (model P w) (A.deeper (envOfC qual scope s.heap.objs.size f cd)) (leaving (envOfC qual scope s.heap.objs.size f cd) e) (fun _ s'' => CX outer H s E e s'') (fun e' s'' => CX outer H s E e' s'') s'
theorem cell_has {sc : Scope} {n : Nat} {x : Str} (h : sc.names.lookup x = some .cell) : ∃ c, (cellsFrom n sc.names []).lookup x = some c := by
  have q := PySem.W.cellsFrom_some sc.names n [] (.inl h)
  exact Option.isSome_iff_exists.mp q
theorem inv_start {CX : CXT} {P : Program} {w : World} {K : PySem.W.Frag} {mg : Str → Option Value} {base : Heap} {N ps : List Str} {qual : Str} {scope : Scope} {f : Addr} {cd : Value} {A : Around} {outer : List Env} {s s1 : Shared} {H : Hp} {E : XK} {us : List Value} {vs : List V}
    (S : FnScope N ps scope) (hd : A.handled = none) (e0 : Env0 P w K mg base A outer s H) (hl : vs.length = ps.length) (r : Vals vs us)
    (x : InCallC s s.heap.objs.size (bindL (envOfC qual scope s.heap.objs.size f cd).kindOf (ps.zip us) fun _ => none) (cellsFrom (s.heap.objs.size + 1) scope.names []) (bindC (envOfC qual scope s.heap.objs.size f cd).kindOf (ps.zip us) fun _ => none) s1) :
    Inv (cxOf CX P w K mg base N qual scope f cd A outer s H E) [] (start N vs) H s1 := by
  have hpl : ps.length ≤ N.length := by have := congrArg List.length S.pre; rw [List.length_take] at this; omega
  obtain ⟨h1, tk, rfl, hk⟩ := x.done
  have noA : ∀ b : Addr, b ∉ (cxOf CX P w K mg base N qual scope f cd A outer s H E).ex := fun b z => absurd (show b ∈ ([] : List Addr) from z) (by simp)
  refine ⟨⟨e0.mod, S.kind, rfl, rfl, Nat.le_refl _, fun y z c h1 h2 => ?_, fun y hy => ?_, fun y c _ h => ?_, fun _ => hd, Around.frames_deeper e0.frames, .inr ⟨rfl, rfl⟩, fun b z => absurd z (noA b), e0.bs, e0.bsz, fun b _ _ => noA b, fun b z => absurd z (noA b), e0.funs, e0.frf⟩,
    rfl, e0.bare, Un.kept hk, ⟨_, x.toInCall.ns, fun i y v h1 h2 h3 => ?_⟩, fun y c h => ⟨_, x.cell y c h⟩, e0.hok.fresh (Nat.le_refl _), fun y c h => ?_, fun p hp => absurd (show p ∈ ([] : List (Addr × Obj)) from hp) (by simp), e0.hok.kept hk, ?_⟩
  · exact name_of_addr x.apart (PySem.mem_of_lookup h1) (PySem.mem_of_lookup h2)
  · have hy : scope.names.lookup y = some .cell ∨ scope.names.lookup y = some .free := hy
    rcases hy with hy | hy
    · exact cell_has hy
    · exact absurd rfl (S.nofree _ (PySem.mem_of_lookup hy))
  · exact Nat.le_of_lt (x.above y c (PySem.mem_of_lookup h))
  · have hi : i < vs.length := by
      unfold start at h2
      by_cases hi : i < vs.length
      · exact hi
      · rw [List.getElem?_append_right (by simpa using hi)] at h2
        rw [List.getElem?_replicate] at h2
        split at h2 <;> cases h2
    have ha : vs[i]? = some v := by
      unfold start at h2
      rw [List.getElem?_append_left (by simpa using hi), List.getElem?_map] at h2
      cases e : vs[i]? with
      | none => rw [e] at h2; cases h2
      | some a => rw [e] at h2; cases h2; rfl
    obtain ⟨u, hu, rv⟩ := r.get ha
    have hp : ps[i]? = some y := by
      rw [← S.pre, List.getElem?_take_of_lt (by omega)]; exact h1
    have ndP : ps.Nodup := by rw [← S.pre]; exact S.nd.sublist (List.take_sublist _ _)
    refine ⟨u, rv, ?_⟩
    rcases S.par y (List.mem_of_getElem? hp) with k | k
    · exact .inl ⟨k, bindL_get ndP hp hu k⟩
    · obtain ⟨c, e⟩ := cell_has (n := s.heap.objs.size + 1) k
      refine .inr ⟨.inl k, c, e, ?_⟩
      have q := x.cell y c e
      rw [bindC_get ndP hp hu (by show scope.names.lookup y ≠ _; rw [k]; decide)] at q
      exact q
  · exact e0.hok.fresh (Nat.le_of_lt (x.above y c (PySem.mem_of_lookup h)))
  · unfold start
    show _ = N.length
    rw [List.length_append, List.length_map, List.length_replicate]
    omega
/-- THE RULE: a def (or a method) of the text, by its body. The body's reading t is chosen for each entry; it is run at the parameters' values -/
theorem fn_of {CX : CXT} {P : Program} {w : World} {K : PySem.W.Frag} {mg : Str → Option Value} {base : Heap} {k : Nat} {f : Addr} {name qual : Str} {params : Arguments} {body : List Stmt} {scope : Scope} {dV kV doc pm cdv ct oc : Value} {an od : Option Addr}
    {osl : Array (Option Value)} {N ps : List Str} {sp : Sp} (lk : K.lookup f = some ⟨oc, od, .func (PySem.W.fnOf name qual params body scope dV kV doc pm an cdv ct), osl⟩) (hcd : PySem.W.codeIn K cdv qual = true) (S : FnScope N ps scope)
    (len : ∀ vs H Q E, sp vs H Q E → vs.length = ps.length)
    (hbody : ∀ (A : Around) (outer : List Env) (s : Shared) (H : Hp) (vs : List V) (Q : VK) (E : XK), Room k (A.deeper (envOfC qual scope s.heap.objs.size f cdv)) → sp vs H Q E →
      ∃ t, PSs (cxOf CX P w K mg base N qual scope f cdv A outer s H E) body t ∧ t { nx := fun _ H' => Q .non H', rt := Q } (start N vs) H) :
    FnOk P w K mg base CX (k + 1) f (PySem.W.fnOf name qual params body scope dV kV doc pm an cdv ct) ps sp := by
  refine ⟨len, fun A outer s H args us vs Q E hr e0 hb r hsp => ?_⟩
  have hl := len _ _ _ _ hsp
  have KX : K.In s.heap := e0.mod.kin.keeps fun b o e => (e0.bs b o e).1
  have lim : s.heap.NoLimit := e0.mod.nolimit.keeps fun b o e => (e0.bs b o e).1
  have hkind : ∀ y ∈ ps.zip us, scope.names.lookup y.1 = some .local ∨ (scope.names.lookup y.1 = some .cell ∧ ((cellsFrom (s.heap.objs.size + 1) scope.names []).lookup y.1).isSome = true) := fun ⟨n, v⟩ hy => by
    rcases S.par n (List.of_mem_zip hy).1 with q | q
    · exact .inl q
    · exact .inr ⟨q, PySem.W.cellsFrom_some _ _ _ (.inl q)⟩
  refine codeAny_call_function hr.depth (KX _ _ lk) rfl S.co S.gen rfl (PySem.W.codeRec_of KX hcd) (hb _ _ _ _ ?_)
  refine wpAny_newFunctionEnv_cells S.kind hkind fun env he s1 x => ?_
  subst he
  refine ⟨lim.keeps x.toInCall.keep, codeAny_func ?_⟩
  obtain ⟨t, ht, hq⟩ := hbody A outer s H vs Q E (hr.deeper _) hsp
  have I : Inv (cxOf CX P w K mg base N qual scope f cdv A outer s H E) [] (start N vs) H s1 := inv_start S hr.hd e0 hl r x
  refine wpAny_mono (ht [] s1 (start N vs) H _ I hq) (fun fl s' hs => ?_) fun e s' hs => hs
  have fin : ∀ {σ' : St} {H' : Hp} {v : V} {u : Value}, Inv (cxOf CX P w K mg base N qual scope f cdv A outer s H E) [] σ' H' s' → RelV v u → Q v H' → CE outer P w H s Q u s' :=
    fun {σ' H' v u} J rv q => ⟨v, H', J.os, J.bare, J.base, J.hok, rv, q⟩
  cases fl with
  | ret u =>
    obtain ⟨v, σ', H', J, rv, q⟩ := hs
    exact fin J rv q
  | next =>
    obtain ⟨σ', H', J, q⟩ := hs
    exact fin (v := V.non) (u := Value.none) J rfl q
  | brk =>
    obtain ⟨_, _, _, q⟩ := hs
    exact False.elim q
  | cont =>
    obtain ⟨_, _, _, q⟩ := hs
    exact False.elim q
end L2
namespace L2
open PySem PySem.Spec PyProof.Rows
section
variable {X : Cx} {x : Str} {p pos : Pos} {e : Expr} {es : List Expr} {t : TA} {id T : String} {r : List V → Hp → VK → Prop}
def tCB (r : List V → Hp → VK → Prop) (t : TA) : TE := fun σ H Q => t σ H fun vs H1 => r vs H1 Q
/-- f(e, ..), f a built-in function -/
theorem pe_callB (hc : CallR X (.builtin id) r) (hg : Gl X x) (hm : X.mg x = none) (hv : bootBuiltins x = some (.builtin id)) (ha : PA X (e :: es) t) (hn : x ≠ "__name__" := by decide) (hdb : (x == ("__debug__" : Str)) = false := by decide)
    (he : starEach (e :: es) X.env = (false, eval e X.env) :: starEach es X.env := by rfl) (hpl : (backTo pos (starEach es X.env)).any (·.1) = false := by rfl) : PE X (.Call (.Name x p) (e :: es) [] pos) (tCB r t) := by
  intro pins s σ H Q I h
  refine wpAny_Call_Name_kw (ld_blt I hg hm hv ?_ hn hdb)
  exact PyProof.Rows.callWith_builtin1 (thn (ha pos pins s σ H _ I h) fun us s1 ⟨vs, H1, I1, r1, q1⟩ => hc pins s1 σ H1 vs us Q I1 r1 q1) he hpl
/-- T(e, ..), T a built-in type -/
theorem pe_callTy (hc : CallR X (.type T) r) (hg : Gl X x) (hm : X.mg x = none) (hv : bootBuiltins x = some (.type T)) (ha : PA X (e :: es) t) (hn : x ≠ "__name__" := by decide) (hdb : (x == ("__debug__" : Str)) = false := by decide)
    (he : starEach (e :: es) X.env = (false, eval e X.env) :: starEach es X.env := by rfl) (hpl : (backTo pos (starEach es X.env)).any (·.1) = false := by rfl) : PE X (.Call (.Name x p) (e :: es) [] pos) (tCB r t) := by
  intro pins s σ H Q I h
  refine wpAny_Call_Name_kw (ld_blt I hg hm hv ?_ hn hdb)
  exact PyProof.Rows.callWith_type1 (thn (ha pos pins s σ H _ I h) fun us s1 ⟨vs, H1, I1, r1, q1⟩ => hc pins s1 σ H1 vs us Q I1 r1 q1) he hpl
end
end L2
namespace HT
open PySem PyProof.Rows
section
open PySem.SeqAt
open PySem.AutoSeq1 (wpAny_loadPart')
open PySem.MeetsSeq PySem.MeetsSeq2 PySem.MeetsSeq3
end
section
variable {prog : Program} {w : World} {A : Around} {E : Value → Shared → Prop} {s : Shared}
/-! ### t[a:b], not the whole -/
/-- a slice's bound as a place among n (d where it is left out) -/
def sIx (n d : Nat) : Option Int → Nat
  | none => d
  | some v => if v < 0 then (v + (n : Int)).toNat else min v.toNat n
theorem sIx_none (n d : Nat) : sIx n d none = d := rfl
theorem sIx_nat (n d k : Nat) : sIx n d (some (k : Int)) = min k n := by
  show (if (k : Int) < 0 then ((k : Int) + (n : Int)).toNat else min (k : Int).toNat n) = min k n
  rw [if_neg (by omega), Int.toNat_natCast]
theorem sIx_le (n d : Nat) (hd : d ≤ n) (o : Option Int) : sIx n d o ≤ n := by
  cases o with
  | none => exact hd
  | some v =>
    show (if v < 0 then (v + (n : Int)).toNat else min v.toNat n) ≤ n
    by_cases hv : v < 0
    · rw [if_pos hv]; omega
    · rw [if_neg hv]; exact Nat.min_le_right _ _
theorem clip_eq (v : Int) (n d : Nat) : (if v < 0 then max (v + (n : Int)) 0 else min v (n : Int)) = ((sIx n d (some v) : Nat) : Int) := by
  show (if v < 0 then max (v + (n : Int)) 0 else min v (n : Int)) = (((if v < 0 then (v + (n : Int)).toNat else min v.toNat n) : Nat) : Int)
  by_cases hv : v < 0
  · simp only [if_pos hv]; omega
  · simp only [if_neg hv]; omega
theorem adjust_gen (lo hi : Option Int) (n : Nat) : Builtin.Slice.sliceAdjust lo hi 1 (n : Int) = (((sIx n 0 lo : Nat) : Int), ((sIx n n hi : Nat) : Int)) := by
  have h1 : ¬ ((1 : Int) < 0) := by omega
  unfold Builtin.Slice.sliceAdjust
  simp only [h1, if_false]
  refine Prod.ext ?_ ?_
  · cases lo with
    | none => rfl
    | some v => exact clip_eq v n 0
  · cases hi with
    | none => rfl
    | some v => exact clip_eq v n n
theorem places_gen (i j : Nat) : Builtin.Slice.slicePlaces (i : Int) (j : Int) 1 = j - i := by
  unfold Builtin.Slice.slicePlaces
  have h1 : (1 : Int) > 0 := by omega
  simp only [h1, if_true, Int.ediv_one]
  split <;> omega
theorem slicePart_ {v : Value} {o : Option Int} {Q : Option Int → Shared → Prop} (p : IsPart v o) (h : Q o s) : wpAny (model prog w) A (Builtin.Slice.slicePartIndex v) Q E s := by
  cases p with
  | none => exact slicePart_none h
  | int i t => exact slicePart_int h
theorem sliceApplied_gen {sl : Addr} {vl vu : Value} {lo hi : Option Int} {n : Nat} {Q : Int × Int × Nat → Shared → Prop} (hs : s.heap.IsSliceOf sl vl vu .none) (pl : IsPart vl lo) (pu : IsPart vu hi)
    (h : Q (((sIx n 0 lo : Nat) : Int), 1, sIx n n hi - sIx n 0 lo) s) : wpAny (model prog w) A (Builtin.Slice.sliceApplied (.ref sl) (pure (n : Int))) Q E s := by
  obtain ⟨os, hos, hcs, hds⟩ := id hs
  unfold Builtin.Slice.sliceApplied Builtin.Slice.sliceFields
  refine wpAny_bind (wpAny_bind (wpAny_field hos hds (x := vl) rfl (wpAny_bind (wpAny_field hos hds (x := vu) rfl (wpAny_bind (wpAny_field hos hds (x := .none) rfl (wpAny_pure ?_)))))))
  refine wpAny_bind (slicePart_none ?_)
  show wpAny _ _ (if ((1 : Int) == 0) = true then _ else _) _ _ s
  rw [if_neg (by decide)]
  refine wpAny_bind (slicePart_ pl (wpAny_bind (slicePart_ pu (wpAny_bind (wpAny_pure ?_)))))
  show wpAny _ _ (match Builtin.Slice.sliceAdjust lo hi 1 (n : Int) with | (lo, hi) => pure (lo, (1 : Int), Builtin.Slice.slicePlaces lo hi 1)) _ _ s
  rw [adjust_gen lo hi n]
  show wpAny _ _ (pure (((sIx n 0 lo : Nat) : Int), (1 : Int), Builtin.Slice.slicePlaces ((sIx n 0 lo : Nat) : Int) ((sIx n n hi : Nat) : Int) 1)) _ _ s
  rw [places_gen]
  exact wpAny_pure h
theorem pick_gen (xs : Array Value) (i k : Nat) : ((List.range k).filterMap fun (m : Nat) => xs[((i : Int) + (m : Int) * 1).toNat]?).toArray = ((xs.toList.drop i).take k).toArray := by
  have e : (fun (m : Nat) => xs[((i : Int) + (m : Int) * 1).toNat]?) = fun m => xs[i + m]? := by
    funext m
    have : ((i : Int) + (m : Int) * 1).toNat = i + m := by omega
    rw [this]
  rw [e]
  have := pick_run xs i k
  rw [List.filterMap_map] at this
  have e2 : ((fun x => xs[x]?) ∘ fun x => i + x) = fun m => xs[i + m]? := rfl
  rw [e2] at this
  rw [this]
theorem getItem_tuple_cut {t sl : Addr} {items : Array Value} {vl vu : Value} {lo hi : Option Int} {Q : Value → Shared → Prop} (ht : IsTup s.heap t items) (hs : s.heap.IsSliceOf sl vl vu .none) (pl : IsPart vl lo) (pu : IsPart vu hi)
    (hw : ¬ (sIx items.size 0 lo = 0 ∧ sIx items.size items.size hi = items.size))
    (h : Q (.ref s.heap.objs.size) { s with heap := s.heap.push { cls := .type "tuple", data := .seq ((items.toList.drop (sIx items.size 0 lo)).take (sIx items.size items.size hi - sIx items.size 0 lo)).toArray } })
    (hsz : items.size ≤ sizeLine) : wpAny (model prog w) A (getItem (.ref t) (.ref sl)) Q E s := by
  have htake : sizeOk (.seq ((items.toList.drop (sIx items.size 0 lo)).take (sIx items.size items.size hi - sIx items.size 0 lo)).toArray) := by
    show ((items.toList.drop (sIx items.size 0 lo)).take (sIx items.size items.size hi - sIx items.size 0 lo)).toArray.size ≤ sizeLine
    rw [List.size_toArray, List.length_take, List.length_drop, Array.length_toList]
    omega
  have hj : sIx items.size items.size hi ≤ items.size := sIx_le _ _ (Nat.le_refl _) hi
  obtain ⟨os, hos, hcs, hds⟩ := id hs
  have hTs : s.TypeIs (.ref sl) "slice" := ⟨os, hos, hcs⟩
  unfold getItem
  try with_reducible refine wpAny_holding ?_
  first | refine wpAny_bind (wpAny_pure ?_) | skip
  refine wpAny_bind (wpAny_sequenceKey ht.typeIs (by decide) ?_)
  refine wpAny_bind (wpAny_callSpecial?_slot (name := Str.ofString "__getitem__") ht.typeIs PyProof.Rows.slot_tuple_getitem
    (wpAny_call_entry PyProof.Rows.slot_tuple_getitem ht.typeIs entry_tuple_getitem ?_ (args_tuple_getitem _ _)))
  show wpAny _ _ (Builtin.Tuple.tupleItemsOf (.ref t) >>= _) _ _ s
  refine wpAny_bind (tupleItemsOf_ ht ?_)
  refine wpAny_bind (wpAny_typeOf hTs ?_)
  rw [if_pos (by decide)]
  refine wpAny_bind (sliceApplied_gen hs pl pu ?_)
  have hno : ¬ ((((sIx items.size 0 lo : Nat) : Int) == 0 && (1 : Int) == 1 && (sIx items.size items.size hi - sIx items.size 0 lo) == items.size) = true) := by
    intro q
    rw [Bool.and_eq_true, Bool.and_eq_true] at q
    have q1 : ((sIx items.size 0 lo : Nat) : Int) = 0 := eq_of_beq q.1.1
    have q2 : sIx items.size items.size hi - sIx items.size 0 lo = items.size := eq_of_beq q.2
    exact hw ⟨by omega, by omega⟩
  show wpAny _ _ (if (((sIx items.size 0 lo : Nat) : Int) == 0 && (1 : Int) == 1 && (sIx items.size items.size hi - sIx items.size 0 lo) == items.size) = true then _ else _) _ _ s
  rw [if_neg hno, pick_gen]
  first
    | exact wpAny_bind (m := Builtin.Tuple.tupleExact _) (wpAny_newObj_type (wpAny_pure ⟨_, rfl, wpAny_pure h⟩) htake)
    | exact wpAny_bind (m := Builtin.Tuple.tupleExact _) (wpAny_newObj_type (wpAny_bind (wpAny_pure (wpAny_pure ⟨_, rfl, wpAny_pure h⟩))) htake)
    | exact wpAny_bind (wpAny_bind (m := Builtin.Tuple.tupleExact _) (wpAny_newObj_type (wpAny_pure (wpAny_pure ⟨_, rfl, wpAny_pure h⟩)) htake))
    | exact wpAny_bind (wpAny_bind (m := Builtin.Tuple.tupleExact _) (wpAny_newObj_type (wpAny_pure ⟨_, rfl, wpAny_pure h⟩) htake))
end
end HT
namespace L2
open PySem PySem.Spec PyProof.Rows
/-! ### the parts of a slice -/
abbrev TO := St → Hp → (Option Int → Hp → Prop) → Prop
/-- a slice's part (left out, or an int) -/
def PO (X : Cx) (e : Option Expr) (t : TO) : Prop :=
  ∀ (pins : List (Addr × Obj)) (s : Shared) (σ : St) (H : Hp) (Q : Option Int → Hp → Prop), Inv X pins σ H s → t σ H Q →
    wpAny (model X.prog X.w) X.A (evalPart e X.env) (fun u s' => ∃ o H', Inv X pins σ H' s' ∧ IsPart u o ∧ Q o H') X.xe s
def tNoPart : TO := fun _ H Q => Q none H
def tPart (t : TE) : TO := fun σ H Q => t σ H fun x H1 => ∃ i, x = .int i ∧ Q (some i) H1
section
variable {X : Cx} {e : Expr} {te : TE} {lo hi : Option Expr} {tl th : TO} {pos p2 : Pos}
theorem po_none : PO X none tNoPart := by
  intro pins s σ H Q I h
  rw [evalPart_none]
  exact wpAny_pure ⟨none, H, I, .none, h⟩
theorem po_some (h : PE X e te) : PO X (some e) (tPart te) := by
  intro pins s σ H Q I hw
  rw [evalPart_some]
  refine thn (h pins s σ H _ I hw) fun u s1 ⟨x, H1, I1, r1, q1⟩ => ?_
  obtain ⟨i, rfl, q⟩ := q1
  obtain ⟨t, rfl⟩ := r1
  exact ⟨some i, H1, I1, .int i t, q⟩
/-- what a slice of a value is, by values: the slice object stands at sl -/
def SlR (X : Cx) (r : V → Option Int → Option Int → Hp → VK → Prop) : Prop :=
  ∀ (pins : List (Addr × Obj)) (s : Shared) (σ : St) (H : Hp) (x : V) (v vl vu : Value) (lo hi : Option Int) (sl : Addr) (Q : VK), Inv X pins σ H s → RelV x v → s.heap.IsSliceOf sl vl vu .none → IsPart vl lo → IsPart vu hi → r x lo hi H Q →
    ∃ T id, typeLookup (.type T) "__getitem__" = pure (some (.builtin id)) ∧ s.TypeIs v T ∧ wpAny (model X.prog X.w) X.A (getItem v (.ref sl)) (EP X pins σ Q) X.xe s
theorem SlR.or {r r' : V → Option Int → Option Int → Hp → VK → Prop} (h : SlR X r) (h' : SlR X r') : SlR X (fun x lo hi H Q => r x lo hi H Q ∨ r' x lo hi H Q) := by
  intro pins s σ H x v vl vu lo hi sl Q I rx hs pl pu q
  rcases q with q | q
  · exact h pins s σ H x v vl vu lo hi sl Q I rx hs pl pu q
  · exact h' pins s σ H x v vl vu lo hi sl Q I rx hs pl pu q
def tSl (r : V → Option Int → Option Int → Hp → VK → Prop) (te : TE) (tl th : TO) : TE := fun σ H Q => te σ H fun x H1 => tl σ H1 fun l H2 => th σ H2 fun u H3 => r x l u H3 Q
/-- a[lo:hi], any a -/
theorem pe_slice {r : V → Option Int → Option Int → Hp → VK → Prop} (hr : SlR X r) (he : PE X e te) (hl : PO X lo tl) (hu : PO X hi th) : PE X (.Subscript e (.Slice lo hi none p2) pos) (tSl r te tl th) := by
  intro pins s σ H Q I h
  refine Subscript_ (thn (he pins s σ H _ I h) fun v s1 ⟨x, H1, I1, r1, q1⟩ => ?_)
  refine wpAny_Slice (thn (hl pins s1 σ H1 _ I1 q1) fun vl s2 ⟨l, H2, I2, pl, q2⟩ => thn (hu pins s2 σ H2 _ I2 q2) fun vu s3 ⟨u, H3, I3, pu, q3⟩ => ?_)
  rw [evalPart_none]
  refine wpAny_pure ?_
  have I4 : Inv X pins σ H3 { s3 with heap := s3.heap.push { cls := .type "slice", data := .fields #[vl, vu, .none] } } := I3.kept (t' := s3.toks) fun b ob q => Heap.get?_push_of_some _ q
  obtain ⟨T, id, hT, ht, hg⟩ := hr pins { s3 with heap := s3.heap.push { cls := .type "slice", data := .fields #[vl, vu, .none] } } σ H3 x v vl vu l u s3.heap.objs.size Q I4 r1 (Heap.IsSliceOf.new ..) pl pu q3
  show wpAny (model X.prog X.w) X.A (subscriptTail e (.Slice lo hi none p2) v (.ref s3.heap.objs.size)) (EP X pins σ Q) X.xe { s3 with heap := s3.heap.push { cls := .type "slice", data := .fields #[vl, vu, .none] } }
  exact tail_any (ops := [.ref s3.heap.objs.size, v]) ht hT hg (by with_unfolding_all rfl)
/-- the items of xs[lo:hi] -/
def cutV (xs : List V) (lo hi : Option Int) : List V := (xs.drop (HT.sIx xs.length 0 lo)).take (HT.sIx xs.length xs.length hi - HT.sIx xs.length 0 lo)
theorem cutV_length (xs : List V) (lo hi : Option Int) : (cutV xs lo hi).length ≤ xs.length := by
  unfold cutV
  rw [List.length_take, List.length_drop]
  omega
/-- t[lo:hi], not the whole of it (the whole would be t itself) -/
def rSlT (K : PySem.W.Frag) : V → Option Int → Option Int → Hp → VK → Prop := fun x lo hi H Q => ∃ a xs, x = .ref a ∧ SqT K H a xs ∧
  ¬ (HT.sIx xs.length 0 lo = 0 ∧ HT.sIx xs.length xs.length hi = xs.length) ∧ ∀ p, H p = none → Q (.ref p) (upd H p (.tup (cutV xs lo hi)))
theorem sl_tup : SlR X (rSlT X.K) := by
  intro pins s σ H x v vl vu lo hi sl Q I rx hs pl pu h
  obtain ⟨a, xs, rfl, hx, hw, q⟩ := h
  cases rx
  obtain ⟨its, r, ht, hz⟩ := I.tuple hx
  have hlen : its.toArray.size = xs.length := by rw [List.size_toArray]; exact r.length.symm
  refine ⟨"tuple", _, PyProof.Rows.slot_tuple_getitem.lookup, ht.typeIs, ?_⟩
  refine HT.getItem_tuple_cut ht hs pl pu (by rw [hlen]; exact hw) ?_ (by rw [hlen]; exact hz)
  rw [hlen]
  refine ⟨.ref s.heap.objs.size, _, I.laid (t' := s.toks) (o := .tup (cutV xs lo hi)) (fun b ob q => Heap.get?_push_of_some _ q) (Nat.le_refl _) ?_, rfl, q _ (I.hok.fresh (Nat.le_refl _))⟩
  exact ⟨Nat.le_trans (cutV_length xs lo hi) hz, _, (r.drop (HT.sIx xs.length 0 lo)).take (HT.sIx xs.length xs.length hi - HT.sIx xs.length 0 lo), IsTup.new _ _⟩
/-! ### t < u, t + u -/
end
end L2
namespace L2
open PySem PySem.Spec PyProof.Rows
/-! ### places -/
/-- the place that an index of any sign means -/
def ixN (n : Nat) (i : Int) : Option Nat := if 0 ≤ i then (if i < n then some i.toNat else none) else if -(n : Int) ≤ i then some (i + n).toNat else none
def atI {α : Type} (xs : List α) (i : Int) : Option α := (ixN xs.length i).bind fun j => xs[j]?
theorem ixN_seq {n : Nat} {i : Int} {j : Nat} (h : ixN n i = some j) : seqIndex? i n = some j ∧ j < n ∧ -(n : Int) ≤ i ∧ i < n := by
  unfold ixN at h
  by_cases h0 : 0 ≤ i
  · rw [if_pos h0] at h
    by_cases h1 : i < n
    · rw [if_pos h1] at h
      have e : i.toNat = j := Option.some.inj h
      exact ⟨by rw [seqIndex_of h0 h1, e], by omega, by omega, h1⟩
    · rw [if_neg h1] at h; cases h
  · rw [if_neg h0] at h
    by_cases h1 : -(n : Int) ≤ i
    · rw [if_pos h1] at h
      have e : (i + n).toNat = j := Option.some.inj h
      exact ⟨by rw [seqIndex_neg (by omega) h1, e], by omega, h1, by omega⟩
    · rw [if_neg h1] at h; cases h
theorem atI_get {α : Type} {xs : List α} {i : Int} {v : α} (h : atI xs i = some v) : ∃ j, seqIndex? i xs.length = some j ∧ xs[j]? = some v ∧ j < xs.length ∧ -(xs.length : Int) ≤ i ∧ i < xs.length := by
  unfold atI at h
  cases e : ixN xs.length i with
  | none => rw [e] at h; cases h
  | some j =>
    rw [e] at h
    obtain ⟨h1, h2, h3, h4⟩ := ixN_seq e
    exact ⟨j, h1, h, h2, h3, h4⟩
theorem atI_nat {α : Type} {xs : List α} {j : Nat} {v : α} (h : xs[j]? = some v) : atI xs (j : Int) = some v := by
  have hj : j < xs.length := (List.getElem?_eq_some_iff.mp h).1
  have e : ixN xs.length (j : Int) = some j := by
    unfold ixN
    rw [if_pos (by omega), if_pos (by omega)]; simp
  unfold atI; rw [e]; exact h
/-! ### what may be subscripted -/
/-- what stands as an index of a plain subscript -/
def PlainIx (b : Expr) : Prop := ∀ o i, subscripted b false o i = operate [o, i] (getItem o i)
/-- a subscript by values -/
def IxR (X : Cx) (r : R2) : Prop :=
  ∀ (value slice : Expr) (pins : List (Addr × Obj)) (s : Shared) (σ : St) (H : Hp) (x y : V) (v u : Value) (Q : VK), Inv X pins σ H s → RelV x v → RelV y u → r x y H Q →
    subscripted slice false v u = operate [v, u] (getItem v u) → wpAny (model X.prog X.w) X.A (subscriptTail value slice v u) (EP X pins σ Q) X.xe s
/-- a call of a builtin's method by values: the receiver, the arguments -/
def MtR (X : Cx) (id : String) (r : V → List V → Hp → VK → Prop) : Prop :=
  ∀ (pins : List (Addr × Obj)) (s : Shared) (σ : St) (H : Hp) (x : V) (xs : List V) (v : Value) (us : List Value) (Q : VK), Inv X pins σ H s → RelV x v → Vals xs us → r x xs H Q →
    wpAny (model X.prog X.w) X.A (call (.builtin id) (v :: us)) (EP X pins σ Q) X.xe s
section
variable {X : Cx} {a b : Expr} {ta tb : TE} {pos : Pos}
theorem IxR.or {r r' : R2} (h : IxR X r) (h' : IxR X r') : IxR X (fun x y H Q => r x y H Q ∨ r' x y H Q) := by
  intro value slice pins s σ H x y v u Q I rx ry q hs
  rcases q with q | q
  · exact h value slice pins s σ H x y v u Q I rx ry q hs
  · exact h' value slice pins s σ H x y v u Q I rx ry q hs
theorem MtR.or {id : String} {r r' : V → List V → Hp → VK → Prop} (h : MtR X id r) (h' : MtR X id r') : MtR X id (fun x xs H Q => r x xs H Q ∨ r' x xs H Q) := by
  intro pins s σ H x xs v us Q I rx rs q
  rcases q with q | q
  · exact h pins s σ H x xs v us Q I rx rs q
  · exact h' pins s σ H x xs v us Q I rx rs q
/-- a[b] -/
theorem pe_ix {r : R2} (hr : IxR X r) (ha : PE X a ta) (hb : PE X b tb) (hs : PlainIx b) : PE X (.Subscript a b pos) (tOp r ta tb) := by
  intro pins s σ H Q I h
  exact Subscript_ (binT ha hb I h fun v u s2 x y H2 I2 rx ry q => hr a b pins s2 σ H2 x y v u Q I2 rx ry q (hs _ _))
def rIxL (K : PySem.W.Frag) : R2 := fun x y H Q => ∃ p xs i v, x = .ref p ∧ y = .int i ∧ SqL K H p xs ∧ atI xs i = some v ∧ Q v H
def rIxT (K : PySem.W.Frag) : R2 := fun x y H Q => ∃ p xs i v, x = .ref p ∧ y = .int i ∧ SqT K H p xs ∧ atI xs i = some v ∧ Q v H
def rIxS : R2 := fun x y H Q => ∃ z i c, x = .str z ∧ y = .int i ∧ z.length ≤ sizeLine ∧ atI z.cps.toList i = some c ∧ Q (.str ⟨#[c]⟩) H
theorem ix_list : IxR X (rIxL X.K) := by
  intro value slice pins s σ H x y v u Q I rx ry h hs
  obtain ⟨p, xs, i, z, rfl, rfl, hq, he, q⟩ := h
  cases rx
  obtain ⟨t, rfl⟩ := ry
  obtain ⟨its, r, pl, hz⟩ := I.list hq
  obtain ⟨j, h1, h2, h3, h4, h5⟩ := atI_get he
  obtain ⟨w, ew, rw'⟩ := r.get h2
  have hl := r.length
  have hn := line63
  have fin : EP X pins σ Q w s := ⟨z, H, I, rw', q⟩
  by_cases h0 : 0 ≤ i
  · have hj : i.toNat = j := by
      rw [seqIndex_of h0 h5] at h1
      exact Option.some.inj h1
    exact item_listR pl.isList h0 (by omega) (by rw [hj]; simpa using ew) fin hs
  · have hj : (i + (its.toArray.size : Int)).toNat = j := by
      rw [seqIndex_neg (by omega) h4] at h1
      rw [List.size_toArray, ← hl]
      exact Option.some.inj h1
    exact subscriptTail_builtinR (x := w) pl.isList.typeIs slot_list_getitem.lookup
      (wpAny_getItem_list_neg (Q := fun r s' => r = w ∧ EP X pins σ Q r s') pl.isList (by omega) (by rw [List.size_toArray] <;> omega) (by omega) (by rw [hj]; simpa using ew) ⟨rfl, fin⟩) hs
theorem ix_tup : IxR X (rIxT X.K) := by
  intro value slice pins s σ H x y v u Q I rx ry h hs
  obtain ⟨p, xs, i, z, rfl, rfl, hq, he, q⟩ := h
  cases rx
  obtain ⟨t, rfl⟩ := ry
  obtain ⟨its, r, pl, hz⟩ := I.tuple hq
  obtain ⟨j, h1, h2, h3, h4, h5⟩ := atI_get he
  obtain ⟨w, ew, rw'⟩ := r.get h2
  have hl := r.length
  have hn := line63
  have fin : EP X pins σ Q w s := ⟨z, H, I, rw', q⟩
  exact subscriptTail_builtinR (x := w) pl.typeIs slot_tuple_getitem.lookup
    (getItem_tuple (j := j) (Q := fun r s' => r = w ∧ EP X pins σ Q r s') pl (by omega) (by omega) (by rw [List.size_toArray, ← hl]; exact h1) (by simpa using ew) ⟨rfl, fin⟩) hs
theorem ix_str : IxR X rIxS := by
  intro value slice pins s σ H x y v u Q I rx ry h hs
  obtain ⟨z, i, c, rfl, rfl, hz, he, q⟩ := h
  obtain ⟨t, rfl⟩ := rx
  obtain ⟨t', rfl⟩ := ry
  obtain ⟨j, h1, h2, h3, h4, h5⟩ := atI_get he
  have hl : z.cps.toList.length = z.length := by simp [Str.length]
  rw [hl] at h1 h4 h5
  have hn := line63
  exact tail_any (typeIs_str s z t) slot_str_getitem.lookup (getItem_str (c := c) (by
    have e1 : decide (i < -(2 ^ 63 : Int)) = false := decide_eq_false (by omega)
    have e2 : decide (i ≥ 2 ^ 63) = false := decide_eq_false (by omega)
    rw [e1, e2, Bool.or_false]) (by rw [h1]; simpa using h2) ⟨.str ⟨#[c]⟩, H, I.tok _, ⟨_, rfl⟩, q⟩) hs
/-! ### xs[i] = v, any sign -/
/-- the list's object behind a store -/
theorem mapSeq_set (its : List Value) (n j : Nat) (u : Value) : Obj.mapSeq (·.setIfInBounds j u) { cls := .type "list", data := .seq its.toArray n } = { cls := .type "list", data := .seq (its.set j u).toArray n } := by
  simp [Obj.mapSeq]
theorem Inv.lst {pins : List (Addr × Obj)} {σ : St} {H : Hp} {s : Shared} {p : Addr} {xs : List V} (I : Inv X pins σ H s) (h : H p = some (.lst xs)) :
    ∃ (its : List Value) (n : Nat), Vals xs its ∧ s.heap.get? p = some { cls := .type "list", data := .seq its.toArray n } ∧ xs.length ≤ sizeLine := by
  obtain ⟨z, its, n, r, e⟩ := I.hok p _ h
  exact ⟨its, n, r, e, z⟩
/-- the list at p is written by an update of its object -/
theorem Inv.lstUpd {pins : List (Addr × Obj)} {σ : St} {H : Hp} {s : Shared} {p : Addr} {xs ys : List V} {its its' : List Value} {n n' : Nat} {f : Obj → Obj} (I : Inv X pins σ H s) (h : H p = some (.lst xs))
    (ho : s.heap.get? p = some { cls := .type "list", data := .seq its.toArray n }) (hf : f { cls := .type "list", data := .seq its.toArray n } = { cls := .type "list", data := .seq its'.toArray n' }) (r : Vals ys its') (hz : ys.length ≤ sizeLine) (t : Nat) :
    Inv X pins σ (upd H p (.lst ys)) { s with heap := s.heap.update p f, toks := t } := by
  have e : (s.heap.update p f).get? p = some { cls := .type "list", data := .seq its'.toArray n' } := by
    rw [Heap.get?_update_self f ho (by rw [hf] <;> rfl), hf]
  refine I.write (x := p) (e := p) (by rw [h]; trivial) (.inl rfl) (fun b u hb q => (Heap.get?_update_other _ _ (Ne.symm hb)).trans q) ⟨_, e⟩ ?_
  exact ⟨hz, its', n', r, e⟩
def rSetL : V → V → V → Hp → (Hp → Prop) → Prop := fun o i v H Q => ∃ p xs k j, o = .ref p ∧ i = .int k ∧ H p = some (.lst xs) ∧ ixN xs.length k = some j ∧ Q (upd H p (.lst (xs.set j v)))
theorem set_list : PSet X rSetL := by
  intro pins s σ H o i v ov iv u Q I ro ri rv h
  obtain ⟨p, xs, k, j, rfl, rfl, hp, hj, q⟩ := h
  cases ro
  obtain ⟨t, rfl⟩ := ri
  obtain ⟨its, n, r, ho, hz⟩ := I.lst hp
  obtain ⟨h1, h2, h3, h4⟩ := ixN_seq hj
  have hl := r.length
  have hn := line63
  have I' : Inv X pins σ (upd H p (.lst (xs.set j v))) { s with heap := s.heap.update p (Obj.mapSeq (·.setIfInBounds j u)) } :=
    I.lstUpd hp ho (mapSeq_set its n j u) (r.set rv j) (by rw [List.length_set]; exact hz) s.toks
  by_cases h0 : 0 ≤ k
  · have hk : k.toNat = j := by
      rw [seqIndex_of h0 h4] at h1
      exact Option.some.inj h1
    exact PySem.W.ki_setAt ho h0 (by omega) (by rw [List.size_toArray, ← hl]; exact h4) (by rw [hk]; exact ⟨_, I', q⟩)
  · have hk : (k + (its.toArray.size : Int)).toNat = j := by
      rw [seqIndex_neg (by omega) h3] at h1
      rw [List.size_toArray, ← hl]
      exact Option.some.inj h1
    exact PySem.W.ki_setBack ho (by omega) (by rw [List.size_toArray, ← hl]; exact h3) (by omega) (by rw [hk]; exact ⟨_, I', q⟩)
/-! ### slices -/
theorem slice_bounds (lo hi : Option Int) (n : Nat) : (sliceBounds lo hi none n).1 = ((HT.sIx n 0 lo : Nat) : Int) ∧ (sliceBounds lo hi none n).2.1 = ((HT.sIx n n hi : Nat) : Int) ∧ (sliceBounds lo hi none n).2.2 = 1 := by
  refine ⟨?_, ?_, rfl⟩
  · cases lo with
    | none => simp [sliceBounds, HT.sIx]
    | some i =>
      simp only [sliceBounds, HT.sIx, Option.getD_none, show (1 : Int) > 0 by decide, if_true]
      by_cases h : i < 0
      · simp only [h, if_true] <;> omega
      · simp only [h, if_false] <;> omega
  · cases hi with
    | none => simp [sliceBounds, HT.sIx]
    | some i =>
      simp only [sliceBounds, HT.sIx, Option.getD_none, show (1 : Int) > 0 by decide, if_true]
      by_cases h : i < 0
      · simp only [h, if_true] <;> omega
      · simp only [h, if_false] <;> omega
theorem slicePick_cut (its : List Value) (lo hi : Option Int) : slicePick its.toArray lo hi none = ((its.drop (HT.sIx its.length 0 lo)).take (HT.sIx its.length its.length hi - HT.sIx its.length 0 lo)).toArray := by
  obtain ⟨h1, h2, h3⟩ := slice_bounds lo hi its.toArray.size
  unfold slicePick
  rw [h1, h2, h3]
  simp only [sliceRange_one, pick_run, List.size_toArray] <;> rfl
/-- xs[lo:hi] of a list: a new list -/
def rSlL (K : PySem.W.Frag) : V → Option Int → Option Int → Hp → VK → Prop := fun x lo hi H Q => ∃ a xs, x = .ref a ∧ SqL K H a xs ∧ ∀ p, H p = none → Q (.ref p) (upd H p (.lst (cutV xs lo hi)))
theorem sl_list : SlR X (rSlL X.K) := by
  intro pins s σ H x v vl vu lo hi sl Q I rx hs pl pu h
  obtain ⟨a, xs, rfl, hx, q⟩ := h
  cases rx
  obtain ⟨its, r, ht, hz⟩ := I.list hx
  have hlen := r.length
  refine ⟨"list", _, slot_list_getitem.lookup, ht.isList.typeIs, ?_⟩
  refine wpAny_getItem_list_slice ht.isList hs pl pu .none (by simp) ?_ (by rw [List.size_toArray] <;> omega)
  rw [slicePick_cut, ← hlen]
  refine ⟨.ref s.heap.objs.size, _, I.laid (t' := s.toks) (o := .lst (cutV xs lo hi)) (fun b ob q => Heap.get?_push_of_some _ q) (Nat.le_refl _) ?_, rfl, q _ (I.hok.fresh (Nat.le_refl _))⟩
  exact ⟨Nat.le_trans (cutV_length xs lo hi) hz, _, 0, (r.drop (HT.sIx xs.length 0 lo)).take (HT.sIx xs.length xs.length hi - HT.sIx xs.length 0 lo), Heap.get?_push_size _ rfl⟩
/-! ### in, not in: flat items -/
def flatV : V → Bool
  | .non => true
  | .bl _ => true
  | .int _ => true
  | .str _ => true
  | _ => false
/-- == of flat values -/
def eqV : V → V → Bool
  | .non, .non => true
  | .bl a, .bl b => a == b
  | .bl a, .int b => (if a then 1 else 0) == b
  | .int a, .bl b => a == (if b then 1 else 0)
  | .int a, .int b => a == b
  | .str a, .str b => a == b
  | _, _ => false
theorem eqAt_V {A : Around} {s : Shared} {y x : V} {u v : Value} (ry : RelV y u) (rx : RelV x v) (fy : flatV y = true) (fx : flatV x = true) : SeqAt.EqAt A s u v (eqV y x) := by
  cases y with
  | non =>
    cases ry
    cases x with
    | non => cases rx; exact SeqAt.EqAt.same _
    | bl b => cases rx; exact SeqAt.EqAt.none_bool b
    | int b => obtain ⟨t, rfl⟩ := rx; exact SeqAt.EqAt.none_int b t
    | str b => obtain ⟨t, rfl⟩ := rx; exact SeqAt.EqAt.none_str b t
    | _ => exact absurd (show false = true from fx) Bool.false_ne_true
  | bl a =>
    cases ry
    cases x with
    | non => cases rx; exact SeqAt.EqAt.bool_none a
    | bl b => cases rx; exact SeqAt.EqAt.bool_bool a b
    | int b => obtain ⟨t, rfl⟩ := rx; exact SeqAt.EqAt.bool_int a b t
    | str b => obtain ⟨t, rfl⟩ := rx; exact SeqAt.EqAt.bool_str a b t
    | _ => exact absurd (show false = true from fx) Bool.false_ne_true
  | int a =>
    obtain ⟨t', rfl⟩ := ry
    cases x with
    | non => cases rx; exact SeqAt.EqAt.int_none a t'
    | bl b => cases rx; exact SeqAt.EqAt.int_bool a t' b
    | int b => obtain ⟨t, rfl⟩ := rx; exact SeqAt.EqAt.int_int a t' b t
    | str b => obtain ⟨t, rfl⟩ := rx; exact SeqAt.EqAt.int_str a t' b t
    | _ => exact absurd (show false = true from fx) Bool.false_ne_true
  | str a =>
    obtain ⟨t', rfl⟩ := ry
    cases x with
    | non => cases rx; exact SeqAt.EqAt.str_none a t'
    | bl b => cases rx; exact SeqAt.EqAt.str_bool a t' b
    | int b => obtain ⟨t, rfl⟩ := rx; exact SeqAt.EqAt.str_int a t' b t
    | str b => obtain ⟨t, rfl⟩ := rx; exact SeqAt.EqAt.str_str a t' b t
    | _ => exact absurd (show false = true from fx) Bool.false_ne_true
  | _ => exact absurd (show false = true from fy) Bool.false_ne_true
/-- the items' answers, read off the values (a value's own answer does not lean on its token) -/
def eqU (x : V) (u : Value) : Bool := match u with
  | .none => eqV .non x
  | .bool b => eqV (.bl b) x
  | .int i _ => eqV (.int i) x
  | .str z _ => eqV (.str z) x
  | _ => false
theorem eqU_of {x y : V} {u : Value} (r : RelV y u) (f : flatV y = true) : eqU x u = eqV y x := by
  cases y with
  | non => cases r; rfl
  | bl b => cases r; rfl
  | int i => obtain ⟨t, rfl⟩ := r; rfl
  | str z => obtain ⟨t, rfl⟩ := r; rfl
  | _ => exact absurd (show false = true from f) Bool.false_ne_true
theorem any_eqU {x : V} : ∀ {xs : List V} {us : List Value}, Vals xs us → xs.all flatV = true → us.any (eqU x) = xs.any fun y => eqV y x
  | _, _, .nil, _ => rfl
  | y :: xs, u :: us, .cons r t, f => by
    rw [List.all_cons, Bool.and_eq_true] at f
    rw [List.any_cons, List.any_cons, eqU_of r f.1, any_eqU t f.2]
theorem mem_eqAt {A : Around} {s : Shared} {x : V} {v : Value} (rx : RelV x v) (fx : flatV x = true) : ∀ {xs : List V} {us : List Value}, Vals xs us → xs.all flatV = true → ∀ u ∈ us, SeqAt.EqAt A s u v (eqU x u)
  | _, _, .nil, _ => fun u hu => by cases hu
  | y :: xs, u :: us, .cons r t, f => fun u' hu => by
    rw [List.all_cons, Bool.and_eq_true] at f
    rcases List.mem_cons.mp hu with rfl | hu
    · rw [eqU_of r f.1]; exact eqAt_V r rx f.1 fx
    · exact mem_eqAt rx fx t f.2 u' hu
def inV (x : V) (xs : List V) : Bool := xs.any fun y => eqV y x
/-- x in a list or tuple of flat items -/
def rIn (K : PySem.W.Frag) (neg : Bool) : R2 := fun x y H Q => ∃ p xs, y = .ref p ∧ (SqL K H p xs ∨ SqT K H p xs) ∧ flatV x = true ∧ xs.all flatV = true ∧ Q (.bl (if neg then !inV x xs else inV x xs)) H
theorem op_in_seq : OpR X (compareOp .In) (rIn X.K false) := by
  intro pins s σ H x y v u Q I rx ry h
  obtain ⟨p, xs, rfl, hq, fx, fs, q⟩ := h
  cases ry
  rcases hq with hq | hq
  · obtain ⟨its, r, pl, hz⟩ := I.list hq
    refine SeqAt.in_listAt (eqU x) pl.isList (fun w hw => mem_eqAt rx fx r fs w (by simpa using hw)) ⟨.bl _, H, I, rfl, ?_⟩
    rw [show its.toArray.any (eqU x) = its.any (eqU x) by simp, any_eqU r fs]
    exact q
  · obtain ⟨its, r, pl, hz⟩ := I.tuple hq
    refine SeqAt.in_tupleAt (eqU x) pl (fun w hw => mem_eqAt rx fx r fs w (by simpa using hw)) ⟨.bl _, H, I, rfl, ?_⟩
    rw [show its.toArray.any (eqU x) = its.any (eqU x) by simp, any_eqU r fs]
    exact q
theorem op_notIn_seq : OpR X (compareOp .NotIn) (rIn X.K true) := by
  intro pins s σ H x y v u Q I rx ry h
  obtain ⟨p, xs, rfl, hq, fx, fs, q⟩ := h
  cases ry
  rcases hq with hq | hq
  · obtain ⟨its, r, pl, hz⟩ := I.list hq
    refine SeqAt.notIn_listAt (eqU x) pl.isList (fun w hw => mem_eqAt rx fx r fs w (by simpa using hw)) ⟨.bl _, H, I, rfl, ?_⟩
    rw [show its.toArray.any (eqU x) = its.any (eqU x) by simp, any_eqU r fs]
    exact q
  · obtain ⟨its, r, pl, hz⟩ := I.tuple hq
    refine SeqAt.notIn_tupleAt (eqU x) pl (fun w hw => mem_eqAt rx fx r fs w (by simpa using hw)) ⟨.bl _, H, I, rfl, ?_⟩
    rw [show its.toArray.any (eqU x) = its.any (eqU x) by simp, any_eqU r fs]
    exact q
/-! ### len, list(x), tuple(x) of any list or tuple that is read -/
theorem call_len_seq : CallR X (.builtin "len") (fun xs H Q => ∃ p ys, xs = [.ref p] ∧ (SqL X.K H p ys ∨ SqT X.K H p ys) ∧ Q (.int ys.length) H) := by
  intro pins s σ H xs us Q I r h
  obtain ⟨p, ys, rfl, hq, q⟩ := h
  obtain ⟨u, rfl, rx⟩ := vals1 r
  cases rx
  have hn := line63
  rcases hq with hq | hq
  · obtain ⟨its, r', pl, hz⟩ := I.list hq
    have hlen := r'.length
    exact Calls.call_len_list pl.isList (by simp only [List.size_toArray] <;> omega) ⟨.int ys.length, H, I.tok _, ⟨s.toks + 1, by rw [List.size_toArray, hlen]⟩, q⟩
  · obtain ⟨its, r', pl, hz⟩ := I.tuple hq
    have hlen := r'.length
    exact len_tuple pl (by simp only [List.size_toArray] <;> omega) ⟨.int ys.length, H, I.tok _, ⟨s.toks + 1, by rw [List.size_toArray, hlen]⟩, q⟩
theorem call_len_str : CallR X (.builtin "len") (fun xs H Q => ∃ z, xs = [.str z] ∧ z.length ≤ sizeLine ∧ Q (.int z.length) H) := by
  intro pins s σ H xs us Q I r h
  obtain ⟨z, rfl, hz, q⟩ := h
  obtain ⟨u, rfl, t, rfl⟩ := vals1 r
  have hn := line63
  exact len_str (by omega) ⟨.int z.length, H, I.tok _, ⟨_, rfl⟩, q⟩
theorem CallR.or {f : Value} {r r' : List V → Hp → VK → Prop} (h : CallR X f r) (h' : CallR X f r') : CallR X f (fun xs H Q => r xs H Q ∨ r' xs H Q) := by
  intro pins s σ H xs us Q I rs q
  rcases q with q | q
  · exact h pins s σ H xs us Q I rs q
  · exact h' pins s σ H xs us Q I rs q
theorem call_list_of : CallR X (.type "list") (fun xs H Q => ∃ p ys, xs = [.ref p] ∧ (SqL X.K H p ys ∨ SqT X.K H p ys) ∧ ∀ l, H l = none → Q (.ref l) (upd H l (.lst ys))) := by
  intro pins s σ H xs us Q I r h
  obtain ⟨p, ys, rfl, hq, q⟩ := h
  obtain ⟨u, rfl, rx⟩ := vals1 r
  cases rx
  have fin : ∀ (its : List Value), Vals ys its → ys.length ≤ sizeLine → ∀ (h' : Heap) (c' : Nat), (∀ b o', s.heap.get? b = some o' → h'.get? b = some o') →
      h'.get? s.heap.objs.size = some { cls := .type "list", dict := none, data := .seq its.toArray c', slots := #[] } → EP X pins σ Q (.ref s.heap.objs.size) { s with heap := h' } := fun its r' hz h' c' kp e =>
    ⟨.ref s.heap.objs.size, _, I.laid (t' := s.toks) kp (Nat.le_refl _) (show ObjOk X.prog X.w _ h' _ (.lst ys) from ⟨hz, its, c', r', e⟩), rfl, q _ (I.hok.fresh (Nat.le_refl _))⟩
  rcases hq with hq | hq
  · obtain ⟨its, r', pl, hz⟩ := I.list hq
    have hlen := r'.length
    obtain ⟨o, ho, hc, n, hd⟩ := pl.isList
    exact call_list_seq p (.inl rfl) ho hc hd (fun h' c' kp e => fin its r' hz h' c' kp e) (by simp only [List.size_toArray] <;> omega)
  · obtain ⟨its, r', pl, hz⟩ := I.tuple hq
    have hlen := r'.length
    obtain ⟨o, ho, hc, n, hd⟩ := pl
    exact call_list_seq p (.inr rfl) ho hc hd (fun h' c' kp e => fin its r' hz h' c' kp e) (by simp only [List.size_toArray] <;> omega)
theorem call_tuple_of : CallR X (.type "tuple") (fun xs H Q => ∃ p ys, xs = [.ref p] ∧ ((SqL X.K H p ys ∧ ∀ l, H l = none → Q (.ref l) (upd H l (.tup ys))) ∨ (SqT X.K H p ys ∧ Q (.ref p) H))) := by
  intro pins s σ H xs us Q I r h
  obtain ⟨p, ys, rfl, h⟩ := h
  obtain ⟨u, rfl, rx⟩ := vals1 r
  cases rx
  rcases h with ⟨hq, q⟩ | ⟨hq, q⟩
  · obtain ⟨its, r', pl, hz⟩ := I.list hq
    have hlen := r'.length
    refine call_tuple_list pl.isList (fun h' kp => ?_) (by simp only [List.size_toArray] <;> omega)
    have I1 : Inv X pins σ H { s with heap := h' } := I.kept (t' := s.toks) kp
    have I2 : Inv X pins σ (upd H h'.objs.size (.tup ys)) { s with heap := h'.push { cls := .type "tuple", data := .seq its.toArray } } :=
      I1.laid (t' := s.toks) (fun b o e => Heap.get?_push_of_some _ e) (Nat.le_refl _) (show ObjOk X.prog X.w _ _ _ (.tup ys) from ⟨hz, its, r', IsTup.new _ _⟩)
    exact ⟨.ref h'.objs.size, _, I2, rfl, q _ (I1.hok.fresh (Nat.le_refl _))⟩
  · obtain ⟨its, r', pl, hz⟩ := I.tuple hq
    exact call_tuple_same pl ⟨.ref p, H, I, rfl, q⟩
/-! ### the call of a builtin's method: o.m(..) -/
/-- the value is of that builtin type -/
def tyV (K : PySem.W.Frag) (T : String) (x : V) (H : Hp) : Prop := match x with
  | .str _ => T = "str"
  | .int _ => T = "int"
  | .ref p => (T = "list" ∧ ∃ xs, SqL K H p xs) ∨ (T = "tuple" ∧ ∃ o, K.lookup p = some o ∧ o.cls = .type "tuple" ∧ o.dict = none) ∨
      (T = "dict" ∧ ((∃ kvs, H p = some (.dK kvs)) ∨ ∃ kvs, H p = some (.dT kvs))) ∨ (T = "set" ∧ ∃ S n, H p = some (.set S n))
  | _ => False
theorem tyV_is {pins : List (Addr × Obj)} {σ : St} {H : Hp} {s : Shared} {T : String} {x : V} {v : Value} (I : Inv X pins σ H s) (r : RelV x v) (ty : tyV X.K T x H) :
    s.TypeIs v T ∧ ∀ a, v = .ref a → ∃ ob, s.heap.get? a = some ob ∧ ob.dict = none := by
  cases x with
  | str z =>
    obtain ⟨t, rfl⟩ := r
    cases (show T = "str" from ty)
    exact ⟨typeIs_str s z t, fun _ e => nomatch e⟩
  | int i =>
    obtain ⟨t, rfl⟩ := r
    cases (show T = "int" from ty)
    exact ⟨typeIs_int s i t, fun _ e => nomatch e⟩
  | ref p =>
    cases r
    rcases ty with ⟨rfl, xs, hq⟩ | ⟨rfl, o, hk, hc, hd⟩ | ⟨rfl, hk⟩ | ⟨rfl, S, n, hk⟩
    · obtain ⟨its, _, pl, _⟩ := I.list hq
      refine ⟨pl.isList.typeIs, fun a e => ?_⟩
      cases e
      obtain ⟨o, n, e, c, hd, _⟩ := pl
      exact ⟨o, e, hd⟩
    · refine ⟨⟨o, I.kIn p o hk, hc⟩, fun a e => ?_⟩
      cases e
      exact ⟨o, I.kIn _ o hk, hd⟩
    · have z : ∃ o, s.heap.get? p = some o ∧ o.ExactDict := by
        rcases hk with ⟨kvs, hk⟩ | ⟨kvs, hk⟩
        · obtain ⟨_, _, _, _, o, _, _, e, ex, _⟩ := I.hok p _ hk
          exact ⟨o, e, ex⟩
        · obtain ⟨_, _, _, _, o, _, _, e, ex, _⟩ := I.hok p _ hk
          exact ⟨o, e, ex⟩
      obtain ⟨o, e, ex⟩ := z
      refine ⟨⟨o, e, ex.1⟩, fun a e2 => ?_⟩
      cases e2
      exact ⟨o, e, ex.2.1⟩
    · obtain ⟨o, _, _, _, e, ex, _⟩ := I.hok p _ hk
      refine ⟨⟨o, e, ex.1⟩, fun a e2 => ?_⟩
      cases e2
      exact ⟨o, e, ex.2.1⟩
  | _ => exact False.elim ty
def tBM (K : PySem.W.Frag) (T : String) (r : V → List V → Hp → VK → Prop) (to : TE) (t : TA) : TE := fun σ H Q => to σ H fun x H1 => tyV K T x H1 ∧ t σ H1 fun xs H2 => r x xs H2 Q
variable {o e : Expr} {es : List Expr} {to : TE} {t : TA} {name : Str} {apos cpos : Pos} {T id : String} {r : V → List V → Hp → VK → Prop}
theorem pe_bm (pa : PlainAttrs T) (slot : Slot T name id) (hty : typeOf (.builtin id) = pure (.type "method_descriptor")) (hm : MtR X id r) (ho : PE X o to) (ha : PA X (e :: es) t)
    (hbase : attributeBase o name X.env (eval o X.env) = eval o X.env := by rfl)
    (hfew : ((backTo cpos (starEach (e :: es) X.env)).all (fun x => !x.1) && (backToKw cpos (keywordEach [] X.env)).all (fun x => x.1.isSome)
      && decide ((e :: es).length + ([] : List Keyword).length + (if ([] : List Keyword).isEmpty then 0 else 1) < 30)) = true := by rfl)
    (hline : (apos.endLine == cpos.line) = true := by rfl) (hs : starEach (e :: es) X.env = (false, eval e X.env) :: starEach es X.env := by rfl) (hplain : (backTo cpos (starEach es X.env)).any (·.1) = false := by rfl) :
    PE X (.Call (.Attribute o name apos) (e :: es) [] cpos) (tBM X.K T r to t) := by
  intro pins s σ H Q I h
  refine wpAny_Call_method_late hbase hfew hline rfl (thn (ho pins s σ H _ I h) fun v s1 ⟨x, H1, I1, r1, ty, q1⟩ => ?_)
  obtain ⟨h1, h2⟩ := tyV_is I1 r1 ty
  refine ⟨T, id, pa, slot, hty, h1, h2, ?_⟩
  have hA := ha cpos pins s1 σ H1 _ I1 q1
  rw [hs] at hA ⊢
  refine Calls.callWith_builtin (by show (false || (backTo cpos (starEach es X.env)).any (·.1)) = false; rw [hplain] <;> rfl) (Calls.evalArgs_plain ?_)
  exact thn hA fun us s2 ⟨vs, H2, I2, r2, q2⟩ => hm pins s2 σ H2 x vs v us Q I2 r1 r2 q2
/- xs.append(e), list.index on a module's tuple .. are MtR facts of 06m -/
end
end L2
namespace L2
open PySem PySem.Spec PyProof.Rows
def MtM (X : Cx) (id : String) (r : V → List V → Hp → VK → Prop) : Prop :=
  ∀ (pins : List (Addr × Obj)) (s : Shared) (σ : St) (H : Hp) (x : V) (xs : List V) (v : Value) (us : List Value) (Q : VK), Inv X pins σ H s → RelV x v → Vals xs us → r x xs H Q →
    wpAny (model X.prog X.w) X.A (call (.builtin id) (v :: us)) (EP X pins σ Q) X.xe s
/-! ### lists of values -/
theorem Vals.one : ∀ {x : V} {us : List Value}, Vals [x] us → ∃ u, us = [u] ∧ RelV x u
  | _, _, .cons r .nil => ⟨_, rfl, r⟩
theorem Vals.two : ∀ {x y : V} {us : List Value}, Vals [x, y] us → ∃ u v, us = [u, v] ∧ RelV x u ∧ RelV y v
  | _, _, _, .cons r (.cons q .nil) => ⟨_, _, rfl, r, q⟩
theorem Vals.zero : ∀ {us : List Value}, Vals [] us → us = []
  | _, .nil => rfl
theorem Vals.dropLast {xs : List V} {us : List Value} (h : Vals xs us) : Vals xs.dropLast us.dropLast := by
  induction h with
  | nil => exact .nil
  | cons r t ih =>
    cases t with
    | nil => exact .nil
    | cons q t' => exact .cons r ih
theorem Vals.reverse {xs : List V} {us : List Value} (h : Vals xs us) : Vals xs.reverse us.reverse := by
  induction h with
  | nil => exact .nil
  | cons r t ih => rw [List.reverse_cons, List.reverse_cons]; exact Vals.append ih (.cons r .nil)
theorem Vals.rep {xs : List V} {us : List Value} (h : Vals xs us) : ∀ k : Nat, Vals (List.replicate k xs).flatten (List.replicate k us).flatten
  | 0 => .nil
  | k + 1 => by
    rw [List.replicate_succ, List.replicate_succ, List.flatten_cons, List.flatten_cons]
    exact Vals.append h (Vals.rep h k)
theorem foldl_rep (its : List Value) : ∀ (k : Nat) (acc : List Value),
    List.foldl (fun x1 x2 => x1 ++ x2) acc.toArray (List.replicate k its.toArray) = (acc ++ (List.replicate k its).flatten).toArray
  | 0, acc => by simp
  | k + 1, acc => by
    have e : acc.toArray ++ its.toArray = (acc ++ its).toArray := by simp
    have e2 : (acc ++ its) ++ (List.replicate k its).flatten = acc ++ (List.replicate (k + 1) its).flatten := by
      rw [List.replicate_succ, List.flatten_cons, List.append_assoc]
    rw [← e2, ← foldl_rep its k (acc ++ its), ← e, List.replicate_succ, List.foldl_cons]
section
variable {X : Cx} {pins : List (Addr × Obj)} {σ : St} {H : Hp} {s : Shared} {l b : Addr} {xs ys zs : List V}
/-! ### the two steps: a tracked list is rewritten, a new list is laid -/
theorem Inv.lset {its its' : List Value} {n : Nat} {f : Array Value → Array Value} {t' : Nat} (I : Inv X pins σ H s) (hH : H l = some (.lst xs))
    (e : s.heap.get? l = some { cls := .type "list", data := .seq its.toArray n }) (hf : f its.toArray = its'.toArray) (hv : Vals ys its') (hz : ys.length ≤ sizeLine) :
    Inv X pins σ (upd H l (.lst ys)) { s with heap := s.heap.update l (Obj.mapSeq f), toks := t' } := by
  have q := PySem.IsL.update e f
  rw [hf] at q
  refine I.write (x := l) (e := l) (by rw [hH]; exact trivial) (.inl rfl) (fun b' u hb hu => (Heap.get?_update_other s.heap (Obj.mapSeq f) (Ne.symm hb)).trans hu) ⟨_, q⟩ ?_
  exact ⟨hz, its', _, hv, q⟩
theorem Inv.lnew {its : List Value} {t' : Nat} (I : Inv X pins σ H s) (hv : Vals ys its) (hz : ys.length ≤ sizeLine) :
    Inv X pins σ (upd H s.heap.objs.size (.lst ys)) { s with heap := s.heap.push { cls := .type "list", data := .seq its.toArray }, toks := t' } :=
  I.laid (fun _ _ q => Heap.get?_push_of_some _ q) (Nat.le_refl _) ⟨hz, its, 0, hv, Heap.get?_push_size _ rfl⟩
theorem Inv.fresh (I : Inv X pins σ H s) : H s.heap.objs.size = none := I.hok.fresh (Nat.le_refl _)
theorem Inv.lstM (I : Inv X pins σ H s) (hH : H l = some (.lst xs)) : xs.length ≤ sizeLine ∧ ∃ (its : List Value) (n : Nat), Vals xs its ∧ xs.length = its.length ∧ s.heap.get? l = some { cls := .type "list", data := .seq its.toArray n } := by
  obtain ⟨z, its, n, r, e⟩ := I.hok l _ hH
  exact ⟨z, its, n, r, r.length, e⟩
theorem notLongL {n : Nat} (h : n ≤ sizeLine) : Builtin.List.listTooLong n = false := by
  unfold Builtin.List.listTooLong
  exact decide_eq_false (by omega)
end
section
variable {X : Cx}
/-! ### methods -/
def rAppend : V → List V → Hp → VK → Prop := fun x vs H Q => ∃ l xs y, x = .ref l ∧ vs = [y] ∧ H l = some (.lst xs) ∧ xs.length < sizeLine ∧ Q .non (upd H l (.lst (xs ++ [y])))
theorem mt_append : MtM X "list.append" rAppend := by
  intro pins s σ H x vs v us Q I rx rv h
  obtain ⟨l, xs, y, rfl, rfl, hH, hz, q⟩ := h
  cases rx
  obtain ⟨u, rfl, ru⟩ := rv.one
  obtain ⟨z, its, n, r, hl, e⟩ := I.lstM hH
  refine call_meets F.slot_list_append ⟨_, e, rfl⟩ F.entry_list_append (F.args_list_append_2 _ _) (PySem.list_append l its.toArray n u (by rw [List.size_toArray]; omega)) ⟨e, ?_⟩
  refine ⟨.non, _, I.lset (its' := its ++ [u]) hH e (by simp) (r.append (.cons ru .nil)) ?_, rfl, q⟩
  rw [List.length_append, List.length_singleton]
  omega
def rExtend : V → List V → Hp → VK → Prop := fun x vs H Q => ∃ l b xs zs, x = .ref l ∧ vs = [.ref b] ∧ H l = some (.lst xs) ∧ H b = some (.lst zs) ∧ xs.length + zs.length ≤ sizeLine ∧ Q .non (upd H l (.lst (xs ++ zs)))
theorem mt_extend : MtM X "list.extend" rExtend := by
  intro pins s σ H x vs v us Q I rx rv h
  obtain ⟨l, b, xs, zs, rfl, rfl, hH, hB, hz, q⟩ := h
  cases rx
  obtain ⟨u, rfl, ru⟩ := rv.one
  cases ru
  obtain ⟨z, its, n, r, hl, e⟩ := I.lstM hH
  obtain ⟨z2, its2, n2, r2, hl2, e2⟩ := I.lstM hB
  have hsz : its.toArray.size + its2.toArray.size ≤ sizeLine := by rw [List.size_toArray, List.size_toArray]; omega
  have hlong : ¬ (!its.toArray.isEmpty && Builtin.List.listTooLong (its.toArray.size + its2.toArray.size)) = true := by
    rw [notLongL hsz, Bool.and_false]
    exact Bool.false_ne_true
  refine call_meets F.slot_list_extend ⟨_, e, rfl⟩ F.entry_list_extend (F.args_list_extend_2 _ _)
    (AutoSeq1.list_extend_list_list_0 l its.toArray n b its2.toArray n2 hlong (by rw [List.size_toArray]; omega) (by omega)) ⟨e, e2, ?_⟩
  refine ⟨.non, _, I.lset (its' := its ++ its2) hH e (by simp) (r.append r2) ?_, rfl, q⟩
  rw [List.length_append]
  omega
/-! ### list + list, list += list, list * int -/
def rCat : R2 := fun x y H Q => ∃ l b xs zs, x = .ref l ∧ y = .ref b ∧ H l = some (.lst xs) ∧ H b = some (.lst zs) ∧ xs.length + zs.length ≤ sizeLine ∧ ∀ p, H p = none → Q (.ref p) (upd H p (.lst (xs ++ zs)))
theorem op_cat : OpR X (binaryOp .Add) rCat := by
  intro pins s σ H x y v u Q I rx ry h
  obtain ⟨l, b, xs, zs, rfl, rfl, hH, hB, hz, q⟩ := h
  cases rx
  cases ry
  obtain ⟨z, its, n, r, hl, e⟩ := I.lstM hH
  obtain ⟨z2, its2, n2, r2, hl2, e2⟩ := I.lstM hB
  refine PySem.P.add_list e e2 ?_ (by rw [List.size_toArray, List.size_toArray]; omega)
  have ea : its.toArray ++ its2.toArray = (its ++ its2).toArray := by simp
  rw [ea]
  exact ⟨.ref _, _, I.lnew (t' := s.toks) (r.append r2) (by rw [List.length_append]; omega), rfl, q _ I.fresh⟩
/-- a list times an int (a negative one is nothing) -/
def rRep : R2 := fun x y H Q => ∃ l k xs, x = .ref l ∧ y = .int k ∧ H l = some (.lst xs) ∧ -(2 ^ 63) ≤ k ∧ k < 2 ^ 63 ∧ xs.length * k.toNat ≤ sizeLine ∧
  ∀ p, H p = none → Q (.ref p) (upd H p (.lst (List.replicate k.toNat xs).flatten))
theorem len_rep {α : Type} (xs : List α) (k : Nat) : (List.replicate k xs).flatten.length = k * xs.length := by
  induction k with
  | zero => simp
  | succ k ih => rw [List.replicate_succ, List.flatten_cons, List.length_append, ih, Nat.succ_mul, Nat.add_comm]
theorem op_rep : OpR X (binaryOp .Mult) rRep := by
  intro pins s σ H x y v u Q I rx ry h
  obtain ⟨l, k, xs, rfl, rfl, hH, h1, h2, hz, q⟩ := h
  cases rx
  obtain ⟨t, rfl⟩ := ry
  obtain ⟨z, its, n, r, hl, e⟩ := I.lstM hH
  have hlen : its.toArray.size * k.toNat ≤ sizeLine := by rw [List.size_toArray, ← hl]; exact hz
  have hcap : ¬ its.toArray.size * k.toNat > (2 ^ 63 - 1) / 8 := by
    have : (sizeLine : Nat) ≤ (2 ^ 63 - 1) / 8 := by decide
    omega
  have hfit : ¬ (!Builtin.List.listFitsIndex k) = true := by
    rw [fitsIndex_both h1 h2]
    exact Bool.false_ne_true
  have hlong : ¬ Builtin.List.listTooLong (its.toArray.size * k.toNat) = true := by
    rw [notLongL hlen]
    exact Bool.false_ne_true
  have hnew : List.foldl (fun x1 x2 => x1 ++ x2) #[] (List.replicate (if its.toArray.isEmpty = true then 0 else k.toNat) its.toArray) = (List.replicate k.toNat its).flatten.toArray := by
    have f0 : ∀ m : Nat, List.foldl (fun x1 x2 => x1 ++ x2) #[] (List.replicate m its.toArray) = (List.replicate m its).flatten.toArray := fun m => by
      have := foldl_rep its m []
      rw [List.nil_append] at this
      exact this
    rw [f0]
    cases its with
    | nil => simp
    | cons a r' => rw [if_neg (by simp)]
  refine wpAny_binaryOp_repeat_ref (T := "list") (U := "int") (by decide) ⟨_, e, rfl⟩ (fun s' => typeIs_int s' k t) noFill_list_mul F.fills_int_mul F.slot_int_rmul repeat_list F.slot_int_index.lookup
    (call_meets F.slot_int_rmul (typeIs_int s k t) F.entry_int_rmul (F.args_int_rmul_2 _ _) (int___rmul___int_list k t l its.toArray n)
      ⟨e, rfl, ⟨_, e, rfl⟩, call_meets F.slot_list_mul ⟨_, e, rfl⟩ F.entry_list_mul (F.args_list_mul_2 _ _) (AutoListH.list___mul___list_int_3 l its.toArray n k t hfit hcap hlong) ⟨e, ?_⟩⟩)
  rw [hnew]
  exact ⟨.ref _, _, I.lnew (t' := s.toks) (r.rep k.toNat) (by rw [len_rep, Nat.mul_comm]; exact hz), rfl, q _ I.fresh⟩
/-! ### del xs[i] -/
end
/-! ### xs[a:b] = ys -/
section
variable {prog : Program} {w : World} {A : Around} {E : Value → Shared → Prop} {s : Shared}
end
section
variable {X : Cx}
end
end L2
namespace Att
open PySem PySem.W PySem.Calls PyProof.Rows
/-! ### the script -/
theorem ints_of_wellAll {P : Params} {h : Heap} : ∀ (ns : List Int) (vs : List Value), WellAll P h vs (ns.map WData.int) → IntsAre vs ns := by
  intro ns
  induction ns with
  | nil =>
    intro vs w
    rw [List.map_nil] at w
    cases w
    exact .nil
  | cons n ns ih =>
    intro vs w
    rw [List.map_cons] at w
    cases w with
    | cons a b =>
      cases a
      exact .cons _ _ (ih _ b)
theorem script_of {l : OpenLaw} {n : Nat} (hn : l.most = some n) {P : Params} {h : Heap} {args : List WData} {vals : List Value}
    (hpre : l.row.toRowW.claim.pre args = true) (hwl : WellAll P h vals args) :
    ∃ a vs ns, vals = [Value.ref a] ∧ args = [WData.list (ns.map WData.int)] ∧ h.get? a = some { cls := .type "list", data := .seq vs.toArray } ∧ IntsAre vs ns ∧ ns.length ≤ n := by
  have hsh : WShape.hasAll [] args [.list .int] = true := (pre_splitW hpre).1
  have hc : l.pre.holds [] { args := args } = true := (pre_splitW hpre).2
  obtain ⟨d, r, rfl, h1, h2⟩ := hasAllW_cons hsh
  obtain rfl := hasAllW_nil h2
  obtain ⟨xs, rfl, h3⟩ := hasW_list h1
  obtain ⟨ns, rfl⟩ := items_int h3
  have hlen : ns.length ≤ n := by
    unfold OpenLaw.pre at hc
    have h4 : (WTm.not (.lt (.lit (.int (n : Int))) (.len (.arg 0)))).holds [] { args := [.list (ns.map .int)] } = true := by
      have h4 := (holds_andW hc).1
      rw [hn] at h4
      exact h4
    have h5 := condW_of h4 (w_not (w_lt w_lit (w_len_list (w_arg rfl))))
    rw [List.length_map] at h5
    refine Nat.le_of_not_lt fun q => ?_
    have q' : (n : Int) < ((ns.length : Nat) : Int) := by omega
    first
      | (rw [decide_eq_true q'] at h5; exact absurd h5 (by decide))
      | (simp at h5; omega)
  cases hwl with
  | cons w1 w2 =>
    cases w2
    cases w1 with
    | list ho hall => exact ⟨_, _, ns, rfl, rfl, ho, ints_of_wellAll ns _ hall, hlen⟩
theorem post_true (l : OpenLaw) (args : List WData) : l.row.toRowW.claim.post args (.bool true) args = true :=
  postW_of (r := l.row.toRowW) (X := (true == true))
    (show WShape.has [] (.bool true) .bool = true by first | rfl | decide | simp [WShape.has, WShape.arms, WShape.armsAll])
    (show (WTm.eq .res (.lit (.bool true))).value [] { args := args, res := some (.bool true), after := args } = some (.bool (true == true)) from w_eq_bool (w_res rfl) w_lit) rfl
/-! ### the attachment: holds_open's last premise (the goal 'hc' behind k_head) from a wpAny of the law's body -/
/-- the same from a codeAny of the CALL (for a layer whose function contracts speak of calls) -/
theorem attach_call {l : OpenLaw} {n : Nat} {q : Program} {loose : List Str} {XP : (Str → Option Value) → Heap → Prop} {YP : World → Heap → Prop} {d : DefRec}
    (hn : l.most = some n) (hdf : d.params.defaults = [])
    (call : ∀ (w : World) (s₀ s₁ : Shared) (mg mb : Str → Option Value) (fa : Addr) (o : Obj) (pm cd doc : Value) (a : Addr) (vs : List Value) (ns : List Int),
      Ground q loose [] XP w s₀ mg mb s₁.heap → YP w s₁.heap →
      s₁.heap.get? fa = some o → o.data = .func (docDef d.name d.params d.body d.scope pm cd doc) → s₁.heap.CodeRec cd d.name → mg d.name = some (.ref fa) →
      s₁.heap.get? a = some { cls := .type "list", data := .seq vs.toArray } → IntsAre vs ns → ns.length ≤ n → s₁.gens = #[] →
      codeAny (model l.prog w) callerA (.call (.ref fa) ⟨[.ref a], []⟩) (fun r s' => r = .ok (.ret (.bool true)) ∧ OldK s₁.heap s'.heap ∧ s'.os = s₁.os ∧ AllBare s'.gens) s₁) :
    WalkO q loose XP YP l.row.toRowW d [] (fun f vs => PySem.call f vs) := by
  intro w s₀ s₁ mg mb G Y fa o pm cd doc dV kV ho hd hcd hD hmg hg args vals as hpre hlay hrd hwl hlo
  obtain rfl : dV = .none := Dflts.none hD hdf
  obtain rfl : kV = .none := Dflts.noKw hD
  obtain ⟨a, vs, ns, rfl, rfl, hobj, hints, hlen⟩ := script_of hn hpre hwl
  refine enter_call (codeAny_mono (call w s₀ s₁ mg mb fa o pm cd doc a vs ns G Y ho (fd_plain hd) hcd hmg hobj hints hlen hg) fun r s' hq => ?_)
  obtain ⟨rfl, h2, h3, h4⟩ := hq
  exact ⟨.inl ⟨.bool true, .bool true, [], rfl, fun _ => rfl, .bool true, post_true l _, fun _ => ⟨List.Pairwise.nil, fun _ hm => (nomatch hm)⟩⟩, h2, h3, h4⟩
/-! ### rules over ANY heap (no ledger) from facts about the written part K: the library's own take a ledger (News) for what they write -/
section
variable {prog : Program} {w : World} {A : Around} {E : Value → Shared → Prop} {s : Shared} {K : Frag}
/-! the whole heap as the ledger: makes every rule that writes through a ledger a rule over any heap -/
def ledger (h : Heap) (L d : Addr) : List (Addr × Obj) := (List.range h.objs.size).filterMap fun a => if a = L ∨ a = d then none else (h.get? a).map fun o => (a, o)
end
end Att
namespace L2
open PySem PySem.Spec PyProof.Rows
theorem vals_ints : ∀ {vs : List Value} {ns : List Int}, IntsAre vs ns → Vals (ns.map V.int) vs
  | _, _, .nil => .nil
  | _, _, .cons n t h => .cons ⟨t, rfl⟩ (vals_ints h)
/-- nothing is tracked but the script, known to the object (or it is an object of the module) -/
def Only (H : Hp) : Prop := ∀ b, H b = none ∨ ∃ o xs, H b = some (.frz o (.lst xs))
/-- THE HEAD: the law's promise, at the heap behind the top. F, the promise of the law's def, may use that base is part of the heap (so K.In base, base.Ns mainGlobals mg stand in Mod) -/
theorem law_call {P : Program} {w : World} {K : PySem.W.Frag} {mg mb : Str → Option Value} {CX : CXT} {k : Nat} {fa a : Addr} {fd : FuncData} {x : Str} {sp : Sp} {s₁ : Shared} {vs : List Value} {ns : List Int}
    (KX : K.In s₁.heap) (hns : s₁.heap.Ns mainGlobals mg) (hb : s₁.heap.Ns builtinsNs mb) (hbb : ∀ x : Str, x ≠ "__name__" → mb x = bootBuiltins x) (hlim : s₁.heap.NoLimit) (hg : s₁.gens = #[])
    (ha : s₁.heap.get? a = some { cls := .type "list", data := .seq vs.toArray }) (hi : IntsAre vs ns) (hl : ns.length ≤ sizeLine) (hr : Room k callerA)
    (F : ∀ base : Heap, K.In base → base.Ns mainGlobals mg → FnOk P w K mg base CX k fa fd [x] sp) (hbind : ∀ (s : Shared) (u : Value), BindsTo s fd ⟨[u], []⟩ [(x, u)])
    (hsp : ∀ H : Hp, Only H → SqL K H a (ns.map V.int) → sp [.ref a] H (fun v _ => v = .bl true) fun _ _ _ => False)
    (hCX : ∀ H e s', CX [] H s₁ (fun _ _ _ => False) e s' → False) :
    codeAny (model P w) callerA (.call (.ref fa) ⟨[.ref a], []⟩) (fun r s' => r = .ok (.ret (.bool true)) ∧ OldK s₁.heap s'.heap ∧ s'.os = s₁.os ∧ AllBare s'.gens) s₁ := by
  have rv := vals_ints hi
  have lenV := hi.length
  -- from an abstract heap in which nothing but the script may be tracked
  have core : ∀ H : Hp, Only H → SqL K H a (ns.map V.int) → HOk P w H s₁.heap → (∀ b, H b ≠ none → b = a) → (H a ≠ none → K.lookup a = none) →
      codeAny (model P w) callerA (.call (.ref fa) ⟨[.ref a], []⟩) (fun r s' => r = .ok (.ret (.bool true)) ∧ OldK s₁.heap s'.heap ∧ s'.os = s₁.os ∧ AllBare s'.gens) s₁ := by
    intro H hO hS hok hA hK
    have base_of : ∀ {b : Addr} {o : Obj}, s₁.heap.get? b = some o → H b = none → (hidT s₁.heap H).get? b = some o := fun e n => hidT_get e n
    have noA : ∀ {b : Addr} {o : Obj} {es : Array DictEntry} {ep : Nat}, s₁.heap.get? b = some o → o.data = .dict es ep → H b = none := fun {b o es ep} e d => by
      cases q : H b with
      | none => rfl
      | some u =>
        have e' : b = a := hA b (by rw [q]; simp)
        subst e'
        rw [ha] at e; cases e
        have d' : Data.seq vs.toArray _ = Data.dict es ep := d
        cases d'
    have nsK : ∀ {b : Addr} {m : Str → Option Value}, s₁.heap.Ns b m → (hidT s₁.heap H).Ns b m := fun {b m} ⟨o, es, ep, e, d, r⟩ => ⟨o, es, ep, base_of e (noA e d), d, r⟩
    have hKb : K.In (hidT s₁.heap H) := fun b o e => base_of (KX b o e) (by
      cases q : H b with
      | none => rfl
      | some u =>
        have e' : b = a := hA b (by rw [q]; simp)
        subst e'
        rw [hK (by rw [q]; simp)] at e; cases e)
    have hM : Mod K mg (hidT s₁.heap H) := ⟨hKb, nsK hns, ⟨mb, nsK hb, hbb⟩, let ⟨mc, h1, h2⟩ := hlim; ⟨mc, nsK h1, h2⟩⟩
    have e0 : Env0 P w K mg (hidT s₁.heap H) callerA [] s₁ H := ⟨rfl, hM, fun b o e => of_hidT e, Nat.le_of_eq (hidT_size _ _), trivial, fun b hb => absurd (show b ∈ ([] : List Addr) from hb) (by simp), hok, .of_eq hg⟩
    refine codeAny_mono ((F _ hKb (nsK hns)).run callerA [] s₁ H ⟨[.ref a], []⟩ [.ref a] [.ref a] _ _ hr e0 (hbind s₁ (.ref a)) (.cons rfl .nil) (hsp H hO hS)) fun r s' h => ?_
    cases r with
    | error e => exact (hCX H e s' h).elim
    | ok fl =>
      cases fl with
      | next => exact False.elim h
      | brk => exact False.elim h
      | cont => exact False.elim h
      | ret u =>
        obtain ⟨v, H', os, bare, un, hok', r', q⟩ := h
        have q' : v = .bl true := q
        subst q'
        obtain rfl : u = Value.bool true := r'
        refine ⟨rfl, OldK.of_keep fun b o e => ?_, os, bare⟩
        cases q : H b with
        | none => exact un.keep b o e q (by intro z; exact absurd (show b ∈ ([] : List Addr) from z) (by simp)) (by simp)
        | some u =>
          rcases hO b with z | ⟨ob, xs, z⟩
          · rw [q] at z; cases z
          · have z2 := un.frzs b ob _ z
            obtain ⟨e1, _⟩ := hok b _ z
            obtain ⟨e2, _⟩ := hok' b _ z2
            rw [e] at e1; cases e1
            exact e2
  cases hk : K.lookup a with
  | some o =>
    -- the script is one of the module's own objects
    have e := KX a o hk
    rw [ha] at e
    cases e
    refine core (fun _ => none) (fun _ => .inl rfl) (.inr ⟨_, vs.toArray, _, hk, rfl, rfl, rfl, by rw [List.size_toArray, lenV]; exact hl, by simpa using rv⟩) (fun b u z => by have z' : (none : Option HO) = some u := z; cases z') (fun b z => absurd rfl z) fun z => absurd rfl z
  | none =>
    refine core (fun b => if b = a then some (.frz { cls := .type "list", data := .seq vs.toArray } (.lst (ns.map V.int))) else none) (fun b => ?_) (.inl (.inr ⟨{ cls := .type "list", data := .seq vs.toArray }, if_pos rfl⟩)) (fun b u z => ?_) (fun b z => ?_) fun _ => hk
    · by_cases hb : b = a
      · exact .inr ⟨_, _, if_pos hb⟩
      · exact .inl (if_neg hb)
    · by_cases hb : b = a
      · have z' := (if_pos hb).symm.trans z
        cases z'
        subst hb
        exact ⟨ha, by rw [List.length_map]; exact hl, vs, _, rv, ha⟩
      · have z' := (if_neg hb).symm.trans z
        cases z'
    · by_cases hb : b = a
      · exact hb
      · exact absurd (if_neg hb) z
end L2
namespace L2
open PySem PySem.Spec PyProof.Rows
abbrev KOf {K : PySem.W.Frag} {h : Heap} (_ : K.In h) : PySem.W.Frag := K
/-- the goal that k_head leaves (case hc), from the law's promise. F gives the function object fd (K's own) once, then the promise over every base -/
theorem walk_of {l : PySem.W.OpenLaw} {n k : Nat} {q : Program} {loose : List Str} {XP : (Str → Option Value) → Heap → Prop} {YP : World → Heap → Prop} {d : DefRec} {K : Params → PySem.W.Frag} {CX : World → CXT} {sp : World → Sp} {x : Str}
    (hn : l.most = some n) (hn2 : n ≤ sizeLine) (hdf : d.params.defaults = []) (hr : Room k callerA)
    (hY : ∀ (w : World) (h : Heap), YP w h → (K w.params).In h)
    (F : ∀ (w : World) (mg : Str → Option Value) (fa : Addr) (h : Heap), (K w.params).In h → h.Ns mainGlobals mg → mg d.name = some (.ref fa) →
      ∃ fd : FuncData, (∀ (s : Shared) (u : Value), BindsTo s fd ⟨[u], []⟩ [(x, u)]) ∧
        ∀ base : Heap, (K w.params).In base → base.Ns mainGlobals mg → FnOk l.prog w (K w.params) mg base (CX w) k fa fd [x] (sp w))
    (hsp : ∀ (w : World) (H : Hp) (a : Addr) (ns : List Int), ns.length ≤ n → Only H → SqL (K w.params) H a (ns.map V.int) → sp w [.ref a] H (fun v _ => v = .bl true) fun _ _ _ => False)
    (hCX : ∀ (w : World) (H : Hp) (s : Shared) (e : Value) (s' : Shared), CX w [] H s (fun _ _ _ => False) e s' → False) :
    PySem.W.WalkO q loose XP YP l.row.toRowW d [] (fun f vs => PySem.call f vs) := by
  refine Att.attach_call hn hdf fun w s₀ s₁ mg mb fa o pm cd doc a vs ns G Y ho hd hcd hmg hobj hints hlen hg => ?_
  have KX := hY w _ Y
  obtain ⟨fd, hb, hF⟩ := F w mg fa _ KX G.T.g hmg
  exact law_call KX G.T.g G.T.b G.T.builtins G.T.nolimit hg hobj hints (Nat.le_trans hlen hn2) hr hF hb (fun H hO hS => hsp w H a ns hlen hO hS) fun H e s' => hCX w H s₁ e s'
end L2
/- THE LAST THEOREM (shape; LID, My.* are yours):
   My.Adr: a structure of the addresses that your layer names (classes, functions); My.Txt K t: a structure (Prop) of the equations over K;
   My.txt_mk : {K} {implicit addresses ..} (e1 : nsIn K mainGlobals "law" = some (some (.ref f))) (e2 : K.lookup f = some ⟨oc, od, .func (fnOf "law" "law" params body scope dV kV doc pm an cdv ct), sl⟩) (e3 : codeIn K cdv "law" = true) .. : ∃ t, My.Txt K t
set_option maxRecDepth 100000 in
set_option maxHeartbeats 0 in
theorem PySem.Challenge.cw_LID_holds : PySem.Challenge.rw_LID.Holds := by
  w_on; o_law; k_head; (case hw => w_witness2)
  k_fill
  refine L2.walk_of (l := PySem.Challenge.rw_LID) (n := 63) (k := 40) (x := "script") (CX := fun w => ..) (sp := fun _ => My.sp_law) rfl (by decide) rfl ⟨rfl, by decide, by decide⟩ (fun w h Y => PySem.W.kIn_of Y) ?F ?S ?C
  case F =>
    intro w mg fa h KX G hmg
    have T : ∃ t, My.Txt (L2.KOf KX) t := by
      dsimp only [L2.KOf]                          -- K must stand as «<heap const> w.params» for k_is
      refine' My.txt_mk ?e1 ?e2 ?e3 ..
      (case e1 => PySem.W.k_is)                    -- in the order: a name -> its address -> its object -> its parts
      (case e2 => PySem.W.k_is)
      ..
    obtain ⟨t, T⟩ := T
    have e0 := hmg.symm.trans (PySem.W.mg_of KX G T.law)
    cases e0                                       -- fa is the law's own address
    exact ⟨_, fun s u => .of_eq rfl, fun base kb nb => My.law_fn T kb nb⟩     -- if «.of_eq rfl» comes too early: refine' ⟨_, ?b, fun base kb nb => My.law_fn T kb nb⟩; exact fun s u => .of_eq rfl
  case S => exact fun w H a ns hl hO hS => ..
  case C => exact ..
(the tactic k_is has no namespace: write k_is) -/
/-! SHORT WORDS over the layer: a def of the text, its body, what a loop and a test want. -/
namespace L2
open PySem PySem.Spec PyProof.Rows
/-! ### the text by places -/
/-- the j-th statement of a class's body -/
def inClass (s : Stmt) (j : Nat) : Stmt := match s with
  | .ClassDef _ _ _ body _ _ _ _ _ _ _ => body.getD j (.Pass ⟨0, 0, 0, 0⟩)
  | _ => .Pass ⟨0, 0, 0, 0⟩
def defArgs (s : Stmt) : Arguments := match s with
  | .FunctionDef _ a _ _ _ _ _ _ _ _ => a
  | _ => { posonlyargs := [], args := [], vararg := none, kwonlyargs := [], kw_defaults := [], kwarg := none, defaults := [] }
def defBody (s : Stmt) : List Stmt := match s with
  | .FunctionDef _ _ b _ _ _ _ _ _ _ => b
  | _ => []
def defScope (s : Stmt) : Scope := match s with
  | .FunctionDef _ _ _ _ _ _ sc _ _ _ => sc
  | _ => { kind := .function, names := [], isGenerator := false, isCoroutine := false }
/-! ### no exception leaves a def -/
abbrev CX0 : CXT := fun _ _ _ _ _ _ => False
abbrev E0 : XK := fun _ _ _ => False
theorem pass0 {X : Cx} : Passes CX0 X E0 := fun _ _ _ _ _ _ _ h => h.elim
/-! ### a def (or method) of the text as it stands behind the top -/
structure Fun (K : PySem.W.Frag) (x qual : Str) (st : Stmt) (f : Addr) (fd : FuncData) : Prop where
  ex : ∃ (oc : Value) (od : Option Addr) (kV doc pm : Value) (an : Option Addr) (cdv ct : Value) (osl : Array (Option Value)),
    fd = PySem.W.fnOf x qual (defArgs st) (defBody st) (defScope st) .none kV doc pm an cdv ct ∧ K.lookup f = some ⟨oc, od, .func fd, osl⟩ ∧ PySem.W.codeIn K cdv qual = true
  kp : PySem.W.keepIn K (.ref f) = true
section
variable {P : Program} {w : World} {K : PySem.W.Frag} {mg : Str → Option Value} {base : Heap}
/-- THE RULE for a def: its body as a term of rules, and the reading of that term -/
theorem Fun.ok {x qual : Str} {st : Stmt} {f : Addr} {fd : FuncData} {N ps : List Str} {k : Nat} {sp : Sp} (F : Fun K x qual st f fd) (S : FnScope N ps (defScope st)) (len : ∀ vs H Q E, sp vs H Q E → vs.length = ps.length)
    (hbody : ∀ (cdv : Value) (A : Around) (outer : List Env) (s : Shared) (H : Hp) (vs : List V) (Q : VK) (E : XK), Room k (A.deeper (envOfC qual (defScope st) s.heap.objs.size f cdv)) → sp vs H Q E →
      ∃ t, PSs (cxOf CX0 P w K mg base N qual (defScope st) f cdv A outer s H E).nox (defBody st) t ∧ t { nx := fun _ H' => Q .non H', rt := Q } (start N vs) H) : FnOk P w K mg base CX0 (k + 1) f fd ps sp := by
  obtain ⟨oc, od, kV, doc, pm, an, cdv, ct, osl, rfl, lk, hcd⟩ := F.ex
  refine fn_of lk hcd S len fun A outer s H vs Q E hr hsp => ?_
  obtain ⟨t, h, q⟩ := hbody cdv A outer s H vs Q E hr hsp
  exact ⟨t, h.nox, q⟩
/-- how its arguments bind (no defaults): h is «fun _ _ _ _ _ _ us hl => match us, hl with | [_, _], _ => rfl», one _ a parameter -/
theorem Fun.binds {x qual : Str} {st : Stmt} {f : Addr} {fd : FuncData} {ps : List Str} (F : Fun K x qual st f fd)
    (h : ∀ (kV doc pm : Value) (an : Option Addr) (cdv ct : Value) (us : List Value), us.length = ps.length → bindArgs (PySem.W.fnOf x qual (defArgs st) (defBody st) (defScope st) .none kV doc pm an cdv ct) ⟨us, []⟩ = pure (ps.zip us)) : Binds K fd ps [] := by
  obtain ⟨oc, od, kV, doc, pm, an, cdv, ct, osl, rfl, lk, hcd⟩ := F.ex
  exact .all (h kV doc pm an cdv ct)
theorem fun_mk {x qual : Str} {st : Stmt} {f : Addr} {oc : Value} {od an : Option Addr} {osl : Array (Option Value)} {kV doc pm cdv ct : Value} (l : K.lookup f = some ⟨oc, od, .func (PySem.W.fnOf x qual (defArgs st) (defBody st) (defScope st) .none kV doc pm an cdv ct), osl⟩)
    (c : PySem.W.codeIn K cdv qual = true) (k : PySem.W.keepIn K (.ref f) = true) : Fun K x qual st f (PySem.W.fnOf x qual (defArgs st) (defBody st) (defScope st) .none kV doc pm an cdv ct) := ⟨⟨oc, od, kV, doc, pm, an, cdv, ct, osl, rfl, l, c⟩, k⟩
end
theorem hu_of {A : Around} {k : Nat} (hr : Room k A) : A.units + 1 < cLine := Nat.lt_of_le_of_lt (Nat.add_le_add_left (by decide : 1 ≤ 64) _) hr.units
/-! ### expressions in short: the name that stands in the i-th slot -/
section
variable {X : Cx}
theorem pv (i : Nat) {x : Str} {pos : Pos} (hN : X.N[i]? = some x := by rfl) (hv : Vis X.env.scope x := by first | exact Or.inl rfl | exact Or.inr (Or.inl rfl) | exact Or.inr (Or.inr rfl)) (hd : (x == ("__debug__" : Str)) = false := by decide)
    (hcd : (x == ("__classdict__" : Str)) = false := by decide) : PE X (.Name x pos) (tVar i) := pe_var hN hv hd hcd
end
/-! ### tests -/
theorem iteF {A B : Prop} (h : B) : if false = true then A else B := by
  rw [if_neg Bool.false_ne_true]
  exact h
theorem iteT {A B : Prop} (h : A) : if true = true then A else B := by
  rw [if_pos rfl]
  exact h
theorem ite2 {c A B : Prop} [Decidable c] (h1 : c → A) (h2 : ¬ c → B) : if c then A else B := by
  by_cases h : c
  · rw [if_pos h]
    exact h1 h
  · rw [if_neg h]
    exact h2 h
/-! ### heaps -/
/-- all that was tracked is as it was -/
def Same (H H' : Hp) : Prop := ∀ b o, H b = some o → H' b = some o
theorem Same.refl (H : Hp) : Same H H := fun _ _ h => h
theorem Same.trans {H H1 H2 : Hp} (a : Same H H1) (b : Same H1 H2) : Same H H2 := fun c o h => b c o (a c o h)
theorem Same.free {H H' : Hp} (e : Same H H') {l : Addr} (h : H' l = Option.none) : H l = Option.none := by
  cases q : H l with
  | none => rfl
  | some o =>
    rw [e l o q] at h
    cases h
theorem Same.seq {K : PySem.W.Frag} {H H' : Hp} {a : Addr} {xs : List V} (e : Same H H') (h : SqL K H a xs) : SqL K H' a xs := by
  rcases h with (h | ⟨o, h⟩) | h
  · exact .inl (.inl (e _ _ h))
  · exact .inl (.inr ⟨o, e _ _ h⟩)
  · exact .inr h
end L2
/-! MY OWN ADDITIONS to the hand layer: comprehensions, a text's signs, join, all, slices of texts. -/
namespace L2
open PySem PySem.Spec PyProof.Rows
/-! ### the cells that a block takes along -/
def captFrom (env : Env) : List (Str × NameKind) → List (Str × Addr) → List (Str × Addr)
  | [], cs => cs
  | (n, k) :: r, cs => if (k == NameKind.free) = true then captFrom env r ((n, (env.cells.lookup n).getD 0) :: cs) else captFrom env r cs
theorem captFrom_loop {env : Env} : ∀ (names : List (Str × NameKind)) (cs : List (Str × Addr)), (∀ y ∈ names, y.2 = .free → (env.cells.lookup y.1).isSome = true) →
    (forIn names cs (fun x (cs : List (Str × Addr)) => (match x with | (name, kind) => if (kind == NameKind.free) = true then (do let a ← cellOf env name; pure (ForInStep.yield ((name, a) :: cs))) else pure (ForInStep.yield cs) : Sem (ForInStep (List (Str × Addr))))) : Sem (List (Str × Addr))) = pure (captFrom env names cs)
  | [], cs, _ => rfl
  | (n, k) :: r, cs, h => by
    have hr : ∀ y ∈ r, y.2 = .free → (env.cells.lookup y.1).isSome = true := fun y hy => h y (List.mem_cons_of_mem _ hy)
    rw [List.forIn_cons]
    by_cases hk : (k == NameKind.free) = true
    · have e : k = .free := by simpa using hk
      have hs := h (n, k) List.mem_cons_self e
      obtain ⟨a, ha⟩ := Option.isSome_iff_exists.mp hs
      simp only [hk, if_true, captFrom, cellOf, ha, Option.getD_some, pure_bind]
      exact captFrom_loop r _ hr
    · simp only [hk, captFrom, pure_bind, Bool.false_eq_true, if_false]
      exact captFrom_loop r _ hr
theorem closure_is {env : Env} {scope : Scope} (h : ∀ y ∈ scope.names, y.2 = .free → (env.cells.lookup y.1).isSome = true) : closureFor scope env = pure (captFrom env scope.names []) := by
  have e := captFrom_loop (env := env) scope.names [] h
  unfold closureFor
  simp only [bind_pure_comp, map_pure] at e ⊢
  rw [← e]
  simp
theorem capt_sub {env : Env} : ∀ {names : List (Str × NameKind)} {cs : List (Str × Addr)} {y : Str} {c : Addr}, (∀ z ∈ names, z.2 = .free → (env.cells.lookup z.1).isSome = true) → (∀ y c, cs.lookup y = some c → env.cells.lookup y = some c) →
    (captFrom env names cs).lookup y = some c → env.cells.lookup y = some c
  | [], _, _, _, _, hc, h => hc _ _ h
  | (n, k) :: r, cs, y, c, hn, hc, h => by
    have hr : ∀ z ∈ r, z.2 = .free → (env.cells.lookup z.1).isSome = true := fun z hz => hn z (List.mem_cons_of_mem _ hz)
    unfold captFrom at h
    by_cases hk : (k == NameKind.free) = true
    · rw [if_pos hk] at h
      have e : k = .free := by simpa using hk
      obtain ⟨a, ha⟩ := Option.isSome_iff_exists.mp (hn (n, k) List.mem_cons_self e)
      refine capt_sub hr (fun z d q => ?_) h
      rw [List.lookup_cons] at q
      cases hz : z == n with
      | true =>
        have ez : z = n := by simpa using hz
        rw [hz] at q
        simp only [ha, Option.getD_some] at q
        have ha' : env.cells.lookup n = some a := ha
        rw [ez, ha']
        exact q
      | false =>
        rw [hz] at q
        exact hc z d q
    · rw [if_neg hk] at h
      exact capt_sub hr hc h
theorem capt_has {env : Env} : ∀ {names : List (Str × NameKind)} {cs : List (Str × Addr)} {y : Str}, ((y, NameKind.free) ∈ names ∨ (cs.lookup y).isSome = true) → ((captFrom env names cs).lookup y).isSome = true
  | [], _, _, h => by
    rcases h with h | h
    · cases h
    · exact h
  | (n, k) :: r, cs, y, h => by
    unfold captFrom
    have key : ∀ a : Addr, (cs.lookup y).isSome = true → (List.lookup y ((n, a) :: cs)).isSome = true := fun a q => by
      rw [List.lookup_cons]
      cases y == n with
      | true => rfl
      | false => exact q
    by_cases hk : (k == NameKind.free) = true
    · rw [if_pos hk]
      refine capt_has ?_
      rcases h with h | h
      · rcases List.mem_cons.mp h with e | h
        · cases e
          refine .inr ?_
          rw [List.lookup_cons]
          simp
        · exact .inl h
      · exact .inr (key _ h)
    · rw [if_neg hk]
      refine capt_has ?_
      rcases h with h | h
      · rcases List.mem_cons.mp h with e | h
        · cases e
          exact absurd (by simp) hk
        · exact .inl h
      · exact .inr h
/-! ### the context of a block -/
def cxComp (X : Cx) (scope : Scope) (cl : List (Str × Addr)) (N : List Str) (C : Addr) (s₀ : Shared) (H₀ : Hp) (ex : List Addr) : Cx where
  prog := X.prog
  w := X.w
  K := X.K
  mg := X.mg
  base := X.base
  A := X.A
  N := N
  s₀ := s₀
  H₀ := H₀
  env := compEnvC scope cl C X.env
  outer := X.stack
  stack := X.stack
  ex := ex
  fn := fun _ => false
  calm := X.calm
  pn := []
  xe := fun _ _ => False
def compN (X : Cx) (x : Str) (caps : List Nat) : List Str := x :: caps.map fun i => X.N.getD i (Str.ofString "")
def compS (σ : St) (o : Option V) (caps : List Nat) : St := o :: caps.map fun i => (σ[i]?).join
def compOk (outer scope : Scope) (x : Str) (N : List Str) : Bool :=
  decide (scope.kind = .function) && scope.names.all (fun y => decide (y.2 ≠ .cell)) && scope.names.all (fun y => decide (y.2 = .local → scope.names.lookup y.1 = some .local)) && decide (scope.names.lookup x = some .local) &&
    scope.names.all (fun y => decide (y.2 = .free → (outer.names.lookup y.1 = some .cell ∨ outer.names.lookup y.1 = some .free))) && N.tail.all (fun y => decide (scope.names.lookup y = some .free)) && decide N.Nodup
structure CompOk (outer scope : Scope) (x : Str) (N : List Str) : Prop where
  kind : scope.kind = .function
  nocell : ∀ y ∈ scope.names, y.2 ≠ .cell
  locs : ∀ y ∈ scope.names, y.2 = .local → scope.names.lookup y.1 = some .local
  tgt : scope.names.lookup x = some .local
  frees : ∀ y ∈ scope.names, y.2 = .free → (outer.names.lookup y.1 = some .cell ∨ outer.names.lookup y.1 = some .free)
  caps : ∀ y ∈ N.tail, scope.names.lookup y = some .free
  nd : N.Nodup
theorem compOk_is {outer scope : Scope} {x : Str} {N : List Str} (h : compOk outer scope x N = true) : CompOk outer scope x N := by
  unfold compOk at h
  simp only [Bool.and_eq_true, List.all_eq_true, decide_eq_true_eq] at h
  obtain ⟨⟨⟨⟨⟨⟨h1, h2⟩, h3⟩, h4⟩, h5⟩, h6⟩, h7⟩ := h
  exact ⟨h1, h2, h3, h4, h5, h6, h7⟩
/-- a name's kind in the block -/
theorem relabel_kind {scope : Scope} {env : Env} {y : Str} {k' : NameKind} (h : (relabel scope env).names.lookup y = some k') : ∃ k, scope.names.lookup y = some k ∧ (k' = k ∨ (k = .free ∧ k' = .cell)) := by
  have go : ∀ (names : List (Str × NameKind)), (names.map fun (n, k) => if (k == NameKind.free && env.scope.kind == .function && env.kindOf n == some .cell) then (n, NameKind.cell) else (n, k)).lookup y = some k' →
      ∃ k, names.lookup y = some k ∧ (k' = k ∨ (k = .free ∧ k' = .cell)) := by
    intro names
    induction names with
    | nil => intro h; simp at h
    | cons a r ih =>
      obtain ⟨n, k⟩ := a
      intro h
      rw [List.map_cons] at h
      by_cases hc : (k == NameKind.free && env.scope.kind == .function && env.kindOf n == some .cell) = true
      · simp only [hc, if_true, List.lookup_cons] at h
        rw [List.lookup_cons]
        cases hy : y == n with
        | true =>
          rw [hy] at h
          have hk : k = .free := by
            simp only [Bool.and_eq_true, beq_iff_eq] at hc
            exact hc.1.1
          exact ⟨k, rfl, .inr ⟨hk, (Option.some.inj h).symm⟩⟩
        | false =>
          rw [hy] at h
          exact ih h
      · simp only [hc, Bool.false_eq_true, if_false, List.lookup_cons] at h
        rw [List.lookup_cons]
        cases hy : y == n with
        | true =>
          rw [hy] at h
          exact ⟨k, rfl, .inl (Option.some.inj h).symm⟩
        | false =>
          rw [hy] at h
          exact ih h
  exact go scope.names h
theorem relabel_free {scope : Scope} {env : Env} {y : Str} (h : scope.names.lookup y = some .free) : (relabel scope env).names.lookup y = some .cell ∨ (relabel scope env).names.lookup y = some .free := by
  have go : ∀ (names : List (Str × NameKind)), names.lookup y = some .free → (names.map fun (n, k) => if (k == NameKind.free && env.scope.kind == .function && env.kindOf n == some .cell) then (n, NameKind.cell) else (n, k)).lookup y = some .cell ∨
      (names.map fun (n, k) => if (k == NameKind.free && env.scope.kind == .function && env.kindOf n == some .cell) then (n, NameKind.cell) else (n, k)).lookup y = some .free := by
    intro names
    induction names with
    | nil => intro h; simp at h
    | cons a r ih =>
      obtain ⟨n, k⟩ := a
      intro h
      rw [List.map_cons]
      rw [List.lookup_cons] at h
      by_cases hc : (k == NameKind.free && env.scope.kind == .function && env.kindOf n == some .cell) = true
      · simp only [hc, if_true, List.lookup_cons]
        cases hy : y == n with
        | true => exact .inl rfl
        | false =>
          rw [hy] at h
          exact ih h
      · simp only [hc, Bool.false_eq_true, if_false, List.lookup_cons]
        cases hy : y == n with
        | true =>
          rw [hy] at h
          have h' : k = .free := Option.some.inj h
          exact .inr (by rw [h'])
        | false =>
          rw [hy] at h
          exact ih h
  exact go scope.names h
/-! ### tests of a block -/
def PTs (X : Cx) (ifs : List Expr) (t : TT) : Prop :=
  ∀ (pins : List (Addr × Obj)) (s : Shared) (σ : St) (H : Hp) (Q : Bool → Hp → Prop), Inv X pins σ H s → t σ H Q →
    wpAny (model X.prog X.w) X.A (forIn ifs true fun c r => if r = true then do let ok ← isTrue c X.env (eval c X.env); pure (ForInStep.yield ok) else pure (ForInStep.yield r)) (TP X pins σ Q) X.xe s
def tAll : TT := fun _ H Q => Q true H
theorem pts_nil {X : Cx} : PTs X [] tAll := fun _ _ _ H _ I h => wpAny_tests_nil ⟨H, I, h⟩
theorem pts_one {X : Cx} {c : Expr} {t : TT} (h : PT X c t) : PTs X [c] t := fun pins s σ H Q I hq => wpAny_tests_one (h pins s σ H Q I hq)
/-- the loop of a block, any target -/
theorem compLoop_any {prog : Program} {w : World} {A : Around} {R : Result → Shared → Prop} {s : Shared} {elt target iter : Expr} {ifs : List Expr} {scope : Scope} {pos : Pos} {it acc : Value} {env : Env} (I : Nat → Shared → Prop)
    (turn : ∀ n s, I n s → wpAny (model prog w) A (pyNext it) (fun r s₁ => match r with
      | none => R (.ok .next) s₁
      | some v => wpAny (model prog w) A (letOwnedTupleGo target it v) (fun _ s₁' => wpAny (model prog w) A (assign target env v) (fun _ s₂ =>
          wpAny (model prog w) A (forIn ifs true fun c r => if r = true then do let ok ← isTrue c env (eval c env); pure (ForInStep.yield ok) else pure (ForInStep.yield r)) (fun ok s₃ =>
            if ok = true then wpAny (model prog w) A (eval elt env) (fun x s₄ =>
              wpAny (model prog w) A (call (.builtin "list.append") [acc, x]) (fun _ s₅ => ∃ m, m < n ∧ I m s₅) (fun _ _ => False) s₄) (fun _ _ => False) s₃
            else ∃ m, m < n ∧ I m s₃) (fun _ _ => False) s₂) (fun _ _ => False) s₁') (fun _ _ => False) s₁) (fun _ _ => False) s)
    (n : Nat) (h : I n s) : codeAny (model prog w) A (.compLoop (.ListComp elt [⟨target, iter, ifs, 0⟩] scope pos) 0 it acc env) R s := by
  refine codeAny_loop rfl I (fun n s hI => ?_) n h
  show wpAny _ A ((compTurn (.ListComp elt [⟨target, iter, ifs, 0⟩] scope pos) 0 it acc env).onRaise (fun x => do noteFrame x env; theTreesLotGoes x)) _ _ s
  refine wpAny_noted ?_
  rw [compTurn_list]
  refine wpAny_bind (wpAny_standAt (wpAny_bind (wpAny_mono (turn n s hI) (fun r s₁ h₁ => ?_) fun _ _ h' => h'.elim)))
  cases r with
  | none => exact wpAny_pure h₁
  | some v =>
    refine wpAny_bind (wpAny_mono h₁ (fun _ s₁' h₁' => ?_) fun _ _ h' => h'.elim)
    refine wpAny_bind (wpAny_mono h₁' (fun _ s₂ h₂ => wpAny_bind (wpAny_mono h₂ (fun ok s₃ h₃ => ?_) fun _ _ h' => h'.elim)) fun _ _ h' => h'.elim)
    cases ok with
    | false => exact wpAny_pure ⟨rfl, h₃⟩
    | true =>
      exact wpAny_bind (wpAny_bind (wpAny_mono h₃ (fun x s₄ h₄ => wpAny_bind (wpAny_mono h₄ (fun _ s₅ h₅ => wpAny_pure (wpAny_pure ⟨rfl, h₅⟩)) fun _ _ h' => h'.elim)) fun _ _ h' => h'.elim))
/-! ### what a comprehension asks -/
def CompW (tt : TT) (te : TE) (caps : List Nat) (σ : St) (Q : VK) (J : It) (H1 : Hp) (D : Addr) : Prop :=
  ∃ W : Nat → Nat → List V → Hp → Prop, (∃ m, W 0 m [] (upd H1 D (.lst []))) ∧ ∀ i m ys H, W i m ys H →
    H D = some (.lst ys) ∧ ys.length < sizeLine ∧
    ((J.stop i H ∧ Q (.ref D) H) ∨ (J.go i H ∧ ∃ N : List V → Hp → Prop, (∀ zs H', N zs H' → ∃ m', m' < m ∧ W (i + 1) m' zs H') ∧ ∀ x H', J.yld i H x H' → tt (compS σ (some x) caps) H' fun b H2 =>
      if b = true then te (compS σ (some x) caps) H2 fun y H3 => H3 D = some (.lst ys) ∧ N (ys ++ [y]) (upd H3 D (.lst (ys ++ [y])))
      else N ys H2))
def tComp (wi : TI) (tt : TT) (te : TE) (caps : List Nat) : TE := fun σ H Q => wi σ H fun J H1 => ∀ D, H1 D = none → CompW tt te caps σ Q J H1 D
section
variable {X : Cx}
/-- the block's invariant at its start -/
theorem comp_start {scope : Scope} {x : Str} {caps : List Nat} {pins : List (Addr × Obj)} {σ : St} {H : Hp} {s3 : Shared} {h1 : Heap} {fp : List Addr} {m : Str → Option Value} {tk : Nat} (ok : CompOk X.env.scope scope x (compN X x caps)) (I : Inv X pins σ H s3)
    (hf : ∀ b ∈ fp, FpOk X pins H b) (hlt : ∀ b ∈ fp, b < s3.heap.objs.size) (hn : h1.Ns s3.heap.objs.size m) (keep : ∀ b o, s3.heap.get? b = some o → h1.get? b = some o) :
    Inv (cxComp X scope (captFrom X.env scope.names []) (compN X x caps) s3.heap.objs.size s3 H fp) [] (compS σ none caps) H { s3 with heap := h1, toks := tk } := by
  have hsome : ∀ z ∈ scope.names, z.2 = .free → (X.env.cells.lookup z.1).isSome = true := fun z hz hfr => by
    obtain ⟨c, e⟩ := I.ok.has z.1 (by
      rcases ok.frees z hz hfr with q | q
      · exact .inl q
      · exact .inr q)
    rw [e]; rfl
  have sub : ∀ y c, (captFrom X.env scope.names []).lookup y = some c → X.env.cells.lookup y = some c := fun y c h => capt_sub hsome (fun _ _ q => by simp at q) h
  have hC : H s3.heap.objs.size = none := I.hok.fresh (Nat.le_refl _)
  have cne : ∀ y c, X.env.cells.lookup y = some c → c < s3.heap.objs.size := fun y c e => by
    obtain ⟨v, z⟩ := I.cell y c e
    exact z.lt
  refine ⟨⟨I.ok.mod, ?_, I.ok.glob, I.ok.blt, Nat.le_refl _, fun y z c e1 e2 => I.ok.inj y z c (sub _ _ e1) (sub _ _ e2), fun y hy => ?_, fun y c hfn _ => ?_, I.ok.hd, I.ok.frames, .inl rfl, fun b hb => ⟨Nat.ne_of_lt (hlt b hb), fun y c e => (hf b hb).2.2.2.2.1 y c (sub _ _ e)⟩,
      I.bs, Nat.le_trans I.ok.bsz I.sz, fun b o e hb => ?_, fun b hb hfs => ?_, I.stack, I.stkFree⟩,
    rfl, I.bare, Un.kept keep, ⟨m, hn, fun i y v e1 e2 e3 => ?_⟩, fun y c e => ?_, hC, fun y c e => I.freeC y c (sub _ _ e), fun p hp => absurd (show p ∈ ([] : List (Addr × Obj)) from hp) (by simp), I.hok.kept keep, by simp [cxComp, compN, compS]⟩
  · show (relabel scope X.env).kind = .function
    exact ok.kind
  · have hy' : (relabel scope X.env).names.lookup y = some .cell ∨ (relabel scope X.env).names.lookup y = some .free := hy
    have fr : scope.names.lookup y = some .free := by
      rcases hy' with q | q
      · obtain ⟨k, e, z⟩ := relabel_kind q
        rcases z with z | ⟨z, _⟩
        · exact absurd z.symm (ok.nocell _ (PySem.mem_of_lookup e))
        · rw [e, z]
      · obtain ⟨k, e, z⟩ := relabel_kind q
        rcases z with z | ⟨_, z⟩
        · rw [e, z]
        · cases z
    exact Option.isSome_iff_exists.mp (capt_has (.inl (PySem.mem_of_lookup fr)))
  · exact absurd (show (fun _ => false) y = true from hfn) (by simp)
  · rcases (hf b hb).2.2.2.1 with z | z
    · exact I.ok.noex b o e z
    · exact absurd (Nat.lt_of_lt_of_le (Heap.lt_size e) (Nat.le_trans I.ok.bsz z)) (Nat.lt_irrefl _)
  · rcases List.mem_cons.mp (I.stkSub b hfs) with z | z
    · exact (hf b hb).2.1 z
    · exact (hf b hb).2.2.1 z
  · have e1' : (compN X x caps)[i]? = some y := e1
    cases i with
    | zero => simp [compS] at e2
    | succ i =>
      simp only [compN, List.getElem?_cons_succ, List.getElem?_map] at e1'
      simp only [compS, List.getElem?_cons_succ, List.getElem?_map] at e2
      cases hj : caps[i]? with
      | none => rw [hj] at e2; cases e2
      | some j =>
        rw [hj] at e1' e2
        simp only [Option.map_some, Option.some.injEq] at e1' e2
        cases hσ : σ[j]? with
        | none => rw [hσ] at e2; cases e2
        | some o =>
          rw [hσ] at e2
          have e2' : o = some v := e2
          subst e2'
          have hjl : j < X.N.length := by rw [← I.len]; exact (List.getElem?_eq_some_iff.mp hσ).1
          have eN : X.N[j]? = some y := by
            rw [List.getElem?_eq_getElem hjl]
            rw [List.getD_eq_getElem?_getD, List.getElem?_eq_getElem hjl] at e1'
            exact congrArg some e1'
          have hy : scope.names.lookup y = some .free := ok.caps y (by
            show y ∈ caps.map fun i => X.N.getD i (Str.ofString "")
            exact List.mem_map.mpr ⟨j, List.mem_of_getElem? hj, e1'⟩)
          have hk := ok.frees (y, .free) (PySem.mem_of_lookup hy) rfl
          obtain ⟨m', _, hl⟩ := I.loc
          obtain ⟨u, r, q⟩ := hl j y v eN hσ (.inr hk)
          refine ⟨u, r, .inr ⟨relabel_free hy, ?_⟩⟩
          rcases q with ⟨k, _⟩ | ⟨_, c, e, z⟩
          · have k' : X.env.scope.names.lookup y = some .local := k
            rw [k'] at hk
            rcases hk with hk | hk <;> cases hk
          · obtain ⟨c', e'⟩ := Option.isSome_iff_exists.mp (capt_has (env := X.env) (cs := []) (.inl (PySem.mem_of_lookup hy)))
            have ec := sub _ _ e'
            rw [e] at ec
            cases ec
            obtain ⟨o, ho, hd⟩ := z
            exact ⟨c, e', o, keep c o ho, hd⟩
  · obtain ⟨v, o, ho, hd⟩ := I.cell y c (sub _ _ e)
    exact ⟨v, o, keep c o ho, hd⟩
theorem comp_core {x : Str} {px pos p : Pos} {iter elt : Expr} {ifs : List Expr} {scope : Scope} {wi : TI} {tt : TT} {te : TE} {caps : List Nat} {use : Option (Value → Sem Unit)} {QQ : Value → Shared → Prop}
    (hc : X.calm = true) (ho : compOk X.env.scope scope x (compN X x caps) = true) (hi : PI X (.Name x px) iter wi)
    (ht : ∀ cl C s₀ H₀ ex, PTs (cxComp X scope cl (compN X x caps) C s₀ H₀ ex) ifs tt) (he : ∀ cl C s₀ H₀ ex, PE (cxComp X scope cl (compN X x caps) C s₀ H₀ ex) elt te)
    (hs : ∀ x, foldedSetIterable iter X.env x = pure x) {pins : List (Addr × Obj)} {s : Shared} {σ : St} {H : Hp} {Q : VK} (I : Inv X pins σ H s) (h : tComp wi tt te caps σ H Q)
    (fin : ∀ (D C : Addr) (H' : Hp) (s' : Shared) (m : Str → Option Value), Inv X pins σ H' s' → Q (.ref D) H' → s'.heap.Ns C m → FpOk X pins H' C → compPost (model X.prog X.w) X.A X.xe use QQ (.ref D) C (.ok .next) s') :
    wpAny (model X.prog X.w) X.A (comprehension (.ListComp elt [⟨.Name x px, iter, ifs, 0⟩] scope pos) scope X.env p (newList []) false (eval iter X.env) use) QQ X.xe s := by
  have ok := compOk_is ho
  have hsome : ∀ z ∈ scope.names, z.2 = .free → (X.env.cells.lookup z.1).isSome = true := fun z hz hfr => by
    obtain ⟨c, e⟩ := I.ok.has z.1 (by
      rcases ok.frees z hz hfr with q | q
      · exact .inl q
      · exact .inr q)
    rw [e]; rfl
  refine wpAny_comprehension_free (cl := captFrom X.env scope.names []) (use := use) rfl hs (closure_is hsome) ok.kind ok.locs (thn (hi pins s σ H _ I h) fun v s1 h1 => thn h1 fun itv s2 h2 => ?_)
  obtain ⟨it, fp, tn, J, H2, e, I2, T, st2, f2, rd⟩ := h2
  subst e
  refine wpAny_newObj_type (wpAny_newFunctionEnv ok.nocell (by intro y hy; simp at hy) (fun h₁ hns₁ hsb₁ => ?_) ok.kind)
  dsimp only at hns₁ hsb₁ ⊢
  have hD0 : H2 s2.heap.objs.size = none := I2.hok.fresh (Nat.le_refl _)
  obtain ⟨W, ⟨m0, w0⟩, turn⟩ := rd s2.heap.objs.size hD0
  have hfpl : ∀ b ∈ fp, b < s2.heap.objs.size := fun b hb => by
    obtain ⟨o, e, _⟩ := T.obj 0 _ st2 b hb
    exact Heap.lt_size e
  have hsz : (s2.heap.push { cls := .type "list", dict := none, data := .seq ([] : List Value).toArray }).objs.size = s2.heap.objs.size + 1 := Heap.size_push ..
  have I3 : Inv X pins σ (upd H2 s2.heap.objs.size (.lst [])) { s2 with heap := s2.heap.push { cls := .type "list", dict := none, data := .seq ([] : List Value).toArray } } :=
    I2.laid (t' := s2.toks) (fun b u e => Heap.get?_push_of_some _ e) (Nat.le_refl _) ⟨by simp, [], 0, .nil, Heap.get?_push_size _ rfl⟩
  have st3 : tn 0 (s2.heap.push { cls := .type "list", dict := none, data := .seq ([] : List Value).toArray }) := T.keep _ _ _ st2 fun b _ o e => Heap.get?_push_of_some _ e
  generalize hH3 : s2.heap.push { cls := .type "list", dict := none, data := .seq ([] : List Value).toArray } = h3 at hns₁ hsb₁ hsz I3 st3 ⊢
  generalize hHH : upd H2 s2.heap.objs.size (.lst []) = H3 at I3 w0
  have hlt3 : ∀ b ∈ fp, b < h3.objs.size := fun b hb => by rw [hsz]; exact Nat.lt_succ_of_lt (hfpl b hb)
  have f3 : ∀ b ∈ fp, FpOk X pins H3 b := fun b hb => ⟨by rw [← hHH, upd_ne (Nat.ne_of_lt (hfpl b hb))]; exact (f2 b hb).1, (f2 b hb).2⟩
  have keep : ∀ b o, h3.get? b = some o → h₁.get? b = some o := fun b o e => hsb₁.extBut b o (Nat.ne_of_lt (Heap.lt_size e)) (Heap.get?_push_of_some _ e)
  have I4 := comp_start (s3 := { s2 with heap := h3 }) (tk := s2.toks + ([] : List (Str × Value)).length) ok I3 f3 hlt3 hns₁ keep
  have st4 : tn 0 h₁ := T.keep _ _ _ st3 fun b _ o e => keep b o e
  generalize hX' : cxComp X scope (captFrom X.env scope.names []) (compN X x caps) ({ s2 with heap := h3 } : Shared).heap.objs.size { s2 with heap := h3 } H3 fp = X' at I4
  have eA : X'.A = X.A := by rw [← hX'] <;> rfl
  have eP : X'.prog = X.prog := by rw [← hX'] <;> rfl
  have ew : X'.w = X.w := by rw [← hX'] <;> rfl
  have eK : X'.K = X.K := by rw [← hX'] <;> rfl
  have ee : X'.env = compEnvC scope (captFrom X.env scope.names []) h3.objs.size X.env := by rw [← hX'] <;> rfl
  have ex : X'.xe = fun _ _ => False := by rw [← hX'] <;> rfl
  have eN : X'.N = compN X x caps := by rw [← hX'] <;> rfl
  have ec : X'.calm = true := by rw [← hX']; exact hc
  have efs : X'.fs = frs X.stack := by rw [← hX'] <;> rfl
  have hT' : PTs X' ifs tt := by rw [← hX']; exact ht _ _ _ _ _
  have hE' : PE X' elt te := by rw [← hX']; exact he _ _ _ _ _
  have leave : ∀ {σ' : St} {H' : Hp} {s' : Shared}, Inv X' [] σ' H' s' → Q (.ref s2.heap.objs.size) H' → compPost (model X.prog X.w) X.A X.xe use QQ (.ref s2.heap.objs.size) h3.objs.size (.ok .next) s' := fun {σ' H' s'} J q => by
    have un : Un (frs X.stack) fp H3 H' h3 s'.heap := by have z := J.base; rw [← hX'] at z; exact z
    have hos : s'.os = s2.os := by have z := J.os; rw [← hX'] at z; exact z
    have hk : HOk X.prog X.w H' s'.heap := by have z := J.hok; rw [eP, ew] at z; exact z
    have Jx := I3.call' (s' := s') (ch := fp) hos un hk J.bare fun b hb => ⟨(f3 b hb).2.2.2.1, (f3 b hb).2.1, (f3 b hb).2.2.2.2.1, (f3 b hb).2.2.2.2.2⟩
    obtain ⟨m, hn, _⟩ := J.loc
    have hn' : s'.heap.Ns h3.objs.size m := by rw [ee] at hn; exact hn
    have hfr : H' h3.objs.size = none := by have z := J.free; rw [ee] at z; exact z
    exact fin _ _ H' s' m Jx q hn' (I3.fpOk (Nat.le_refl _) hfr)
  have stat : ∀ {H' : Hp}, (∀ b ∈ fp, H' b = none) → ∀ b ∈ fp, FpOk X' [] H' b := fun {H'} hn b hb => by
    refine ⟨hn b hb, ?_, ?_, .inl ?_, fun y c e => ?_, fun p hp => ?_⟩
    · rw [ee]; exact Nat.ne_of_lt (hlt3 b hb)
    · rw [efs]
      intro z
      rcases List.mem_cons.mp (I3.stkSub b z) with z | z
      · exact (f3 b hb).2.1 z
      · exact (f3 b hb).2.2.1 z
    · rw [← hX']; exact hb
    · have e' : (captFrom X.env scope.names []).lookup y = some c := by rw [ee] at e; exact e
      exact (f3 b hb).2.2.2.2.1 y c (capt_sub hsome (fun _ _ q => by simp at q) e')
    · rw [← hX'] at hp
      exact absurd (show p ∈ ([] : List (Addr × Obj)) from hp) (by simp)
  have loop : ∀ s₃ : Shared, s₃ = { s2 with heap := h₁, toks := s2.toks + ([] : List (Str × Value)).length } →
      codeAny (model X.prog X.w) X.A (.compLoop (.ListComp elt [⟨.Name x px, iter, ifs, 0⟩] scope pos) 0 (.ref it) (.ref s2.heap.objs.size) (compEnvC scope (captFrom X.env scope.names []) h3.objs.size X.env))
        (compPost (model X.prog X.w) X.A X.xe use QQ (.ref s2.heap.objs.size) h3.objs.size) s₃ := by
    rintro s₃ rfl
    refine compLoop_any (fun n s' => ∃ i o H' ys, Inv X' [] (compS σ o caps) H' s' ∧ tn i s'.heap ∧ (∀ b ∈ fp, H' b = none) ∧ W i n ys H') ?_ m0 ⟨0, none, H3, [], I4, st4, fun b hb => (f3 b hb).1, w0⟩
    rintro n s' ⟨i, o, H', ys, J, st', fr', w'⟩
    obtain ⟨hDl, hlen, alt⟩ := turn i n ys H' w'
    rcases alt with ⟨stop, q⟩ | ⟨go, N, hN, step⟩
    · have z := T.done X' eP ew eK ec i [] s' _ H' (fun _ _ => False) J (stat fr') st' stop
      rw [eA] at z
      refine thn z fun r s4 ⟨hr, J4⟩ => ?_
      subst hr
      exact leave J4 q
    · have z := T.item X' eP ew eK ec i [] s' _ H' (fun _ _ => False) J (stat fr') st' go
      rw [eA] at z
      refine thn z fun r s4 ⟨u, hr, h4⟩ => ?_
      subst hr
      refine thn h4 fun _ s5 ⟨xv, H5, J5, r5, y5, st5, fr5⟩ => ?_
      have J5' := J5.pinned (stat fr5) (T.obj _ _ st5)
      have lx : (relabel scope X.env).names.lookup x = some .local := lookup_relabel_local ok.tgt
      have hg : PG X' (.Name x px) (gName 0) := pg_name (by rw [eN]; exact ok.nd) (by rw [eN] <;> rfl) (by rw [ee]; exact .inl lx) (by rw [ee]; exact .inr lx)
      have zg := hg _ s5 _ H5 xv u (fun σ6 H6 => σ6 = compS σ (some xv) caps ∧ H6 = H5) J5' r5 ⟨rfl, rfl⟩
      rw [eP, ew, eA, ee, ex] at zg
      refine thn zg fun _ s6 ⟨σ6, H6, J6, q6⟩ => ?_
      obtain ⟨e6, e6'⟩ := q6
      subst e6 e6'
      have zt := hT' _ s6 _ _ _ J6 (step xv _ y5)
      rw [eP, ew, eA, ee, ex] at zt
      refine thn zt fun b s7 ⟨H7, J7, q7⟩ => ?_
      have again : ∀ {H8 : Hp} {s8 : Shared} {ys' : List V}, Inv X' ([] ++ pinsAt fp s5.heap) (compS σ (some xv) caps) H8 s8 → N ys' H8 → ∃ m, m < n ∧ ∃ i o H' ys, Inv X' [] (compS σ o caps) H' s8 ∧ tn i s8.heap ∧ (∀ b ∈ fp, H' b = none) ∧ W i m ys H' := fun {H8 s8 ys'} J8 n8 => by
        obtain ⟨m', hm, w8⟩ := hN ys' H8 n8
        refine ⟨m', hm, i + 1, some xv, H8, ys', J8.unpinned, T.keep _ _ _ st5 fun b hb o e => (J8.pin (b, o) (List.mem_append_right _ (List.mem_append_right _ (mem_pinsAt hb e)))).1, fun b hb => ?_, w8⟩
        obtain ⟨o, e, d⟩ := T.obj _ _ st5 b hb
        exact (J8.pin (b, o) (List.mem_append_right _ (List.mem_append_right _ (mem_pinsAt hb e)))).2.1
      cases b with
      | false => exact again J7 q7
      | true =>
        have ze := hE' _ s7 _ H7 _ J7 q7
        rw [eP, ew, eA, ee, ex] at ze
        refine thn ze fun yv s8 ⟨y, H8, J8, r8, hD8, q8⟩ => ?_
        have za := mt_append (X := X') _ s8 _ H8 (.ref s2.heap.objs.size) [y] (.ref s2.heap.objs.size) [yv] (fun _ H9 => H9 = upd H8 s2.heap.objs.size (.lst (ys ++ [y]))) J8 rfl (.cons r8 .nil) ⟨_, ys, y, rfl, rfl, hD8, hlen, rfl⟩
        rw [eP, ew, eA, ex] at za
        refine thn za fun _ s9 ⟨_, H9, J9, _, q9⟩ => ?_
        subst q9
        exact again J9 q8
  exact codeAny_compStart_list (loop _ rfl) (T.self _ 0 _ _ _ st4 (loop _ rfl))
/-- [elt for x in iter (if ..)] as a value -/
theorem pe_comp {x : Str} {px pos : Pos} {iter elt : Expr} {ifs : List Expr} {scope : Scope} {wi : TI} {tt : TT} {te : TE} (caps : List Nat)
    (hc : X.calm = true) (ho : compOk X.env.scope scope x (compN X x caps) = true) (hi : PI X (.Name x px) iter wi)
    (ht : ∀ cl C s₀ H₀ ex, PTs (cxComp X scope cl (compN X x caps) C s₀ H₀ ex) ifs tt) (he : ∀ cl C s₀ H₀ ex, PE (cxComp X scope cl (compN X x caps) C s₀ H₀ ex) elt te)
    (hs : ∀ x, foldedSetIterable iter X.env x = pure x := by intro _; rfl) : PE X (.ListComp elt [⟨.Name x px, iter, ifs, 0⟩] scope pos) (tComp wi tt te caps) := by
  intro pins s σ H Q I h
  rw [eval_ListComp]
  refine comp_core (use := none) hc ho hi ht he hs I h fun D C H' s' m J q hn hf => ?_
  exact ⟨m, hn, fun h' sb => ⟨.ref D, H', J.turned (t' := s'.toks) (fun b o hb e => (sb.2 b hb).trans e) hf.1 hf.2.1 hf.2.2.2.1 hf.2.2.2.2.1 hf.2.2.2.2.2, rfl, q⟩⟩
/-- y = [elt for x in iter (if ..)], on one row -/
theorem ps_setc {i : Nat} {x y : Str} {px py pos spos : Pos} {iter elt : Expr} {ifs : List Expr} {scope : Scope} {wi : TI} {tt : TT} {te : TE} (caps : List Nat)
    (hN : X.N.Nodup) (hiy : X.N[i]? = some y) (hy : Loc X.env.scope y)
    (hc : X.calm = true) (ho : compOk X.env.scope scope x (compN X x caps) = true) (hi : PI X (.Name x px) iter wi)
    (ht : ∀ cl C s₀ H₀ ex, PTs (cxComp X scope cl (compN X x caps) C s₀ H₀ ex) ifs tt) (he : ∀ cl C s₀ H₀ ex, PE (cxComp X scope cl (compN X x caps) C s₀ H₀ ex) elt te)
    (hsw : swapsWith (.ListComp elt [⟨.Name x px, iter, ifs, 0⟩] scope pos) (some (.Name y py)) spos.line X.env = pure true := by rfl)
    (hs : ∀ x, foldedSetIterable iter X.env x = pure x := by intro _; rfl) (hf : X.fn y = true ∨ X.env.scope.names.lookup y = some .local := by first | exact .inl rfl | exact .inr rfl | assumption) :
    PS X (.Assign [.Name y py] (.ListComp elt [⟨.Name x px, iter, ifs, 0⟩] scope pos) spos) (tAsg (tComp wi tt te caps) (gName i)) := by
  intro pins s σ H D I h
  rw [exec_Assign_Name_used _ _ _ _ hsw]
  refine wpAny_bind (wpAny_standAt (wpAny_bind ?_))
  show wpAny _ X.A (do let _ ← comprehension (.ListComp elt [⟨.Name x px, iter, ifs, 0⟩] scope pos) scope X.env _ (newList []) false (eval iter X.env) (some (assign (.Name y py) X.env))) _ _ s
  refine wpAny_bind (wpAny_mono (comp_core (QQ := fun _ s' => SP X pins D .next s') (use := some (assign (.Name y py) X.env)) hc ho hi ht he hs I h fun D' C H' s' m J q hn hf' => ?_) (fun _ s' hq => wpAny_pure (wpAny_pure hq)) fun _ _ e => e)
  refine wpAny_assign_Name (store_ok2 (v := .ref D') J hN hiy hy rfl (fun s2 I2 hsb => ?_) hf)
  obtain ⟨a, sb, ha⟩ := hsb
  have hne : C ≠ a := by
    rcases ha with rfl | e
    · exact hf'.2.1
    · exact fun z => hf'.2.2.2.2.1 y a e z.symm
  exact ⟨m, hn.sameBut sb hne, fun h'' sb2 => ⟨_, H', I2.turned (t' := s2.toks) (fun b o hb e => (sb2.2 b hb).trans e) hf'.1 hf'.2.1 hf'.2.2.2.1 hf'.2.2.2.2.1 hf'.2.2.2.2.2, q⟩⟩
end
/-! ### the forms one uses: over a list that stays, a range, signs -/
section
variable {tt : TT} {te : TE} {caps : List Nat} {σ : St} {H1 : Hp} {Q : VK}
/-- n turns; at turn i the item at_ i -/
theorem comp_by {J : It} {D : Addr} (n : Nat) (hn : n < sizeLine) (at_ : Nat → V) (Pv : Nat → List V → Hp → Prop) (h0 : Pv 0 [] (upd H1 D (.lst [])))
    (hst : ∀ ys H, Pv n ys H → J.stop n H) (hgo : ∀ i ys H, Pv i ys H → i < n → J.go i H) (hy : ∀ i ys H x H', Pv i ys H → i < n → J.yld i H x H' → H' = H ∧ x = at_ i)
    (hD : ∀ i ys H, Pv i ys H → H D = some (.lst ys) ∧ ys.length ≤ i)
    (hs : ∀ i ys H, i < n → Pv i ys H → tt (compS σ (some (at_ i)) caps) H fun b H2 =>
      if b = true then te (compS σ (some (at_ i)) caps) H2 fun y H3 => H3 D = some (.lst ys) ∧ Pv (i + 1) (ys ++ [y]) (upd H3 D (.lst (ys ++ [y])))
      else Pv (i + 1) ys H2)
    (hd : ∀ ys H, Pv n ys H → Q (.ref D) H) : CompW tt te caps σ Q J H1 D := by
  refine ⟨fun i m ys H => m = n - i ∧ i ≤ n ∧ Pv i ys H, ⟨n, by simp, Nat.zero_le _, h0⟩, ?_⟩
  rintro i m ys H ⟨rfl, hi, p⟩
  obtain ⟨hDD, hl⟩ := hD i ys H p
  refine ⟨hDD, by omega, ?_⟩
  by_cases hlt : i < n
  · refine .inr ⟨hgo i ys H p hlt, Pv (i + 1), fun zs H' q => ⟨n - (i + 1), by omega, rfl, hlt, q⟩, fun x H' y => ?_⟩
    obtain ⟨e, e'⟩ := hy i ys H x H' p hlt y
    subst e e'
    exact hs i ys _ hlt p
  · have e : i = n := by omega
    subst e
    exact .inl ⟨hst ys H p, hd ys H p⟩
theorem comp_range {lo : Int} {n : Nat} {D : Addr} (hn : n < sizeLine) (Pv : Nat → List V → Hp → Prop) (h0 : Pv 0 [] (upd H1 D (.lst [])))
    (hD : ∀ i ys H, Pv i ys H → H D = some (.lst ys) ∧ ys.length ≤ i)
    (hs : ∀ i ys H, i < n → Pv i ys H → tt (compS σ (some (.int (lo + i))) caps) H fun b H2 =>
      if b = true then te (compS σ (some (.int (lo + i))) caps) H2 fun y H3 => H3 D = some (.lst ys) ∧ Pv (i + 1) (ys ++ [y]) (upd H3 D (.lst (ys ++ [y])))
      else Pv (i + 1) ys H2)
    (hd : ∀ ys H, Pv n ys H → Q (.ref D) H) : CompW tt te caps σ Q (Itr lo n) H1 D :=
  comp_by (J := Itr lo n) (Q := Q) (D := D) (H1 := H1) n hn (fun i => .int (lo + i)) Pv h0 (fun _ _ _ => Nat.le_refl _) (fun _ _ _ _ h => h) (fun _ _ _ _ _ _ _ y => y) hD hs hd
theorem comp_list {K : PySem.W.Frag} {a : Addr} {xs : List V} {D : Addr} (hn : xs.length < sizeLine) (Pv : Nat → List V → Hp → Prop) (h0 : Pv 0 [] (upd H1 D (.lst [])))
    (hl : ∀ i ys H, Pv i ys H → SqL K H a xs) (hD : ∀ i ys H, Pv i ys H → H D = some (.lst ys) ∧ ys.length ≤ i)
    (hs : ∀ i ys H, i < xs.length → Pv i ys H → tt (compS σ (some (xs.getD i .non)) caps) H fun b H2 =>
      if b = true then te (compS σ (some (xs.getD i .non)) caps) H2 fun y H3 => H3 D = some (.lst ys) ∧ Pv (i + 1) (ys ++ [y]) (upd H3 D (.lst (ys ++ [y])))
      else Pv (i + 1) ys H2)
    (hd : ∀ ys H, Pv xs.length ys H → Q (.ref D) H) : CompW tt te caps σ Q (Itl K a) H1 D :=
  comp_by (J := Itl K a) (Q := Q) (D := D) (H1 := H1) xs.length hn (fun i => xs.getD i .non) Pv h0 (fun ys H p => ⟨xs, hl _ ys H p, Nat.le_refl _⟩)
    (fun i ys H p h => ⟨xs, xs[i], hl i ys H p, by simp [h]⟩) (fun i ys H x H' p h y => ⟨y.1, by
      have z := y.2 xs (hl i ys H p)
      rw [List.getD_eq_getElem?_getD, z] <;> rfl⟩) hD hs hd
end
/-! ### the signs of a text -/
def Its (x : Str) : It := ⟨fun i _ => i < x.cps.size, fun i H v H' => H' = H ∧ ∃ c, x.cps[i]? = some c ∧ v = .str ⟨#[c]⟩, fun i _ => i = x.cps.size⟩
theorem turn_str {P : Program} {w : World} {K : PySem.W.Frag} {tg : Expr} (ty : String) (hty : ty = "str_ascii_iterator" ∨ ty = "str_iterator") (it : Addr) (x : Str) (t : Tok) :
    Turn P w K tg (Its x) [it] it (fun i h => h.IsStrIter it ty x t i) where
  mem := by simp
  obj := fun i h st b hb => by
    have e : b = it := by simpa using hb
    subst e
    obtain ⟨o, e, c, d⟩ := st
    exact ⟨o, e, fun v z => by rw [d] at z; cases z⟩
  keep := fun i h h' st k => by
    obtain ⟨o, e, r⟩ := st
    exact ⟨o, k it (by simp) o e, r⟩
  item := by
    intro X hP hw hK hc i pins s σ H E I hf st hg
    subst hP hw hK
    obtain ⟨f0, f1, f2, f3, f4, f5⟩ := hf it (by simp)
    have wk : Walks X.prog X.w X.A it [it] [it] x.cps.size (SignAt x) (fun i h => h.IsStrIter it ty x t i) := by
      rcases hty with e | e
      · subst e; exact Walks.strAscii (I.ok.hd hc) it x t
      · subst e; exact Walks.strWide (I.ok.hd hc) it x t
    have hn : ["enumerate", "zip", "dict_itemiterator", "dict_reverseitemiterator", "odict_iterator", "itertools.zip_longest", "itertools.pairwise"].contains ty = false := by
      rcases hty with e | e
      · subst e; decide
      · subst e; decide
    refine wk.item i s _ E hg st fun v h' tk hv st' kk => ?_
    obtain ⟨c, u, hc', rfl⟩ := hv
    have I1 : Inv X pins σ H { s with heap := h', toks := tk } := I.turned (fun b o hb e => kk b o (by simpa using hb) e) f0 f1 f3 f4 f5
    obtain ⟨o, e, ec, d⟩ := id st'
    exact ⟨_, rfl, go_of (s := { s with heap := h', toks := tk }) e ec d hn ⟨.str ⟨#[c]⟩, H, I1, ⟨u, rfl⟩, ⟨rfl, c, hc', rfl⟩, st', fun b hb => (hf b hb).1⟩⟩
  done := by
    intro X hP hw hK hc i pins s σ H E I hf st hg
    subst hP hw hK
    obtain ⟨f0, f1, f2, f3, f4, f5⟩ := hf it (by simp)
    have wk : Walks X.prog X.w X.A it [it] [it] x.cps.size (SignAt x) (fun i h => h.IsStrIter it ty x t i) := by
      rcases hty with e | e
      · subst e; exact Walks.strAscii (I.ok.hd hc) it x t
      · subst e; exact Walks.strWide (I.ok.hd hc) it x t
    have hi : i = x.cps.size := hg
    subst hi
    exact wk.done s _ E st fun h' tk kk => ⟨rfl, I.turned (fun b o hb e => kk b o (by simpa using hb) e) f0 f1 f3 f4 f5⟩
  self := fun A i s Q E st h => by
    rcases hty with e | e
    · subst e; exact wpAny_pyIter_striter_ascii st h
    · subst e; exact wpAny_pyIter_striter_wide st h
def iStr (tl : TE) : TI := fun σ H R => tl σ H fun x H1 => ∃ z, x = .str z ∧ R (Its z) H1
section
variable {X : Cx} {tg : Expr}
theorem pi_str {l : Expr} {tl : TE} (hl : PE X l tl) : PI X tg l (iStr tl) := by
  intro pins s σ H R I h
  refine thn (hl pins s σ H _ I h) fun v s1 ⟨x, H1, I1, r1, q1⟩ => ?_
  obtain ⟨z, e, q⟩ := q1
  subst e
  obtain ⟨t, rfl⟩ := r1
  have fin : ∀ ty, (ty = "str_ascii_iterator" ∨ ty = "str_iterator") → PIE X pins σ tg R (.ref s1.heap.objs.size) { s1 with heap := s1.heap.push { cls := .type ty, data := .fields #[.str z t, .int 0 0] } } := fun ty hty => by
    refine ⟨s1.heap.objs.size, [s1.heap.objs.size], _, _, H1, rfl, I1.kept (t' := s1.toks) fun b o e => Heap.get?_push_of_some _ e, turn_str ty hty _ z t, ⟨_, Heap.get?_push_size _ rfl, rfl, rfl⟩, fun b hb => ?_, q⟩
    have e : b = s1.heap.objs.size := by simpa using hb
    subst e
    exact I1.fpOk (Nat.le_refl _) (I1.hok.fresh (Nat.le_refl _))
  cases ha : z.cps.all (· < 128)
  · exact wpAny_pyIter_wide ha (fin _ (.inr rfl))
  · exact wpAny_pyIter_ascii ha (fin _ (.inl rfl))
end
theorem comp_str {tt : TT} {te : TE} {caps : List Nat} {σ : St} {H1 : Hp} {Q : VK} {x : Str} {D : Addr} (hn : x.cps.size < sizeLine) (Pv : Nat → List V → Hp → Prop) (h0 : Pv 0 [] (upd H1 D (.lst [])))
    (hD : ∀ i ys H, Pv i ys H → H D = some (.lst ys) ∧ ys.length ≤ i)
    (hs : ∀ i ys H, i < x.cps.size → Pv i ys H → tt (compS σ (some (.str ⟨#[x.cps.getD i 0]⟩)) caps) H fun b H2 =>
      if b = true then te (compS σ (some (.str ⟨#[x.cps.getD i 0]⟩)) caps) H2 fun y H3 => H3 D = some (.lst ys) ∧ Pv (i + 1) (ys ++ [y]) (upd H3 D (.lst (ys ++ [y])))
      else Pv (i + 1) ys H2)
    (hd : ∀ ys H, Pv x.cps.size ys H → Q (.ref D) H) : CompW tt te caps σ Q (Its x) H1 D :=
  comp_by (J := Its x) (Q := Q) (D := D) (H1 := H1) x.cps.size hn (fun i => .str ⟨#[x.cps.getD i 0]⟩) Pv h0 (fun _ _ _ => rfl) (fun _ _ _ _ h => h)
    (fun i ys H v H' p h y => ⟨y.1, by
      obtain ⟨c, e, rfl⟩ := y.2
      rw [Array.getD_eq_getD_getElem?, e] <;> rfl⟩) hD hs hd
/-! ### join, all, isinstance -/
section
variable {X : Cx}
theorem strsAre_of {zs : List Str} : ∀ {us : List Value}, Vals (zs.map V.str) us → StrsAre us zs := by
  induction zs with
  | nil => intro us r; rw [List.map_nil] at r; cases r; exact .nil
  | cons z zs ih =>
    intro us r
    rw [List.map_cons] at r
    cases r with
    | cons r1 r2 =>
      obtain ⟨t, e⟩ := r1
      subst e
      exact .cons z t (ih r2)
def rJoin (K : PySem.W.Frag) : V → List V → Hp → VK → Prop := fun x vs H Q => ∃ sep l zs, x = .str sep ∧ vs = [.ref l] ∧ (SqL K H l (zs.map V.str) ∨ SqT K H l (zs.map V.str)) ∧ (zs.map (·.length)).sum + zs.length * sep.length ≤ 16777216 ∧ Q (.str (Txt.join sep zs)) H
theorem mt_join : MtR X "str.join" (rJoin X.K) := by
  intro pins s σ H x vs v us Q I rx rv h
  obtain ⟨sep, l, zs, rfl, rfl, hq, hz, q⟩ := h
  obtain ⟨t, rfl⟩ := rx
  obtain ⟨u, rfl, ru⟩ := vals1 rv
  cases ru
  rcases hq with hq | hq
  · obtain ⟨its, r', pl, _⟩ := I.list hq
    exact join_list (items := its.toArray) pl.isList (strsAre_of r') hz fun t' k => ⟨.str _, H, I.tok _, ⟨t', rfl⟩, q⟩
  · obtain ⟨its, r', pl, _⟩ := I.tuple hq
    exact join_tuple (items := its.toArray) pl (strsAre_of r') hz fun t' k => ⟨.str _, H, I.tok _, ⟨t', rfl⟩, q⟩
theorem boolsAre_of {bs : List Bool} : ∀ {us : List Value}, Vals (bs.map V.bl) us → us = bs.map Value.bool := by
  induction bs with
  | nil => intro us r; rw [List.map_nil] at r; cases r; rfl
  | cons z zs ih =>
    intro us r
    rw [List.map_cons] at r
    cases r with
    | cons r1 r2 =>
      have e : _ = Value.bool z := r1
      rw [e, ih r2]
      rfl
theorem all_range (bs : List Bool) : ((List.range bs.length).all fun i => (bs[i]?).getD true) = bs.all id := by
  rw [Bool.eq_iff_iff, List.all_eq_true, List.all_eq_true]
  constructor
  · intro h b hb
    obtain ⟨i, hi, rfl⟩ := List.getElem_of_mem hb
    have z := h i (List.mem_range.mpr hi)
    simpa [hi] using z
  · intro h i hi
    have hi' := List.mem_range.mp hi
    have z := h _ (List.getElem_mem hi')
    simpa [hi'] using z
theorem call_all : CallR X (.builtin "all") (fun xs H Q => ∃ (p : Addr) (bs : List Bool), xs = [.ref p] ∧ X.calm = true ∧ SqL X.K H p (bs.map V.bl) ∧ Q (.bl (bs.all id)) H) := by
  intro pins s σ H xs us Q I r h
  obtain ⟨p, bs, rfl, hc, hq, q⟩ := h
  obtain ⟨u, rfl, rx⟩ := vals1 r
  cases rx
  obtain ⟨its, r', pl, hz⟩ := I.list hq
  have ei := boolsAre_of r'
  have hlt : p < s.heap.objs.size := by
    obtain ⟨_, e, _⟩ := pl.isList
    exact Heap.lt_size e
  refine call_all_walk (wpAny_pyIter_list pl.isList ?_)
  refine ⟨s.heap.objs.size, [s.heap.objs.size, p], [s.heap.objs.size], its.toArray.size, _, _, fun i => (bs[i]?).getD true, rfl, Walks.list (A := X.A.in1) (I.ok.hd hc) _ p (Nat.ne_of_lt hlt) its.toArray,
    ⟨⟨_, Heap.get?_push_size _ rfl, rfl, rfl⟩, pl.isList.push _⟩, fun i v s' Q' E' hP hQ => ?_, fun h' tk hk => ?_⟩
  · have hP' : its[i]? = some v := by simpa using hP
    rw [ei, List.getElem?_map] at hP'
    cases hb : bs[i]? with
    | none => rw [hb] at hP'; cases hP'
    | some b =>
      rw [hb] at hP'
      have ev : Value.bool b = v := Option.some.inj hP'
      subst ev
      simp only [hb, Option.getD_some] at hQ
      exact wpAny_truthy_bool hQ
  · have el : its.toArray.size = bs.length := by rw [List.size_toArray, ei, List.length_map]
    rw [el, all_range]
    refine ⟨.bl (bs.all id), H, I.kept (t' := tk) fun b o e => hk b o (fun hm => ?_) (Heap.get?_push_of_some _ e), rfl, q⟩
    rw [List.mem_singleton.mp hm] at e
    exact Nat.lt_irrefl _ (Heap.lt_size e)
/-- isinstance(x, T), T a built-in name, where the type is T itself -/
theorem call_isinst : CallR X (.builtin "isinstance") (fun xs H Q => ∃ (x : V) (n : String) (t : Value) (b : Bool), xs = [x, .ty n] ∧ TyOf X.K H x t ∧ PySem.W.kitOne X.K t (.type n) = some b ∧ Q (.bl b) H) := by
  intro pins s σ H xs us Q I r h
  obtain ⟨x, n, t, b, rfl, ty, e, q⟩ := h
  obtain ⟨u, u2, rfl, rx, ru⟩ := vals2 r
  have e2 : u2 = Value.type n := ru
  subst e2
  exact isinst_ok I rx ty e fun tk => ⟨.bl b, H, I.tok _, rfl, q⟩
end
end L2
/-! MY OWN ADDITIONS, 2: slices of texts; data (texts, numbers, tuples of them) in the heap, and == of two of them. -/
namespace L2
open PySem PySem.Spec PyProof.Rows
section
variable {X : Cx}
def rSlS : V → Option Int → Option Int → Hp → VK → Prop := fun x lo hi H Q => ∃ z, x = .str z ∧ z.length ≤ sizeLine ∧ Q (.str (Txt.slice z lo hi)) H
theorem part_of {v : Value} {o : Option Int} (p : IsPart v o) : ∃ q : Option (Int × Tok), v = partValue q ∧ q.map (·.1) = o := by
  cases p with
  | none => exact ⟨none, rfl, rfl⟩
  | int i t => exact ⟨some (i, t), rfl, rfl⟩
theorem sl_str : SlR X rSlS := by
  intro pins s σ H x v vl vu lo hi sl Q I rx hs pl pu h
  obtain ⟨z, rfl, hz, q⟩ := h
  obtain ⟨t, rfl⟩ := rx
  obtain ⟨ql, rfl, el⟩ := part_of pl
  obtain ⟨qu, rfl, eu⟩ := part_of pu
  refine ⟨"str", _, F.slot_str_getitem.lookup, typeIs_str _ _ _, wpAny_getItem_str_slice (l := ql) (u := qu) (st := none) hs rfl ?_⟩
  have e : sliceMade z t ql qu none = if ((1 : Int) == 1 && (Builtin.Str.strSliceIndices lo hi 1 z.length).length == z.length) = true then .val (.str z t) else .str ⟨((Builtin.Str.strSliceIndices lo hi 1 z.length).filterMap (z.cps[·]?)).toArray⟩ := by
    unfold sliceMade slicePicked
    rw [el, eu]
    rfl
  rw [e]
  exact post_val_or_str ⟨Nat.le_trans (Txt.slice_le z lo hi) hz, fun t' k => ⟨.str (Txt.slice z lo hi), H, I.tok _, ⟨t', rfl⟩, q⟩⟩
theorem slice_mid {z : Str} {i j : Int} (h0 : 0 ≤ i) (h1 : i ≤ j) (h2 : j ≤ z.length) : (Txt.slice z (some i) (some j)).cps.toList = (z.cps.toList.drop i.toNat).take (j - i).toNat := by
  have e := eq_of_beq (slice_closesL (x := z) h0 h1 h2)
  rw [e]
end
/-! ### data -/
inductive Dt where
  | non | bl (b : Bool) | int (i : Int) | str (x : Str) | tup (ds : List Dt)
  deriving Inhabited
inductive IsD (K : PySem.W.Frag) (H : Hp) : Dt → V → Prop
  | non : IsD K H .non .non
  | bl (b : Bool) : IsD K H (.bl b) (.bl b)
  | int (i : Int) : IsD K H (.int i) (.int i)
  | str (x : Str) : IsD K H (.str x) (.str x)
  | tup {ds : List Dt} {xs : List V} {a : Addr} (h : SqT K H a xs) (l : ds.length = xs.length) (r : ∀ (i : Nat) (h1 : i < ds.length) (h2 : i < xs.length), IsD K H ds[i] xs[i]) : IsD K H (.tup ds) (.ref a)
/-! == of data, as Python answers -/
/-- data stay data while the heap grows -/
theorem IsD.mono {K : PySem.W.Frag} {H H' : Hp} (e : ∀ a xs, SqT K H a xs → SqT K H' a xs) {d : Dt} {x : V} (h : IsD K H d x) : IsD K H' d x := by
  induction h with
  | non => exact .non
  | bl b => exact .bl b
  | int i => exact .int i
  | str z => exact .str z
  | tup h l r ih => exact .tup (e _ _ h) l ih
theorem SqT.same {K : PySem.W.Frag} {H H' : Hp} (e : Same H H') {a : Addr} {xs : List V} (h : SqT K H a xs) : SqT K H' a xs := by
  rcases h with (h | ⟨o, h⟩) | h
  · exact .inl (.inl (e _ _ h))
  · exact .inl (.inr ⟨o, e _ _ h⟩)
  · exact .inr h
theorem IsD.same {K : PySem.W.Frag} {H H' : Hp} (e : Same H H') {d : Dt} {x : V} (h : IsD K H d x) : IsD K H' d x := h.mono fun _ _ q => q.same e
end L2
namespace L2
open PySem PySem.Spec PyProof.Rows
/-! ### callees in one piece -/
/-- the def under this name keeps this promise -/
def Cal (P : Program) (w : World) (K : PySem.W.Frag) (mg : Str → Option Value) (base : Heap) (x : Str) (k : Nat) (ps : List Str) (sp : Sp) : Prop :=
  ∃ f fd, FnOk P w K mg base CX0 k f fd ps sp ∧ Binds K fd ps [] ∧ PySem.W.keepIn K (.ref f) = true ∧ mg x = some (.ref f)
/-- the class at C is made by an __init__ that keeps this promise -/
def Mak (P : Program) (w : World) (K : PySem.W.Frag) (mg : Str → Option Value) (base : Heap) (x : Str) (C : Addr) (k : Nat) (ps : List Str) (sp : Sp) : Prop :=
  ∃ f fd, Mk K C f ∧ FnOk P w K mg base CX0 k f fd ps sp ∧ Binds K fd ps [] ∧ mg x = some (.ref C)
/-- the method of the class at C keeps this promise -/
def Met (P : Program) (w : World) (K : PySem.W.Frag) (mg : Str → Option Value) (base : Heap) (C : Addr) (m : Str) (k : Nat) (ps : List Str) (sp : Sp) : Prop :=
  ∃ f fd, Cls K C ∧ Meth K C m f ∧ FnOk P w K mg base CX0 k f fd ps sp ∧ Binds K fd ps []
section
variable {X : Cx} {k : Nat} {C : Addr} {ps : List Str} {sp : Sp} {x m : Str} {p pos apos : Pos} {e o : Expr} {es : List Expr} {ta : TE} {t : TA}
theorem pe_callC (c : Cal X.prog X.w X.K X.mg X.base x k ps sp) (hr : Room k X.A) (hg : Gl X x) (ha : PA X (e :: es) t) (hdb : (x == ("__debug__" : Str)) = false := by decide) (he : starEach (e :: es) X.env = (false, eval e X.env) :: starEach es X.env := by rfl) (hpl : (backTo pos (starEach es X.env)).any (·.1) = false := by rfl) :
    PE X (.Call (.Name x p) (e :: es) [] pos) (tCall sp [] E0 t) := by
  obtain ⟨f, fd, F, b, kp, mg⟩ := c
  exact pe_call F hr hg mg kp b .nil pass0 ha hdb he hpl
theorem pe_makeC (c : Mak X.prog X.w X.K X.mg X.base x C k ps sp) (hr : Room (k + 1) X.A) (hg : Gl X x) (ha : PA X (e :: es) t) (hdb : (x == ("__debug__" : Str)) = false := by decide) (he : starEach (e :: es) X.env = (false, eval e X.env) :: starEach es X.env := by rfl) (hpl : (backTo pos (starEach es X.env)).any (·.1) = false := by rfl) :
    PE X (.Call (.Name x p) (e :: es) [] pos) (tMake C sp [] E0 t) := by
  obtain ⟨f, fd, M, F, b, mg⟩ := c
  exact pe_make M F hr hg mg b .nil pass0 ha hdb he hpl
theorem pe_methC {pl : Sem Bool} (he : PE X o ta) (c : Met X.prog X.w X.K X.mg X.base C m k ps sp) (hr : Room k X.A) (ha : PA X (e :: es) t)
    (hst : starEach (e :: es) X.env = (false, eval e X.env) :: starEach es X.env := by rfl) (hpl : (backTo pos (starEach es X.env)).any (·.1) = false := by rfl)
    (ht : eval (.Call (.Attribute o m apos) (e :: es) [] pos) X.env = (do
      let ov ← eval o X.env
      standAt apos.atName
      let (f, first) ← holding [ov] (getMethod ov m pl)
      callWith pos f first (backTo pos (starEach (e :: es) X.env)) (backToKw pos (keywordEach [] X.env))) := by rfl) :
    PE X (.Call (.Attribute o m apos) (e :: es) [] pos) (tMeth C m sp [] E0 ta t) := by
  obtain ⟨f, fd, cl, M, F, b⟩ := c
  exact pe_meth he cl M F hr b .nil pass0 ha hst hpl ht
theorem pe_methC0 {pl : Sem Bool} (he : PE X o ta) (c : Met X.prog X.w X.K X.mg X.base C m k ps sp) (hr : Room k X.A)
    (ht : eval (.Call (.Attribute o m apos) [] [] pos) X.env = (do
      let ov ← eval o X.env
      standAt apos.atName
      let (f, first) ← holding [ov] (getMethod ov m pl)
      callWith pos f first (backTo pos (starEach [] X.env)) (backToKw pos (keywordEach [] X.env))) := by rfl) :
    PE X (.Call (.Attribute o m apos) [] [] pos) (tMeth C m sp [] E0 ta tNil) := by
  obtain ⟨f, fd, cl, M, F, b⟩ := c
  exact pe_meth0 he cl M F hr b .nil pass0 ht
end
end L2
/-! MY OWN ADDITIONS, 5: texts split and stripped, a text's number -/
namespace L2
open PySem PySem.Spec PyProof.Rows
section
variable {X : Cx}
theorem vals_strs : ∀ {l : List (Str × Tok)} {zs : List Str}, l.map (·.1) = zs → Vals (zs.map V.str) (strValues l)
  | [], _, e => by subst e; exact .nil
  | p :: r, _, e => by
    subst e
    exact .cons ⟨p.2, rfl⟩ (vals_strs rfl)
/-- text.split(sep) -/
def rSplit : V → List V → Hp → VK → Prop := fun x vs H Q => ∃ z y, x = .str z ∧ vs = [.str y] ∧ (y.length == 0) = false ∧ z.length ≤ sizeLine ∧ (Txt.split z y).length ≤ sizeLine ∧ ∀ l, H l = none → Q (.ref l) (upd H l (.lst ((Txt.split z y).map V.str)))
open Builtin Builtin.Str in
theorem split_at {prog : Program} {w : World} {A : Around} {E : Value → Shared → Prop} {s : Shared} {x y : Str} {t u : Tok} {Q : Value → Shared → Prop} (hy : (y.length == 0) = false) (hsz : x.length ≤ sizeLine) (hsz2 : (Txt.split x y).length ≤ sizeLine)
    (h : ∀ l k, l.map (·.1) = Txt.split x y → Q (.ref s.heap.objs.size) { s with heap := s.heap.push { cls := .type "list", data := .seq (strValues l).toArray }, toks := k }) :
    wpAny (model prog w) A (call (.builtin "str.split") [.str x t, .str y u]) Q E s := by
  unfold Txt.split at hsz2 h
  cases h1 : (decide (x.length < y.length) || decide (strKind x < strKind y))
  · rw [if_neg (ne_true_of_eq_false h1)] at hsz2 h
    cases hf : (occurrences x y 0 x.length (x.length + 1)).isEmpty
    · rw [if_neg (ne_true_of_eq_false hf)] at hsz2 h
      refine call_meets PySem.F.slot_str_split (typeIs_str _ _ _) PySem.F.entry_str_split (PySem.F.args_str_split_2 _ _) (meets_str_split_sep x y t u h1 hy hf hsz hsz2) ?_
      show wants Q E _ { s with toks := _, heap := s.heap.push { cls := .type "list", data := .seq (strsFrom s.toks (partsBetween x (occurrences x y 0 x.length (x.length + 1)) y.length)).toArray } }
      rw [strsFrom_eq]
      exact h (numbered s.toks _) _ (numbered_texts _ _)
    · rw [if_pos hf] at h
      exact call_meets PySem.F.slot_str_split (typeIs_str _ _ _) PySem.F.entry_str_split (PySem.F.args_str_split_2 _ _) (meets_str_split_not_found x y t u h1 hy hf) (h [(x, t)] s.toks rfl)
  · rw [if_pos h1] at h
    exact call_meets PySem.F.slot_str_split (typeIs_str _ _ _) PySem.F.entry_str_split (PySem.F.args_str_split_2 _ _) (meets_str_split_cannot_occur x y t u h1) (h [(x, t)] s.toks rfl)
theorem mt_split : MtR X "str.split" rSplit := by
  intro pins s σ H x vs v us Q I rx rv h
  obtain ⟨z, y, rfl, rfl, hy, h1, h2, q⟩ := h
  obtain ⟨t, rfl⟩ := rx
  obtain ⟨u, rfl, t', rfl⟩ := vals1 rv
  refine split_at hy h1 h2 fun l k e => ?_
  have hf : H s.heap.objs.size = none := I.hok.fresh (Nat.le_refl _)
  refine ⟨.ref s.heap.objs.size, upd H s.heap.objs.size (.lst ((Txt.split z y).map V.str)), I.laid (t' := k) (fun b u e => Heap.get?_push_of_some _ e) (Nat.le_refl _) ?_, rfl, q _ hf⟩
  exact ⟨by rw [List.length_map]; exact h2, strValues l, 0, vals_strs e, Heap.get?_push_size _ rfl⟩
/-- text.strip(signs) -/
def rStrip : V → List V → Hp → VK → Prop := fun x vs H Q => ∃ z y, x = .str z ∧ vs = [.str y] ∧ z.length ≤ sizeLine ∧ Q (.str (Txt.stripChars z y)) H
theorem mt_strip : MtR X "str.strip" rStrip := by
  intro pins s σ H x vs v us Q I rx rv h
  obtain ⟨z, y, rfl, rfl, h1, q⟩ := h
  obtain ⟨t, rfl⟩ := rx
  obtain ⟨u, rfl, t', rfl⟩ := vals1 rv
  exact SC.stripChars (fun t2 k => ⟨.str _, H, I.tok _, ⟨t2, rfl⟩, q⟩) h1
/-- int(text) -/
theorem call_int_text : CallR X (.type "int") (fun xs H Q => ∃ z n, xs = [.str z] ∧ PySem.intText? z = some n ∧ z.length ≤ 640 ∧ Q (.int n) H) := by
  intro pins s σ H xs us Q I r h
  obtain ⟨z, n, rfl, hn, hl, q⟩ := h
  obtain ⟨u, rfl, t, rfl⟩ := vals1 r
  exact PySem.W.KIN.call_text hn hl ⟨.int n, H, I.tok _, ⟨_, rfl⟩, q⟩
end
end L2
/-! MY OWN ADDITIONS, 6: tuple.index -/
namespace L2
open PySem PySem.Spec PyProof.Rows
theorem wpAny_forIn_upto {M : Model} {A : Around} {E : Value → Shared → Prop} {s : Shared} {β : Type} {n : Nat} (f : Nat → β → Sem (ForInStep β)) (I : Nat → β → Shared → Prop) (Q : β → Shared → Prop) {b : β}
    (turn : ∀ i b s', i < n → I i b s' → wpAny M A (f i b) (fun r s'' => match r with | .done b' => Q b' s'' | .yield b' => I (i + 1) b' s'') E s')
    (fin : ∀ b s', I n b s' → Q b s') (h : I 0 b s) : wpAny M A (forIn [0:n] b f) Q E s := by
  rw [Std.Legacy.Range.forIn_eq_forIn_range']
  have hsz : ([0:n] : Std.Legacy.Range).size = n := by simp [Std.Legacy.Range.size]
  show wpAny M A (forIn (List.range' 0 ([0:n] : Std.Legacy.Range).size 1) b f) Q E s
  rw [hsz]
  refine wpAny_forIn_list f (fun rest b s' => ∃ i, i ≤ n ∧ rest = List.range' i (n - i) 1 ∧ I i b s') Q ?_ ?_ _ _ ⟨0, Nat.zero_le _, by simp, h⟩
  · rintro x rest b s' ⟨i, hi, er, hI⟩
    have hlt : i < n := by
      cases e : n - i with
      | zero => rw [e] at er; cases er
      | succ m => omega
    have e2 : n - i = (n - (i + 1)) + 1 := by omega
    rw [e2, List.range'_succ] at er
    injection er with e3 e4
    subst e3
    refine wpAny_mono (turn x b s' hlt hI) (fun r s'' q => ?_) fun _ _ q => q
    cases r with
    | done b' => exact q
    | yield b' => exact ⟨x + 1, hlt, e4, q⟩
  · rintro b s' ⟨i, hi, er, hI⟩
    have : i = n := by
      cases e : n - i with
      | zero => omega
      | succ m => rw [e, List.range'_succ] at er; cases er
    subst this
    exact fin b s' hI
open SeqAt in
theorem tuple_indexAt (l : Addr) (items : Array Value) (n : Nat) (dd : Option Addr) (sl : Array (Option Value)) (x : Value) (e : Value → Bool) (j : Nat) (hj : j < items.size) (hit : e items[j] = true) (hno : ∀ m (hm : m < items.size), m < j → e items[m] = false) :
    Meets (Builtin.«tuple.index» ⟨[.ref l, x], []⟩)
      (fun A R s => s.heap.get? l = some { cls := .type "tuple", dict := dd, data := .seq items n, slots := sl } ∧ (∀ y, y ∈ items → EqAt A.in1 s y x (e y)) ∧ R (.ok (.ret (.int (j : Nat) s.toks))) { s with toks := s.toks + 1 }) :=
  .of_wp fun prog w A R s h => by
    obtain ⟨hp, g, d, tk, os⟩ := s; obtain ⟨hl, he, h⟩ := h
    wp_walk using wpAny_loadPart' hl, wpAny_forIn_upto _ (fun i b s' => b.1 = none ∧ s' = ⟨hp, g, d, tk, os⟩ ∧ i ≤ j) _
    case turn =>
      rintro i b s' hi ⟨hb, rfl, hij⟩
      have hi' : i < items.size := by omega
      rw [Array.getElem?_eq_getElem hi']
      refine wpAny_bind (he items[i] (Array.getElem_mem hi') prog w _ _ ?_)
      by_cases hy : i = j
      · subst hy
        rw [hit]
        wp_walk
        exact ⟨_, rfl, h⟩
      · rw [hno i hi' (by omega)]
        wp_walk
        exact ⟨rfl, rfl, by omega⟩
    case fin =>
      rintro ⟨b1, b2⟩ s' ⟨hb, rfl, hij⟩
      omega
    case h =>
      exact ⟨rfl, rfl, Nat.zero_le _⟩
end L2
/-! MY OWN ADDITIONS, 7: comprehensions that only pick and change values -/
namespace L2
open PySem PySem.Spec PyProof.Rows
theorem comp_fm {tt : TT} {te : TE} {caps : List Nat} {σ : St} {H1 : Hp} {Q : VK} {K : PySem.W.Frag} {a : Addr} {xs : List V} {D : Addr} (hn : xs.length < sizeLine) (hD0 : H1 D = none) (hl : SqL K H1 a xs) (kp : V → Bool) (f : V → V)
    (ht : ∀ x H' R, x ∈ xs → Same H1 H' → (∀ H'', Same H' H'' → R (kp x) H'') → tt (compS σ (some x) caps) H' R)
    (he : ∀ x H' R, x ∈ xs → kp x = true → Same H1 H' → (∀ H'', Same H' H'' → R (f x) H'') → te (compS σ (some x) caps) H' R)
    (hd : ∀ H', Same H1 H' → H' D = some (.lst ((xs.filter kp).map f)) → Q (.ref D) H') : CompW tt te caps σ Q (Itl K a) H1 D := by
  refine comp_list (K := K) (a := a) (xs := xs) hn (fun i ys H' => Same H1 H' ∧ H' D = some (.lst ys) ∧ ys = ((xs.take i).filter kp).map f) ⟨fun b o e => by rw [upd_ne (ne_of_none e hD0)]; exact e, upd_same, rfl⟩
    (fun i ys H' p => p.1.seq hl) (fun i ys H' p => ⟨p.2.1, ?_⟩) (fun i ys H' hi p => ?_) (fun ys H' p => ?_)
  · rw [p.2.2, List.length_map]
    refine Nat.le_trans (List.length_filter_le _ _) ?_
    rw [List.length_take]
    omega
  · have hx : xs.getD i .non = xs[i] := by rw [List.getD_eq_getElem?_getD, List.getElem?_eq_getElem hi]; rfl
    rw [hx]
    have hm : xs[i] ∈ xs := List.getElem_mem hi
    have step : ∀ b, kp xs[i] = b → ((xs.take (i + 1)).filter kp).map f = ((xs.take i).filter kp).map f ++ (if b = true then [f xs[i]] else []) := fun b hb => by
      rw [List.take_succ_eq_append_getElem hi, List.filter_append, List.map_append]
      cases b with
      | true => rw [if_pos rfl]; simp [hb]
      | false => rw [if_neg (by decide)]; simp [hb]
    refine ht _ _ _ hm p.1 fun H2 s2 => ?_
    cases hb : kp xs[i] with
    | true =>
      refine iteT ?_
      refine he _ _ _ hm hb (Same.trans p.1 s2) fun H3 s3 => ?_
      refine ⟨s3 _ _ (s2 _ _ p.2.1), fun b o e => ?_, upd_same, ?_⟩
      · rw [upd_ne (ne_of_none e hD0)]
        exact s3 _ _ (s2 _ _ (p.1 _ _ e))
      · rw [step true hb, if_pos rfl, p.2.2]
    | false =>
      refine iteF ⟨Same.trans p.1 s2, s2 _ _ p.2.1, ?_⟩
      rw [step false hb, if_neg (by decide), List.append_nil]
      exact p.2.2
  · rw [p.2.2, List.take_length] at p
    exact hd H' p.1 p.2.1
end L2
/-! MY OWN ADDITIONS, 8: a tuple's slice, also the whole one -/
namespace HT
open PySem PySem.Spec PyProof.Rows
section
variable {prog : Program} {w : World} {A : Around} {E : Value → Shared → Prop} {s : Shared}
theorem getItem_tuple_all {t sl : Addr} {items : Array Value} {vl vu : Value} {lo hi : Option Int} {Q : Value → Shared → Prop} (ht : IsTup s.heap t items) (hs : s.heap.IsSliceOf sl vl vu .none) (pl : IsPart vl lo) (pu : IsPart vu hi)
    (hw : sIx items.size 0 lo = 0 ∧ sIx items.size items.size hi = items.size) (h : Q (.ref t) s) : wpAny (model prog w) A (getItem (.ref t) (.ref sl)) Q E s := by
  obtain ⟨os, hos, hcs, hds⟩ := id hs
  have hTs : s.TypeIs (.ref sl) "slice" := ⟨os, hos, hcs⟩
  unfold getItem
  try with_reducible refine wpAny_holding ?_
  first | refine wpAny_bind (wpAny_pure ?_) | skip
  refine wpAny_bind (wpAny_sequenceKey ht.typeIs (by decide) ?_)
  refine wpAny_bind (wpAny_callSpecial?_slot (name := Str.ofString "__getitem__") ht.typeIs PyProof.Rows.slot_tuple_getitem
    (wpAny_call_entry PyProof.Rows.slot_tuple_getitem ht.typeIs entry_tuple_getitem ?_ (args_tuple_getitem _ _)))
  show wpAny _ _ (Builtin.Tuple.tupleItemsOf (.ref t) >>= _) _ _ s
  refine wpAny_bind (tupleItemsOf_ ht ?_)
  refine wpAny_bind (wpAny_typeOf hTs ?_)
  rw [if_pos (by decide)]
  refine wpAny_bind (sliceApplied_gen hs pl pu ?_)
  have hyes : (((sIx items.size 0 lo : Nat) : Int) == 0 && (1 : Int) == 1 && (sIx items.size items.size hi - sIx items.size 0 lo) == items.size) = true := by
    rw [hw.1, hw.2]
    simp
  show wpAny _ _ (if (((sIx items.size 0 lo : Nat) : Int) == 0 && (1 : Int) == 1 && (sIx items.size items.size hi - sIx items.size 0 lo) == items.size) = true then _ else _) _ _ s
  rw [if_pos hyes]
  unfold Builtin.Tuple.tupleIsExact
  refine wpAny_bind (wpAny_bind (wpAny_typeOf ht.typeIs (wpAny_pure ?_)))
  rw [if_pos (by decide)]
  refine wpAny_bind (wpAny_rule ?_)
  first
    | exact wpAny_pure ⟨_, rfl, wpAny_pure h⟩
    | exact wpAny_bind (wpAny_pure (wpAny_pure ⟨_, rfl, wpAny_pure h⟩))
end
end HT
namespace L2
open PySem PySem.Spec PyProof.Rows
section
variable {X : Cx}
/-- a slice of a tuple: the tuple itself where it is whole -/
def rSlA (K : PySem.W.Frag) : V → Option Int → Option Int → Hp → VK → Prop := fun x lo hi H Q => ∃ a xs, x = .ref a ∧ SqT K H a xs ∧ ∀ p H', Same H H' → SqT K H' p (cutV xs lo hi) → Q (.ref p) H'
theorem sl_tupA : SlR X (rSlA X.K) := by
  intro pins s σ H x v vl vu lo hi sl Q I rx hs pl pu h
  obtain ⟨a, xs, rfl, hx, q⟩ := h
  by_cases hw : HT.sIx xs.length 0 lo = 0 ∧ HT.sIx xs.length xs.length hi = xs.length
  · cases rx
    obtain ⟨its, r, ht, hz⟩ := I.tuple hx
    have hlen : its.toArray.size = xs.length := by rw [List.size_toArray]; exact r.length.symm
    refine ⟨"tuple", _, PyProof.Rows.slot_tuple_getitem.lookup, ht.typeIs, ?_⟩
    refine HT.getItem_tuple_all ht hs pl pu (by rw [hlen]; exact hw) ⟨.ref a, H, I, rfl, q a H (Same.refl H) ?_⟩
    unfold cutV
    rw [hw.1, hw.2, List.drop_zero, Nat.sub_zero, List.take_length]
    exact hx
  · exact sl_tup pins s σ H (.ref a) v vl vu lo hi sl Q I rx hs pl pu ⟨a, xs, rfl, hx, hw, fun p hp => q p _ (fun b o e => by rw [upd_ne (ne_of_none e hp)]; exact e) (SqT.of upd_same)⟩
theorem cut_drop {xs : List V} {k : Nat} (h : k ≤ xs.length) : cutV xs (some (k : Int)) none = xs.drop k := by
  unfold cutV
  rw [HT.sIx_nat, HT.sIx_none, Nat.min_eq_left h, List.take_of_length_le]
  rw [List.length_drop]
  omega
end
end L2
/-! MY OWN ADDITIONS, 9: list.extend(tuple) -/
namespace L2
open PySem PySem.Spec PyProof.Rows
theorem extend_tupleAt (l : Addr) (xs : Array Value) (n : Nat) (b : Addr) (ys : Array Value) (k : Nat) (dd : Option Addr) (sl : Array (Option Value)) (few : ¬(!xs.isEmpty && Builtin.List.listTooLong (xs.size + ys.size)) = true) (h1 : xs.size ≤ sizeLine) (h2 : xs.size + ys.size ≤ sizeLine + 1) :
    Meets (Builtin.«list.extend» ⟨[.ref l, .ref b], []⟩)
      (fun _ R st => st.heap.get? l = some { cls := .type "list", dict := none, data := .seq xs n, slots := #[] } ∧ st.heap.get? b = some { cls := .type "tuple", dict := dd, data := .seq ys k, slots := sl } ∧
        R (.ok (.ret Value.none)) { st with heap := st.heap.update l (Obj.mapSeq fun x => x ++ ys), toks := st.toks }) :=
  .of_wp fun prog w A R st h => by
    obtain ⟨hp, gs, dr, tk, os⟩ := st
    obtain ⟨gl, gb, hR⟩ := h
    have i1 := AutoSeq1.idx_int
    have i2 := AutoSeq1.sub_tuple_tuple
    have i3 := AutoSeq1.sub_list_list
    have i4 := AutoSeq1.sub_tuple_list
    have i5 := AutoSeq1.sub_list_tuple
    have both : (xs ++ ys).size ≤ sizeLine + 1 := by rw [Array.size_append]; exact h2
    wp_walk using (wpAny_updateSeq gl rfl (hz := h1) (_hz' := both)), AutoSeq1.wpAny_loadPart' gl, AutoSeq1.wpAny_loadPart' gb
    exact ⟨_, rfl, hR⟩
section
variable {X : Cx}
def rExtendT (K : PySem.W.Frag) : V → List V → Hp → VK → Prop := fun x vs H Q => ∃ l b xs zs, x = .ref l ∧ vs = [.ref b] ∧ H l = some (.lst xs) ∧ SqT K H b zs ∧ xs.length + zs.length ≤ sizeLine ∧ Q .non (upd H l (.lst (xs ++ zs)))
theorem mt_extendT : MtR X "list.extend" (rExtendT X.K) := by
  intro pins s σ H x vs v us Q I rx rv h
  obtain ⟨l, b, xs, zs, rfl, rfl, hH, hB, hz, q⟩ := h
  cases (show v = Value.ref l from rx)
  obtain ⟨u, rfl, ru⟩ := vals1 rv
  cases (show u = Value.ref b from ru)
  obtain ⟨z, its, n, r, hl, e⟩ := I.lstM hH
  obtain ⟨its2, r2, pl, z2⟩ := I.tuple hB
  obtain ⟨⟨oc, od, dat, sl⟩, e2, hc, n2, hd⟩ := id pl
  simp only at hc hd
  subst hc hd
  have hl2 := r2.length
  have hsz : its.toArray.size + its2.toArray.size ≤ sizeLine := by rw [List.size_toArray, List.size_toArray]; omega
  have hlong : ¬ (!its.toArray.isEmpty && Builtin.List.listTooLong (its.toArray.size + its2.toArray.size)) = true := by
    rw [notLongL hsz, Bool.and_false]
    exact Bool.false_ne_true
  refine call_meets PySem.F.slot_list_extend ⟨_, e, rfl⟩ PySem.F.entry_list_extend (PySem.F.args_list_extend_2 _ _)
    (extend_tupleAt l its.toArray n b its2.toArray n2 od sl hlong (by rw [List.size_toArray]; omega) (by omega)) ⟨e, e2, ?_⟩
  refine ⟨.non, _, I.lset (its' := its ++ its2) hH e (by simp) (r.append r2) ?_, rfl, q⟩
  rw [List.length_append]
  omega
end
end L2
/-! MY OWN ADDITIONS, 10: rules that name the fragment themselves, for a comprehension's elements -/
namespace L2
open PySem PySem.Spec PyProof.Rows
section
variable {X : Cx} {K : PySem.W.Frag} {o e : Expr} {f : Str} {pos : Pos} {ta : TE}
theorem pe_fldK (hK : X.K = K) (he : PE X e ta) (hb : attributeBase e f X.env (eval e X.env) = eval e X.env) : PE X (.Attribute e f pos) (tFld K ta f) := by
  subst hK
  exact pe_fld he hb
end
end L2
namespace L2
open PySem PySem.Spec PyProof.Rows
/-! ### lists of pairs as tables -/
section
variable {κ : Type} [DecidableEq κ]
def valV (kvs : List (κ × V)) (k : κ) : Option V := (kvs.find? fun kv => decide (kv.1 = k)).map (·.2)
/-- in its place, or at the end -/
def putK (kvs : List (κ × V)) (k : κ) (v : V) : List (κ × V) :=
  if (kvs.any fun kv => decide (kv.1 = k)) = true then kvs.map (fun kv => if kv.1 = k then (kv.1, v) else kv) else kvs ++ [(k, v)]
def dropK (kvs : List (κ × V)) (k : κ) : List (κ × V) := kvs.filter fun kv => decide (kv.1 ≠ k)
theorem valV_pos {p : κ × V} {r : List (κ × V)} {k : κ} (e : p.1 = k) : valV (p :: r) k = some p.2 := by simp [valV, List.find?_cons, e]
theorem valV_neg {p : κ × V} {r : List (κ × V)} {k : κ} (e : ¬ p.1 = k) : valV (p :: r) k = valV r k := by simp [valV, List.find?_cons, e]
theorem valV_any (k : κ) : ∀ kvs : List (κ × V), (kvs.any fun kv => decide (kv.1 = k)) = (valV kvs k).isSome
  | [] => rfl
  | p :: r => by
    rw [List.any_cons]
    by_cases e : p.1 = k
    · simp only [valV_pos e, decide_eq_true e, Bool.true_or, Option.isSome_some]
    · rw [valV_neg e, decide_eq_false e, Bool.false_or]; exact valV_any k r
theorem length_putK (kvs : List (κ × V)) (k : κ) (v : V) : (putK kvs k v).length ≤ kvs.length + 1 := by
  unfold putK
  split
  · rw [List.length_map]; omega
  · rw [List.length_append, List.length_cons, List.length_nil]; omega
theorem putK_new {kvs : List (κ × V)} {k : κ} (v : V) (h : valV kvs k = none) : putK kvs k v = kvs ++ [(k, v)] := by
  unfold putK
  rw [valV_any, h]
  exact if_neg (by decide)
theorem RelO.isSome_eq {o : Option V} {u : Option Value} (r : RelO o u) : o.isSome = u.isSome := by
  cases o with
  | none => cases u with
    | none => rfl
    | some _ => exact (show False from r).elim
  | some _ => cases u with
    | none => exact (show False from r).elim
    | some _ => rfl
theorem RelO.getD {o : Option V} {u : Option Value} {d : V} {d' : Value} (r : RelO o u) (rd : RelV d d') : RelV (o.getD d) (u.getD d') := by
  cases o with
  | none => cases u with
    | none => exact rd
    | some _ => exact (show False from r).elim
  | some _ => cases u with
    | none => exact (show False from r).elim
    | some _ => exact r
/-- raw tables of the same keys -/
theorem KV.val {kvs : List (κ × V)} {vs : List (κ × Value)} (r : KV kvs vs) (k : κ) : RelO (valV kvs k) (valueAt vs k) := by
  unfold KV at r
  induction r with
  | nil => exact True.intro
  | @cons p q ps qs h t ih =>
    obtain ⟨h1, h2⟩ := h
    by_cases e : p.1 = k
    · have e' : q.1 = k := h1.symm.trans e
      have b : valueAt (q :: qs) k = some q.2 := by simp [valueAt, List.find?_cons, e']
      rw [valV_pos e, b]; exact h2
    · have e' : ¬ q.1 = k := fun z => e (h1.trans z)
      have b : valueAt (q :: qs) k = valueAt qs k := by simp [valueAt, List.find?_cons, e']
      rw [valV_neg e, b]; exact ih
theorem KV.any {kvs : List (κ × V)} {vs : List (κ × Value)} (r : KV kvs vs) (k : κ) : (kvs.any fun kv => decide (kv.1 = k)) = vs.any fun kv => decide (kv.1 = k) := by
  unfold KV at r
  induction r with
  | nil => rfl
  | cons h t ih => rw [List.any_cons, List.any_cons, ih, h.1]
theorem KV.repl {kvs : List (κ × V)} {vs : List (κ × Value)} (r : KV kvs vs) (k : κ) {y : V} {u : Value} (ry : RelV y u) :
    KV (kvs.map fun kv => if kv.1 = k then (kv.1, y) else kv) (vs.map fun kv => if kv.1 = k then (kv.1, u) else kv) := by
  unfold KV at r ⊢
  induction r with
  | nil => exact .nil
  | @cons p q ps qs h t ih =>
    rw [List.map_cons, List.map_cons]
    refine .cons ?_ ih
    obtain ⟨h1, h2⟩ := h
    by_cases e : p.1 = k
    · rw [if_pos e, if_pos (h1.symm.trans e)]; exact ⟨h1, ry⟩
    · rw [if_neg e, if_neg (fun z => e (h1.trans z))]; exact ⟨h1, h2⟩
theorem KV.put {kvs : List (κ × V)} {vs : List (κ × Value)} (r : KV kvs vs) (k : κ) {y : V} {u : Value} (ry : RelV y u) : KV (putK kvs k y) (stored vs k u) := by
  unfold putK stored
  rw [r.any k]
  by_cases e : (vs.any fun kv => decide (kv.1 = k)) = true
  · rw [if_pos e, if_pos e]; exact r.repl k ry
  · rw [if_neg e, if_neg e]; exact Paired.snoc r ⟨rfl, ry⟩
theorem KV.drop {kvs : List (κ × V)} {vs : List (κ × Value)} (r : KV kvs vs) (k : κ) : KV (dropK kvs k) (without vs k) := by
  unfold KV at r ⊢
  unfold dropK without
  induction r with
  | nil => exact .nil
  | @cons p q ps qs h t ih =>
    obtain ⟨h1, h2⟩ := h
    rw [List.filter_cons, List.filter_cons]
    by_cases e : p.1 = k
    · have a : ¬ decide (p.1 ≠ k) = true := by simp [e]
      have b : ¬ decide (q.1 ≠ k) = true := by simp [h1.symm.trans e]
      rw [if_neg a, if_neg b]; exact ih
    · have e' : ¬ q.1 = k := fun z => e (h1.trans z)
      have a : decide (p.1 ≠ k) = true := by simp [e]
      have b : decide (q.1 ≠ k) = true := by simp [e']
      rw [if_pos a, if_pos b]; exact .cons ⟨h1, h2⟩ ih
theorem KV.keys {kvs : List (κ × V)} {vs : List (κ × Value)} (r : KV kvs vs) : kvs.map (·.1) = vs.map (·.1) := by
  unfold KV at r
  induction r with
  | nil => rfl
  | cons h t ih => rw [List.map_cons, List.map_cons, ih, h.1]
theorem KV.length {kvs : List (κ × V)} {vs : List (κ × Value)} (r : KV kvs vs) : kvs.length = vs.length := Paired.length r
end
/-! ### a tracked dict, its keys ints and texts or tuples of these -/
theorem kV_is {P : Program} {w : World} {k : Key} {u : Value} (r : RelV (kV k) u) : (mixKind P w).is k u = true := by
  cases k with
  | inl i => obtain ⟨t, e⟩ := (show ∃ t, u = Value.int i t from r); subst e; exact mixKind_int P w i t
  | inr x => obtain ⟨t, e⟩ := (show ∃ t, u = Value.str x t from r); subst e; exact mixKind_str P w x t
theorem items_are {P : Program} {w : World} : ∀ {ks : List Key} {us : List Value}, Vals (ks.map kV) us → ItemsAre (mixKind P w) ks us
  | [], _, r => by rw [List.map_nil] at r; cases r; exact .nil
  | k :: ks, _, r => by
    rw [List.map_cons] at r
    cases r with
    | cons h t => exact .cons (kV_is h) (items_are t)
/-- raw entries of a dict with tuple keys -/
abbrev KT (H : Hp) : List (List Key × V) → List (List Key × Addr × Value) → Prop := Paired fun p q => p.1 = q.1 ∧ H q.2.1 = some (.tup (p.1.map kV)) ∧ RelV p.2 q.2.2
theorem KT.val {H : Hp} {kvs : List (List Key × V)} {xs : List (List Key × Addr × Value)} (r : KT H kvs xs) (k : List Key) : RelO (valV kvs k) ((atKey xs k).map (·.2)) := by
  induction r with
  | nil => exact True.intro
  | @cons p q ps qs h t ih =>
    obtain ⟨h1, _, h2⟩ := h
    by_cases e : p.1 = k
    · have e' : q.1 = k := h1.symm.trans e
      have b : atKey (q :: qs) k = some q.2 := by simp [atKey, List.find?_cons, e']
      rw [valV_pos e, b]; exact h2
    · have e' : ¬ q.1 = k := fun z => e (h1.trans z)
      have b : atKey (q :: qs) k = atKey qs k := by simp [atKey, List.find?_cons, e']
      rw [valV_neg e, b]; exact ih
theorem KT.repl {H : Hp} {kvs : List (List Key × V)} {xs : List (List Key × Addr × Value)} (r : KT H kvs xs) (k : List Key) {y : V} {u : Value} (ry : RelV y u) :
    KT H (kvs.map fun kv => if kv.1 = k then (kv.1, y) else kv) (xs.map (putAt k u)) := by
  induction r with
  | nil => exact .nil
  | @cons p q ps qs h t ih =>
    rw [List.map_cons, List.map_cons]
    refine .cons ?_ ih
    obtain ⟨h1, h2, h3⟩ := h
    unfold putAt
    by_cases e : p.1 = k
    · rw [if_pos e, if_pos (h1.symm.trans e)]; exact ⟨h1, h2, ry⟩
    · rw [if_neg e, if_neg (fun z => e (h1.trans z))]; exact ⟨h1, h2, h3⟩
theorem KT.put {H : Hp} {kvs : List (List Key × V)} {xs : List (List Key × Addr × Value)} (r : KT H kvs xs) (k : List Key) {b : Addr} {y : V} {u : Value} (hb : H b = some (.tup (k.map kV))) (ry : RelV y u) :
    KT H (putK kvs k y) (storedH xs k b u) := by
  have e : (kvs.any fun kv => decide (kv.1 = k)) = (atKey xs k).isSome := by
    rw [valV_any, (r.val k).isSome_eq, Option.isSome_map]
  unfold putK storedH
  rw [e]
  by_cases q : (atKey xs k).isSome = true
  · rw [if_pos q, if_pos q]; exact r.repl k ry
  · rw [if_neg q, if_neg q]; exact Paired.snoc r ⟨rfl, hb, ry⟩
theorem KT.keeps {H H' : Hp} {kvs : List (List Key × V)} {xs : List (List Key × Addr × Value)} (r : KT H kvs xs) (ht : ∀ b ys, H b = some (.tup ys) → H' b = some (.tup ys)) : KT H' kvs xs :=
  Paired.mapP r fun _ _ z => ⟨z.1, ht _ _ z.2.1, z.2.2⟩
section
variable {P : Program} {w : World} {H : Hp} {h : Heap} {a : Addr}
theorem rd_of {u : HO} (ok : HOk P w H h) (e : Rd H a u) : ObjOk P w H h a u := e.ok ok
theorem dk_rd {kvs : List (Key × V)} (ok : HOk P w H h) (e : Rd H a (.dK kvs)) : kvs.length ≤ sizeLine ∧ (a == sysModules) = false ∧ ∃ vs, KV kvs vs ∧ h.DictOf (mixKind P w) a vs :=
  show ObjOk P w H h a (.dK kvs) from rd_of ok e
theorem dk_of {kvs : List (Key × V)} (ok : HOk P w H h) (e : H a = some (.dK kvs)) : kvs.length ≤ sizeLine ∧ (a == sysModules) = false ∧ ∃ vs, KV kvs vs ∧ h.DictOf (mixKind P w) a vs := dk_rd ok (.inl e)
/-- a tracked tuple of ints and texts is a key -/
theorem key_of {ks : List Key} (ok : HOk P w H h) (e : H a = some (.tup (ks.map kV))) : (tupleKind (mixKind P w)).is h ks a := by
  obtain ⟨_, its, r, o, h1, h2, n, h3⟩ := (show ObjOk P w H h a (.tup (ks.map kV)) from ok a _ e)
  exact ⟨o, its.toArray, n, h1, h2, h3, by simpa using items_are r⟩
theorem dt_rd {kvs : List (List Key × V)} (ok : HOk P w H h) (e : Rd H a (.dT kvs)) : kvs.length ≤ sizeLine ∧ (a == sysModules) = false ∧
    ∃ xs, KT H kvs xs ∧ h.DictOfH (tupleKind (mixKind P w)) a xs := by
  obtain ⟨z, y, xs, r, o, es, ep, h1, h2, h3, h4, h5⟩ := (show ObjOk P w H h a (.dT kvs) from rd_of ok e)
  refine ⟨z, y, xs, r, o, es, ep, h1, h2, h3, h4, fun x hx => ?_, h5⟩
  have all : ∀ {l : List (List Key × V)} {m : List (List Key × Addr × Value)}, KT H l m → ∀ x ∈ m, (tupleKind (mixKind P w)).is h x.1 x.2.1 := by
    intro l m q
    induction q with
    | nil => intro x hx; exact nomatch hx
    | @cons p q ps qs hq t ih =>
      intro x hx
      rcases List.mem_cons.mp hx with e | hx
      · subst e
        exact key_of ok (by rw [← hq.1]; exact hq.2.1)
      · exact ih x hx
  exact all r x hx
theorem dt_of {kvs : List (List Key × V)} (ok : HOk P w H h) (e : H a = some (.dT kvs)) : kvs.length ≤ sizeLine ∧ (a == sysModules) = false ∧
    ∃ xs, KT H kvs xs ∧ h.DictOfH (tupleKind (mixKind P w)) a xs := dt_rd ok (.inl e)
end
/-- what the dict at a holds at the key y -/
def DGet (H : Hp) (a : Addr) (y : V) (r : Option V) : Prop :=
  (∃ kvs k, Rd H a (.dK kvs) ∧ y = kV k ∧ r = valV kvs k) ∨ ∃ kvs k b, Rd H a (.dT kvs) ∧ y = .ref b ∧ H b = some (.tup (k.map kV)) ∧ r = valV kvs k
/-- the heap behind a[y] = v -/
def DPut (H : Hp) (a : Addr) (y v : V) (H' : Hp) : Prop :=
  (∃ kvs k, H a = some (.dK kvs) ∧ y = kV k ∧ kvs.length < sizeLine ∧ H' = upd H a (.dK (putK kvs k v))) ∨
  ∃ kvs k b, H a = some (.dT kvs) ∧ y = .ref b ∧ H b = some (.tup (k.map kV)) ∧ kvs.length < sizeLine ∧ H' = upd H a (.dT (putK kvs k v))
theorem DGet.k {H : Hp} {a : Addr} {kvs : List (Key × V)} {k : Key} (e : H a = some (.dK kvs)) : DGet H a (kV k) (valV kvs k) := .inl ⟨kvs, k, .inl e, rfl, rfl⟩
theorem DGet.t {H : Hp} {a b : Addr} {kvs : List (List Key × V)} {k : List Key} (e : H a = some (.dT kvs)) (eb : H b = some (.tup (k.map kV))) : DGet H a (.ref b) (valV kvs k) := .inr ⟨kvs, k, b, .inl e, rfl, eb, rfl⟩
theorem DPut.k {H : Hp} {a : Addr} {kvs : List (Key × V)} {k : Key} {v : V} (e : H a = some (.dK kvs)) (hl : kvs.length < sizeLine) : DPut H a (kV k) v (upd H a (.dK (putK kvs k v))) := .inl ⟨kvs, k, e, rfl, hl, rfl⟩
theorem DPut.t {H : Hp} {a b : Addr} {kvs : List (List Key × V)} {k : List Key} {v : V} (e : H a = some (.dT kvs)) (eb : H b = some (.tup (k.map kV))) (hl : kvs.length < sizeLine) :
    DPut H a (.ref b) v (upd H a (.dT (putK kvs k v))) := .inr ⟨kvs, k, b, e, rfl, eb, hl, rfl⟩
section
variable {X : Cx} {pins : List (Addr × Obj)} {σ : St} {H : Hp} {s : Shared} {a : Addr} {y v : V} {u r : Value} {o : Option V} {A : Around} {E : Value → Shared → Prop}
theorem Inv.big (I : Inv X pins σ H s) : sysModules < s.heap.objs.size := by
  have h : mainGlobals < s.heap.objs.size := (I.mod.glob.keeps I.bk).lt
  exact Nat.lt_trans (by decide) h
/-- d[y], there -/
theorem d_getItem {Q : Value → Shared → Prop} (hu : A.units + 1 < cLine) (I : Inv X pins σ H s) (g : DGet H a y (some v)) (ry : RelV y u) (h : ∀ w' s', Inv X pins σ H s' → RelV v w' → Q w' s') :
    wpAny (model X.prog X.w) A (getItem (.ref a) u) Q E s := by
  rcases g with ⟨kvs, k, e, ey, l⟩ | ⟨kvs, k, b, e, ey, eb, l⟩
  · subst ey
    obtain ⟨z, hd, vs, rel, dd⟩ := dk_rd I.hok e
    obtain ⟨w', hw, rw'⟩ := RelO.some_of (v := v) (o := valueAt vs k) (by rw [l]; exact rel.val k)
    exact wpAny_getItem_of (kV_is ry) dd.mapOf hw (h w' _ (I.tok _) rw')
  · subst ey
    cases (show u = Value.ref b from ry)
    obtain ⟨z, hd, xs, rel, dd⟩ := dt_rd I.hok e
    obtain ⟨w', hw, rw'⟩ := RelO.some_of (v := v) (o := (atKey xs k).map (·.2)) (by rw [l]; exact rel.val k)
    obtain ⟨p, hp, hp2⟩ := Option.map_eq_some_iff.mp hw
    refine wpAny_getItem_heap (tupleKind_room_in1 hu) (key_of I.hok eb) dd hp ?_
    rw [hp2]
    exact h w' _ (I.tok _) rw'
theorem d_notIn {Q : Value → Shared → Prop} (hu : A.units + 1 < cLine) (I : Inv X pins σ H s) (g : DGet H a y o) (ry : RelV y u) (h : ∀ s', Inv X pins σ H s' → Q (.bool (!o.isSome)) s') :
    wpAny (model X.prog X.w) A (compareOp .NotIn u (.ref a)) Q E s := by
  rcases g with ⟨kvs, k, e, ey, l⟩ | ⟨kvs, k, b, e, ey, eb, l⟩
  · subst ey
    obtain ⟨z, hd, vs, rel, dd⟩ := dk_rd I.hok e
    refine wpAny_notIn_of (kV_is ry) hd dd.mapOf ?_
    rw [← (rel.val k).isSome_eq, ← l]
    exact h _ (I.tok _)
  · subst ey
    cases (show u = Value.ref b from ry)
    obtain ⟨z, hd, xs, rel, dd⟩ := dt_rd I.hok e
    refine wpAny_notIn_heap (tupleKind_room_in1 hu) (key_of I.hok eb) hd dd ?_
    have q := (rel.val k).isSome_eq
    rw [Option.isSome_map] at q
    rw [← q, ← l]
    exact h _ (I.tok _)
/-- a dict's object is replaced -/
theorem d_write {h' : Heap} {t' : Nat} {ob : HO} (I : Inv X pins σ H s) (mu : Mut (H a)) (hs : Heap.SameBut a s.heap h') (he : ∃ q, h'.get? a = some q) (new : ObjOk X.prog X.w (upd H a ob) h' a ob) :
    Inv X pins σ (upd H a ob) { s with heap := h', toks := t' } :=
  I.write (x := a) (e := a) mu (.inl rfl) (fun b q hb z => (hs.2 b hb).trans z) he new
theorem dk_new {P : Program} {w : World} {H' : Hp} {h' : Heap} {kvs : List (Key × V)} {vs : List (Key × Value)} (z : kvs.length ≤ sizeLine) (hd : (a == sysModules) = false) (rel : KV kvs vs) (dd : h'.DictOf (mixKind P w) a vs) :
    ObjOk P w H' h' a (.dK kvs) := ⟨z, hd, vs, rel, dd⟩
/-- d[y] = v -/
theorem d_setItem {H' : Hp} {Q : Unit → Shared → Prop} (hu : A.units + 1 < cLine) (I : Inv X pins σ H s) (g : DPut H a y v H') (ry : RelV y u) (rv : RelV v r) (h : ∀ s', Inv X pins σ H' s' → Q () s') :
    wpAny (model X.prog X.w) A (setItem (.ref a) u r) Q E s := by
  rcases g with ⟨kvs, k, e, ey, l, eH⟩ | ⟨kvs, k, b, e, ey, eb, l, eH⟩
  · subst ey eH
    obtain ⟨z, hd, vs, rel, dd⟩ := dk_of I.hok e
    have hz : vs.length ≤ sizeLine := by rw [← rel.length]; exact z
    have hl : (putK kvs k v).length ≤ sizeLine := by have := length_putK kvs k v; omega
    refine wpAny_setItem_pairs (hsz := hz) (kV_is ry) dd fun h' dd' hs => h _ ?_
    have he : ∃ q, h'.get? a = some q := let ⟨q, _, _, hq, _⟩ := dd'; ⟨q, hq⟩
    exact d_write I (by rw [e]; exact True.intro) hs he (dk_new hl hd (rel.put k rv) dd')
  · subst ey eH
    cases (show u = Value.ref b from ry)
    obtain ⟨z, hd, xs, rel, dd⟩ := dt_of I.hok e
    have hz : xs.length ≤ sizeLine := by rw [← Paired.length rel]; exact z
    have hl : (putK kvs k v).length ≤ sizeLine := by have := length_putK kvs k v; omega
    refine wpAny_setItem_heap (hsz := hz) (tupleKind_room_in1 hu) (key_of I.hok eb) dd fun h' dd' hs => h _ ?_
    obtain ⟨q, es, ep, hq, h2, h3, h4, _, h5⟩ := dd'
    refine d_write I (by rw [e]; exact True.intro) hs ⟨q, hq⟩ ⟨hl, hd, _, (rel.put k eb rv).keeps fun c ys ec => ?_, q, es, ep, hq, h2, h3, h4, h5⟩
    rw [upd_ne (ne_of ec e (fun z => nomatch z))]
    exact ec
end
section
variable {X : Cx} {pins : List (Addr × Obj)} {σ : St} {H : Hp} {s : Shared} {a : Addr} {kvs : List (Key × V)} {k : Key} {u : Value} {A : Around} {E : Value → Shared → Prop}
end
/-! ### readings and rules -/
/-- the element of a subscription, not a slice -/
def NoSl (i : Expr) : Prop := ∀ ov iv, subscripted i false ov iv = operate [ov, iv] (getItem ov iv)
theorem subD_of {prog : Program} {w : World} {A : Around} {E : Value → Shared → Prop} {s : Shared} {env : Env} {value slice : Expr} {pos : Pos} {T id : String} {Q : Value → Shared → Prop}
    (hl : typeLookup (.type T) "__getitem__" = pure (some (.builtin id))) (hs : NoSl slice)
    (h : wpAny (model prog w) A (eval value env) (fun o s₁ => wpAny (model prog w) A (eval slice env) (fun i s₂ => s₂.TypeIs o T ∧ wpAny (model prog w) A (getItem o i) Q E s₂) E s₁) E s) :
    wpAny (model prog w) A (eval (.Subscript value slice pos) env) Q E s := by
  refine Subscript_ (wpAny_mono h (fun o s₁ h₁ => wpAny_mono h₁ (fun i s₂ h₂ => ?_) fun _ _ x => x) fun _ _ x => x)
  obtain ⟨hT, h₂⟩ := h₂
  unfold subscriptTail
  refine wpAny_bind ?_
  rw [getitemInPython_of_ne hT.not_modules]
  refine wpAny_bind (wpAny_specialOf hT hl ?_)
  have fin : wpAny (model prog w) A (subscripted slice false o i) (fun r s₃ => wpAny (model prog w) A (letTemporaryGo value o r >>= fun _ => pure r) Q E s₃) E s₂ := by
    rw [hs o i]
    exact wpAny_operating (wpAny_mono h₂ (fun r s₃ h₃ => wpAny_bind (wpAny_letTemporaryGo (wpAny_pure h₃))) fun _ _ x => x)
  first
    | exact wpAny_pure (wpAny_bind fin)
    | exact wpAny_bind (wpAny_pure (wpAny_bind fin))
    | exact wpAny_bind fin
theorem dict_typeIs {X : Cx} {pins : List (Addr × Obj)} {σ : St} {H : Hp} {s : Shared} {a : Addr} {y : V} {o : Option V} (I : Inv X pins σ H s) (g : DGet H a y o) : s.TypeIs (.ref a) "dict" := by
  rcases g with ⟨kvs, k, e, _, _⟩ | ⟨kvs, k, b, e, _, _, _⟩
  · obtain ⟨_, _, vs, _, dd⟩ := dk_rd I.hok e
    exact dd.typeIs
  · obtain ⟨_, _, xs, _, dd⟩ := dt_rd I.hok e
    exact dd.typeIs
/-- d[y] -/
def tDGet (td ty : TE) : TE := fun σ H Q => td σ H fun x H1 => ty σ H1 fun y H2 => ∃ a v, x = .ref a ∧ DGet H2 a y (some v) ∧ Q v H2
def tDNotIn (ty td : TE) : TE := fun σ H Q => ty σ H fun y H1 => td σ H1 fun x H2 => ∃ a o, x = .ref a ∧ DGet H2 a y o ∧ Q (.bl (!o.isSome)) H2
/-- d[y] = v -/
def sDPut (td ty tv : TE) : TS := fun D σ H => tv σ H fun v H1 => td σ H1 fun x H2 => ty σ H2 fun y H3 => ∃ a H4, x = .ref a ∧ DPut H3 a y v H4 ∧ D.nx σ H4
section
variable {X : Cx} {o i e value : Expr} {pos pos' tpos : Pos} {td ty tv : TE}
theorem pe_dget (hu : X.A.units + 1 < cLine) (ho : PE X o td) (hi : PE X i ty) (hs : NoSl i) : PE X (.Subscript o i pos) (tDGet td ty) := by
  intro pins s σ H Q I h
  refine subD_of PySem.F.slot_dict_getitem.lookup hs (thn (ho pins s σ H _ I h) fun u s1 ⟨x, H1, I1, rx, q1⟩ => thn (hi pins s1 σ H1 _ I1 q1) fun iv s2 ⟨y, H2, I2, ry, a, v, ex, g, q2⟩ => ?_)
  subst ex
  obtain rfl : u = Value.ref a := rx
  exact ⟨dict_typeIs I2 g, d_getItem hu I2 g ry fun w' s3 I3 rw' => ⟨v, H2, I3, rw', q2⟩⟩
theorem pc_dnotin (hu : X.A.units + 1 < cLine) (hi : PE X i ty) (ho : PE X o td) : PC X .NotIn i o (tDNotIn ty td) := by
  intro pins s σ H Q I h
  refine thn (hi pins s σ H _ I h) fun iv s1 ⟨y, H1, I1, ry, q1⟩ => thn (ho pins s1 σ H1 _ I1 q1) fun u s2 ⟨x, H2, I2, rx, a, ov, ex, g, q2⟩ => ?_
  subst ex
  obtain rfl : u = Value.ref a := rx
  exact d_notIn hu I2 g ry fun s3 I3 => ⟨.bl (!ov.isSome), H2, I3, rfl, q2⟩
theorem ps_dput (hu : X.A.units + 1 < cLine) (ho : PE X o td) (hi : PE X i ty) (hv : PE X value tv) (hs : swapsWith value (some (.Subscript o i pos')) pos.line X.env = pure false) :
    PS X (.Assign [.Subscript o i pos'] value pos) (sDPut td ty tv) := by
  intro pins s σ H D I h
  refine wpAny_Assign_Subscript (thn (hv pins s σ H _ I h) fun r s1 ⟨v, H1, I1, rv, q1⟩ => thn (ho pins s1 σ H1 _ I1 q1) fun u s2 ⟨x, H2, I2, rx, q2⟩ => thn (hi pins s2 σ H2 _ I2 q2) fun iv s3 ⟨y, H3, I3, ry, a, H4, ex, g, q3⟩ => ?_) hs
  subst ex
  obtain rfl : u = Value.ref a := rx
  exact d_setItem hu I3 g ry rv fun s4 I4 => ⟨σ, H4, I4, q3⟩
end
/-! ### displays -/
theorem dk_empty {P : Program} {w : World} {H : Hp} (h : Heap) (hb : sysModules < h.objs.size) : ObjOk P w H (h.push { cls := .type "dict", data := .dict #[] }) h.objs.size (.dK []) :=
  ⟨Nat.zero_le _, beq_eq_false_iff_ne.mpr (Ne.symm (Nat.ne_of_lt hb)), [], .nil, Heap.DictOf.new h⟩
/-- {}, to be a dict of the kind that is wanted -/
def tDNewK : TE := fun _ H Q => ∀ p, H p = none → Q (.ref p) (upd H p (.dK []))
section
variable {X : Cx} {pos : Pos}
theorem pe_dnewK : PE X (.Dict [] [] pos) tDNewK := fun pins s σ H Q I h =>
  wpAny_Dict_empty ⟨.ref s.heap.objs.size, _, I.laid (a := s.heap.objs.size) (o := .dK []) (t' := s.toks) (fun _ _ q => Heap.get?_push_of_some _ q) (Nat.le_refl _) (dk_empty s.heap I.big), rfl, h _ (I.hok.fresh (Nat.le_refl _))⟩
end
abbrev VV : List (V × V) → List (Value × Value) → Prop := Paired fun p q => RelV p.1 q.1 ∧ RelV p.2 q.2
def mergeK (kvs more : List (Key × V)) : List (Key × V) := more.foldl (fun acc kv => putK acc kv.1 kv.2) kvs
/-! ### methods -/
/-- a method call o.m(e) of a built-in, with one argument: what must be seen of the text -/
structure M1 (X : Cx) (o : Expr) (m : Str) (apos : Pos) (e : Expr) (cpos : Pos) : Prop where
  base : attributeBase o m X.env (eval o X.env) = eval o X.env
  few : ((backTo cpos (starEach [e] X.env)).all (fun x => !x.1) && (backToKw cpos (keywordEach [] X.env)).all (fun x => x.1.isSome)
    && decide (([e] : List Expr).length + ([] : List Keyword).length + (if ([] : List Keyword).isEmpty then 0 else 1) < 30)) = true
  line : (apos.endLine == cpos.line) = true
  trees : backTo cpos (starEach [e] X.env) = [(false, eval e X.env)]
structure M2 (X : Cx) (o : Expr) (m : Str) (apos : Pos) (e f : Expr) (cpos : Pos) : Prop where
  base : attributeBase o m X.env (eval o X.env) = eval o X.env
  few : ((backTo cpos (starEach [e, f] X.env)).all (fun x => !x.1) && (backToKw cpos (keywordEach [] X.env)).all (fun x => x.1.isSome)
    && decide (([e, f] : List Expr).length + ([] : List Keyword).length + (if ([] : List Keyword).isEmpty then 0 else 1) < 30)) = true
  line : (apos.endLine == cpos.line) = true
  trees : backTo cpos (starEach [e, f] X.env) = [(false, eval e X.env), (false, eval f X.env)]
/-- a is a dict, whatever its keys -/
def IsDc (H : Hp) (a : Addr) : Prop := (∃ kvs, Rd H a (.dK kvs)) ∨ ∃ kvs, Rd H a (.dT kvs)
theorem isDc_at {X : Cx} {pins : List (Addr × Obj)} {σ : St} {H : Hp} {s : Shared} {a : Addr} (I : Inv X pins σ H s) (d : IsDc H a) :
    s.TypeIs (.ref a) "dict" ∧ (∀ b, Value.ref a = .ref b → ∃ ob, s.heap.get? b = some ob ∧ ob.dict = none) ∧ (a == sysModules) = false := by
  rcases d with ⟨kvs, e⟩ | ⟨kvs, e⟩
  · obtain ⟨_, hd, vs, _, dd⟩ := dk_rd I.hok e
    refine ⟨dd.typeIs, fun b q => ?_, hd⟩
    cases q
    obtain ⟨ob, _, _, h1, h2, _⟩ := dd
    exact ⟨ob, h1, h2.2.1⟩
  · obtain ⟨_, hd, xs, _, dd⟩ := dt_rd I.hok e
    refine ⟨dd.typeIs, fun b q => ?_, hd⟩
    cases q
    obtain ⟨ob, _, _, h1, h2, _⟩ := dd
    exact ⟨ob, h1, h2.2.1⟩
section
variable {X : Cx} {pins : List (Addr × Obj)} {σ : St} {H : Hp} {s : Shared} {a : Addr} {y d : V} {u r : Value} {o : Option V} {A : Around} {E : Value → Shared → Prop}
/-- d.get(y, x) -/
theorem d_get2 {Q : Value → Shared → Prop} (hu : A.units + 1 < cLine) (I : Inv X pins σ H s) (g : DGet H a y o) (ry : RelV y u) (rd : RelV d r) (h : ∀ w' s', Inv X pins σ H s' → RelV (o.getD d) w' → Q w' s') :
    wpAny (model X.prog X.w) A (call (.builtin "dict.get") [.ref a, u, r]) Q E s := by
  rcases g with ⟨kvs, k, e, ey, l⟩ | ⟨kvs, k, b, e, ey, eb, l⟩
  · subst ey
    obtain ⟨z, hd, vs, rel, dd⟩ := dk_rd I.hok e
    refine call_meetsIn PySem.F.slot_dict_get dd.typeIs PySem.F.entry_dict_get (PySem.F.args_dict_get_3 _ _ _) (meets_dict_get_default (mixKind X.prog X.w) a (kV_is ry) hd r) ⟨_, dd.mapOf, h _ _ (I.tok _) ?_⟩
    rw [l]
    exact (rel.val k).getD rd
  · subst ey
    cases (show u = Value.ref b from ry)
    obtain ⟨z, hd, xs, rel, dd⟩ := dt_rd I.hok e
    refine call_meetsIn PySem.F.slot_dict_get dd.typeIs PySem.F.entry_dict_get (PySem.F.args_dict_get_3 _ _ _) (meetsH_dict_get_default (tupleKind (mixKind X.prog X.w)) a b hd r) ⟨tupleKind_room_in1 hu, k, xs, key_of I.hok eb, dd, h _ _ (I.tok _) ?_⟩
    rw [l]
    exact (rel.val k).getD rd
end
def tDGet2 (td ty tx : TE) : TE := fun σ H Q => td σ H fun x H1 => ∃ a, x = .ref a ∧ IsDc H1 a ∧ ty σ H1 fun y H2 => tx σ H2 fun z H3 => ∃ o, DGet H3 a y o ∧ Q (o.getD z) H3
section
variable {X : Cx} {o e f : Expr} {apos cpos : Pos} {td ty tx : TE}
theorem pe_dget2 (hu : X.A.units + 1 < cLine) (ho : PE X o td) (he : PE X e ty) (hf : PE X f tx) (m : M2 X o "get" apos e f cpos) : PE X (.Call (.Attribute o "get" apos) [e, f] [] cpos) (tDGet2 td ty tx) := by
  intro pins s σ H Q I h
  refine wpAny_Call_method m.base m.few m.line PySem.F.plainAttrs_dict PySem.F.slot_dict_get PySem.F.type_dict_get (thn (ho pins s σ H _ I h) fun u s1 ⟨x, H1, I1, rx, a, ex, d, q1⟩ => ?_)
  subst ex
  obtain rfl : u = Value.ref a := rx
  obtain ⟨t1, t2, _⟩ := isDc_at I1 d
  refine ⟨t1, t2, ?_⟩
  rw [m.trees]
  refine Calls.callWith_builtin rfl (Calls.evalArgs_plain (Calls.spliced_cons (thn (he pins s1 σ H1 _ I1 q1) fun iv s2 ⟨y, H2, I2, ry, q2⟩ =>
    Calls.spliced_cons (thn (hf pins s2 σ H2 _ I2 q2) fun fv s3 ⟨z, H3, I3, rz, ov, g, q3⟩ => Calls.spliced_nil ?_))))
  exact d_get2 hu I3 g ry rz fun w' s4 I4 rw' => ⟨_, H3, I4, rw', q3⟩
end
/-! ### dict(d): a copy -/
section
variable {X : Cx} {pins : List (Addr × Obj)} {σ : St} {H : Hp} {s : Shared} {a : Addr} {kvs : List (Key × V)} {A : Around} {E : Value → Shared → Prop}
end
section
variable {X : Cx} {pins : List (Addr × Obj)} {σ : St} {H : Hp} {s : Shared} {a : Addr} {y : V} {u : Value} {A : Around} {E : Value → Shared → Prop}
end
end L2
namespace L2
open PySem PySem.Spec PyProof.Rows
section
variable {X : Cx}
end
/-! ### a dict's pairs: keys that differ -/
section
variable {κ : Type} [DecidableEq κ]
theorem valV_in {kvs : List (κ × V)} {k : κ} {v : V} (h : valV kvs k = some v) : k ∈ kvs.map (·.1) := by
  have q : (kvs.any fun kv => decide (kv.1 = k)) = true := by
    rw [valV_any, h]
    all_goals rfl
  obtain ⟨p, hp, e⟩ := List.any_eq_true.mp q
  exact List.mem_map.mpr ⟨p, hp, of_decide_eq_true e⟩
end
end L2
/-! MY OWN ADDITIONS: dict(list of pairs) -/
namespace L2
open PySem PySem.Spec PyProof.Rows
theorem noKeys {prog : Program} {w : World} {A : Around} {E : Value → Shared → Prop} {s : Shared} {a : Addr} {o : Obj} {xs : Array Value} {k : Nat} {Q : Option Value → Shared → Prop}
    (hx : s.heap.get? a = some o) (hc : o.cls = .type "list") (hdat : o.data = .seq xs k) (hd : o.dict = none) (hA : A.handled = none)
    (h : ∀ h' tk e, Heap.NewExcOf s.heap h' e "AttributeError" → Q none { s with heap := h', toks := tk }) :
    wpAny (model prog w) A (getAttr? (.ref a) "keys") Q E s := by
  obtain ⟨c, dct, dat, sl⟩ := o
  simp only at hc hdat hd
  subst hc hdat hd
  obtain ⟨hp, g, d, tk, os⟩ := s
  have hT : ∀ tk', (⟨hp, g, d, tk', os⟩ : Shared).TypeIs (.ref a) "list" := fun _ => ⟨_, hx, rfl⟩
  have f1 := sub_AttributeError
  have f3 := PySem.F.slot_list_getattribute.lookup
  have f4 := PySem.F.slot_list_getattribute.bind (.ref a)
  have f5 := am_list_getattr_none
  have hmiss : typeLookup (.type "list") "keys" = pure none := by rw [typeLookup_type, builtinLookup_eq_fast]; kernel_rfl
  unfold getAttr? getAttrBy? getAttrBy
  repeat (any_goals (first | assumption | exact hT _ | ((with_reducible show wpAny _ _ (call (Value.builtin "list.__getattribute__") _ _) _ _ _); refine call_meets PySem.F.slot_list_getattribute (hT _) am_entry_list_getattribute (PySem.F.args_list_getattribute_2 _ _) (meets_getattribute_miss_list a xs k sl "keys" _ hmiss (by decide +kernel) (by decide)) ⟨hx, hA, fun h' tk' e hx' => ?_⟩) | wp_step))
  obtain ⟨t', u', he⟩ := hx'.there
  show wpAny _ _ (getattributeRaised _ _ _ _ _ _ _) _ _ _
  unfold getattributeRaised
  repeat (any_goals (first | assumption | wp_step))
  exact h _ _ _ hx'.of
end L2
namespace L2
open PySem PySem.Spec PyProof.Rows
theorem entry_dul : entryFor table "dict.update.loop" = some Builtin.«dict.update.loop» := entryFor_of_tree (by kernel_rfl)
theorem plain_dul : plainId "dict.update.loop" = true := by decide +kernel
theorem paired_at {α β : Type} {F : α → β → Prop} : ∀ {l1 : List α} {l2 : List β}, Paired F l1 l2 → ∀ i (h1 : i < l1.length) (h2 : i < l2.length), F l1[i] l2[i]
  | _, _, .cons h _, 0, _, _ => h
  | _, _, .cons _ t, i + 1, h1, h2 => paired_at t i (by simpa using h1) (by simpa using h2)
theorem mergeK_len : ∀ (ps : List (Key × V)), (mergeK [] ps).length ≤ ps.length := by
  have key : ∀ (ps acc : List (Key × V)), (mergeK acc ps).length ≤ acc.length + ps.length := by
    intro ps
    induction ps with
    | nil => intro acc; exact Nat.le_refl _
    | cons p r ih =>
      intro acc
      have z := ih (putK acc p.1 p.2)
      have z2 : (putK acc p.1 p.2).length ≤ acc.length + 1 := length_putK acc p.1 p.2
      show (mergeK (putK acc p.1 p.2) r).length ≤ _
      rw [List.length_cons]
      omega
  intro ps
  have z := key ps []
  simpa using z
section
variable {X : Cx} {pins : List (Addr × Obj)} {σ : St} {H : Hp} {s : Shared} {a it l : Addr} {ys : List V} {its : List Value} {ps : List (Key × V)}
/-- the items are pairs -/
def PrsAt (K : PySem.W.Frag) (H : Hp) (ps : List (Key × V)) (ys : List V) : Prop := Paired (fun (p : Key × V) (y : V) => ∃ t, y = .ref t ∧ SqT K H t [kV p.1, p.2]) ps ys
theorem dp_loop {A : Around} {R : Result → Shared → Prop} (I : Inv X pins σ H s) (hh : A.handled = none) (hl : s.heap.IsList l its.toArray) (rv : Vals ys its) (hP : PrsAt X.K H ps ys) (hlen : ps.length ≤ 100000)
    (ha : s.heap.objs.size ≤ a) (hit0 : s.heap.objs.size ≤ it) (hne : a ≠ it)
    (fin : ∀ h' tk vs, (∀ b o, s.heap.get? b = some o → h'.get? b = some o) → h'.DictOf (mixKind X.prog X.w) a vs → KV (mergeK [] ps) vs → R (.ok (.ret .none)) { s with heap := h', toks := tk }) :
    ∀ (k i : Nat) (h' : Heap) (tk : Nat) (vs : List (Key × Value)), its.length - i = k → i ≤ its.length → (∀ b o, s.heap.get? b = some o → h'.get? b = some o) → h'.IsListIter it l i → h'.DictOf (mixKind X.prog X.w) a vs → KV (mergeK [] (ps.take i)) vs →
      wpAny (model X.prog X.w) A.in1 (Builtin.«dict.update.loop» ⟨[.ref a, .ref it, rawInt (i : Int), .none], []⟩) (fun fin s' => match fin with | .done f => R (.ok f) s' | .again c' => c'.quiet = true ∧ codeAny (model X.prog X.w) A c' R s') (fun e s' => R (.error e) s') { s with heap := h', toks := tk } := by
  have hl1 := rv.length
  have hl2 := Paired.length hP
  have lt : ∀ b o, s.heap.get? b = some o → b ≠ a ∧ b ≠ it := fun b o q => by
    exact ⟨Nat.ne_of_lt (Nat.lt_of_lt_of_le (Heap.lt_size q) ha), Nat.ne_of_lt (Nat.lt_of_lt_of_le (Heap.lt_size q) hit0)⟩
  obtain ⟨ol, hol, hlr⟩ := id hl
  intro k
  induction k with
  | zero =>
    intro i h' tk vs hk hi kp hit hD hK
    obtain rfl : i = its.length := by omega
    unfold Builtin.«dict.update.loop»
    dsimp only [rawInt]
    refine wpAny_bind (wpAny_pyNext_list_end (s := { s with heap := h', toks := tk }) (A := A.in1) hh hit (show h'.IsList l its.toArray from ⟨ol, kp _ _ hol, hlr⟩) (by simp) fun h2 hext => ?_)
    dsimp only
    have hD2 : h2.DictOf (mixKind X.prog X.w) a vs := hD.extBut hext hne
    show wpAny _ _ (Builtin.Dict.addKeywords a [] >>= _) _ _ _
    refine wpAny_bind (wpAny_pure (wpAny_pure ?_))
    exact fin h2 tk vs (fun b o q => hext b o (lt b o q).2 (kp b o q)) hD2 (by rw [← hl1, ← hl2, List.take_length] at hK; exact hK)
  | succ k ih =>
    intro i h' tk vs hk hi kp hit hD hK
    have hi1 : i < its.length := by omega
    have hip : i < ps.length := by omega
    unfold Builtin.«dict.update.loop»
    dsimp only [rawInt]
    refine wpAny_bind (wpAny_pyNext_list_item (s := { s with heap := h', toks := tk }) (x := its[i]) hit (show h'.IsList l its.toArray from ⟨ol, kp _ _ hol, hlr⟩) (by simp [hi1]) fun h1 hit1' hsb => ?_)
    dsimp only
    have kp1 : ∀ b o, s.heap.get? b = some o → h1.get? b = some o := fun b o q => (hsb.2 b (lt b o q).2).trans (kp b o q)
    have I1 : Inv X pins σ H { s with heap := h1, toks := tk } := I.kept kp1
    have hD1 : h1.DictOf (mixKind X.prog X.w) a vs := hD.sameBut hsb hne
    obtain ⟨u1, f1, q1⟩ := rv.get (i := i) (x := ys[i]'(by omega)) (by simp)
    have eu : its[i] = u1 := (List.getElem?_eq_some_iff.mp f1).2
    obtain ⟨t, et, hq⟩ : ∃ t, ys[i]'(by omega) = .ref t ∧ SqT X.K H t [kV (ps[i]).1, (ps[i]).2] := by
      have z := hP
      unfold PrsAt at z
      exact paired_at z i hip (by omega)
    rw [et] at q1
    have eu2 : its[i] = .ref t := by rw [eu]; exact q1
    rw [eu2]
    obtain ⟨itt, rt, pl, _⟩ := I1.tuple hq
    obtain ⟨uk, uv, rfl, rk, rvv⟩ := vals2 rt
    obtain ⟨ot, hot, hct, n, hdt⟩ := id pl
    have hTt : Shared.TypeIs { s with heap := h1, toks := tk } (.ref t) "tuple" := ⟨ot, hot, hct⟩
    refine wpAny_bind (wpAny_holding (wpAny_bind ?_))
    have hpi : ∀ {E' : Value → Shared → Prop} {Q' : List Value → Shared → Prop}, Q' [uk, uv] { s with heap := h1, toks := tk } → wpAny (model X.prog X.w) A.in1 (Builtin.Dict.pairItems (.ref t)) Q' E' { s with heap := h1, toks := tk } := fun {E' Q'} hq' => by
      unfold Builtin.Dict.pairItems
      refine wpAny_bind (wpAny_typeOf hTt ?_)
      rw [if_pos (by decide)]
      refine wpAny_bind (wpAny_seqItems hot hdt (wpAny_pure ?_))
      exact hq'
    refine wpAny_tryCatch (hpi ?_)
    dsimp only
    have hsz : vs.length ≤ sizeLine := by
      have z := hK.length
      have z2 := mergeK_len (ps.take i)
      rw [List.length_take] at z2
      exact Nat.le_trans (show vs.length ≤ 100000 by omega) (show 100000 ≤ sizeLine by rw [sizeLine_eq]; decide)
    refine wpAny_holding (wpAny_dictSet_pairs (hsz := hsz) (kV_is rk) hD1 fun h2 hD2 hsb2 => ?_)
    have kp2 : ∀ b o, s.heap.get? b = some o → h2.get? b = some o := fun b o q => (hsb2.2 b (lt b o q).1).trans (kp1 b o q)
    have hit2 : h2.IsListIter it l (i + 1) := by
      obtain ⟨o, ho, r⟩ := hit1'
      exact ⟨o, (hsb2.2 it (Ne.symm hne)).trans ho, r⟩
    refine wpAny_pure ?_
    refine ⟨plainId_quiet plain_dul _, codeAny_builtin entry_dul ?_⟩
    rw [Around.under_plainId plain_dul _]
    refine ih (i + 1) h2 (tk + 1) _ (by omega) (by omega) kp2 hit2 hD2 ?_
    rw [List.take_succ_eq_append_getElem hip]
    unfold mergeK
    rw [List.foldl_append]
    exact hK.put _ rvv
/-- dict(list of pairs) -/
theorem call_dict_pairs (hc : X.calm = true) : CallR X (.type "dict") (fun xs H Q => ∃ (l : Addr) (ys : List V) (ps : List (Key × V)), xs = [.ref l] ∧ H l = some (.lst ys) ∧ PrsAt X.K H ps ys ∧ ps.length ≤ 100000 ∧ ∀ d, H d = none → Q (.ref d) (upd H d (.dK (mergeK [] ps)))) := by
  intro pins s σ H xs us Q I r h
  obtain ⟨l, ys, ps, rfl, hl, hP, hlen, q⟩ := h
  obtain ⟨u, rfl, ru⟩ := vals1 r
  cases (show u = Value.ref l from ru)
  have hh := I.ok.hd hc
  obtain ⟨hz, its, n, rv, hg⟩ := (show ObjOk X.prog X.w H s.heap l (.lst ys) from I.hok l _ hl)
  have hf : H s.heap.objs.size = none := I.hok.fresh (Nat.le_refl _)
  refine callType_codes (Q₁ := fun obj s₁ => obj = .ref s.heap.objs.size ∧ s₁ = { s with heap := s.heap.push { cls := .type "dict", data := .dict #[] } }) PySem.F.kt_called_dict (PySem.F.kt_typeCall_dict_1 _) PySem.F.entry_dict_init (kt_code_dict_new _ ⟨rfl, rfl⟩) ?_
  rintro obj s₁ ⟨rfl, rfl⟩
  have hnew : (s.heap.push { cls := .type "dict", data := .dict #[] }).DictOf (mixKind X.prog X.w) s.heap.objs.size [] := Heap.DictOf.new s.heap
  refine ⟨hnew.typeIs, PySem.F.args_dict_init_2 _ _, ?_⟩
  unfold Builtin.«dict.__init__»
  refine wpAny_bind ?_
  unfold Builtin.Dict.selfAndRest
  refine wpAny_bind (wpAny_notOrdered_dict hnew.typeIs ?_)
  show wpAny _ _ (pure (s.heap.objs.size, [Value.ref l])) _ _ _
  refine wpAny_pure ?_
  show wpAny _ _ (Builtin.Dict.updateFrom "dict.__init__" s.heap.objs.size (.ref l) [] .none) _ _ _
  unfold Builtin.Dict.updateFrom
  have hg1 : (s.heap.push { cls := .type "dict", data := .dict #[] }).get? l = some { cls := .type "list", data := .seq its.toArray n } := Heap.get?_push_of_some _ hg
  refine wpAny_bind (wpAny_typeOf (T := "list") ⟨_, hg1, rfl⟩ ?_)
  rw [if_pos (by decide)]
  refine wpAny_bind (noKeys hg1 rfl rfl rfl hh fun h1 tk1 e hx => ?_)
  rw [if_pos (show (none : Option Value).isNone = true from rfl)]
  refine wpAny_bind (wpAny_rule ?_)
  have hg2 := hx.keeps _ _ hg1
  have hd2 : h1.DictOf (mixKind X.prog X.w) s.heap.objs.size [] := by
    obtain ⟨o, es, ep, ho, r⟩ := hnew
    exact ⟨o, es, ep, hx.keeps _ _ ho, r⟩
  have hsz1 : s.heap.objs.size < h1.objs.size := by
    obtain ⟨o, es, ep, ho, r⟩ := hd2
    exact Heap.lt_size ho
  have hL1 : h1.IsList l its.toArray := ⟨_, hg2, rfl, n, rfl⟩
  refine wpAny_bind (wpAny_pyIter_list (s := { s with heap := h1, toks := tk1 }) hL1 ?_)
  refine wpAny_pure ⟨plainId_quiet plain_dul _, codeAny_builtin entry_dul ?_⟩
  rw [Around.under_plainId plain_dul _]
  have kp0 : ∀ b o, s.heap.get? b = some o → (h1.push { cls := .type "list_iterator", data := .fields #[.ref l, .int 0 0] }).get? b = some o := fun b o q => Heap.get?_push_of_some _ (hx.keeps _ _ (Heap.get?_push_of_some _ q))
  refine dp_loop (A := X.A.in1) (its := its) (a := s.heap.objs.size) (it := h1.objs.size) I hh ⟨_, hg, rfl, n, rfl⟩ rv hP hlen (Nat.le_refl _) (Nat.le_of_lt hsz1) (Nat.ne_of_lt hsz1) (fun h' tk vs kp hD hK => ?_)
    its.length 0 (h1.push { cls := .type "list_iterator", data := .fields #[.ref l, .int 0 0] }) tk1 [] (by omega) (Nat.zero_le _) kp0 ⟨_, Heap.get?_push_size _ rfl, rfl, rfl⟩ (hd2.push _) .nil
  refine ⟨rfl, .ref s.heap.objs.size, upd H s.heap.objs.size (.dK (mergeK [] ps)), I.laid (t' := tk) kp (Nat.le_refl _) ?_, rfl, q _ hf⟩
  refine ⟨Nat.le_trans (mergeK_len ps) (Nat.le_trans hlen (by rw [sizeLine_eq]; decide)), ?_, vs, hK, hD⟩
  exact beq_eq_false_iff_ne.mpr (Nat.ne_of_gt I.big)
end
end L2
namespace L2
open PySem PySem.Spec PyProof.Rows
section
variable {X : Cx}
theorem is_kV {P : Program} {w : World} {k : Key} {u : Value} (r : (mixKind P w).is k u = true) : RelV (kV k) u := by
  rcases keyIs_shape (k := k) (v := u) r with ⟨i, t, rfl, rfl⟩ | ⟨x, t, rfl, rfl⟩
  · exact ⟨t, rfl⟩
  · exact ⟨t, rfl⟩
theorem vals_of : ∀ {xs : List V} {us : List Value}, us.length = xs.length → (∀ (j : Nat) (v : Value), us[j]? = some v → ∃ x, xs[j]? = some x ∧ RelV x v) → Vals xs us
  | [], [], _, _ => .nil
  | x :: xs, u :: us, hl, h => by
    obtain ⟨y, e, r⟩ := h 0 u rfl
    cases e
    exact .cons r (vals_of (by simpa using hl) fun j v e => h (j + 1) v (by simpa using e))
/-- list(dict): its keys -/
theorem call_list_dict (hc : X.calm = true) : CallR X (.type "list") (fun xs H Q => ∃ (d : Addr) (kvs : List (Key × V)), xs = [.ref d] ∧ H d = some (.dK kvs) ∧ ∀ l, H l = none → Q (.ref l) (upd H l (.lst (kvs.map fun p => kV p.1)))) := by
  intro pins s σ H xs us Q I r h
  obtain ⟨d, kvs, rfl, hd, q⟩ := h
  obtain ⟨u, rfl, ru⟩ := vals1 r
  cases (show u = Value.ref d from ru)
  obtain ⟨hz, lo, vs, hK, hD⟩ := dk_of I.hok hd
  obtain ⟨o, es, ep, ho, rr⟩ := hD
  have hf : H s.heap.objs.size = none := I.hok.fresh (Nat.le_refl _)
  have hl := hK.length
  refine PySem.W.kdl_call (PySem.W.kdl_dict (knd := mixKind X.prog X.w) (kvs := vs) (ep := ep) lo) (I.ok.hd hc) ⟨o, es, ho, rr⟩ (by omega) fun h' tk acc c' kp hg hacc => ?_
  refine ⟨.ref s.heap.objs.size, upd H s.heap.objs.size (.lst (kvs.map fun p => kV p.1)), I.laid (t' := tk) kp (Nat.le_refl _) ?_, rfl, q _ hf⟩
  refine ⟨by rw [List.length_map]; exact hz, acc.toList, c', vals_of ?_ fun j v e => ?_, by simpa using hg⟩
  · rw [List.length_map, Array.length_toList, hacc.1, hl]
  · obtain ⟨k, x, e1, e2⟩ := hacc.2 j v (by rw [← Array.getElem?_toList]; exact e)
    have ek : (kvs.map (·.1))[j]? = some k := by
      rw [hK.keys, List.getElem?_map, e1]
      rfl
    rw [List.getElem?_map] at ek
    cases e3 : kvs[j]? with
    | none => rw [e3] at ek; cases ek
    | some p =>
      rw [e3] at ek
      have e4 : p.1 = k := Option.some.inj ek
      exact ⟨kV p.1, by rw [List.getElem?_map, e3]; rfl, by rw [e4]; exact is_kV e2⟩
/-- tuple.index of a flat value -/
def rTIndex (K : PySem.W.Frag) : V → List V → Hp → VK → Prop := fun x vs H Q => ∃ (p : Addr) (xs : List V) (y : V) (j : Nat), x = .ref p ∧ vs = [y] ∧ SqT K H p xs ∧ flatV y = true ∧ xs.all flatV = true ∧ (∃ z, xs[j]? = some z ∧ eqV z y = true) ∧ (∀ m z, m < j → xs[m]? = some z → eqV z y = false) ∧ Q (.int j) H
theorem mt_index : MtR X "tuple.index" (rTIndex X.K) := by
  intro pins s σ H x vs v us Q I rx rv h
  obtain ⟨p, xs, y, j, rfl, rfl, hq, fy, fx, ⟨z, ez, hz⟩, hno, q⟩ := h
  cases (show v = Value.ref p from rx)
  obtain ⟨u, rfl, ru⟩ := vals1 rv
  obtain ⟨its, r, pl, _⟩ := I.tuple hq
  obtain ⟨⟨oc, od, dat, sl⟩, ho, hc, n, hd⟩ := id pl
  simp only at hc hd
  subst hc hd
  have hl := r.length
  have hj : j < its.toArray.size := by
    have := (List.getElem?_eq_some_iff.mp ez).1
    simp
    omega
  have at_ : ∀ m z, xs[m]? = some z → ∃ w, its[m]? = some w ∧ RelV z w := fun m z e => r.get e
  have flat : ∀ z ∈ xs, flatV z = true := List.all_eq_true.mp fx
  refine call_meets PySem.F.slot_tuple_index pl.typeIs PySem.F.entry_tuple_index (PySem.F.args_tuple_index_2 _ _) (tuple_indexAt p its.toArray n od sl u (eqU y) j hj ?_ ?_) ⟨ho, fun w hw => mem_eqAt ru fy r fx w (by simpa using hw), ⟨.int j, H, I.tok _, ⟨_, rfl⟩, q⟩⟩
  · obtain ⟨w, ew, rw'⟩ := at_ j z ez
    have e : its.toArray[j] = w := by
      have := (List.getElem?_eq_some_iff.mp ew).2
      simpa using this
    rw [e, eqU_of rw' (flat z (List.mem_of_getElem? ez))]
    exact hz
  · intro m hm hmj
    have hm' : m < xs.length := by simp at hm; omega
    obtain ⟨w, ew, rw'⟩ := at_ m xs[m] (List.getElem?_eq_getElem hm')
    have e : its.toArray[m] = w := by
      have := (List.getElem?_eq_some_iff.mp ew).2
      simpa using this
    rw [e, eqU_of rw' (flat _ (List.getElem_mem hm'))]
    exact hno m _ hmj (List.getElem?_eq_getElem hm')
end
end L2
namespace K02
open PySem
/-! ### pieces of a text, as lists of codes -/
abbrev aSmall : Str := "abcdefghijklmnopqrstuvwxyz"
abbrev aGreat : Str := "ABCDEFGHIJKLMNOPQRSTUVWXYZ"
abbrev aFig : Str := "0123456789"
def isAl (c : Nat) : Bool := decide (c ∈ aSmall.cps.toList) || (decide (c ∈ aGreat.cps.toList) || decide (c ∈ aFig.cps.toList))
def isMark (c : Nat) : Bool := c == 40 || (c == 41 || c == 44)
def shut (cur : List Nat) (r : List (List Nat)) : List (List Nat) := if cur = [] then r else cur :: r
def toksF : List Nat → List Nat → List (List Nat)
  | [], cur => shut cur []
  | c :: r, cur => if isAl c = true then toksF r (cur ++ [c]) else shut cur (if c = 32 then toksF r [] else [c] :: toksF r [])
def toks (l : List Nat) : List (List Nat) := toksF l []
theorem toksF_name : ∀ (n r cur : List Nat), n.all isAl = true → toksF (n ++ r) cur = toksF r (cur ++ n)
  | [], r, cur, _ => by simp
  | c :: n, r, cur, h => by
    rw [List.all_cons, Bool.and_eq_true] at h
    rw [List.cons_append]
    show (if isAl c = true then toksF (n ++ r) (cur ++ [c]) else _) = _
    rw [if_pos h.1, toksF_name n r _ h.2, List.append_assoc]
    rfl
/-- no name goes on at its head -/
def Stops : List Nat → Prop
  | [] => True
  | c :: _ => isAl c = false
theorem toksF_stop {r cur : List Nat} (hs : Stops r) (hc : cur ≠ []) : toksF r cur = cur :: toks r := by
  cases r with
  | nil =>
    show shut cur [] = cur :: shut [] []
    unfold shut
    rw [if_neg hc, if_pos rfl]
  | cons c r =>
    have hs' : isAl c = false := hs
    show (if isAl c = true then _ else shut cur _) = cur :: (if isAl c = true then _ else shut [] _)
    rw [hs', if_neg Bool.false_ne_true, if_neg Bool.false_ne_true]
    unfold shut
    rw [if_neg hc, if_pos rfl]
theorem toks_name {n r : List Nat} (hn : n.all isAl = true) (h0 : n ≠ []) (hs : Stops r) : toks (n ++ r) = n :: toks r := by
  unfold toks
  rw [toksF_name n r [] hn, List.nil_append, toksF_stop hs h0]
  rfl
theorem al_blank : isAl 32 = false := by decide +kernel
theorem al_open : isAl 40 = false := by decide +kernel
theorem al_shut : isAl 41 = false := by decide +kernel
theorem al_comma : isAl 44 = false := by decide +kernel
theorem toks_blank (r : List Nat) : toks (32 :: r) = toks r := by
  show (if isAl 32 = true then toksF r ([] ++ [32]) else shut [] (if (32 : Nat) = 32 then toksF r [] else [32] :: toksF r [])) = toksF r []
  rw [al_blank, if_neg Bool.false_ne_true, if_pos rfl]
  rfl
theorem toks_mark {c : Nat} (hc : isMark c = true) (r : List Nat) : toks (c :: r) = [c] :: toks r := by
  have e : c = 40 ∨ c = 41 ∨ c = 44 := by
    unfold isMark at hc
    simpa using hc
  have ha : isAl c = false := by
    rcases e with e | e | e <;> rw [e]
    · exact al_open
    · exact al_shut
    · exact al_comma
  have hb : c ≠ 32 := by omega
  show (if isAl c = true then _ else shut [] (if c = 32 then toksF r [] else [c] :: toksF r [])) = _
  rw [ha, if_neg Bool.false_ne_true, if_neg hb]
  rfl
theorem toks_blanks : ∀ (k : Nat) (r : List Nat), toks (List.replicate k 32 ++ r) = toks r
  | 0, r => rfl
  | k + 1, r => by
    rw [List.replicate_succ, List.cons_append, toks_blank, toks_blanks k r]
theorem stops_blanks (k : Nat) {r : List Nat} (h : Stops r) : Stops (List.replicate k 32 ++ r) := by
  cases k with
  | zero => exact h
  | succ k => exact al_blank
/-! ### the loop of pieces -/
/-- the length of the name at the head -/
def nameLen (l : List Nat) : Nat := (l.takeWhile isAl).length
theorem toks_step_name {l : List Nat} (h : nameLen l ≠ 0) : toks l = l.take (nameLen l) :: toks (l.drop (nameLen l)) := by
  have e : l = l.takeWhile isAl ++ l.dropWhile isAl := (List.takeWhile_append_dropWhile).symm
  have et : l.take (nameLen l) = l.takeWhile isAl := by
    unfold nameLen
    conv => lhs; arg 2; rw [e]
    rw [List.take_left']
    rfl
  have ed : l.drop (nameLen l) = l.dropWhile isAl := by
    unfold nameLen
    conv => lhs; arg 2; rw [e]
    rw [List.drop_left']
    rfl
  rw [et, ed]
  conv => lhs; rw [e]
  refine toks_name ?_ ?_ ?_
  · exact List.all_takeWhile
  · intro z
    unfold nameLen at h
    rw [z] at h
    exact h rfl
  · cases q : l.dropWhile isAl with
    | nil => trivial
    | cons c r =>
      have z := List.head_dropWhile_not (p := isAl) (l := l) (by rw [q]; simp)
      simp only [q, List.head_cons] at z
      exact z
theorem nameLen_zero {c : Nat} {r : List Nat} (h : nameLen (c :: r) = 0) : isAl c = false := by
  unfold nameLen at h
  rw [List.takeWhile_cons] at h
  cases q : isAl c with
  | false => rfl
  | true => rw [q] at h; simp at h
/-! ### arguments -/
def nameC (p : List Nat) : Bool := decide (1 ≤ p.length) && (decide (p.length ≤ 12) && p.all isAl)
def argsL : List (List Nat) → Option (List (List Nat) × Nat)
  | n :: m :: r => if nameC n = true then (if m = [41] then some ([n], 2) else if m = [44] then (argsL r).map fun q => (n :: q.1, q.2 + 2) else none) else none
  | _ => none
def between : List (List Nat) → List (List Nat)
  | [] => []
  | [a] => [a, [41]]
  | a :: r => a :: [44] :: between r
theorem argsL_between : ∀ (as : List (List Nat)), as ≠ [] → (∀ a ∈ as, nameC a = true) → argsL (between as) = some (as, (between as).length)
  | [], h, _ => absurd rfl h
  | [a], _, hn => by
    show (if nameC a = true then (if ([41] : List Nat) = [41] then some ([a], 2) else _) else none) = _
    rw [if_pos (hn a (by simp)), if_pos rfl]
    rfl
  | a :: b :: r, _, hn => by
    have ih := argsL_between (b :: r) (by simp) fun x hx => hn x (List.mem_cons_of_mem _ hx)
    show (if nameC a = true then (if ([44] : List Nat) = [41] then _ else if ([44] : List Nat) = [44] then (argsL (between (b :: r))).map (fun q => (a :: q.1, q.2 + 2)) else none) else none) = _
    rw [if_pos (hn a (by simp)), if_neg (by decide), if_pos rfl, ih]
    rfl
end K02
/-! ### books: what a text tells, how it lies in the memory -/
namespace Bk
open PySem L2 K02
abbrev Cs := List Nat
/-- a text by its codes -/
abbrev S (p : Cs) : Str := ⟨p.toArray⟩
abbrev tx (p : Cs) : V := .str (S p)
theorem S_codes (p : Cs) : (S p).cps.toList = p := by simp
theorem S_of (x : Str) : S x.cps.toList = x := by cases x; simp
theorem S_len (p : Cs) : (S p).length = p.length := by simp [Str.length]
theorem len_is (x : Str) : x.cps.toList.length = x.length := by simp [Str.length]
theorem S_inj {a b : Cs} (h : S a = S b) : a = b := by
  have e := congrArg (fun s : Str => s.cps.toList) h
  simpa using e
theorem tx_inj {a b : Cs} (h : tx a = tx b) : a = b := by
  have z : S a = S b := by injection h
  exact S_inj z
theorem tx_dec (a b : Cs) : decide (tx a = tx b) = decide (a = b) := by
  rw [decide_eq_decide]
  exact ⟨tx_inj, fun e => by rw [e]⟩
/-- one fact, one kind, one look, one rule -/
structure Fc where
  k : Cs
  as : List Cs
structure Kd where
  n : Cs
  c : Nat
  l : Bool
structure Lk where
  same : Bool
  l : Cs
  r : Cs
structure Rl where
  title : Cs
  take : List Fc
  keep : List Fc
  looks : List Lk
  put : List Fc
  tell : List (Cs × Cs)
/-- nothing that came since H0 is lost, and tuples stay -/
structure Kp (H0 H H' : Hp) : Prop where
  new : ∀ b o, H0 b = none → H b = some o → H' b = some o
  tup : ∀ b xs, H b = some (.tup xs) → H' b = some (.tup xs)
  frz : ∀ b o u, H b = some (.frz o u) → H' b = some (.frz o u)
  dom : ∀ b, H' b = none → H b = none
theorem Kp.refl {H0 H : Hp} : Kp H0 H H := ⟨fun _ _ _ h => h, fun _ _ h => h, fun _ _ _ h => h, fun _ h => h⟩
theorem Kp.trans {H0 H H1 H2 : Hp} (a : Kp H0 H H1) (b : Kp H0 H1 H2) : Kp H0 H H2 :=
  ⟨fun c o n h => b.new c o n (a.new c o n h), fun c xs h => b.tup c xs (a.tup c xs h), fun c o u h => b.frz c o u (a.frz c o u h), fun c h => a.dom c (b.dom c h)⟩
theorem Kp.same {H0 H H' : Hp} (s : Same H H') : Kp H0 H H' := ⟨fun b o _ h => s b o h, fun b xs h => s b _ h, fun b o u h => s b _ h, fun b h => by
  cases e : H b with
  | none => rfl
  | some o => rw [s b o e] at h; cases h⟩
/-- a thing that stood at H0 and is no tuple is written -/
theorem Kp.upd {H0 H : Hp} {l : Addr} {o o' u0 : HO} (h0 : H0 l = some u0) (h : H l = some o) (nt : ∀ xs, o ≠ .tup xs) (nf : ∀ ob u, o ≠ .frz ob u) : Kp H0 H (upd H l o') := by
  refine ⟨fun b u n e => ?_, fun b xs e => ?_, fun b ob u e => ?_, fun b e => ?_⟩
  · rw [upd_ne (fun z => by rw [z, h0] at n; cases n)]; exact e
  · rw [upd_ne (fun z => by rw [z, h] at e; exact nt xs (Option.some.inj e))]; exact e
  · rw [upd_ne (fun z => by rw [z, h] at e; exact nf ob u (Option.some.inj e))]; exact e
  · by_cases z : b = l
    · rw [z, upd_same] at e; cases e
    · rw [upd_ne z] at e; exact e
theorem Kp.older {H0 H1 H H' : Hp} (k : Kp H0 H H') (d : ∀ b, H1 b = none → H0 b = none) : Kp H1 H H' := ⟨fun b o n h => k.new b o (d b n) h, k.tup, k.frz, k.dom⟩
theorem SqT.keep {K : PySem.W.Frag} {H0 H H' : Hp} (k : Kp H0 H H') {a : Addr} {xs : List V} (h : SqT K H a xs) : SqT K H' a xs := by
  rcases h with (h | ⟨o, h⟩) | h
  · exact .inl (.inl (k.tup _ _ h))
  · exact .inl (.inr ⟨o, k.frz _ _ _ h⟩)
  · exact .inr h
/-- a fact, a kind, a pair in the memory -/
def Fact (K : PySem.W.Frag) (H : Hp) (f : Fc) (v : V) : Prop := ∃ t t2, v = .ref t ∧ SqT K H t [tx f.k, .ref t2] ∧ SqT K H t2 (f.as.map tx)
def Kind (K : PySem.W.Frag) (H : Hp) (k : Kd) (v : V) : Prop := ∃ t, v = .ref t ∧ SqT K H t [tx k.n, .int k.c, .bl k.l]
def Pair (K : PySem.W.Frag) (H : Hp) (p : Cs × Cs) (v : V) : Prop := ∃ t, v = .ref t ∧ SqT K H t [tx p.1, tx p.2]
theorem Fact.keep {K : PySem.W.Frag} {H0 H H' : Hp} {f : Fc} {v : V} (k : Kp H0 H H') (h : Fact K H f v) : Fact K H' f v := by
  obtain ⟨t, t2, e, h1, h2⟩ := h
  exact ⟨t, t2, e, SqT.keep k h1, SqT.keep k h2⟩
theorem Kind.keep {K : PySem.W.Frag} {H0 H H' : Hp} {f : Kd} {v : V} (k : Kp H0 H H') (h : Kind K H f v) : Kind K H' f v := by
  obtain ⟨t, e, h1⟩ := h
  exact ⟨t, e, SqT.keep k h1⟩
theorem Pair.keep {K : PySem.W.Frag} {H0 H H' : Hp} {p : Cs × Cs} {v : V} (k : Kp H0 H H') (h : Pair K H p v) : Pair K H' p v := by
  obtain ⟨t, e, h1⟩ := h
  exact ⟨t, e, SqT.keep k h1⟩
/-- a list, made since H0, of such things -/
def Lst (α : Type) (R : Hp → α → V → Prop) (H0 H : Hp) (v : V) (xs : List α) : Prop := ∃ l vs, v = .ref l ∧ H0 l = none ∧ H l = some (.lst vs) ∧ Paired (R H) xs vs
theorem Lst.keep {α : Type} {R : Hp → α → V → Prop} {H0 H H' : Hp} {v : V} {xs : List α} (k : Kp H0 H H') (hR : ∀ a u, R H a u → R H' a u) (h : Lst α R H0 H v xs) : Lst α R H0 H' v xs := by
  obtain ⟨l, vs, e, n, h1, h2⟩ := h
  exact ⟨l, vs, e, n, k.new _ _ n h1, L2.Paired.mapP h2 hR⟩
theorem Lst.older {α : Type} {R : Hp → α → V → Prop} {H0 H1 H : Hp} {v : V} {xs : List α} (d : ∀ b, H1 b = none → H0 b = none) (h : Lst α R H1 H v xs) : Lst α R H0 H v xs := by
  obtain ⟨l, vs, e, n, h1, h2⟩ := h
  exact ⟨l, vs, e, d l n, h1, h2⟩
/-- an instance, made since H0, of the class at C -/
def Ins (C : Addr) (H0 H : Hp) (v : V) (F : List (Str × V) → Prop) : Prop := ∃ a dx fs, v = .ref a ∧ H0 a = none ∧ H a = some (.ins C dx fs) ∧ F fs
/-- the three classes of a text -/
structure Cl where
  same : Addr
  unlike : Addr
  rule : Addr
  book : Addr
def Cl.look (c : Cl) (b : Bool) : Addr := if b = true then c.same else c.unlike
def LookO (c : Cl) (H0 H : Hp) (k : Lk) (v : V) : Prop := Ins (c.look k.same) H0 H v fun fs => fs.lookup ("left" : Str) = some (tx k.l) ∧ fs.lookup ("right" : Str) = some (tx k.r) ∧ fs.lookup ("holds" : Str) = none ∧ fs.lookup ("word" : Str) = none
theorem LookO.keep {c : Cl} {H0 H H' : Hp} {x : Lk} {v : V} (k : Kp H0 H H') (h : LookO c H0 H x v) : LookO c H0 H' x v := by
  obtain ⟨a, dx, fs, e, n, h1, h2⟩ := h
  exact ⟨a, dx, fs, e, n, k.new _ _ n h1, h2⟩
def great (x : Cs) : Bool := decide (x.headD 0 ∈ aGreat.cps.toList)
/-- each once, in the order in which they first stand there -/
def once : List Cs → List Cs → List Cs
  | [], acc => acc
  | x :: r, acc => once r (if x ∈ acc then acc else acc ++ [x])
def opens (fs : List Fc) : List Cs := once ((fs.flatMap (·.as)).filter great) []
def Facts (K : PySem.W.Frag) := Lst Fc (Fact K)
def Pairs (K : PySem.W.Frag) := Lst (Cs × Cs) (Pair K)
def Kinds (K : PySem.W.Frag) := Lst Kd (Kind K)
def Texts (H0 H : Hp) (v : V) (xs : List Cs) : Prop := ∃ l, v = .ref l ∧ H0 l = none ∧ H l = some (.lst (xs.map tx))
def Looks (c : Cl) (H0 H : Hp) (v : V) (xs : List Lk) : Prop := ∃ l vs, v = .ref l ∧ H0 l = none ∧ H l = some (.lst vs) ∧ Paired (LookO c H0 H) xs vs
structure RuleF (K : PySem.W.Frag) (c : Cl) (H0 H : Hp) (r : Rl) (fs : List (Str × V)) : Prop where
  title : fs.lookup ("title" : Str) = some (tx r.title)
  taken : ∃ v, fs.lookup ("taken" : Str) = some v ∧ Facts K H0 H v r.take
  kept : ∃ v, fs.lookup ("kept" : Str) = some v ∧ Facts K H0 H v r.keep
  looks : ∃ v, fs.lookup ("looks" : Str) = some v ∧ Looks c H0 H v r.looks
  given : ∃ v, fs.lookup ("given" : Str) = some v ∧ Facts K H0 H v r.put
  told : ∃ v, fs.lookup ("told" : Str) = some v ∧ Pairs K H0 H v r.tell
  names : ∃ v, fs.lookup ("names" : Str) = some v ∧ Texts H0 H v (opens (r.take ++ r.keep))
  calls : fs.lookup ("calls" : Str) = none
def RuleO (K : PySem.W.Frag) (c : Cl) (H0 H : Hp) (r : Rl) (v : V) : Prop := Ins c.rule H0 H v (RuleF K c H0 H r)
theorem Texts.keep {H0 H H' : Hp} {v : V} {xs : List Cs} (k : Kp H0 H H') (h : Texts H0 H v xs) : Texts H0 H' v xs := by
  obtain ⟨l, e, n, h1⟩ := h
  exact ⟨l, e, n, k.new _ _ n h1⟩
theorem Looks.keep {c : Cl} {H0 H H' : Hp} {v : V} {xs : List Lk} (k : Kp H0 H H') (h : Looks c H0 H v xs) : Looks c H0 H' v xs := by
  obtain ⟨l, vs, e, n, h1, h2⟩ := h
  exact ⟨l, vs, e, n, k.new _ _ n h1, L2.Paired.mapP h2 fun _ _ z => z.keep k⟩
theorem Facts.keep {K : PySem.W.Frag} {H0 H H' : Hp} {v : V} {xs : List Fc} (k : Kp H0 H H') (h : Facts K H0 H v xs) : Facts K H0 H' v xs := Lst.keep k (fun _ _ z => z.keep k) h
theorem Pairs.keep {K : PySem.W.Frag} {H0 H H' : Hp} {v : V} {xs : List (Cs × Cs)} (k : Kp H0 H H') (h : Pairs K H0 H v xs) : Pairs K H0 H' v xs := Lst.keep k (fun _ _ z => z.keep k) h
theorem Kinds.keep {K : PySem.W.Frag} {H0 H H' : Hp} {v : V} {xs : List Kd} (k : Kp H0 H H') (h : Kinds K H0 H v xs) : Kinds K H0 H' v xs := Lst.keep k (fun _ _ z => z.keep k) h
theorem RuleF.keep {K : PySem.W.Frag} {c : Cl} {H0 H H' : Hp} {r : Rl} {fs : List (Str × V)} (k : Kp H0 H H') (h : RuleF K c H0 H r fs) : RuleF K c H0 H' r fs := by
  obtain ⟨h1, ⟨v2, e2, h2⟩, ⟨v3, e3, h3⟩, ⟨v4, e4, h4⟩, ⟨v5, e5, h5⟩, ⟨v6, e6, h6⟩, ⟨v7, e7, h7⟩, h8⟩ := h
  exact ⟨h1, ⟨v2, e2, h2.keep k⟩, ⟨v3, e3, h3.keep k⟩, ⟨v4, e4, h4.keep k⟩, ⟨v5, e5, h5.keep k⟩, ⟨v6, e6, h6.keep k⟩, ⟨v7, e7, h7.keep k⟩, h8⟩
theorem RuleO.keep {K : PySem.W.Frag} {c : Cl} {H0 H H' : Hp} {r : Rl} {v : V} (k : Kp H0 H H') (h : RuleO K c H0 H r v) : RuleO K c H0 H' r v := by
  obtain ⟨a, dx, fs, e, n, h1, h2⟩ := h
  exact ⟨a, dx, fs, e, n, k.new _ _ n h1, h2.keep k⟩
/-- a list of rules -/
def Rules (K : PySem.W.Frag) (c : Cl) (H0 H : Hp) (v : V) (xs : List Rl) : Prop := ∃ l vs, v = .ref l ∧ H0 l = none ∧ H l = some (.lst vs) ∧ Paired (RuleO K c H0 H) xs vs
/-- a book -/
structure BookF (K : PySem.W.Frag) (c : Cl) (H0 H : Hp) (ks : List Kd) (rs : List Rl) (fs : List (Str × V)) : Prop where
  kinds : ∃ v, fs.lookup ("kinds" : Str) = some v ∧ Kinds K H0 H v ks
  rules : ∃ v, fs.lookup ("rules" : Str) = some v ∧ Rules K c H0 H v rs
def BookO (K : PySem.W.Frag) (c : Cl) (H0 H : Hp) (ks : List Kd) (rs : List Rl) (v : V) : Prop := Ins c.book H0 H v (BookF K c H0 H ks rs)
theorem Rules.keep {K : PySem.W.Frag} {c : Cl} {H0 H H' : Hp} {v : V} {xs : List Rl} (k : Kp H0 H H') (h : Rules K c H0 H v xs) : Rules K c H0 H' v xs := by
  obtain ⟨l, vs, e, n, h1, h2⟩ := h
  exact ⟨l, vs, e, n, k.new _ _ n h1, L2.Paired.mapP h2 fun _ _ z => z.keep k⟩
theorem BookO.keep {K : PySem.W.Frag} {c : Cl} {H0 H H' : Hp} {ks : List Kd} {rs : List Rl} {v : V} (k : Kp H0 H H') (h : BookO K c H0 H ks rs v) : BookO K c H0 H' ks rs v := by
  obtain ⟨a, dx, fs, e, n, h1, ⟨v2, e2, h2⟩, ⟨v3, e3, h3⟩⟩ := h
  exact ⟨a, dx, fs, e, n, k.new _ _ n h1, ⟨v2, e2, h2.keep k⟩, ⟨v3, e3, h3.keep k⟩⟩
/-! ### the pieces that write them -/
def smallC (p : Cs) : Bool := nameC p && decide (p.headD 0 ∈ aSmall.cps.toList)
inductive FactP : List Cs → Fc → Prop
  | bare {k : Cs} (hk : smallC k = true) : FactP [k] ⟨k, []⟩
  | empty {k : Cs} (hk : smallC k = true) : FactP [k, [40], [41]] ⟨k, []⟩
  | args {k : Cs} {as : List Cs} (hk : smallC k = true) (h0 : as ≠ []) (h : ∀ a ∈ as, nameC a = true) : FactP (k :: [40] :: between as) ⟨k, as⟩
inductive RowP : List Cs → List Fc → Prop
  | one {ps : List Cs} {f : Fc} (h : FactP ps f) : RowP ps [f]
  | more {ps r : List Cs} {f : Fc} {fs : List Fc} (h : FactP ps f) (t : RowP r fs) : RowP (ps ++ [44] :: r) (f :: fs)
def partedA (m : Cs) : List Cs → List (List Cs) → List (List Cs)
  | [], rows => rows
  | p :: r, rows => partedA m r (if p = m then rows ++ [[]] else rows.dropLast ++ [rows.getLastD [] ++ [p]])
def glue (m : Cs) : List (List Cs) → List Cs
  | [] => []
  | [q] => q
  | q :: r => q ++ m :: glue m r
theorem partedA_run {m : Cs} : ∀ (q rest : List Cs) (done : List (List Cs)) (cur : List Cs), m ∉ q → partedA m (q ++ rest) (done ++ [cur]) = partedA m rest (done ++ [cur ++ q])
  | [], rest, done, cur, _ => by rw [List.nil_append, List.append_nil]
  | p :: q, rest, done, cur, h => by
    have hp : p ≠ m := fun e => h (by rw [e]; exact List.mem_cons_self)
    have hq : m ∉ q := fun z => h (List.mem_cons_of_mem _ z)
    show partedA m (q ++ rest) (if p = m then _ else (done ++ [cur]).dropLast ++ [(done ++ [cur]).getLastD [] ++ [p]]) = _
    rw [if_neg hp, List.dropLast_concat, show (done ++ [cur]).getLastD [] = cur by simp, partedA_run q rest done (cur ++ [p]) hq, List.append_assoc, List.singleton_append]
theorem partedA_glue {m : Cs} : ∀ (qs : List (List Cs)) (done : List (List Cs)), qs ≠ [] → (∀ q ∈ qs, m ∉ q) → partedA m (glue m qs) (done ++ [[]]) = done ++ qs
  | [], _, h, _ => absurd rfl h
  | [q], done, _, h => by
    have e := partedA_run q [] done [] (h q (by simp))
    rw [List.append_nil] at e
    show partedA m q _ = _
    rw [e]
    rfl
  | q :: q2 :: r, done, _, h => by
    have e := partedA_run q (m :: glue m (q2 :: r)) done [] (h q (by simp))
    show partedA m (q ++ m :: glue m (q2 :: r)) _ = _
    rw [e]
    show partedA m (glue m (q2 :: r)) (if m = m then (done ++ [[] ++ q]) ++ [[]] else _) = _
    rw [if_pos rfl, partedA_glue (q2 :: r) (done ++ [[] ++ q]) (by simp) fun x hx => h x (List.mem_cons_of_mem _ hx), List.nil_append, List.append_assoc, List.singleton_append]
end Bk
namespace Bk
open PySem L2 K02
/-! ### promises of the readers, for texts that are in order -/
def nameB (x : Str) : Bool := decide ((1 : Int) ≤ x.length) && (decide ((x.length : Int) ≤ 12) && x.cps.toList.all isAl)
theorem nameB_S (p : List Nat) : nameB (S p) = nameC p := by
  unfold nameB nameC
  rw [S_len, S_codes]
  have e1 : decide ((1 : Int) ≤ (p.length : Int)) = decide (1 ≤ p.length) := by
    rw [decide_eq_decide]; omega
  have e2 : decide ((p.length : Int) ≤ 12) = decide (p.length ≤ 12) := by
    rw [decide_eq_decide]; omega
  rw [e1, e2]
theorem head_at {x : Str} (h : 1 ≤ x.length) : atI x.cps.toList (0 : Int) = some (x.cps.toList.headD 0) := by
  have e := len_is x
  cases q : x.cps.toList with
  | nil => rw [q] at e; simp at e; omega
  | cons a r => exact atI_nat (j := 0) rfl
theorem name_pos {x : Str} (h : nameB x = true) : 1 ≤ x.length := by
  unfold nameB at h
  simp only [Bool.and_eq_true, decide_eq_true_eq] at h
  omega
theorem sz {n : Nat} (h : n ≤ 100000) : n ≤ sizeLine := by rw [sizeLine_eq]; omega
theorem szl {n : Nat} (h : n ≤ 100000) : n < sizeLine := by rw [sizeLine_eq]; omega
theorem same_new {H : Hp} {p : Addr} (h : H p = none) (o : HO) : Same H (upd H p o) := fun b u q => by rw [upd_ne (ne_of_none q h)]; exact q
theorem Same.upd_new {H H' : Hp} {p : Addr} (e : Same H H') (h : H p = none) (o : HO) : Same H (upd H' p o) := fun b u q => by
  rw [upd_ne (ne_of_none q h)]
  exact e b u q
theorem mid {a b : Int} (h : 0 < b) : 0 ≤ a % b ∧ a % b < b := ⟨Int.emod_nonneg a (by omega), Int.emod_lt_of_pos a h⟩
theorem getD_get {l : List Nat} {i : Nat} (h : i < l.length) : l[i]? = some (l.getD i 0) := by
  rw [List.getD_eq_getElem?_getD, List.getElem?_eq_getElem h]
  rfl
theorem drop_get {l : List Nat} {i : Nat} (h : i < l.length) : l.drop i = l.getD i 0 :: l.drop (i + 1) := by
  rw [List.drop_eq_getElem_cons h, List.getD_eq_getElem?_getD, List.getElem?_eq_getElem h]
  rfl
theorem str_at {x : Str} {i : Int} (h0 : 0 ≤ i) (h1 : i < x.length) : atI x.cps.toList i = some (x.cps.toList.getD i.toNat 0) := by
  have hl := len_is x
  have hk : i.toNat < x.cps.toList.length := by omega
  have z := atI_nat (xs := x.cps.toList) (j := i.toNat) (v := x.cps.toList.getD i.toNat 0) (getD_get hk)
  rw [show ((i.toNat : Nat) : Int) = i by omega] at z
  exact z
def smallB (x : Str) : Bool := nameB x && decide (x.cps.toList.headD 0 ∈ aSmall.cps.toList)
theorem smallB_S (p : List Nat) : smallB (S p) = smallC p := by
  unfold smallB smallC
  rw [nameB_S, S_codes]
def spSign : Sp := fun vs H Q _ => ∃ c, vs = [.str ⟨#[c]⟩] ∧ Q (.bl (isAl c)) H
def spBl (f : Str → Bool) : Sp := fun vs H Q _ => ∃ x, vs = [.str x] ∧ x.length ≤ 20000 ∧ ∀ H', Same H H' → Q (.bl (f x)) H'
def spGreat : Sp := fun vs H Q _ => ∃ p : Cs, vs = [tx p] ∧ p ≠ [] ∧ p.length ≤ 1000 ∧ Q (.bl (great p)) H
def spEnd : Sp := fun vs H Q _ => ∃ (x : Str) (p : Nat), vs = [.str x, .int p] ∧ x.length ≤ 20000 ∧ p ≤ x.length ∧ Q (.int ((p + nameLen (x.cps.toList.drop p) : Nat) : Int)) H
def okS (m : Str) (c : Nat) : Bool := isAl c || (decide (c ∈ m.cps.toList) || c == 32)
def spPieces : Sp := fun vs H Q _ => ∃ x m, vs = [.str x, .str m] ∧ x.length ≤ 20000 ∧ 32 ∉ m.cps.toList ∧ x.cps.toList.all (okS m) = true ∧ ∀ (l : Addr) (H' : Hp), Same H H' → H l = none → H' l = some (.lst ((toks x.cps.toList).map tx)) → Q (.ref l) H'
def spPiece : Sp := fun vs H Q _ => ∃ (l : Addr) (ps : List Cs) (p : Nat), vs = [.ref l, .int p] ∧ H l = some (.lst (ps.map tx)) ∧ ps.length ≤ 20000 ∧ Q (tx (ps.getD p [])) H
def spArgs : Sp := fun vs H Q _ => ∃ (l : Addr) (ps : List Cs) (p n : Nat) (as : List Cs), vs = [.ref l, .int p] ∧ H l = some (.lst (ps.map tx)) ∧ ps.length ≤ 20000 ∧
  ((as = [] ∧ n = 1 ∧ ps.getD p [] = [41]) ∨ (ps.getD p [] ≠ [41] ∧ argsL (ps.drop p) = some (as, n))) ∧
  ∀ (t t2 : Addr) (H' : Hp), Same H H' → H' t = some (.tup [.ref t2, .int ((p + n : Nat) : Int)]) → H' t2 = some (.tup (as.map tx)) → Q (.ref t) H'
/-- the fact at the head of pieces: kind, arguments, how many pieces -/
inductive FactAt : List Cs → Cs → List Cs → Nat → Prop
  | bare {k : Cs} {r : List Cs} (hk : smallC k = true) (h : r.getD 0 [] ≠ [40]) : FactAt (k :: r) k [] 1
  | empty {k : Cs} {r : List Cs} (hk : smallC k = true) : FactAt (k :: [40] :: [41] :: r) k [] 3
  | args {k : Cs} {r as : List Cs} {n : Nat} (hk : smallC k = true) (h0 : r.getD 0 [] ≠ [41]) (h : argsL r = some (as, n)) : FactAt (k :: [40] :: r) k as (n + 2)
def spFactAt : Sp := fun vs H Q _ => ∃ (l : Addr) (ps : List Cs) (p n : Nat) (k : Cs) (as : List Cs), vs = [.ref l, .int p] ∧ H l = some (.lst (ps.map tx)) ∧ ps.length ≤ 20000 ∧ FactAt (ps.drop p) k as n ∧
  ∀ (t t1 t2 : Addr) (H' : Hp), Same H H' → H' t = some (.tup [.ref t1, .int ((p + n : Nat) : Int)]) → H' t1 = some (.tup [tx k, .ref t2]) → H' t2 = some (.tup (as.map tx)) → Q (.ref t) H'
theorem nameLen_le (l : List Nat) : nameLen l ≤ l.length := by
  unfold nameLen
  exact (List.takeWhile_sublist isAl).length_le
theorem nameLen_cons (c : Nat) (r : List Nat) : nameLen (c :: r) = if isAl c = true then nameLen r + 1 else 0 := by
  unfold nameLen
  rw [List.takeWhile_cons]
  split <;> simp
theorem toksF_len : ∀ (l cur : List Nat), (toksF l cur).length ≤ l.length + (if cur = [] then 0 else 1)
  | [], cur => by
    show (shut cur []).length ≤ _
    unfold shut
    by_cases h : cur = [] <;> simp [h]
  | c :: r, cur => by
    show (if isAl c = true then toksF r (cur ++ [c]) else shut cur (if c = 32 then toksF r [] else [c] :: toksF r [])).length ≤ _
    have e1 := toksF_len r (cur ++ [c])
    have e2 := toksF_len r []
    rw [if_neg (by simp)] at e1
    rw [if_pos rfl] at e2
    by_cases ha : isAl c = true
    · rw [if_pos ha, List.length_cons]
      omega
    · rw [if_neg ha, List.length_cons]
      unfold shut
      by_cases h : cur = [] <;> by_cases h2 : c = 32 <;> simp [h, h2] <;> omega
theorem toks_len (l : List Nat) : (toks l).length ≤ l.length := by
  have e := toksF_len l []
  rw [if_pos rfl] at e
  exact e
/-- a sign that is neither a name's nor a blank is a piece -/
theorem toks_other {c : Nat} (ha : isAl c = false) (hb : c ≠ 32) (r : List Nat) : toks (c :: r) = [c] :: toks r := by
  show (if isAl c = true then toksF r ([] ++ [c]) else shut [] (if c = 32 then toksF r [] else [c] :: toksF r [])) = _
  rw [ha, if_neg (by simp), if_neg hb]
  rfl
theorem slice_S {x : Str} {p n : Nat} (h : p + n ≤ x.length) : Txt.slice x (some (p : Int)) (some ((p + n : Nat) : Int)) = S ((x.cps.toList.drop p).take n) := by
  have e := slice_mid (z := x) (i := p) (j := ((p + n : Nat) : Int)) (by omega) (by omega) (by omega)
  rw [← S_of (Txt.slice x (some (p : Int)) (some ((p + n : Nat) : Int))), e, show ((p : Int)).toNat = p by omega, show (((p + n : Nat) : Int) - (p : Int)).toNat = n by omega]
theorem getD_drop {l : List Cs} {p i : Nat} : (l.drop p).getD i [] = l.getD (p + i) [] := by
  rw [List.getD_eq_getElem?_getD, List.getD_eq_getElem?_getD, List.getElem?_drop]
theorem argsL_inv {l as : List Cs} {n : Nat} (h : argsL l = some (as, n)) : ∃ nm mk r, l = nm :: mk :: r ∧ nameC nm = true ∧ ((mk = [41] ∧ as = [nm] ∧ n = 2) ∨ (mk = [44] ∧ ∃ as' n', argsL r = some (as', n') ∧ as = nm :: as' ∧ n = n' + 2)) := by
  match l, h with
  | nm :: mk :: r, h =>
    refine ⟨nm, mk, r, rfl, ?_⟩
    have h' : (if nameC nm = true then (if mk = [41] then some ([nm], 2) else if mk = [44] then (argsL r).map (fun q => (nm :: q.1, q.2 + 2)) else none) else none) = some (as, n) := h
    by_cases hn : nameC nm = true
    · rw [if_pos hn] at h'
      refine ⟨hn, ?_⟩
      by_cases h1 : mk = [41]
      · rw [if_pos h1] at h'
        injection h' with h'
        injection h' with a b
        exact .inl ⟨h1, a.symm, b.symm⟩
      · rw [if_neg h1] at h'
        by_cases h2 : mk = [44]
        · rw [if_pos h2] at h'
          cases q : argsL r with
          | none => rw [q] at h'; cases h'
          | some z =>
            rw [q] at h'
            injection h' with h'
            injection h' with a b
            exact .inr ⟨h2, z.1, z.2, rfl, a.symm, b.symm⟩
        · rw [if_neg h2] at h'
          cases h'
    · rw [if_neg hn] at h'
      cases h'
  | [_], h => exact nomatch h
  | [], h => exact nomatch h
theorem tx_ne {a b : Cs} (h : a ≠ b) : decide (tx a = tx b) = false := decide_eq_false fun z => h (tx_inj z)
def piecesW (x m : Str) (l : Addr) (H : Hp) (n : Nat) (σ : St) (H' : Hp) : Prop := ∃ (p : Nat) (done : List Cs) (o3 o4 : Option V), n = x.length - p ∧ σ = [some (.str x), some (.str m), some (.ref l), some (.int p), o3, o4] ∧ p ≤ x.length ∧ Same H H' ∧ H' l = some (.lst (done.map tx)) ∧ done ++ toks (x.cps.toList.drop p) = toks x.cps.toList
def argsW (l ln : Addr) (ps as : List Cs) (e : Nat) (H : Hp) (m : Nat) (σ : St) (H' : Hp) : Prop := ∃ (p n : Nat) (done as' : List Cs) (o3 o4 : Option V), m = (ps.drop p).length ∧ σ = [some (.ref l), some (.int p), some (.ref ln), o3, o4] ∧ Same H H' ∧ H' l = some (.lst (ps.map tx)) ∧ H' ln = some (.lst (done.map tx)) ∧ argsL (ps.drop p) = some (as', n) ∧ done ++ as' = as ∧ p + n = e ∧ done.length + (ps.drop p).length ≤ 20000
theorem nameC_len {p : Cs} (h : nameC p = true) : 1 ≤ p.length ∧ p.length ≤ 12 := by
  unfold nameC at h
  simp only [Bool.and_eq_true, decide_eq_true_eq] at h
  exact ⟨h.1, h.2.1⟩
theorem smallC_len {p : Cs} (h : smallC p = true) : 1 ≤ p.length ∧ p.length ≤ 12 := by
  unfold smallC at h
  simp only [Bool.and_eq_true] at h
  exact nameC_len h.1
/-- what stands behind a fact is no bracket -/
theorem FactP.at {ps : List Cs} {f : Fc} (h : FactP ps f) {r : List Cs} (hr : r.getD 0 [] ≠ [40]) : FactAt (ps ++ r) f.k f.as ps.length := by
  cases h with
  | bare hk => exact .bare hk hr
  | empty hk => exact .empty hk
  | @args k as hk h0 h =>
    have e := argsL_between as h0 h
    have e2 : ∀ (as : List Cs) (r : List Cs), as ≠ [] → (∀ a ∈ as, nameC a = true) → argsL (between as ++ r) = some (as, (between as).length) := by
      intro as
      induction as with
      | nil => intro r z; exact absurd rfl z
      | cons a t ih =>
        intro r _ ha
        cases t with
        | nil =>
          show argsL (a :: [41] :: r) = some ([a], 2)
          show (if nameC a = true then (if ([41] : Cs) = [41] then some ([a], 2) else _) else none) = _
          rw [if_pos (ha a (by simp)), if_pos rfl]
        | cons b t =>
          have ih' := ih r (by simp) fun x hx => ha x (List.mem_cons_of_mem _ hx)
          show argsL (a :: [44] :: (between (b :: t) ++ r)) = some (a :: b :: t, (between (b :: t)).length + 2)
          show (if nameC a = true then (if ([44] : Cs) = [41] then some ([a], 2) else if ([44] : Cs) = [44] then (argsL (between (b :: t) ++ r)).map (fun q => (a :: q.1, q.2 + 2)) else none) else none) = _
          rw [if_pos (ha a (by simp)), if_neg (by decide), if_pos rfl, ih']
          rfl
    have e3 := e2 as r h0 h
    have n41 : (between as ++ r).getD 0 [] ≠ [41] := by
      cases as with
      | nil => exact absurd rfl h0
      | cons a t =>
        have ha := h a (by simp)
        have hh : (between (a :: t) ++ r).getD 0 [] = a := by cases t <;> rfl
        rw [hh]
        intro z
        rw [z] at ha
        exact absurd ha (by decide +kernel)
    have z := FactAt.args hk n41 e3
    show FactAt (k :: [40] :: (between as ++ r)) k as ((between as).length + 2)
    exact z
theorem FactP.pos {ps : List Cs} {f : Fc} (h : FactP ps f) : 1 ≤ ps.length := by
  cases h <;> simp
theorem RowP.pos {ps : List Cs} {fs : List Fc} (h : RowP ps fs) : 1 ≤ ps.length := by
  cases h with
  | one h => exact h.pos
  | more h t => rw [List.length_append]; have := h.pos; omega
/-- the head of a row: one fact, then the end or a comma and a row -/
theorem RowP.head {ps : List Cs} {fs : List Fc} (h : RowP ps fs) : ∃ (f : Fc) (n : Nat) (fs' : List Fc), fs = f :: fs' ∧ FactAt ps f.k f.as n ∧ ((n = ps.length ∧ fs' = []) ∨ (n < ps.length ∧ ps.getD n [] = [44] ∧ RowP (ps.drop (n + 1)) fs')) := by
  cases h with
  | @one _ f h =>
    have z := h.at (r := []) (by simp)
    rw [List.append_nil] at z
    exact ⟨f, ps.length, [], rfl, z, .inl ⟨rfl, rfl⟩⟩
  | @more ps r f fs h t =>
    refine ⟨f, ps.length, fs, rfl, h.at (by simp), .inr ⟨by simp, ?_, ?_⟩⟩
    · rw [List.getD_eq_getElem?_getD, List.getElem?_append_right (Nat.le_refl _)]
      simp
    · have e : (ps ++ [44] :: r).drop (ps.length + 1) = r := by
        rw [← List.drop_drop, List.drop_left]
        rfl
      rw [e]
      exact t
def spRow (K : PySem.W.Frag) : Sp := fun vs H Q _ => ∃ (l : Addr) (ps : List Cs) (fs : List Fc), vs = [.ref l] ∧ H l = some (.lst (ps.map tx)) ∧ ps.length ≤ 20000 ∧ RowP ps fs ∧ ∀ v H', Same H H' → Facts K H H' v fs → Q v H'
def rowW (K : PySem.W.Frag) (l lf : Addr) (ps : List Cs) (fs : List Fc) (H : Hp) (m : Nat) (σ : St) (H' : Hp) : Prop := ∃ (p : Nat) (done rest : List Fc) (vs : List V) (o3 : Option V), m = (ps.drop p).length ∧ σ = [some (.ref l), some (.ref lf), some (.int p), o3] ∧ Same H H' ∧ H' l = some (.lst (ps.map tx)) ∧ H' lf = some (.lst vs) ∧ Paired (Fact K H') done vs ∧ RowP (ps.drop p) rest ∧ done ++ rest = fs ∧ done.length + (ps.drop p).length ≤ 20000
end Bk
namespace Bk
open PySem L2 K02
/-! ### lines -/
def joinN : List Cs → Cs
  | [] => []
  | [a] => a
  | a :: r => a ++ 10 :: joinN r
def cutN : Cs → List Cs
  | [] => [[]]
  | c :: r => if c = 10 then [] :: cutN r else match cutN r with
    | [] => [[c]]
    | q :: qs => (c :: q) :: qs
theorem cutN_ne : ∀ p, cutN p ≠ []
  | [] => by simp [cutN]
  | c :: r => by
    unfold cutN
    split
    · simp
    · split <;> simp
theorem cutN_run : ∀ (a r : Cs), 10 ∉ a → cutN (a ++ 10 :: r) = a :: cutN r
  | [], r, _ => by
    show (if 10 = 10 then [] :: cutN r else _) = _
    rw [if_pos rfl]
  | c :: a, r, h => by
    have hc : c ≠ 10 := fun e => h (by rw [e]; exact List.mem_cons_self)
    have ih := cutN_run a r fun z => h (List.mem_cons_of_mem _ z)
    show (if c = 10 then [] :: cutN (a ++ 10 :: r) else match cutN (a ++ 10 :: r) with | [] => [[c]] | q :: qs => (c :: q) :: qs) = _
    rw [if_neg hc, ih]
theorem cutN_one : ∀ (a : Cs), 10 ∉ a → cutN a = [a]
  | [], _ => rfl
  | c :: a, h => by
    have hc : c ≠ 10 := fun e => h (by rw [e]; exact List.mem_cons_self)
    have ih := cutN_one a fun z => h (List.mem_cons_of_mem _ z)
    show (if c = 10 then [] :: cutN a else match cutN a with | [] => [[c]] | q :: qs => (c :: q) :: qs) = _
    rw [if_neg hc, ih]
theorem cutN_join : ∀ (ls : List Cs), ls ≠ [] → (∀ l ∈ ls, 10 ∉ l) → cutN (joinN ls) = ls
  | [], h, _ => absurd rfl h
  | [a], _, h => cutN_one a (h a (by simp))
  | a :: b :: r, _, h => by
    show cutN (a ++ 10 :: joinN (b :: r)) = _
    rw [cutN_run a _ (h a (by simp)), cutN_join (b :: r) (by simp) fun l hl => h l (List.mem_cons_of_mem _ hl)]
theorem join_S10 : ∀ (ls : List Str), (Str.join ⟨#[10]⟩ ls).cps.toList = joinN (ls.map fun s => s.cps.toList)
  | [] => rfl
  | [a] => rfl
  | a :: b :: r => by
    have ih := join_S10 (b :: r)
    show ((a ++ (⟨#[10]⟩ : Str)) ++ Str.join ⟨#[10]⟩ (b :: r)).cps.toList = _
    rw [PySem.W.KT.app_list, PySem.W.KT.app_list, ih]
    show (a.cps.toList ++ [10]) ++ _ = a.cps.toList ++ 10 :: _
    simp
theorem split_ne (x : Str) : Txt.split x ⟨#[10]⟩ ≠ [] := by
  unfold Txt.split
  split
  · simp
  · split
    · simp
    · intro h
      have e := congrArg List.length h
      rw [PyProof.Rows.len_partsBetween] at e
      simp at e
theorem split_lines {ls : List Cs} (h0 : ls ≠ []) (h : ∀ l ∈ ls, 10 ∉ l) : Txt.split (S (joinN ls)) (Str.ofString "\n") = ls.map S := by
  have e0 : (Str.ofString "\n") = ⟨#[10]⟩ := by decide +kernel
  rw [e0]
  have e1 := StrLaws.join_split (S (joinN ls)) ⟨#[10]⟩
  have hf := StrLaws.split_free (S (joinN ls)) 10
  have hn := split_ne (S (joinN ls))
  generalize Txt.split (S (joinN ls)) ⟨#[10]⟩ = ts at e1 hf hn
  have e2 : joinN (ts.map fun s => s.cps.toList) = joinN ls := by
    rw [← join_S10, e1]
  have e3 := congrArg cutN e2
  rw [cutN_join ls h0 h, cutN_join _ (by simpa using hn) (by
    intro l hl
    obtain ⟨t, ht, rfl⟩ := List.mem_map.mp hl
    exact hf t ht)] at e3
  rw [← e3, List.map_map]
  have e4 : (S ∘ fun s : Str => s.cps.toList) = id := by
    funext s
    exact S_of s
  rw [e4, List.map_id]
/-- is a line told: its first sign that is no blank -/
def told (p : Cs) : Bool := match p.dropWhile (· == 32) with
  | [] => false
  | c :: _ => !(c == 35)
theorem drop_tw (f : Nat → Bool) : ∀ (l : Cs), l.drop (l.takeWhile f).length = l.dropWhile f
  | [] => rfl
  | a :: r => by
    rw [List.takeWhile_cons, List.dropWhile_cons]
    by_cases h : f a = true
    · rw [if_pos h, if_pos h]
      exact drop_tw f r
    · rw [if_neg h, if_neg h]
      rfl
theorem strip_is (p : Cs) : ∃ q : Cs, Txt.stripChars (S p) (Str.ofString " ") = S q ∧ q.length ≤ p.length ∧ q.head? = (p.dropWhile (· == 32)).head? := by
  have e0 : (Str.ofString " ").cps.contains = fun c => c == 32 := by
    funext c
    have e : (Str.ofString " ").cps = #[32] := by decide +kernel
    rw [e]
    simp [Bool.beq_eq_decide_eq]
  unfold Txt.stripChars
  rw [e0, PyProof.Rows.stripBy_eq]
  obtain ⟨a1, a2, a3⟩ := PyProof.Rows.lo_facts (fun c => c == 32) (S p)
  obtain ⟨b1, b2, b3, b4⟩ := PyProof.Rows.hi_facts (fun c => c == 32) (S p) _ a1
  have elo : stripLo (fun c => c == 32) true (S p) = (p.takeWhile (· == 32)).length := by
    simp [stripLo]
  rw [S_len] at a1 a3 b2 b3
  generalize hlo : stripLo (fun c => c == 32) true (S p) = lo at a1 a2 a3 b1 b2 b3 b4 elo
  generalize hhi : stripHi (fun c => c == 32) true (S p) lo = hi at b1 b2 b3 b4
  refine ⟨(p.drop lo).take (hi - lo), ?_, ?_, ?_⟩
  · rw [← S_of (Builtin.Str.strSub (S p) lo hi), StrLaws.strSub_toList, S_codes]
  · rw [List.length_take, List.length_drop]
    omega
  · rw [← drop_tw, ← elo]
    by_cases hx : lo = p.length
    · rw [hx, List.drop_length, List.take_nil]
    · have hl : lo < p.length := by omega
      have hlt : lo < hi := by
        refine Nat.lt_of_not_le fun z => ?_
        have z1 := b3 lo z hl
        rcases a3 with a3 | a3
        · exact hx a3
        · rw [z1] at a3; cases a3
      rw [List.head?_take]
      rw [if_neg (by omega)]
def spTold : Sp := fun vs H Q _ => ∃ p : Cs, vs = [tx p] ∧ p.length ≤ 20000 ∧ Q (.bl (told p)) H
def spLines : Sp := fun vs H Q _ => ∃ ls : List Cs, vs = [tx (joinN ls)] ∧ ls ≠ [] ∧ (∀ l ∈ ls, 10 ∉ l) ∧ (joinN ls).length ≤ 20000 ∧ ∀ v H', Same H H' → Texts H H' v (ls.filter told) → Q v H'
theorem joinN_len : ∀ (ls : List Cs), ls.length ≤ (joinN ls).length + 1
  | [] => by simp [joinN]
  | [a] => by simp [joinN]
  | a :: b :: r => by
    have ih := joinN_len (b :: r)
    show (a :: b :: r).length ≤ (a ++ 10 :: joinN (b :: r)).length + 1
    rw [List.length_append, List.length_cons, List.length_cons (a := 10)]
    omega
theorem joinN_mem : ∀ (ls : List Cs) (l : Cs), l ∈ ls → l.length ≤ (joinN ls).length
  | [a], l, h => by rw [List.mem_singleton.mp h]; exact Nat.le_refl _
  | a :: b :: r, l, h => by
    have ih := joinN_mem (b :: r)
    show l.length ≤ (a ++ 10 :: joinN (b :: r)).length
    rw [List.length_append, List.length_cons]
    rcases List.mem_cons.mp h with e | h
    · rw [e]; omega
    · have := ih l h; omega
abbrev aLine : Str := "(),:;="
def spLine : Sp := fun vs H Q _ => ∃ p : Cs, vs = [tx p] ∧ p.length ≤ 20000 ∧ p.all (okS aLine) = true ∧ ∀ v H', Same H H' → Texts H H' v (toks p) → Q v H'
/-! ### kinds -/
abbrev cs (s : Str) : Cs := s.cps.toList
abbrev kwPassing : Cs := [112, 97, 115, 115, 105, 110, 103]
abbrev kwLasting : Cs := [108, 97, 115, 116, 105, 110, 103]
abbrev kwRule : Cs := [114, 117, 108, 101]
abbrev kwTake : Cs := [116, 97, 107, 101]
abbrev kwKeep : Cs := [107, 101, 101, 112]
abbrev kwLook : Cs := [108, 111, 111, 107]
abbrev kwPut : Cs := [112, 117, 116]
abbrev kwTell : Cs := [116, 101, 108, 108]
def kindP (k : Kd) : List Cs := [if k.l = true then kwLasting else kwPassing, k.n, [48 + k.c]]
def spKind (K : PySem.W.Frag) : Sp := fun vs H Q _ => ∃ (l : Addr) (k : Kd), vs = [.ref l] ∧ H l = some (.lst ((kindP k).map tx)) ∧ smallC k.n = true ∧ k.c ≤ 4 ∧ ∀ v H', Same H H' → Kind K H' k v → Q v H'
end Bk
namespace Bk
open PySem L2 K02
/-- a comprehension whose elements are made anew -/
theorem comp_rel {tt : TE} {caps : List Nat} {σ : St} {H1 : Hp} {Q : VK} {K : PySem.W.Frag} {a : Addr} {xs : List V} {D : Addr} {β : Type} (bs : List β) (Out : Hp → Hp → β → V → Prop)
    (keep : ∀ H0 H H' b y, Kp H0 H H' → Out H0 H b y → Out H0 H' b y) (older : ∀ H0 H2 H b y, (∀ c, H2 c = none → H0 c = none) → Out H2 H b y → Out H0 H b y)
    (hn : xs.length < sizeLine) (hD0 : H1 D = none) (hl : SqL K H1 a xs) (hb : bs.length = xs.length)
    (he : ∀ (i : Nat) x b H' R, xs[i]? = some x → bs[i]? = some b → Same H1 H' → (∀ y H'', Same H' H'' → Out H' H'' b y → R y H'') → tt (compS σ (some x) caps) H' R)
    (hd : ∀ H' ys, Same H1 H' → H' D = some (.lst ys) → Paired (Out H1 H') bs ys → Q (.ref D) H') : CompW tAll tt caps σ Q (Itl K a) H1 D := by
  have s0 : Same H1 (upd H1 D (.lst [])) := same_new hD0 _
  have dom0 : ∀ c, upd H1 D (.lst []) c = none → H1 c = none := fun c h => s0.free h
  refine comp_list (K := K) (a := a) (xs := xs) hn (fun i ys H' => Same H1 H' ∧ H' D = some (.lst ys) ∧ (∀ c, H' c = none → upd H1 D (.lst []) c = none) ∧ Paired (Out (upd H1 D (.lst [])) H') (bs.take i) ys) ⟨s0, upd_same, fun _ h => h, .nil⟩
    (fun i ys H' p => p.1.seq hl) (fun i ys H' p => ⟨p.2.1, ?_⟩) (fun i ys H' hi p => ?_) (fun ys H' p => ?_)
  · have z := Paired.length p.2.2.2
    rw [List.length_take] at z
    omega
  · have hx : xs.getD i .non = xs[i] := by rw [List.getD_eq_getElem?_getD, List.getElem?_eq_getElem hi]; rfl
    rw [hx]
    have hib : i < bs.length := by omega
    refine he i xs[i] bs[i] H' _ (List.getElem?_eq_getElem hi) (List.getElem?_eq_getElem hib) p.1 fun y H2 s2 ho => ?_
    have hD2 := s2 _ _ p.2.1
    have kp : Kp (upd H1 D (.lst [])) H2 (upd H2 D (.lst (ys ++ [y]))) := Kp.upd upd_same hD2 (by intro xs z; cases z) (by intro o u z; cases z)
    refine ⟨hD2, Same.upd_new (Same.trans p.1 s2) hD0 _, upd_same, fun c h => ?_, ?_⟩
    · have h2 := kp.dom c h
      exact p.2.2.1 c (s2.free h2)
    · rw [List.take_succ_eq_append_getElem hib]
      refine (L2.Paired.mapP p.2.2.2 fun b v z => keep _ _ _ _ _ kp (keep _ _ _ _ _ (Kp.same s2) z)).snoc ?_
      exact keep _ _ _ _ _ kp (older _ _ _ _ _ p.2.2.1 ho)
  · have z := p.2.2.2
    rw [List.take_of_length_le (by omega)] at z
    exact hd H' ys p.1 p.2.1 (L2.Paired.mapP z fun b v h => older _ _ _ _ _ (fun c h => by
      by_cases e : c = D
      · rw [e]; exact hD0
      · exact dom0 c h) h)
/-! ### parted -/
def stepP (m p : Cs) (rows : List (List Cs)) : List (List Cs) := if p = m then rows ++ [[]] else rows.dropLast ++ [rows.getLastD [] ++ [p]]
theorem partedA_snoc (m p : Cs) : ∀ (ps : List Cs) (rows : List (List Cs)), partedA m (ps ++ [p]) rows = stepP m p (partedA m ps rows)
  | [], rows => rfl
  | q :: r, rows => partedA_snoc m p r _
theorem stepP_ne {m p : Cs} {rows : List (List Cs)} : stepP m p rows ≠ [] := by
  unfold stepP
  split <;> simp
theorem partedA_ne (m : Cs) : ∀ (ps : List Cs) (rows : List (List Cs)), rows ≠ [] → partedA m ps rows ≠ []
  | [], rows, h => h
  | q :: r, rows, h => partedA_ne m r _ (show stepP m q rows ≠ [] from stepP_ne)
theorem paired_last {α β : Type} {R : α → β → Prop} : ∀ {l1 : List α} {l2 : List β}, Paired R l1 l2 → l1 ≠ [] → ∃ a1 x b1 y, l1 = a1 ++ [x] ∧ l2 = b1 ++ [y] ∧ Paired R a1 b1 ∧ R x y
  | _, _, .nil, h => absurd rfl h
  | _, _, .cons (a := a) (b := b) (l₁ := l1) (l₂ := l2) r t, _ => by
    cases t with
    | nil => exact ⟨[], a, [], b, rfl, rfl, .nil, r⟩
    | cons r2 t2 =>
      obtain ⟨a1, x, b1, y, e1, e2, h1, h2⟩ := paired_last (.cons r2 t2) (by simp)
      exact ⟨a :: a1, x, b :: b1, y, by rw [e1]; rfl, by rw [e2]; rfl, .cons r h1, h2⟩
theorem paired_mem {α β : Type} {R : α → β → Prop} : ∀ {l1 : List α} {l2 : List β}, Paired R l1 l2 → ∀ {y : β}, y ∈ l2 → ∃ x, x ∈ l1 ∧ R x y
  | _, _, .nil, _, h => nomatch h
  | _, _, .cons r t, y, h => by
    rcases List.mem_cons.mp h with e | h
    · subst e; exact ⟨_, List.mem_cons_self, r⟩
    · obtain ⟨x, hx, hr⟩ := paired_mem t h
      exact ⟨x, List.mem_cons_of_mem _ hx, hr⟩
theorem paired_mono {α β : Type} {R R' : α → β → Prop} : ∀ {l1 : List α} {l2 : List β}, Paired R l1 l2 → (∀ a b, b ∈ l2 → R a b → R' a b) → Paired R' l1 l2
  | _, _, .nil, _ => .nil
  | _, _, .cons r t, h => .cons (h _ _ List.mem_cons_self r) (paired_mono t fun a b hb => h a b (List.mem_cons_of_mem _ hb))
theorem paired_mapR {α β γ : Type} {g : β → γ} {R : α → γ → Prop} : ∀ {l1 : List α} {l2 : List β}, Paired (fun a b => R a (g b)) l1 l2 → Paired R l1 (l2.map g)
  | _, _, .nil => .nil
  | _, _, .cons r t => .cons r (paired_mapR t)
/-- rows of pieces -/
def RowAt (H0 H : Hp) (row : List Cs) (v : V) : Prop := ∃ b, v = .ref b ∧ H0 b = none ∧ H b = some (.lst (row.map tx))
def Rows (H0 H : Hp) (v : V) (rows : List (List Cs)) : Prop := ∃ l vs, v = .ref l ∧ H0 l = none ∧ H l = some (.lst vs) ∧ Paired (RowAt H0 H) rows vs
def spParted : Sp := fun vs H Q _ => ∃ (l : Addr) (ps : List Cs) (m : Cs), vs = [.ref l, tx m] ∧ H l = some (.lst (ps.map tx)) ∧ ps.length ≤ 20000 ∧ ∀ v H', Same H H' → Rows H H' v (partedA m ps [[]]) → Q v H'
theorem partedA_len (m : Cs) : ∀ (ps : List Cs) (rows : List (List Cs)), (partedA m ps rows).length ≤ rows.length + ps.length + 1
  | [], rows => by show rows.length ≤ _; omega
  | p :: r, rows => by
    have ih := partedA_len m r (stepP m p rows)
    have : (stepP m p rows).length ≤ rows.length + 1 := by
      unfold stepP
      split
      · simp
      · rw [List.length_append, List.length_dropLast, List.length_singleton]; omega
    show (partedA m r (stepP m p rows)).length ≤ _
    rw [List.length_cons]
    omega
theorem partedA_in (m : Cs) : ∀ (ps : List Cs) (rows : List (List Cs)) (B : Nat), (∀ r ∈ rows, r.length ≤ B) → ∀ r ∈ partedA m ps rows, r.length ≤ B + ps.length
  | [], rows, B, h, r, hr => by have := h r hr; show r.length ≤ B + 0; omega
  | p :: q, rows, B, h, r, hr => by
    have ih := partedA_in m q (stepP m p rows) (B + 1) (by
      intro x hx
      unfold stepP at hx
      split at hx
      · rcases List.mem_append.mp hx with hx | hx
        · have := h x hx; omega
        · rw [List.mem_singleton.mp hx]; simp
      · rcases List.mem_append.mp hx with hx | hx
        · have := h x ((List.dropLast_sublist rows).subset hx); omega
        · rw [List.mem_singleton.mp hx, List.length_append]
          have : (rows.getLastD []).length ≤ B := by
            cases rows with
            | nil => exact Nat.zero_le _
            | cons a t => exact h _ (List.getLast_mem (by simp : a :: t ≠ []))
          rw [List.length_singleton]
          omega) r hr
    rw [List.length_cons]
    omega
/-! ### looks and pairs -/
abbrev kwSame : Cs := [115, 97, 109, 101]
abbrev kwUnlike : Cs := [117, 110, 108, 105, 107, 101]
def lookP (k : Lk) : List Cs := [k.l, if k.same = true then kwSame else kwUnlike, k.r]
def pairP (p : Cs × Cs) : List Cs := [p.1, [61], p.2]
def spTwo : Sp := fun vs H Q _ => ∃ (l : Addr) (a m b : Cs), vs = [.ref l] ∧ H l = some (.lst [tx a, tx m, tx b]) ∧ nameC a = true ∧ nameC b = true ∧ ∀ H', Same H H' → Q .non H'
structure LTxt (K : PySem.W.Frag) (C : Addr) : Prop where
  cl : Cls K C
  nL : NoAttr K C "left"
  nR : NoAttr K C "right"
def spLInit (K : PySem.W.Frag) : Sp := fun vs H Q _ => ∃ (C p dx : Addr) (l r : V), vs = [.ref p, l, r] ∧ LTxt K C ∧ H p = some (.ins C dx []) ∧ ∀ H' fs, H' p = some (.ins C dx fs) → fs.lookup ("left" : Str) = some l → fs.lookup ("right" : Str) = some r → fs.lookup ("holds" : Str) = none → fs.lookup ("word" : Str) = none → (∀ b o, H b = some o → b ≠ p → H' b = some o) → Q .non H'
def spLook (c : Cl) : Sp := fun vs H Q _ => ∃ (l : Addr) (k : Lk), vs = [.ref l] ∧ H l = some (.lst ((lookP k).map tx)) ∧ nameC k.l = true ∧ nameC k.r = true ∧ ∀ v H', Same H H' → LookO c H H' k v → Q v H'
def spPair (K : PySem.W.Frag) : Sp := fun vs H Q _ => ∃ (l : Addr) (p : Cs × Cs), vs = [.ref l] ∧ H l = some (.lst ((pairP p).map tx)) ∧ nameC p.1 = true ∧ nameC p.2 = true ∧ ∀ v H', Same H H' → Pair K H' p v → Q v H'
/-- rows of looks, of pairs, as pieces -/
def spLooks (c : Cl) : Sp := fun vs H Q _ => ∃ (l : Addr) (ks : List Lk), vs = [.ref l] ∧ H l = some (.lst ((glue [44] (ks.map lookP)).map tx)) ∧ ks ≠ [] ∧ ks.length ≤ 1000 ∧ (∀ k ∈ ks, nameC k.l = true ∧ nameC k.r = true) ∧ ∀ v H', Same H H' → Looks c H H' v ks → Q v H'
def spPairs (K : PySem.W.Frag) : Sp := fun vs H Q _ => ∃ (l : Addr) (ps : List (Cs × Cs)), vs = [.ref l] ∧ H l = some (.lst ((glue [44] (ps.map pairP)).map tx)) ∧ ps ≠ [] ∧ ps.length ≤ 1000 ∧ (∀ k ∈ ps, nameC k.1 = true ∧ nameC k.2 = true) ∧ ∀ v H', Same H H' → Pairs K H H' v ps → Q v H'
theorem name_ne44 {p : Cs} (h : nameC p = true) : p ≠ [44] := by
  intro e
  rw [e] at h
  exact absurd h (by decide +kernel)
theorem glue_len {m : Cs} : ∀ (qs : List (List Cs)) (B : Nat), (∀ q ∈ qs, q.length ≤ B) → (glue m qs).length ≤ qs.length * (B + 1)
  | [], _, _ => by simp [glue]
  | [q], B, h => by
    show q.length ≤ _
    have := h q (by simp)
    simp
    omega
  | q :: q2 :: r, B, h => by
    have ih := glue_len (m := m) (q2 :: r) B fun x hx => h x (List.mem_cons_of_mem _ hx)
    have hq := h q (by simp)
    show (q ++ m :: glue m (q2 :: r)).length ≤ _
    rw [List.length_append, List.length_cons, List.length_cons, Nat.add_mul]
    omega
end Bk
namespace Bk
open PySem L2 K02
/-! ### parts of a rule -/
inductive Pt where
  | fs (l : List Fc)
  | lk (l : List Lk)
  | pr (l : List (Cs × Cs))
def PartAt (K : PySem.W.Frag) (c : Cl) (H0 H : Hp) (v : V) : Pt → Prop
  | .fs l => Facts K H0 H v l
  | .lk l => Looks c H0 H v l
  | .pr l => Pairs K H0 H v l
theorem PartAt.keep {K : PySem.W.Frag} {c : Cl} {H0 H H' : Hp} {v : V} (k : Kp H0 H H') : ∀ {p : Pt}, PartAt K c H0 H v p → PartAt K c H0 H' v p
  | .fs _, h => Facts.keep k h
  | .lk _, h => Looks.keep k h
  | .pr _, h => Pairs.keep k h
theorem LookO.older {c : Cl} {H0 H1 H : Hp} {x : Lk} {v : V} (d : ∀ b, H1 b = none → H0 b = none) (h : LookO c H1 H x v) : LookO c H0 H x v := by
  obtain ⟨a, dx, fs, e, n, r⟩ := h
  exact ⟨a, dx, fs, e, d a n, r⟩
theorem Looks.older {c : Cl} {H0 H1 H : Hp} {xs : List Lk} {v : V} (d : ∀ b, H1 b = none → H0 b = none) (h : Looks c H1 H v xs) : Looks c H0 H v xs := by
  obtain ⟨l, vs, e, n, h1, h2⟩ := h
  exact ⟨l, vs, e, d l n, h1, L2.Paired.mapP h2 fun _ _ z => z.older d⟩
theorem PartAt.older {K : PySem.W.Frag} {c : Cl} {H0 H1 H : Hp} {v : V} (d : ∀ b, H1 b = none → H0 b = none) : ∀ {p : Pt}, PartAt K c H1 H v p → PartAt K c H0 H v p
  | .fs _, h => Lst.older d h
  | .lk _, h => Looks.older d h
  | .pr _, h => Lst.older d h
def wordAt : Nat → Cs
  | 0 => kwTake
  | 1 => kwKeep
  | 2 => kwLook
  | 3 => kwPut
  | _ => kwTell
theorem wordAt_inj {i j : Nat} (hi : i < 5) (hj : j < 5) (h : wordAt i = wordAt j) : i = j := by
  rcases (by omega : i = 0 ∨ i = 1 ∨ i = 2 ∨ i = 3 ∨ i = 4) with e | e | e | e | e <;> subst e <;>
  rcases (by omega : j = 0 ∨ j = 1 ∨ j = 2 ∨ j = 3 ∨ j = 4) with e | e | e | e | e <;> subst e <;> first | rfl | exact absurd h (by decide)
/-- the pieces that write a part -/
inductive PartP : Nat → List Cs → Pt → Prop
  | fs {n : Nat} {ps : List Cs} {l : List Fc} (hn : n = 0 ∨ n = 1 ∨ n = 3) (h : RowP ps l) : PartP n ps (.fs l)
  | lk {l : List Lk} (h0 : l ≠ []) (hl : l.length ≤ 1000) (h : ∀ k ∈ l, nameC k.l = true ∧ nameC k.r = true) : PartP 2 (glue [44] (l.map lookP)) (.lk l)
  | pr {l : List (Cs × Cs)} (h0 : l ≠ []) (hl : l.length ≤ 1000) (h : ∀ k ∈ l, nameC k.1 = true ∧ nameC k.2 = true) : PartP 4 (glue [44] (l.map pairP)) (.pr l)
def spPart (K : PySem.W.Frag) (c : Cl) : Sp := fun vs H Q _ => ∃ (l : Addr) (n : Nat) (ps : List Cs) (p : Pt), vs = [tx (wordAt n), .ref l] ∧ H l = some (.lst (ps.map tx)) ∧ ps.length ≤ 20000 ∧ PartP n ps p ∧ ∀ v H', Same H H' → PartAt K c H H' v p → Q v H'
/-- one part with its place among the words, and its pieces -/
structure Pr where
  n : Nat
  ps : List Cs
  p : Pt
def Inc : Nat → List Pr → Prop
  | _, [] => True
  | m, x :: r => m ≤ x.n ∧ x.n < 5 ∧ Inc (x.n + 1) r
structure RuleP (title : Cs) (L : List Pr) : Prop where
  tt : smallC title = true
  ne : L ≠ []
  inc : Inc 0 L
  ok : ∀ x ∈ L, PartP x.n x.ps x.p
  hd : ∃ x ∈ L, x.n = 0 ∨ x.n = 1
  no : ∀ x ∈ L, [59] ∉ x.ps
def rulePs (title : Cs) (L : List Pr) : List Cs := kwRule :: title :: [58] :: glue [59] (L.map fun x => wordAt x.n :: x.ps)
/-- the dict of the parts -/
def PartsAt (K : PySem.W.Frag) (c : Cl) (H0 H : Hp) (L : List Pr) (kvs : List (Key × V)) : Prop := Paired (fun (x : Pr) (kv : Key × V) => kv.1 = Sum.inr (S (wordAt x.n)) ∧ PartAt K c H0 H kv.2 x.p) L kvs
theorem PartsAt.keep {K : PySem.W.Frag} {c : Cl} {H0 H H' : Hp} {L : List Pr} {kvs : List (Key × V)} (k : Kp H0 H H') (h : PartsAt K c H0 H L kvs) : PartsAt K c H0 H' L kvs := L2.Paired.mapP h fun _ _ z => ⟨z.1, z.2.keep k⟩
def spRule (K : PySem.W.Frag) (c : Cl) : Sp := fun vs H Q _ => ∃ (l : Addr) (title : Cs) (L : List Pr), vs = [.ref l] ∧ H l = some (.lst ((rulePs title L).map tx)) ∧ (rulePs title L).length ≤ 20000 ∧ RuleP title L ∧
  ∀ (t d : Addr) (kvs : List (Key × V)) (H' : Hp), Same H H' → H' t = some (.tup [tx title, .ref d]) → H d = none → H' d = some (.dK kvs) → PartsAt K c H H' L kvs → Q (.ref t) H'
theorem valV_none {kvs : List (Key × V)} {k : Key} (h : ∀ p ∈ kvs, p.1 ≠ k) : valV kvs k = none := by
  cases e : valV kvs k with
  | none => rfl
  | some v =>
    obtain ⟨p, hp, hk⟩ := List.mem_map.mp (valV_in e)
    exact absurd hk (h p hp)
theorem inc_lt : ∀ {L : List Pr} {m : Nat}, Inc m L → ∀ x ∈ L, m ≤ x.n ∧ x.n < 5
  | [], _, _, _, h => nomatch h
  | y :: r, m, hi, x, h => by
    rcases List.mem_cons.mp h with e | h
    · subst e; exact ⟨hi.1, hi.2.1⟩
    · have z := inc_lt hi.2.2 x h
      have := hi.1
      exact ⟨by omega, z.2⟩
theorem inc_at : ∀ {L : List Pr} {m : Nat}, Inc m L → ∀ i (h : i < L.length), (∀ x ∈ L.take i, x.n < L[i].n) ∧ L[i].n < 5
  | y :: r, m, hi, 0, _ => ⟨(fun _ z => by cases z), hi.2.1⟩
  | y :: r, m, hi, i + 1, h => by
    have ih := inc_at hi.2.2 i (by simpa using h)
    refine ⟨fun x hx => ?_, ih.2⟩
    rw [List.take_succ_cons] at hx
    rcases List.mem_cons.mp hx with e | hx
    · subst e
      have := inc_lt hi.2.2 (r[i]'(by simpa using h)) (List.getElem_mem _)
      show x.n < (r[i]'(by simpa using h)).n
      omega
    · exact ih.1 x hx
theorem inc_after : ∀ {L : List Pr} {m : Nat}, Inc m L → ∀ i (h : i < L.length), ∀ x ∈ L.drop (i + 1), L[i].n + 1 ≤ x.n
  | y :: r, m, hi, 0, _, x, hx => (inc_lt hi.2.2 x hx).1
  | y :: r, m, hi, i + 1, h, x, hx => inc_after hi.2.2 i (by simpa using h) x hx
theorem inc_len : ∀ {L : List Pr} {m : Nat}, Inc m L → m ≤ 5 → L.length ≤ 5 - m
  | [], _, _, _ => Nat.zero_le _
  | y :: r, m, hi, hm => by
    have ih := inc_len hi.2.2 (by have := hi.2.1; omega)
    have := hi.1
    have := hi.2.1
    rw [List.length_cons]
    omega
theorem glue_mem {m : Cs} : ∀ (qs : List (List Cs)) (q : List Cs), q ∈ qs → q.length ≤ (glue m qs).length
  | [a], q, h => by rw [List.mem_singleton.mp h]; exact Nat.le_refl _
  | a :: b :: r, q, h => by
    have ih := glue_mem (m := m) (b :: r)
    show q.length ≤ (a ++ m :: glue m (b :: r)).length
    rw [List.length_append, List.length_cons]
    rcases List.mem_cons.mp h with e | h
    · rw [e]; omega
    · have := ih q h; omega
theorem parts_has {K : PySem.W.Frag} {c : Cl} {H0 H : Hp} : ∀ {L : List Pr} {kvs : List (Key × V)}, PartsAt K c H0 H L kvs → ∀ {x : Pr}, x ∈ L → (valV kvs (Sum.inr (S (wordAt x.n)) : Key)).isSome = true
  | _, _, .nil, _, h => nomatch h
  | _, _, .cons (a := a) (b := b) (l₁ := l1) (l₂ := l2) r t, x, h => by
    rw [← valV_any, List.any_cons]
    rcases List.mem_cons.mp h with e | h
    · subst e
      rw [decide_eq_true r.1]
      rfl
    · have ih := parts_has t h
      rw [← valV_any] at ih
      rw [ih, Bool.or_true]
end Bk
namespace Bk
open PySem L2 K02
/-! ### open names -/
def FactOk (f : Fc) : Prop := smallC f.k = true ∧ f.as.length ≤ 20000 ∧ ∀ a ∈ f.as, nameC a = true
def onceS (x : Cs) (acc : List Cs) : List Cs := if great x = true then (if x ∈ acc then acc else acc ++ [x]) else acc
def onceL (l : List Cs) (acc : List Cs) : List Cs := l.foldl (fun acc x => onceS x acc) acc
theorem once_filter : ∀ (l acc : List Cs), once (l.filter great) acc = onceL l acc
  | [], acc => rfl
  | x :: r, acc => by
    rw [List.filter_cons]
    by_cases h : great x = true
    · rw [if_pos h]
      show once (r.filter great) (if x ∈ acc then acc else acc ++ [x]) = onceL r (onceS x acc)
      rw [once_filter r]
      unfold onceS
      rw [if_pos h]
    · rw [if_neg h, once_filter r]
      show _ = onceL r (onceS x acc)
      unfold onceS
      rw [if_neg h]
theorem opens_eq (fs : List Fc) : opens fs = onceL (fs.flatMap (·.as)) [] := once_filter _ _
theorem onceL_app (a b acc : List Cs) : onceL (a ++ b) acc = onceL b (onceL a acc) := List.foldl_append ..
def entT (a : Cs) : Key × V := (Sum.inr (S a), .bl true)
theorem put_once (x : Cs) (acc : List Cs) : putK (acc.map entT) (Sum.inr (S x) : Key) (.bl true) = (if x ∈ acc then acc else acc ++ [x]).map entT := by
  unfold putK
  have e : ((acc.map entT).any fun kv => decide (kv.1 = (Sum.inr (S x) : Key))) = decide (x ∈ acc) := by
    rw [Bool.eq_iff_iff, List.any_eq_true, decide_eq_true_eq]
    constructor
    · rintro ⟨kv, hm, hk⟩
      obtain ⟨a, ha, rfl⟩ := List.mem_map.mp hm
      have := of_decide_eq_true hk
      rw [S_inj (Sum.inr.inj this)] at ha
      exact ha
    · intro h
      exact ⟨entT x, List.mem_map.mpr ⟨x, h, rfl⟩, decide_eq_true rfl⟩
  rw [e]
  by_cases h : x ∈ acc
  · rw [decide_eq_true h, if_pos rfl, if_pos h]
    rw [List.map_map]
    refine List.map_congr_left fun a _ => ?_
    show (if (entT a).1 = _ then ((entT a).1, V.bl true) else entT a) = entT a
    split <;> rfl
  · rw [decide_eq_false h, if_neg (by decide), if_neg h, List.map_append]
    rfl
theorem onceS_len (x : Cs) (acc : List Cs) : (onceS x acc).length ≤ acc.length + 1 := by
  unfold onceS
  split
  · split <;> simp
  · omega
def spOpens (K : PySem.W.Frag) : Sp := fun vs H Q _ => ∃ (l : Addr) (us : List V) (fs : List Fc), vs = [.ref l] ∧ H l = some (.lst us) ∧ Paired (Fact K H) fs us ∧ fs.length ≤ 20000 ∧ (∀ f ∈ fs, FactOk f) ∧ (fs.flatMap (·.as)).length ≤ 20000 ∧ ∀ v H', Same H H' → Texts H H' v (opens fs) → Q v H'
/-! ### a rule's parts -/
def findN (n : Nat) (L : List Pr) : Option Pr := L.find? fun x => x.n == n
def fsOf (n : Nat) (L : List Pr) : List Fc := match findN n L with
  | some ⟨_, _, .fs l⟩ => l
  | _ => []
def lkOf (L : List Pr) : List Lk := match findN 2 L with
  | some ⟨_, _, .lk l⟩ => l
  | _ => []
def prOf (L : List Pr) : List (Cs × Cs) := match findN 4 L with
  | some ⟨_, _, .pr l⟩ => l
  | _ => []
def rlOf (title : Cs) (L : List Pr) : Rl := ⟨title, fsOf 0 L, fsOf 1 L, lkOf L, fsOf 3 L, prOf L⟩
theorem parts_val {K : PySem.W.Frag} {c : Cl} {H0 H : Hp} : ∀ {L : List Pr} {kvs : List (Key × V)} {n : Nat}, PartsAt K c H0 H L kvs → (∀ x ∈ L, x.n < 5) → n < 5 →
    (findN n L = none ∧ valV kvs (Sum.inr (S (wordAt n)) : Key) = none) ∨ ∃ x v, findN n L = some x ∧ x ∈ L ∧ x.n = n ∧ valV kvs (Sum.inr (S (wordAt n)) : Key) = some v ∧ PartAt K c H0 H v x.p
  | _, _, n, .nil, _, _ => .inl ⟨rfl, rfl⟩
  | _, _, n, .cons (a := a) (b := b) (l₁ := l1) (l₂ := l2) r t, h5, hn => by
    by_cases e : a.n = n
    · refine .inr ⟨a, b.2, ?_, List.mem_cons_self, e, ?_, r.2⟩
      · unfold findN
        rw [List.find?_cons, show (a.n == n) = true by simpa using e]
      · exact valV_pos (by rw [r.1, e])
    · have hf : findN n (a :: l1) = findN n l1 := by
        unfold findN
        rw [List.find?_cons, show (a.n == n) = false by simpa using e]
      have hv : valV (b :: l2) (Sum.inr (S (wordAt n)) : Key) = valV l2 (Sum.inr (S (wordAt n)) : Key) := valV_neg (by
        rw [r.1]
        intro z
        exact e (wordAt_inj (h5 a List.mem_cons_self) hn (S_inj (Sum.inr.inj z))))
      rw [hf, hv]
      rcases parts_val (n := n) t (fun x hx => h5 x (List.mem_cons_of_mem _ hx)) hn with z | ⟨x, v, z1, z2, z3⟩
      · exact .inl z
      · exact .inr ⟨x, v, z1, List.mem_cons_of_mem _ z2, z3⟩
theorem empty_facts {K : PySem.W.Frag} {H0 H : Hp} {l : Addr} (h0 : H0 l = none) (h : H l = some (.lst [])) : Facts K H0 H (.ref l) [] := ⟨l, [], rfl, h0, h, .nil⟩
theorem empty_looks {c : Cl} {H0 H : Hp} {l : Addr} (h0 : H0 l = none) (h : H l = some (.lst [])) : Looks c H0 H (.ref l) [] := ⟨l, [], rfl, h0, h, .nil⟩
theorem empty_pairs {K : PySem.W.Frag} {H0 H : Hp} {l : Addr} (h0 : H0 l = none) (h : H l = some (.lst [])) : Pairs K H0 H (.ref l) [] := ⟨l, [], rfl, h0, h, .nil⟩
/-- parts.get(word, []) -/
theorem get_fs {K : PySem.W.Frag} {c : Cl} {H0 H : Hp} {L : List Pr} {kvs : List (Key × V)} {n : Nat} {l : Addr} (pa : PartsAt K c H0 H L kvs) (h5 : ∀ x ∈ L, x.n < 5) (hok : ∀ x ∈ L, PartP x.n x.ps x.p) (hn : n = 0 ∨ n = 1 ∨ n = 3) (h0 : H0 l = none) (h : H l = some (.lst [])) :
    Facts K H0 H ((valV kvs (Sum.inr (S (wordAt n)) : Key)).getD (.ref l)) (fsOf n L) := by
  rcases parts_val (n := n) pa h5 (by omega) with ⟨z1, z2⟩ | ⟨⟨xn, xps, xp⟩, v, z1, z2, rfl, z4, z5⟩
  · rw [z2]
    unfold fsOf
    rw [z1]
    exact empty_facts h0 h
  · rw [z4]
    unfold fsOf
    rw [z1]
    have hP := hok _ z2
    cases xp with
    | fs l => exact z5
    | lk l => cases hP; exact absurd (show 2 = 0 ∨ 2 = 1 ∨ 2 = 3 from hn) (by decide)
    | pr l => cases hP; exact absurd (show 4 = 0 ∨ 4 = 1 ∨ 4 = 3 from hn) (by decide)
theorem get_lk {K : PySem.W.Frag} {c : Cl} {H0 H : Hp} {L : List Pr} {kvs : List (Key × V)} {l : Addr} (pa : PartsAt K c H0 H L kvs) (h5 : ∀ x ∈ L, x.n < 5) (hok : ∀ x ∈ L, PartP x.n x.ps x.p) (h0 : H0 l = none) (h : H l = some (.lst [])) :
    Looks c H0 H ((valV kvs (Sum.inr (S (wordAt 2)) : Key)).getD (.ref l)) (lkOf L) := by
  rcases parts_val (n := 2) pa h5 (by omega) with ⟨z1, z2⟩ | ⟨⟨xn, xps, xp⟩, v, z1, z2, z3, z4, z5⟩
  · rw [z2]
    unfold lkOf
    rw [z1]
    exact empty_looks h0 h
  · rw [z4]
    unfold lkOf
    rw [z1]
    have z3 : xn = 2 := z3
    subst z3
    have hP := hok _ z2
    cases xp with
    | fs l => cases hP with | fs hn _ => exact absurd (show 2 = 0 ∨ 2 = 1 ∨ 2 = 3 from hn) (by decide)
    | lk l => exact z5
    | pr l => cases hP
theorem get_pr {K : PySem.W.Frag} {c : Cl} {H0 H : Hp} {L : List Pr} {kvs : List (Key × V)} {l : Addr} (pa : PartsAt K c H0 H L kvs) (h5 : ∀ x ∈ L, x.n < 5) (hok : ∀ x ∈ L, PartP x.n x.ps x.p) (h0 : H0 l = none) (h : H l = some (.lst [])) :
    Pairs K H0 H ((valV kvs (Sum.inr (S (wordAt 4)) : Key)).getD (.ref l)) (prOf L) := by
  rcases parts_val (n := 4) pa h5 (by omega) with ⟨z1, z2⟩ | ⟨⟨xn, xps, xp⟩, v, z1, z2, z3, z4, z5⟩
  · rw [z2]
    unfold prOf
    rw [z1]
    exact empty_pairs h0 h
  · rw [z4]
    unfold prOf
    rw [z1]
    have z3 : xn = 4 := z3
    subst z3
    have hP := hok _ z2
    cases xp with
    | fs l => cases hP with | fs hn _ => exact absurd (show 4 = 0 ∨ 4 = 1 ∨ 4 = 3 from hn) (by decide)
    | lk l => cases hP
    | pr l => exact z5
/-- what a class of rules must have -/
structure RTxt (K : PySem.W.Frag) (C : Addr) : Prop where
  cl : Cls K C
  n1 : NoAttr K C "title"
  n2 : NoAttr K C "taken"
  n3 : NoAttr K C "kept"
  n4 : NoAttr K C "looks"
  n5 : NoAttr K C "given"
  n6 : NoAttr K C "told"
  n7 : NoAttr K C "names"
structure BTxt (K : PySem.W.Frag) (C : Addr) : Prop where
  cl : Cls K C
  n1 : NoAttr K C "kinds"
  n2 : NoAttr K C "rules"
structure RlOk (r : Rl) : Prop where
  heads : ∀ f ∈ r.take ++ r.keep, FactOk f
  few : (r.take ++ r.keep).length ≤ 20000
  fewA : ((r.take ++ r.keep).flatMap (·.as)).length ≤ 20000
def spRInit (K : PySem.W.Frag) (c : Cl) : Sp := fun vs H Q _ => ∃ (H0 : Hp) (p dx d : Addr) (title : Cs) (L : List Pr) (kvs : List (Key × V)) (u0 : HO), vs = [.ref p, tx title, .ref d] ∧ H p = some (.ins c.rule dx []) ∧ H0 p = some u0 ∧ (∀ b, H b = none → H0 b = none) ∧ H d = some (.dK kvs) ∧
  PartsAt K c H0 H L kvs ∧ (∀ x ∈ L, x.n < 5) ∧ (∀ x ∈ L, PartP x.n x.ps x.p) ∧ RlOk (rlOf title L) ∧
  ∀ H' fs, H' p = some (.ins c.rule dx fs) → RuleF K c H0 H' (rlOf title L) fs → (∀ b o, H b = some o → b ≠ p → H' b = some o) → Q .non H'
def spBInit (K : PySem.W.Frag) (c : Cl) : Sp := fun vs H Q _ => ∃ (p dx : Addr) (k r : V), vs = [.ref p, k, r] ∧ H p = some (.ins c.book dx []) ∧ ∀ H' fs, H' p = some (.ins c.book dx fs) → fs.lookup ("kinds" : Str) = some k → fs.lookup ("rules" : Str) = some r → (∀ b o, H b = some o → b ≠ p → H' b = some o) → Q .non H'
def spCalls (K : PySem.W.Frag) (c : Cl) : Sp := fun vs H Q _ => ∃ (H0 : Hp) (v : V) (r : Rl), vs = [v] ∧ RuleO K c H0 H r v ∧ Q (.bl (decide (r.take = []))) H
theorem paired_app {α β : Type} {R : α → β → Prop} : ∀ {a1 a2 : List α} {b1 b2 : List β}, Paired R a1 b1 → Paired R a2 b2 → Paired R (a1 ++ a2) (b1 ++ b2)
  | _, _, _, _, .nil, h => h
  | _, _, _, _, .cons r t, h => .cons r (paired_app t h)
end Bk
namespace Bk
open PySem L2 K02
theorem inV_map (a : Cs) (l : List Cs) : inV (tx a) (l.map tx) = decide (a ∈ l) := by
  unfold inV
  rw [List.any_map, Bool.eq_iff_iff, List.any_eq_true, decide_eq_true_eq]
  constructor
  · rintro ⟨x, hx, h⟩
    have e : (S x == S a) = true := h
    rw [S_inj (eq_of_beq e)] at hx
    exact hx
  · intro h
    exact ⟨a, h, (show (S a == S a) = true from beq_self_eq_true _)⟩
theorem flat_map (l : List Cs) : (l.map tx).all flatV = true := by
  rw [List.all_map, List.all_eq_true]
  intro x _
  rfl
/-- a comprehension with a test, elements made anew -/
theorem comp_relF {tt : TT} {te : TE} {caps : List Nat} {σ : St} {H1 : Hp} {Q : VK} {K : PySem.W.Frag} {a : Addr} {xs : List V} {D : Addr} {β γ : Type} (bs : List β) (kp : β → Bool) (g : β → γ) (Out : Hp → Hp → γ → V → Prop)
    (keep : ∀ H0 H H' b y, Kp H0 H H' → Out H0 H b y → Out H0 H' b y) (older : ∀ H0 H2 H b y, (∀ c, H2 c = none → H0 c = none) → Out H2 H b y → Out H0 H b y)
    (hn : xs.length < sizeLine) (hD0 : H1 D = none) (hl : SqL K H1 a xs) (hb : bs.length = xs.length)
    (ht : ∀ (i : Nat) x b H' R, xs[i]? = some x → bs[i]? = some b → Same H1 H' → (∀ H'', Same H' H'' → R (kp b) H'') → tt (compS σ (some x) caps) H' R)
    (he : ∀ (i : Nat) x b H' R, xs[i]? = some x → bs[i]? = some b → kp b = true → Same H1 H' → (∀ y H'', Same H' H'' → Out H' H'' (g b) y → R y H'') → te (compS σ (some x) caps) H' R)
    (hd : ∀ H' ys, Same H1 H' → H' D = some (.lst ys) → Paired (Out H1 H') ((bs.filter kp).map g) ys → Q (.ref D) H') : CompW tt te caps σ Q (Itl K a) H1 D := by
  have s0 : Same H1 (upd H1 D (.lst [])) := same_new hD0 _
  have dom0 : ∀ c, upd H1 D (.lst []) c = none → H1 c = none := fun c h => s0.free h
  refine comp_list (K := K) (a := a) (xs := xs) hn (fun i ys H' => Same H1 H' ∧ H' D = some (.lst ys) ∧ (∀ c, H' c = none → upd H1 D (.lst []) c = none) ∧ Paired (Out (upd H1 D (.lst [])) H') (((bs.take i).filter kp).map g) ys) ⟨s0, upd_same, fun _ h => h, .nil⟩
    (fun i ys H' p => p.1.seq hl) (fun i ys H' p => ⟨p.2.1, ?_⟩) (fun i ys H' hi p => ?_) (fun ys H' p => ?_)
  · have z := Paired.length p.2.2.2
    rw [List.length_map] at z
    have z2 := List.length_filter_le kp (bs.take i)
    rw [List.length_take] at z2
    omega
  · have hx : xs.getD i .non = xs[i] := by rw [List.getD_eq_getElem?_getD, List.getElem?_eq_getElem hi]; rfl
    rw [hx]
    have hib : i < bs.length := by omega
    refine ht i xs[i] bs[i] H' _ (List.getElem?_eq_getElem hi) (List.getElem?_eq_getElem hib) p.1 fun H1' s1' => ?_
    have hD1 := s1' _ _ p.2.1
    have dom1 : ∀ c, H1' c = none → upd H1 D (.lst []) c = none := fun c h => p.2.2.1 c (s1'.free h)
    cases hk : kp bs[i] with
    | false =>
      refine iteF ⟨Same.trans p.1 s1', hD1, dom1, ?_⟩
      rw [List.take_succ_eq_append_getElem hib, List.filter_append]
      have e : [bs[i]].filter kp = [] := by simp [hk]
      rw [e, List.append_nil]
      exact L2.Paired.mapP p.2.2.2 fun b v z => keep _ _ _ _ _ (Kp.same s1') z
    | true =>
      refine iteT ?_
      refine he i xs[i] bs[i] H1' _ (List.getElem?_eq_getElem hi) (List.getElem?_eq_getElem hib) hk (Same.trans p.1 s1') fun y H2 s2 ho => ?_
      have hD2 := s2 _ _ hD1
      have kp2 : Kp (upd H1 D (.lst [])) H2 (upd H2 D (.lst (ys ++ [y]))) := Kp.upd upd_same hD2 (by intro xs z; cases z) (by intro o u z; cases z)
      refine ⟨hD2, Same.upd_new (Same.trans (Same.trans p.1 s1') s2) hD0 _, upd_same, fun c h => ?_, ?_⟩
      · exact dom1 c (s2.free (kp2.dom c h))
      · rw [List.take_succ_eq_append_getElem hib, List.filter_append]
        have e : [bs[i]].filter kp = [bs[i]] := by simp [hk]
        rw [e, List.map_append]
        refine (L2.Paired.mapP p.2.2.2 fun b v z => keep _ _ _ _ _ kp2 (keep _ _ _ _ _ (Kp.same (Same.trans s1' s2)) z)).snoc ?_
        exact keep _ _ _ _ _ kp2 (older _ _ _ _ _ dom1 ho)
  · have z := p.2.2.2
    rw [List.take_of_length_le (by omega)] at z
    exact hd H' ys p.1 p.2.1 (L2.Paired.mapP z fun b v h => older _ _ _ _ _ (fun c h => by
      by_cases e : c = D
      · rw [e]; exact hD0
      · exact dom0 c h) h)
theorem paired_tx : ∀ {l : List Cs} {ys : List V}, Paired (fun b y => y = tx b) l ys → ys = l.map tx
  | _, _, .nil => rfl
  | _, _, .cons r t => by rw [r, paired_tx t]; rfl
/-! ### one line heard -/
def KdOk (k : Kd) : Prop := smallC k.n = true ∧ k.c ≤ 4
structure HearIn (K : PySem.W.Frag) (c : Cl) (H0 H : Hp) (lk lr : Addr) (ks : List Kd) (rs : List Rl) (kvs rvs : List V) : Prop where
  hk : H lk = some (.lst kvs)
  pk : Paired (Kind K H) ks kvs
  hr : H lr = some (.lst rvs)
  pr : Paired (RuleO K c H0 H) rs rvs
  ne : lk ≠ lr
  ok : ∃ u, H0 lk = some u
  or : ∃ u, H0 lr = some u
  dom : ∀ b, H b = none → H0 b = none
  fk : ks.length ≤ 10000
  fr : rs.length ≤ 10000
def spHear (K : PySem.W.Frag) (c : Cl) : Sp := fun vs H Q _ => ∃ (H0 : Hp) (lk lr : Addr) (ks : List Kd) (rs : List Rl) (kvs rvs : List V) (p : Cs), vs = [.ref lk, .ref lr, tx p] ∧ HearIn K c H0 H lk lr ks rs kvs rvs ∧ ks.length < 10000 ∧ rs.length < 10000 ∧ p.length ≤ 20000 ∧ p.all (okS aLine) = true ∧
  ((∃ k : Kd, toks p = kindP k ∧ KdOk k ∧ k.n ∉ ks.map (·.n) ∧ ∀ v H', (∀ b o, b ≠ lk → H b = some o → H' b = some o) → HearIn K c H0 H' lk lr (ks ++ [k]) rs (kvs ++ [v]) rvs → Q .non H') ∨
   (∃ (title : Cs) (L : List Pr), toks p = rulePs title L ∧ RuleP title L ∧ RlOk (rlOf title L) ∧ title ∉ rs.map (·.title) ∧ ∀ v H', (∀ b o, b ≠ lr → H b = some o → H' b = some o) → HearIn K c H0 H' lk lr ks (rs ++ [rlOf title L]) kvs (rvs ++ [v]) → Q .non H'))
theorem RuleO.older {K : PySem.W.Frag} {c : Cl} {H0 H1 H : Hp} {r : Rl} {v : V} (d : ∀ b, H1 b = none → H0 b = none) (h : RuleO K c H1 H r v) : RuleO K c H0 H r v := by
  obtain ⟨a, dx, fs, e, n, h1, ⟨t1, ⟨v2, e2, h2⟩, ⟨v3, e3, h3⟩, ⟨v4, e4, h4⟩, ⟨v5, e5, h5⟩, ⟨v6, e6, h6⟩, ⟨v7, e7, h7⟩, h8⟩⟩ := h
  refine ⟨a, dx, fs, e, d a n, h1, ⟨t1, ⟨v2, e2, Lst.older d h2⟩, ⟨v3, e3, Lst.older d h3⟩, ⟨v4, e4, Looks.older d h4⟩, ⟨v5, e5, Lst.older d h5⟩, ⟨v6, e6, Lst.older d h6⟩, ⟨v7, e7, ?_⟩, h8⟩⟩
  obtain ⟨l, el, nl, hl⟩ := h7
  exact ⟨l, el, d l nl, hl⟩
/-- what was there when a new thing came stands apart from it -/
theorem PartAt.apart {K : PySem.W.Frag} {c : Cl} {H0 H : Hp} {v : V} {x : Addr} {o : HO} (hx : H x = none) {p : Pt} (h : PartAt K c H0 H v p) : PartAt K c (upd H0 x o) H v p := by
  have key : ∀ b u, H b = some u → H0 b = none → upd H0 x o b = none := fun b u e n => by rw [upd_ne (ne_of_none e hx)]; exact n
  cases p with
  | fs l =>
    obtain ⟨l, vs, e, n, h1, h2⟩ := h
    exact ⟨l, vs, e, key _ _ h1 n, h1, h2⟩
  | pr l =>
    obtain ⟨l, vs, e, n, h1, h2⟩ := h
    exact ⟨l, vs, e, key _ _ h1 n, h1, h2⟩
  | lk l =>
    obtain ⟨l, vs, e, n, h1, h2⟩ := h
    exact ⟨l, vs, e, key _ _ h1 n, h1, L2.Paired.mapP h2 fun k y z => by
      obtain ⟨a, dx, fs, e, n, z1, z2⟩ := z
      exact ⟨a, dx, fs, e, key _ _ z1 n, z1, z2⟩⟩
theorem RuleF.older {K : PySem.W.Frag} {c : Cl} {H0 H1 H : Hp} {r : Rl} {fs : List (Str × V)} (d : ∀ b, H1 b = none → H0 b = none) (h : RuleF K c H1 H r fs) : RuleF K c H0 H r fs := by
  obtain ⟨t1, ⟨v2, e2, h2⟩, ⟨v3, e3, h3⟩, ⟨v4, e4, h4⟩, ⟨v5, e5, h5⟩, ⟨v6, e6, h6⟩, ⟨v7, e7, h7⟩, h8⟩ := h
  refine ⟨t1, ⟨v2, e2, Lst.older d h2⟩, ⟨v3, e3, Lst.older d h3⟩, ⟨v4, e4, Looks.older d h4⟩, ⟨v5, e5, Lst.older d h5⟩, ⟨v6, e6, Lst.older d h6⟩, ⟨v7, e7, ?_⟩, h8⟩
  obtain ⟨l, el, nl, hl⟩ := h7
  exact ⟨l, el, d l nl, hl⟩
/-! ### the second go -/
/-- the facts fit the kinds -/
def FactFits (ks : List Kd) (f : Fc) : Prop := ∃ k ∈ ks, k.n = f.k ∧ f.as.length = k.c
def spCheckF (K : PySem.W.Frag) : Sp := fun vs H Q _ => ∃ (lk lf : Addr) (kvs fvs : List V) (ks : List Kd) (fs : List Fc), vs = [.ref lk, .ref lf] ∧ H lk = some (.lst kvs) ∧ Paired (Kind K H) ks kvs ∧ (ks.map (·.n)).Nodup ∧ ks.length ≤ 10000 ∧ H lf = some (.lst fvs) ∧ Paired (Fact K H) fs fvs ∧ (∀ f ∈ fs, FactFits ks f) ∧ ∀ H', Same H H' → Q .non H'
def spCheckT (K : PySem.W.Frag) : Sp := fun vs H Q _ => ∃ (ll lf : Addr) (fvs : List V) (ls : List Cs) (fs : List Fc), vs = [.ref ll, .ref lf] ∧ H ll = some (.lst (ls.map tx)) ∧ H lf = some (.lst fvs) ∧ Paired (Fact K H) fs fvs ∧ (∀ f ∈ fs, f.k ∉ ls) ∧ Q .non H
def spCheckC (K : PySem.W.Frag) (c : Cl) : Sp := fun vs H Q _ => ∃ (H0 : Hp) (ll : Addr) (v : V) (ls : List Cs) (r : Rl), vs = [.ref ll, v] ∧ H ll = some (.lst (ls.map tx)) ∧ RuleO K c H0 H r v ∧ (r.take = [] → ∀ f ∈ r.put, f.k ∈ ls) ∧ Q .non H
def saidOf (r : Rl) : List Cs := (r.looks.flatMap fun k => [k.l, k.r]) ++ ((r.put.flatMap (·.as)) ++ (r.tell.flatMap fun p => [p.1, p.2]))
def spSaid (K : PySem.W.Frag) (c : Cl) : Sp := fun vs H Q _ => ∃ (H0 : Hp) (v : V) (r : Rl), vs = [v] ∧ RuleO K c H0 H r v ∧ (saidOf r).length ≤ 20000 ∧ ∀ u H', Same H H' → Texts H H' u (saidOf r) → Q u H'
def spCheckN (K : PySem.W.Frag) (c : Cl) : Sp := fun vs H Q _ => ∃ (H0 : Hp) (v : V) (r : Rl), vs = [v] ∧ RuleO K c H0 H r v ∧ (saidOf r).length ≤ 20000 ∧ (∀ a ∈ saidOf r, nameC a = true) ∧ (∀ a ∈ saidOf r, great a = true → a ∈ opens (r.take ++ r.keep)) ∧ ∀ H', Same H H' → Q .non H'
/-- a rule in order -/
structure RlGood (ks : List Kd) (r : Rl) : Prop where
  fits : ∀ f ∈ r.take ++ r.keep ++ r.put, FactFits ks f
  takes : ∀ f ∈ r.take, f.k ∉ (ks.filter (·.l)).map (·.n)
  calls : r.take = [] → ∀ f ∈ r.put, f.k ∈ (ks.filter (·.l)).map (·.n)
  said : ∀ a ∈ saidOf r, great a = true → a ∈ opens (r.take ++ r.keep)
  names : ∀ a ∈ saidOf r, nameC a = true
  few : (saidOf r).length ≤ 20000
  fewF : (r.take ++ r.keep ++ r.put).length ≤ 20000
def spWhole (K : PySem.W.Frag) (c : Cl) : Sp := fun vs H Q _ => ∃ (H0 : Hp) (lk lr : Addr) (ks : List Kd) (rs : List Rl) (kvs rvs : List V), vs = [.ref lk, .ref lr] ∧ HearIn K c H0 H lk lr ks rs kvs rvs ∧ (ks.map (·.n)).Nodup ∧ (∀ r ∈ rs, RlGood ks r) ∧
  ∀ x dx fs H', Same H H' → H x = none → H' x = some (.ins c.book dx fs) → fs.lookup ("kinds" : Str) = some (.ref lk) → fs.lookup ("rules" : Str) = some (.ref lr) → Q (.ref x) H'
theorem mergeK_nodup : ∀ (ps acc : List (Key × V)), ((acc ++ ps).map (·.1)).Nodup → mergeK acc ps = acc ++ ps
  | [], acc, _ => by show acc = acc ++ []; rw [List.append_nil]
  | p :: r, acc, h => by
    have hn : valV acc p.1 = none := valV_none fun q hq e => by
      rw [List.map_append, List.map_cons, List.nodup_append] at h
      exact h.2.2 q.1 (List.mem_map.mpr ⟨q, hq, rfl⟩) p.1 List.mem_cons_self e
    have ih := mergeK_nodup r (acc ++ [p]) (by rw [List.append_assoc]; exact h)
    show mergeK (putK acc p.1 p.2) r = _
    rw [putK_new _ hn, ih, List.append_assoc]
    rfl
theorem valV_find : ∀ {ps : List (Key × V)} {k : Key} {v : V}, (ps.map (·.1)).Nodup → (k, v) ∈ ps → valV ps k = some v
  | p :: r, k, v, hn, h => by
    rw [List.map_cons, List.nodup_cons] at hn
    rcases List.mem_cons.mp h with e | h
    · subst e; exact valV_pos rfl
    · have : p.1 ≠ k := fun e => hn.1 (List.mem_map.mpr ⟨(k, v), h, e.symm⟩)
      rw [valV_neg this]
      exact valV_find hn.2 h
theorem flat_take {α : Type} (g : α → List Cs) (l : List α) (i : Nat) : ((l.take i).flatMap g).length ≤ (l.flatMap g).length := by
  have e : l.flatMap g = (l.take i).flatMap g ++ (l.drop i).flatMap g := by rw [← List.flatMap_append, List.take_append_drop]
  rw [e, List.length_append]
  omega
def kdEnt (k : Kd) : Key × V := (Sum.inr (S k.n), .int k.c)
theorem paired_mapL {K : PySem.W.Frag} {H : Hp} : ∀ {ks : List Kd} {ys : List V}, Paired (fun (k : Kd) (y : V) => ∃ t, y = .ref t ∧ SqT K H t [tx k.n, .int k.c]) ks ys → PrsAt K H (ks.map kdEnt) ys
  | _, _, .nil => .nil
  | _, _, .cons r t => .cons r (paired_mapL t)
theorem kdEnt_nodup {ks : List Kd} (h : (ks.map (·.n)).Nodup) : ((ks.map kdEnt).map (·.1)).Nodup := by
  rw [List.map_map]
  have e : ((fun p : Key × V => p.1) ∘ kdEnt) = (fun n : Cs => (Sum.inr (S n) : Key)) ∘ (fun k : Kd => k.n) := rfl
  rw [e, ← List.map_map]
  exact List.pairwise_map.mpr (List.Pairwise.imp (fun hne e => hne (S_inj (Sum.inr.inj e))) h)
end Bk
namespace Bk
open PySem L2 K02
/-! ### a whole book -/
inductive It where
  | kind (k : Kd)
  | rule (title : Cs) (L : List Pr)
def It.ps : It → List Cs
  | .kind k => kindP k
  | .rule t L => rulePs t L
def ksOf : List It → List Kd
  | [] => []
  | .kind k :: r => k :: ksOf r
  | .rule _ _ :: r => ksOf r
def rsOf : List It → List Rl
  | [] => []
  | .kind _ :: r => rsOf r
  | .rule t L :: r => rlOf t L :: rsOf r
theorem ksOf_app (a b : List It) : ksOf (a ++ b) = ksOf a ++ ksOf b := by
  induction a with
  | nil => rfl
  | cons x r ih => cases x <;> simp [ksOf, ih]
theorem rsOf_app (a b : List It) : rsOf (a ++ b) = rsOf a ++ rsOf b := by
  induction a with
  | nil => rfl
  | cons x r ih => cases x <;> simp [rsOf, ih]
def ItOk : It → Prop
  | .kind k => KdOk k
  | .rule t L => RuleP t L ∧ RlOk (rlOf t L)
/-- the told lines with what they tell -/
structure BookT (ls : List Cs) (its : List (Cs × It)) : Prop where
  lines : ls.filter told = its.map (·.1)
  ok : ∀ x ∈ its, x.1.all (okS aLine) = true ∧ toks x.1 = x.2.ps ∧ ItOk x.2
  nk : ((ksOf (its.map (·.2))).map (·.n)).Nodup
  nr : ((rsOf (its.map (·.2))).map (·.title)).Nodup
  good : ∀ r ∈ rsOf (its.map (·.2)), RlGood (ksOf (its.map (·.2))) r
  few : its.length < 10000
def spBook (K : PySem.W.Frag) (c : Cl) : Sp := fun vs H Q _ => ∃ (ls : List Cs) (its : List (Cs × It)), vs = [tx (joinN ls)] ∧ ls ≠ [] ∧ (∀ l ∈ ls, 10 ∉ l) ∧ (joinN ls).length ≤ 20000 ∧ BookT ls its ∧ ∀ v H', Same H H' → BookO K c H H' (ksOf (its.map (·.2))) (rsOf (its.map (·.2))) v → Q v H'
theorem ksOf_len : ∀ (a : List It), (ksOf a).length ≤ a.length
  | [] => Nat.le_refl _
  | .kind k :: r => by show (ksOf r).length + 1 ≤ _; have := ksOf_len r; rw [List.length_cons]; omega
  | .rule t L :: r => by show (ksOf r).length ≤ _; have := ksOf_len r; rw [List.length_cons]; omega
theorem rsOf_len : ∀ (a : List It), (rsOf a).length ≤ a.length
  | [] => Nat.le_refl _
  | .kind k :: r => by show (rsOf r).length ≤ _; have := rsOf_len r; rw [List.length_cons]; omega
  | .rule t L :: r => by show (rsOf r).length + 1 ≤ _; have := rsOf_len r; rw [List.length_cons]; omega
end Bk
/-! MY OWN ADDITIONS: sep.join(..).replace(a, b) of written texts -/
namespace L2
open PySem PySem.Spec PyProof.Rows
section
variable {X : Cx}
end
end L2
/-! MY OWN ADDITIONS: != of data trees, of a list and the empty one -/
namespace L2
open PySem PySem.Spec PyProof.Rows
end L2
namespace Bk
open PySem L2 K02
/-! ### what the laws draw -/
abbrev aAll : Str := "abcdefghijklmnopqrstuvwxyz0123456789ABCDEFGHIJKLMNOPQRSTUVWXYZ"
abbrev aSF : Str := "abcdefghijklmnopqrstuvwxyz0123456789"
theorem app_S (a b : List Nat) : S a ++ S b = S (a ++ b) := by
  rw [← S_of (S a ++ S b), PySem.W.KT.app_list, S_codes, S_codes]
theorem len_sum : ∀ {as : List (List Nat)} {B : Nat}, (∀ a ∈ as, a.length ≤ B) → ((as.map S).map (·.length)).sum ≤ as.length * B
  | [], _, _ => by simp
  | a :: r, B, h => by
    have z := h a (by simp)
    have ih := len_sum (as := r) (B := B) fun x hx => h x (List.mem_cons_of_mem _ hx)
    rw [List.map_cons, List.map_cons, List.sum_cons, S_len, List.length_cons, Nat.add_mul]
    omega
def spCell (K : PySem.W.Frag) : Sp := fun vs H Q _ => ∃ (a : Addr) (ns : List Int) (k : Int), vs = [.ref a, .int k] ∧ SqL K H a (ns.map V.int) ∧ 0 ≤ k ∧ ∀ v : Int, Q (.int v) H
def spLaw (K : PySem.W.Frag) : Sp := fun vs H Q _ => ∃ (a : Addr) (ns : List Int), vs = [.ref a] ∧ SqL K H a (ns.map V.int) ∧ ns.length ≤ 63 ∧ ∀ H', Q (.bl true) H'
/-- names of a drawn form: each once -/
theorem nodup_map_range {α : Type} {n : Nat} {g : Nat → α} (h : ∀ i j, i < n → j < n → g i = g j → i = j) : ((List.range n).map g).Nodup := by
  rw [List.nodup_iff_pairwise_ne, List.pairwise_map]
  refine List.Pairwise.imp_of_mem ?_ (List.nodup_range (n := n))
  intro a b ha hb hne e
  exact hne (h a b (List.mem_range.mp ha) (List.mem_range.mp hb) e)
theorem at_list {zs : List (List Nat)} {i : Int} (h0 : 0 ≤ i) (h1 : i < zs.length) : atI (zs.map tx) i = some (tx (zs.getD i.toNat [])) := by
  have hk : i.toNat < zs.length := by omega
  have z := atI_nat (xs := zs.map tx) (j := i.toNat) (v := tx (zs.getD i.toNat [])) (by rw [List.getElem?_map, List.getElem?_eq_getElem hk, List.getD_eq_getElem?_getD, List.getElem?_eq_getElem hk]; rfl)
  rw [show ((i.toNat : Nat) : Int) = i by omega] at z
  exact z
theorem cut_ints (ns : List Int) (lo hi : Option Int) : ∃ ms : List Int, cutV (ns.map V.int) lo hi = ms.map V.int ∧ ms.length ≤ ns.length := by
  refine ⟨(ns.drop (HT.sIx ns.length 0 lo)).take (HT.sIx ns.length ns.length hi - HT.sIx ns.length 0 lo), ?_, ?_⟩
  · unfold cutV
    rw [List.length_map, List.map_take, List.map_drop]
  · rw [List.length_take, List.length_drop]
    omega
end Bk
namespace Bk
open PySem L2 K02
/-! ### texts joined by one sign; lines of kinds; remarks -/
def joinC (c : Nat) : List Cs → Cs
  | [] => []
  | [a] => a
  | a :: r => a ++ c :: joinC c r
theorem joinC_str (c : Nat) : ∀ (ls : List Str), (Str.join ⟨#[c]⟩ ls).cps.toList = joinC c (ls.map fun s => s.cps.toList)
  | [] => rfl
  | [a] => rfl
  | a :: b :: r => by
    have ih := joinC_str c (b :: r)
    show ((a ++ (⟨#[c]⟩ : Str)) ++ Str.join ⟨#[c]⟩ (b :: r)).cps.toList = _
    rw [PySem.W.KT.app_list, PySem.W.KT.app_list, ih]
    show (a.cps.toList ++ [c]) ++ _ = a.cps.toList ++ c :: _
    simp
theorem joinC_N : ∀ ls, joinC 10 ls = joinN ls
  | [] => rfl
  | [a] => rfl
  | a :: b :: r => by
    show a ++ 10 :: joinC 10 (b :: r) = a ++ 10 :: joinN (b :: r)
    rw [joinC_N (b :: r)]
theorem joinC_S (c : Nat) (ls : List Cs) : Txt.join ⟨#[c]⟩ (ls.map S) = S (joinC c ls) := by
  show Builtin.Str.glued ⟨#[c]⟩ _ = _
  rw [StrLaws.glued_eq_join, ← S_of (Str.join ⟨#[c]⟩ (ls.map S)), joinC_str, List.map_map]
  have e : ((fun s : Str => s.cps.toList) ∘ S) = id := by
    funext p
    exact S_codes p
  rw [e, List.map_id]
theorem joinN_le : ∀ (ls : List Cs) (B : Nat), (∀ l ∈ ls, l.length ≤ B) → (joinN ls).length ≤ ls.length * (B + 1)
  | [], _, _ => by simp [joinN]
  | [a], B, h => by
    have := h a (by simp)
    show a.length ≤ 1 * (B + 1)
    omega
  | a :: b :: r, B, h => by
    have ih := joinN_le (b :: r) B fun l hl => h l (List.mem_cons_of_mem _ hl)
    have h1 := h a (by simp)
    show (a ++ 10 :: joinN (b :: r)).length ≤ ((b :: r).length + 1) * (B + 1)
    rw [List.length_append, List.length_cons, Nat.add_mul]
    omega
/-- a kind's line, with blanks -/
def kindL (k : Kd) (a b c d : Nat) : Cs := List.replicate a 32 ++ ((if k.l = true then kwLasting else kwPassing) ++ (List.replicate b 32 ++ (k.n ++ (List.replicate c 32 ++ ([48 + k.c] ++ List.replicate d 32)))))
def kindText (k : Kd) : Cs := (if k.l = true then kwLasting else kwPassing) ++ (32 :: (k.n ++ (32 :: [48 + k.c])))
theorem kindText_L (k : Kd) : kindText k = kindL k 0 1 1 0 := by
  unfold kindText kindL
  simp [List.replicate]
theorem kw_al (b : Bool) : (if b = true then kwLasting else kwPassing).all isAl = true ∧ (if b = true then kwLasting else kwPassing).length = 7 := by cases b <;> exact ⟨by decide +kernel, rfl⟩
theorem fig_al {c : Nat} (h : c ≤ 4) : isAl (48 + c) = true := by
  rcases (by omega : c = 0 ∨ c = 1 ∨ c = 2 ∨ c = 3 ∨ c = 4) with e | e | e | e | e <;> subst e <;> decide +kernel
theorem small_al {p : Cs} (h : smallC p = true) : p.all isAl = true := by
  unfold smallC nameC at h
  simp only [Bool.and_eq_true] at h
  exact h.1.2.2
theorem stops_rep {n : Nat} (h : 1 ≤ n) (r : Cs) : Stops (List.replicate n 32 ++ r) := by
  cases n with
  | zero => omega
  | succ n => exact al_blank
theorem toks_kindL {k : Kd} {a b c d : Nat} (hn : smallC k.n = true) (hc : k.c ≤ 4) (hb : 1 ≤ b) (hc1 : 1 ≤ c) : toks (kindL k a b c d) = kindP k := by
  have h1 := kw_al k.l
  have hl := smallC_len hn
  unfold kindL kindP
  rw [toks_blanks, toks_name h1.1 (fun z => by rw [z] at h1; exact absurd h1.2 (by decide)) (stops_rep hb _), toks_blanks, toks_name (small_al hn) (fun z => by rw [z] at hl; simp at hl) (stops_rep hc1 _), toks_blanks,
    toks_name (n := [48 + k.c]) (by simp [fig_al hc]) (by simp) (by have z := stops_blanks d (r := []) trivial; rwa [List.append_nil] at z)]
  have z := toks_blanks d []
  rw [List.append_nil] at z
  rw [z]
  rfl
theorem okS_al {m : Str} {c : Nat} (h : isAl c = true) : okS m c = true := by
  unfold okS
  rw [h]
  rfl
theorem all_rep {f : Nat → Bool} (h : f 32 = true) (n : Nat) : (List.replicate n 32).all f = true := by
  rw [List.all_eq_true]
  intro x hx
  rw [(List.mem_replicate.mp hx).2]
  exact h
theorem kindL_all {f : Nat → Bool} (h32 : f 32 = true) (hal : ∀ c, isAl c = true → f c = true) {k : Kd} {a b c d : Nat} (hn : smallC k.n = true) (hc : k.c ≤ 4) : (kindL k a b c d).all f = true := by
  have up : ∀ p : Cs, p.all isAl = true → p.all f = true := fun p h => by
    rw [List.all_eq_true] at h ⊢
    exact fun x hx => hal x (h x hx)
  unfold kindL
  rw [List.all_append, List.all_append, List.all_append, List.all_append, List.all_append, List.all_append, all_rep h32, all_rep h32, all_rep h32, all_rep h32, up _ (kw_al k.l).1, up _ (small_al hn), up [48 + k.c] (by simp [fig_al hc])]
  rfl
theorem drop_rep {n : Nat} {r : Cs} : (List.replicate n 32 ++ r).dropWhile (· == 32) = r.dropWhile (· == 32) := by
  induction n with
  | zero => rfl
  | succ n ih => rw [List.replicate_succ, List.cons_append, List.dropWhile_cons, if_pos (by decide)]; exact ih
theorem kindL_told {k : Kd} {a b c d : Nat} : told (kindL k a b c d) = true := by
  unfold told kindL
  rw [drop_rep]
  cases k.l <;> rfl
end Bk
namespace Bk
open PySem L2 K02
theorem kindText_len {k : Kd} (h : k.n.length ≤ 12) : (kindText k).length ≤ 22 := by
  unfold kindText
  have := (kw_al k.l).2
  simp only [List.length_append, List.length_cons, List.length_nil]
  omega
end Bk
namespace Bk
open PySem L2 K02
theorem kit_int_bool {K : PySem.W.Frag} : PySem.W.kitOne K (.type "int") (.type "bool") = some false := by
  unfold PySem.W.kitOne PySem.W.kitCls
  rw [if_neg (by decide +kernel)]
  show (if PySem.W.kitMeta "bool" = true then PySem.W.subIn K (.type "int") (.type "bool") else none) = some false
  rw [if_pos (by decide +kernel)]
  rfl
theorem rel_tx {p : Cs} {z : Str} {t : Tok} (e : z = S p) : RelV (tx p) (Value.str z t) := ⟨t, by rw [e]⟩
end Bk
/-! MY OWN ADDITIONS: for i, x in enumerate(list) -/
namespace L2
open PySem PySem.Spec PyProof.Rows
section
variable {X : Cx} {pins : List (Addr × Obj)} {σ : St} {H : Hp} {s : Shared} {h' : Heap}
theorem Inv.turned2 {t' : Nat} {ch : List Addr} (I : Inv X pins σ H s) (k : ∀ b o, b ∉ ch → s.heap.get? b = some o → h'.get? b = some o) (hf : ∀ it ∈ ch, H it = none ∧ it ≠ X.env.locals ∧ (it ∈ X.ex ∨ X.s₀.heap.objs.size ≤ it) ∧ (∀ x c, X.env.cells.lookup x = some c → c ≠ it) ∧ ∀ p ∈ X.pn ++ pins, p.1 ≠ it) :
    Inv X pins σ H { s with heap := h', toks := t' } := by
  have nit : ∀ b u, H b = some u → b ∉ ch := fun b u e z => by rw [(hf b z).1] at e; cases e
  refine I.step (g' := s.gens) (d' := s.drawn) (ch := ch) (fun b hb => ?_) (fun b o _ _ hc e _ => k b o hc e) (fun b o _ _ hc e _ => ⟨o.slots, k b o hc e⟩) (fun _ _ _ _ n => n)
    (fun b o hc e => ⟨o, k b o hc e⟩) (fun _ _ e => e) (fun _ _ _ e => e) (fun b ps e => ⟨#[], by rw [e]; simp⟩) (fun m hm => ?_) (fun b u e => ?_) I.bare
  · obtain ⟨_, a2, a3, a4, a5⟩ := hf b hb
    exact ⟨a3, a2, a4, a5⟩
  · obtain ⟨o, es, ep, ho, r⟩ := hm
    exact ⟨o, es, ep, k _ o (fun z => (hf _ z).2.1 rfl) ho, r⟩
  · refine (I.hok b u e).stay (fun c v hc q => k c v ?_ q) (fun _ q => q) fun _ _ q => q
    rcases hc with z | z
    · rw [z]; exact nit b u e
    · exact nit c _ z
theorem get_push_ne (h : Heap) (a : Addr) (o : Obj) (ha : a ≠ h.objs.size) : (h.push o).get? a = h.get? a := by
  cases h
  simp only [Heap.push, Heap.get?, Array.getElem?_push]
  rw [if_neg ha]
/-- i, x of a list, as a new tuple each -/
def Ite (K : PySem.W.Frag) (a : Addr) : It :=
  ⟨fun i H => ∃ xs x, SqL K H a xs ∧ xs[i]? = some x, fun i H x H' => ∃ t v, H t = none ∧ H' = upd H t (.tup [.int (i : Int), v]) ∧ x = .ref t ∧ ∀ xs, SqL K H a xs → xs[i]? = some v, fun i H => ∃ xs, SqL K H a xs ∧ xs.length ≤ i⟩
theorem turn_enum {P : Program} {w : World} {K : PySem.W.Frag} {elts : List Expr} {x1 : Nat} {pos : Pos} (a e it : Addr) (hne : e ≠ it) : Turn P w K (.Tuple elts x1 pos) (Ite K a) [e, it] e (fun i h => (∃ old, IsEnum h e it ((i : Nat) : Int) old) ∧ h.IsListIter it a i) where
  mem := by simp
  obj := fun i h st b hb => by
    obtain ⟨⟨old, st1⟩, st2⟩ := st
    rcases (by simpa using hb : b = e ∨ b = it) with z | z
    · subst z
      exact ⟨_, st1, fun v z => nomatch z⟩
    · subst z
      obtain ⟨o, e, c, d⟩ := st2
      exact ⟨o, e, fun v z => by rw [d] at z; cases z⟩
  keep := fun i h h' st k => by
    obtain ⟨⟨old, st1⟩, st2⟩ := st
    exact ⟨⟨old, k e (by simp) _ st1⟩, st2.at fun o q => k it (by simp) o q⟩
  item := by
    intro X hP hw hK hc i pins s σ H E I hf st hg
    subst hP hw hK
    obtain ⟨⟨old, st1⟩, st2⟩ := st
    obtain ⟨xs, x, hq, hx⟩ := hg
    obtain ⟨its, rv, p, hz⟩ := I.list hq
    obtain ⟨u, hu, ru⟩ := rv.get hx
    have fe := hf e (by simp)
    have fi := hf it (by simp)
    refine wpAny_pyNext_enum_item st1 st2 p.isList (x := u) (by simpa using hu) hne fun h1 heo hit1 ht1 hz1 hk1 => ?_
    refine ⟨_, rfl, wpAny_letOwnedTupleGo_enum heo fun h2 he2 hs2 => ?_⟩
    replace hs2 : Heap.SameBut e h1 h2 := hs2
    have hfr : H s.heap.objs.size = none := I.hok.fresh (Nat.le_refl _)
    have hel : e < s.heap.objs.size := Heap.lt_size st1
    have hil : it < s.heap.objs.size := by
      obtain ⟨o, q, _⟩ := id st2
      exact Heap.lt_size q
    have ht2 : h2.get? s.heap.objs.size = some { cls := .type "tuple", data := .seq #[.int i s.toks, u] } := (hs2.2 _ (Nat.ne_of_gt hel)).trans ht1
    have I1 : Inv X pins σ (upd H s.heap.objs.size (.tup [.int (i : Int), x])) { s with heap := s.heap.push { cls := .type "tuple", data := .seq #[.int i s.toks, u] }, toks := s.toks + 1 } := by
      refine I.laid (t' := s.toks + 1) (fun b u q => Heap.get?_push_of_some _ q) (Nat.le_refl _) ?_
      exact ⟨(by show 2 ≤ sizeLine; decide), [.int i s.toks, u], .cons ⟨_, rfl⟩ (.cons ru .nil), ⟨_, Heap.get?_push_size _ rfl, rfl, 0, rfl⟩⟩
    have I2 : Inv X pins σ (upd H s.heap.objs.size (.tup [.int (i : Int), x])) { s with heap := h2, toks := s.toks + 1 } := by
      refine Inv.turned2 (s := { s with heap := s.heap.push { cls := .type "tuple", data := .seq #[.int i s.toks, u] }, toks := s.toks + 1 }) (h' := h2) (t' := s.toks + 1) (ch := [e, it]) I1 (fun b o hb q => ?_) (fun b hb => ?_)
      · have hb1 : b ≠ e := fun z => hb (by simp [z])
        have hb2 : b ≠ it := fun z => hb (by simp [z])
        by_cases hbs : b = s.heap.objs.size
        · subst hbs
          have q2 : (s.heap.push { cls := .type "tuple", data := .seq #[.int i s.toks, u] }).get? s.heap.objs.size = some o := q
          rw [Heap.get?_push_size _ rfl] at q2
          rw [ht2, ← q2]
        · have q2 : (s.heap.push { cls := .type "tuple", data := .seq #[.int i s.toks, u] }).get? b = some o := q
          have q3 : s.heap.get? b = some o := (get_push_ne _ _ _ hbs).symm.trans q2
          exact (hs2.2 b hb1).trans (hk1 b o hb1 hb2 q3)
      · have f := hf b hb
        refine ⟨?_, f.2.1, f.2.2.2.1, f.2.2.2.2.1, f.2.2.2.2.2⟩
        rw [upd_ne]
        · exact f.1
        · rcases (by simpa using hb : b = e ∨ b = it) with z | z <;> rw [z]
          · exact Nat.ne_of_lt hel
          · exact Nat.ne_of_lt hil
    refine ⟨.ref s.heap.objs.size, _, I2, rfl, ⟨_, x, hfr, rfl, rfl, fun ys hy => by rw [I.list_inj hy hq]; exact hx⟩, ⟨⟨u, ?_⟩, ?_⟩, fun b hb => ?_⟩
    · show IsEnum h2 e it (((i + 1 : Nat)) : Int) u
      have e1 : (((i + 1 : Nat)) : Int) = (i : Int) + 1 := by push_cast; rfl
      rw [e1]
      exact he2
    · exact hit1.at fun o q => (hs2.2 it (Ne.symm hne)).trans q
    · rw [upd_ne]
      · exact (hf b hb).1
      · rcases (by simpa using hb : b = e ∨ b = it) with z | z <;> rw [z]
        · exact Nat.ne_of_lt hel
        · exact Nat.ne_of_lt hil
  done := by
    intro X hP hw hK hc i pins s σ H E I hf st hg
    subst hP hw hK
    obtain ⟨⟨old, st1⟩, st2⟩ := st
    obtain ⟨xs, hq, hx⟩ := hg
    obtain ⟨its, rv, p, hz⟩ := I.list hq
    have hl := rv.length
    obtain ⟨f0, f1, f2, f3, f4, f5⟩ := hf it (by simp)
    exact wpAny_pyNext_enum_end (I.ok.hd hc) st1 st2 p.isList (by simp; omega) fun h' eb => ⟨rfl, I.turned (t' := s.toks) (fun b o hb e => eb b o hb e) f0 f1 f3 f4 f5⟩
  self := fun _ _ _ _ _ st h => by
    obtain ⟨⟨old, st1⟩, _⟩ := st
    exact wpAny_pyIter_enum st1 h
/-- enumerate(list) -/
def iEnum (K : PySem.W.Frag) (tl : TE) : TI := fun σ H R => tl σ H fun x H1 => ∃ a, x = .ref a ∧ (∃ xs, SqL K H1 a xs) ∧ R (Ite K a) H1
theorem pi_enum {l : Expr} {tl : TE} {elts : List Expr} {x1 : Nat} {tpos p cpos : Pos} (hl : PE X l tl) (hg : Gl X "enumerate") (hm : X.mg "enumerate" = none) (hv : bootBuiltins "enumerate" = some (.type "enumerate")) 
    (he : starEach [l] X.env = (false, eval l X.env) :: starEach [] X.env := by rfl) : PI X (.Tuple elts x1 tpos) (.Call (.Name "enumerate" p) [l] [] cpos) (iEnum X.K tl) := by
  intro pins s σ H R I h
  refine wpAny_Call_Name_kw (ld_blt I hg hm hv ?_ (by decide) (by decide))
  have hpa : PA X [l] (tCons tl tNil) := pa_cons hl pa_nil he
  refine PyProof.Rows.callWith_type1 (thn (hpa cpos pins s σ H (fun vs H1 => match vs with | [x] => ∃ a, x = .ref a ∧ (∃ xs, SqL X.K H1 a xs) ∧ R (Ite X.K a) H1 | _ => False) I h) fun us s1 ⟨vs, H1, I1, r1, q1⟩ => ?_) he rfl
  match vs, r1, q1 with
  | [x], r1, ⟨a, ex, ⟨xs, hq⟩, q⟩ =>
    subst ex
    obtain ⟨u, rfl, ru⟩ := vals1 r1
    cases ru
    obtain ⟨its, rv, p, hz⟩ := I1.list hq
    refine call_enumerate_list p.isList fun h' he hit hz' hk => wpAny_pyIter_enum he ?_
    refine ⟨s1.heap.objs.size + 1, [s1.heap.objs.size + 1, s1.heap.objs.size], _, _, H1, rfl, I1.kept (t' := s1.toks) hk, turn_enum a _ _ (Nat.succ_ne_self _), ⟨⟨_, he⟩, hit⟩, fun b hb => ?_, q⟩
    have hb' : s1.heap.objs.size ≤ b := by
      rcases (by simpa using hb : b = s1.heap.objs.size + 1 ∨ b = s1.heap.objs.size) with z | z <;> rw [z]
      · exact Nat.le_succ _
      · exact Nat.le_refl _
    exact I1.fpOk hb' (I1.hok.fresh hb')
/-- what a loop over enumerate(list) wants -/
theorem for_enum {K : PySem.W.Frag} {a : Addr} {xs : List V} {g : TG} {tb : TS} {D : Ends} {σ : St} {H : Hp} (Pv : Nat → St → Hp → Prop) (h0 : Pv 0 σ H) (hl : ∀ i σ H, i ≤ xs.length → Pv i σ H → SqL K H a xs)
    (hs : ∀ i x σ H t, xs[i]? = some x → Pv i σ H → H t = none → g (.ref t) σ (upd H t (.tup [.int (i : Int), x])) fun σ2 H2 => tb { D with nx := Pv (i + 1), ct := Pv (i + 1), bk := D.nx } σ2 H2) (hd : ∀ σ H, Pv xs.length σ H → D.nx σ H) :
    ∃ W : Nat → Nat → St → Hp → Prop, (∃ m, W 0 m σ H) ∧ ∀ i m σ H, W i m σ H →
      ((Ite K a).stop i H ∧ D.nx σ H) ∨ ((Ite K a).go i H ∧ ∃ N : St → Hp → Prop, (∀ σ' H', N σ' H' → ∃ m', m' < m ∧ W (i + 1) m' σ' H') ∧ ∀ x H', (Ite K a).yld i H x H' → g x σ H' fun σ2 H2 => tb { D with nx := N, ct := N, bk := D.nx } σ2 H2) := by
  refine ⟨fun i m σ H => m = xs.length - i ∧ i ≤ xs.length ∧ Pv i σ H, ⟨xs.length, by simp, Nat.zero_le _, h0⟩, ?_⟩
  rintro i m σ H ⟨rfl, hi, p⟩
  have q := hl i σ H hi p
  by_cases hlt : i < xs.length
  · refine .inr ⟨⟨xs, xs[i], q, by simp [hlt]⟩, Pv (i + 1), fun σ' H' p' => ⟨xs.length - (i + 1), by omega, rfl, hlt, p'⟩, fun x H' y => ?_⟩
    obtain ⟨t, v, ht, rfl, rfl, hv⟩ := y
    exact hs i v σ H t (hv xs q) p ht
  · have e : i = xs.length := by omega
    exact .inl ⟨⟨xs, q, by omega⟩, hd σ H (by rw [← e]; exact p)⟩
end
end L2
/-! MY OWN ADDITIONS: list(reversed(list)) -/
namespace L2
open PySem PySem.Spec PyProof.Rows
section
variable {prog : Program} {w : World} {A : Around} {E : Value → Shared → Prop} {s : Shared}
theorem lri_len : typeLookup (.type "list_reverseiterator") "__len__" = pure none := by rw [typeLookup_type, builtinLookup_eq_fast]; kernel_rfl
theorem lri_hint : typeLookup (.type "list_reverseiterator") "__length_hint__" = pure (some (.builtin "list_reverseiterator.__length_hint__")) := by rw [typeLookup_type, builtinLookup_eq_fast]; kernel_rfl
theorem rev_hint {r : Addr} {Q : Bool → Shared → Prop} (hT : s.TypeIs (.ref r) "list_reverseiterator") (h : Q false s) : wpAny (model prog w) A (Builtin.List.listLengthHint (.ref r)) Q E s := by
  unfold Builtin.List.listLengthHint
  refine wpAny_bind (wpAny_specialOf hT lri_len ?_)
  refine wpAny_bind (wpAny_specialOf hT lri_hint ?_)
  generalize hid : ("list_reverseiterator.__length_hint__" : String) = id0
  wp_delta
  rw [show splitId id0 = some ("list_reverseiterator", "__length_hint__") from by subst hid; decide +kernel]
  subst hid
  refine wpAny_bind (wpAny_isInstance (T := "list_reverseiterator") (b := true) hT (by rw [isSubtype_type]; kernel_rfl) ?_)
  refine wpAny_ite_split (fun z => absurd z (by decide)) (fun _ => ?_)
  refine wpAny_ite_split (fun _ => ?_) (fun z => absurd (by decide +kernel) z)
  refine wpAny_ite_split (fun z => absurd z (by decide +kernel)) (fun _ => ?_)
  exact wpAny_pure h
/-- the items of a reversed list, put behind an empty one -/
theorem rev_ext {R : Result → Shared → Prop} {it l : Addr} {vs : Array Value} (hh : A.handled = none) (hne : l ≠ it) (st : s.heap.IsRevIter it l ((vs.size : Int) - 1)) (hl : s.heap.IsList l vs) (S : Addr) (n1 : S ≠ it) (n2 : S ≠ l) (c₀ : Nat) (hS : s.heap.get? S = some { cls := .type "list", data := .seq #[] c₀ })
    (hR : ∀ h' tk acc c', (∀ b o, b ≠ S → b ≠ it → s.heap.get? b = some o → h'.get? b = some o) → h'.get? S = some { cls := .type "list", dict := none, data := .seq acc c', slots := #[] } → ItemsOf (fun i v => vs[vs.size - 1 - i]? = some v) acc vs.size → R (.ok (.ret .none)) { s with heap := h', toks := tk }) (hn : vs.size ≤ sizeLine) :
    wpAny (model prog w) A.in1 (Builtin.List.listExtendWith (.ref S) (.ref it) .none)
      (fun fin s' => match fin with | .done f => R (.ok f) s' | .again c' => c'.quiet = true ∧ codeAny (model prog w) A c' R s') (fun e s' => R (.error e) s') s := by
  have nf : S ∉ [it, l] := by simp [n1, n2]
  have W := Walks.listRev (prog := prog) (w := w) (A := A.in1) hh it l hne vs
  unfold Builtin.List.listExtendWith
  refine wpAny_bind (wpAny_typeOf st.typeIs ?_)
  have q1 : Builtin.List.listSameRef (.ref S) (.ref it) = false := by simp [Builtin.List.listSameRef, n1]
  have q2 : (Value.type "list_reverseiterator" == Value.type "list") = false := by decide
  have q3 : (Value.type "list_reverseiterator" == Value.type "tuple") = false := by decide
  simp only [q1, q2, q3, Bool.or_false, Bool.false_eq_true, if_false]
  refine wpAny_bind (wpAny_pyIter_revIter st ?_)
  refine wpAny_bind (wpAny_holding (rev_hint st.typeIs ?_))
  refine wpAny_ite_split (fun z => absurd z (by decide)) (fun _ => ?_)
  refine wpAny_pure ⟨plainId_quiet PySem.F.plain_extend_loop _, ?_⟩
  refine codeAny_extend_loopS W.toS hn S nf .none vs.size 0 _ #[] c₀ rfl (Nat.zero_le _) ⟨Nat.zero_le _, by simpa using st, hl⟩ hS (ItemsOf.nil _) fun s' acc' c' hm hS' hacc => ?_
  rw [Moved.eq_with hm]
  refine hR s'.heap s'.toks acc' c' (fun b o hb hb2 e => hm.heap b o (fun z => ?_) e) hS' hacc
  rcases List.mem_cons.mp z with z | z
  · exact hb z
  · exact hb2 (List.mem_singleton.mp z)
theorem rev_init {R : Result → Shared → Prop} {it l : Addr} {vs : Array Value} (hh : A.handled = none) (hne : l ≠ it) (st : s.heap.IsRevIter it l ((vs.size : Int) - 1)) (hl : s.heap.IsList l vs) (S : Addr) (n1 : S ≠ it) (n2 : S ≠ l) (hS : s.heap.get? S = some { cls := .type "list", data := .seq #[] })
    (hR : ∀ h' tk acc c', (∀ b o, b ≠ S → b ≠ it → s.heap.get? b = some o → h'.get? b = some o) → h'.get? S = some { cls := .type "list", dict := none, data := .seq acc c', slots := #[] } → ItemsOf (fun i v => vs[vs.size - 1 - i]? = some v) acc vs.size → R (.ok (.ret .none)) { s with heap := h', toks := tk }) (hn : vs.size ≤ sizeLine) :
    wpAny (model prog w) A.in1 (Builtin.«list.__init__» ⟨[.ref S, .ref it], []⟩)
      (fun fin s' => match fin with | .done f => R (.ok f) s' | .again c' => c'.quiet = true ∧ codeAny (model prog w) A c' R s') (fun e s' => R (.error e) s') s := by
  show wpAny _ _ (do let o0 ← Builtin.List.listItems (.ref S); Builtin.List.listUpdate (.ref S) (fun _ => #[]); letGo o0.toList.reverse; Builtin.List.listExtendWith (.ref S) (.ref it) .none) _ _ s
  refine wpAny_bind ?_
  unfold Builtin.List.listItems
  refine wpAny_bind (wpAny_seqItems hS rfl (wpAny_pure ?_))
  show wpAny _ _ (updateSeq S (fun _ => #[]) >>= fun _ => letGo (#[] : Array Value).toList.reverse >>= fun _ => Builtin.List.listExtendWith (.ref S) (.ref it) .none) _ _ s
  refine wpAny_bind (wpAny_updateSeq hS rfl ?_)
  have g2 := Heap.get?_update_self (Obj.mapSeq (fun _ => (#[] : Array Value))) hS rfl
  have kp : ∀ b o, b ≠ S → s.heap.get? b = some o → (s.heap.update S (Obj.mapSeq (fun _ => (#[] : Array Value)))).get? b = some o := fun b o hb e => (Heap.get?_update_other _ _ (Ne.symm hb)).trans e
  refine wpAny_bind (wpAny_letGo ?_)
  exact rev_ext hh hne (st.at fun o e => kp _ o (Ne.symm n1) e) (hl.at fun o e => kp _ o (Ne.symm n2) e) S n1 n2 _ g2 (fun h' tk acc c' k1 k2 k3 => hR h' tk acc c' (fun b o hb hb2 e => k1 b o hb hb2 (kp b o hb e)) k2 k3) hn
theorem rev_call {Q : Value → Shared → Prop} {it l : Addr} {vs : Array Value} (hh : A.handled = none) (hne : l ≠ it) (st : s.heap.IsRevIter it l ((vs.size : Int) - 1)) (hl : s.heap.IsList l vs) (hn : vs.size ≤ sizeLine)
    (hQ : ∀ h' tk acc c', (∀ b o, b ≠ it → s.heap.get? b = some o → h'.get? b = some o) → h'.get? s.heap.objs.size = some { cls := .type "list", dict := none, data := .seq acc c', slots := #[] } → ItemsOf (fun i v => vs[vs.size - 1 - i]? = some v) acc vs.size → Q (.ref s.heap.objs.size) { s with heap := h', toks := tk }) :
    wpAny (model prog w) A (call (.type "list") [.ref it]) Q E s := by
  refine callType_codes (Q₁ := fun x s1 => x = .ref s.heap.objs.size ∧ s1 = { s with heap := s.heap.push { cls := .type "list", data := .seq #[] } }) PySem.F.called_list (PySem.F.typeCall_list_1 _) PySem.F.entry_list_init (code_list_new _ ⟨rfl, rfl⟩) fun x s1 h1 => ?_
  obtain ⟨rfl, rfl⟩ := h1
  have g : (s.heap.push { cls := .type "list", data := .seq #[] }).get? s.heap.objs.size = some { cls := .type "list", data := .seq #[] } := Heap.get?_push_size _ rfl
  have l1 : it < s.heap.objs.size := by obtain ⟨o, e, _⟩ := id st; exact Heap.lt_size e
  have l2 : l < s.heap.objs.size := by obtain ⟨o, e, _⟩ := id hl; exact Heap.lt_size e
  refine ⟨⟨_, g, rfl⟩, PySem.F.args_list_init_2 _ _, rev_init (A := A.in1) hh hne (st.at fun o e => Heap.get?_push_of_some _ e) (hl.at fun o e => Heap.get?_push_of_some _ e) _ (Nat.ne_of_gt l1) (Nat.ne_of_gt l2) g (fun h' tk acc c' k1 k2 k3 => ?_) hn⟩
  exact ⟨rfl, hQ h' tk acc c' (fun b o hb e => k1 b o (Nat.ne_of_lt (Heap.lt_size e)) hb (Heap.get?_push_of_some _ e)) k2 k3⟩
end
section
variable {X : Cx}
/-- list(reversed(e)) -/
def tListRev (K : PySem.W.Frag) (te : TE) : TE := fun σ H Q => te σ H fun x H1 => ∃ a xs, x = .ref a ∧ SqL K H1 a xs ∧ ∀ p, H1 p = none → Q (.ref p) (upd H1 p (.lst xs.reverse))
theorem pe_listrev {e : Expr} {te : TE} {p1 p2 c1 c2 : Pos} (hc : X.calm = true) (he : PE X e te) (gL : Gl X "list") (mL : X.mg "list" = none) (bL : bootBuiltins "list" = some (.type "list")) (gR : Gl X "reversed") (mR : X.mg "reversed" = none) (bR : bootBuiltins "reversed" = some (.type "reversed"))
    (h1 : starEach [e] X.env = (false, eval e X.env) :: starEach [] X.env := by rfl)
    (h2 : starEach [.Call (.Name "reversed" p2) [e] [] c2] X.env = (false, eval (.Call (.Name "reversed" p2) [e] [] c2) X.env) :: starEach [] X.env := by rfl) :
    PE X (.Call (.Name "list" p1) [.Call (.Name "reversed" p2) [e] [] c2] [] c1) (tListRev X.K te) := by
  intro pins s σ H Q I h
  refine wpAny_Call_Name_kw (ld_blt I gL mL bL ?_ (by decide) (by decide))
  refine PyProof.Rows.callWith_type1 ?_ h2 rfl
  rw [h2]
  refine Calls.spliced_cons ?_
  refine wpAny_Call_Name_kw (ld_blt I gR mR bR ?_ (by decide) (by decide))
  have hpa : PA X [e] (tCons te tNil) := pa_cons he pa_nil h1
  refine PyProof.Rows.callWith_type1 (thn (hpa c2 pins s σ H (fun vs H1 => match vs with | [x] => ∃ a xs, x = .ref a ∧ SqL X.K H1 a xs ∧ ∀ p, H1 p = none → Q (.ref p) (upd H1 p (.lst xs.reverse)) | _ => False) I h) fun us s1 ⟨vs, H1, I1, r1, q1⟩ => ?_) h1 rfl
  match vs, r1, q1 with
  | [x], r1, ⟨a, xs, ex, hq, q⟩ =>
    subst ex
    obtain ⟨u, rfl, ru⟩ := vals1 r1
    cases ru
    obtain ⟨its, rv, p, hz⟩ := I1.list hq
    have hlen := rv.length
    refine call_reversed_list p.isList (Calls.spliced_nil ?_)
    have al : a < s1.heap.objs.size := by obtain ⟨o, e, _⟩ := id p.isList; exact Heap.lt_size e
    refine rev_call (I.ok.hd hc) (Nat.ne_of_lt al) (vs := its.toArray) ⟨_, Heap.get?_push_size _ rfl, rfl, rfl⟩ (p.isList.at fun o e => Heap.get?_push_of_some _ e) (by rw [List.size_toArray]; omega) fun h' tk acc c' kp hg hacc => ?_
    have hsz : (s1.heap.push (revObj a ((its.toArray.size : Int) - 1))).objs.size = s1.heap.objs.size + 1 := Heap.size_push ..
    have hg' : h'.get? (s1.heap.objs.size + 1) = some { cls := .type "list", dict := none, data := .seq acc c', slots := #[] } := by
      have z := hg
      rw [show ({ s1 with heap := s1.heap.push (revObj a ((its.toArray.size : Int) - 1)) } : Shared).heap.objs.size = s1.heap.objs.size + 1 from hsz] at z
      exact z
    have hfree : H1 (s1.heap.objs.size + 1) = none := I1.hok.fresh (Nat.le_succ _)
    refine ⟨.ref (s1.heap.objs.size + 1), upd H1 (s1.heap.objs.size + 1) (.lst xs.reverse), I1.laid (t' := tk) (fun b o e => kp b o (Nat.ne_of_lt (Heap.lt_size e)) (Heap.get?_push_of_some _ e)) (Nat.le_succ _) ?_, ?_, q _ hfree⟩
    · refine ⟨by rw [List.length_reverse]; exact hz, acc.toList, c', vals_of ?_ fun j v ev => ?_, by simpa using hg'⟩
      · rw [List.length_reverse, Array.length_toList, hacc.1, List.size_toArray, hlen]
      · have ev' : acc[j]? = some v := by rw [← Array.getElem?_toList]; exact ev
        have k := hacc.2 j v ev'
        have hj : j < its.length := by
          have z := (Array.getElem?_eq_some_iff.mp ev').1
          rw [hacc.1, List.size_toArray] at z
          exact z
        have k2 : its[its.length - 1 - j]? = some v := by simpa using k
        have hx : xs.length - 1 - j < xs.length := by omega
        obtain ⟨u, eu, ru⟩ := rv.get (i := xs.length - 1 - j) (x := xs[xs.length - 1 - j]) (List.getElem?_eq_getElem hx)
        rw [hlen] at eu
        rw [eu] at k2
        cases k2
        refine ⟨xs[xs.length - 1 - j], ?_, ru⟩
        rw [List.getElem?_reverse (by omega), List.getElem?_eq_getElem hx]
    · show Value.ref _ = Value.ref _
      rw [show ({ s1 with heap := s1.heap.push (revObj a ((its.toArray.size : Int) - 1)) } : Shared).heap.objs.size = s1.heap.objs.size + 1 from hsz]
end
end L2
/-! MY OWN ADDITIONS: text * int, list.count, != of lists of ints -/
namespace L2
open PySem PySem.Spec PyProof.Rows
section
variable {X : Cx}
/-- a text of one sign, n times -/
def rMulC : R2 := fun x y H Q => ∃ (c : Nat) (n : Int), x = .str ⟨#[c]⟩ ∧ y = .int n ∧ -(2 ^ 62) ≤ n ∧ n ≤ 1000000 ∧ Q (.str ⟨(List.replicate n.toNat c).toArray⟩) H
theorem fold_sign (c : Nat) : ∀ (k : Nat) (a : Array Nat), (List.replicate k (#[c] : Array Nat)).foldl (fun x1 x2 => x1 ++ x2) a = a ++ (List.replicate k c).toArray
  | 0, a => by simp
  | k + 1, a => by
    rw [List.replicate_succ, List.foldl_cons, fold_sign c k, List.replicate_succ]
    apply Array.ext'
    simp
theorem op_mulC : OpR X (binaryOp .Mult) rMulC := by
  intro pins s σ H x y v u Q I rx ry h
  obtain ⟨c, n, rfl, rfl, h1, h2, q⟩ := h
  obtain ⟨t, rfl⟩ := rx
  obtain ⟨t', rfl⟩ := ry
  have hl : (⟨#[c]⟩ : Str).length = 1 := rfl
  refine PySem.P.mul_str ?_ (fun a b => ?_) (fun a b => ?_) ?_
  · have z1 : ¬ n < -(2 ^ 63 : Int) := by omega
    have z2 : ¬ n ≥ 2 ^ 63 := by omega
    rw [decide_eq_false z1, decide_eq_false z2]
    rfl
  · rw [hl]
    have : (1 : Int) ≤ (2 ^ 63 - 1) / n := by
      rw [Int.le_ediv_iff_mul_le (by omega)]
      omega
    omega
  · rw [hl]
    have e : (2 : Nat) ^ 24 = 16777216 := by decide
    unfold Builtin.Str.tooLong sizeLine
    exact decide_eq_false (by omega)
  · by_cases a : n < 1
    · rw [if_pos a]
      refine ⟨by decide, ⟨.str _, H, I.tok _, ⟨_, rfl⟩, ?_⟩⟩
      have e : n.toNat = 0 := by omega
      rw [e] at q
      exact q
    · rw [if_neg a]
      by_cases b : (n == 1 || (⟨#[c]⟩ : Str).length == 0) = true
      · rw [if_pos b]
        have e1 : n = 1 := by
          rw [hl] at b
          simpa using b
        refine ⟨.str _, H, I, ⟨_, rfl⟩, ?_⟩
        rw [e1] at q
        exact q
      · rw [if_neg b]
        have e : (⟨(List.replicate n.toNat (⟨#[c]⟩ : Str).cps).foldl (· ++ ·) #[]⟩ : Str) = ⟨(List.replicate n.toNat c).toArray⟩ := by
          show (⟨(List.replicate n.toNat (#[c] : Array Nat)).foldl (fun x1 x2 => x1 ++ x2) #[]⟩ : Str) = _
          rw [fold_sign]
          simp
        rw [e]
        refine ⟨?_, ⟨.str _, H, I.tok _, ⟨_, rfl⟩, q⟩⟩
        rw [sizeLine_eq]
        show (List.replicate n.toNat c).toArray.size ≤ _
        simp
        omega
/-- list.count of a flat value -/
def rCount (K : PySem.W.Frag) : V → List V → Hp → VK → Prop := fun x vs H Q => ∃ a xs y, x = .ref a ∧ vs = [y] ∧ SqL K H a xs ∧ flatV y = true ∧ xs.all flatV = true ∧ Q (.int ((xs.countP fun z => eqV z y : Nat) : Int)) H
theorem count_eqU {x : V} : ∀ {xs : List V} {us : List Value}, Vals xs us → xs.all flatV = true → us.countP (eqU x) = xs.countP fun y => eqV y x
  | _, _, .nil, _ => rfl
  | y :: xs, u :: us, .cons r t, f => by
    rw [List.all_cons, Bool.and_eq_true] at f
    rw [List.countP_cons, List.countP_cons, eqU_of r f.1, count_eqU t f.2]
theorem mt_count : MtR X "list.count" (rCount X.K) := by
  intro pins s σ H x vs v us Q I rx rv h
  obtain ⟨a, xs, y, rfl, rfl, hq, fy, fx, q⟩ := h
  cases (show v = Value.ref a from rx)
  obtain ⟨u, rfl, ru⟩ := vals1 rv
  obtain ⟨its, r, pl, _⟩ := I.list hq
  obtain ⟨⟨oc, od, dat, sl⟩, ho, hc, n, hd⟩ := id pl.isList
  simp only at hc hd
  subst hc hd
  refine call_meets PySem.F.slot_list_count pl.isList.typeIs PySem.F.entry_list_count (PySem.F.args_list_count_2 _ _) (SeqAt.list_countAt a its.toArray n od sl u (eqU y)) ⟨ho, fun w hw => mem_eqAt ru fy r fx w (by simpa using hw), ⟨.int _, H, I.tok _, ⟨_, rfl⟩, ?_⟩⟩
  rw [show its.toArray.toList.countP (eqU y) = xs.countP fun z => eqV z y from count_eqU r fx]
  exact q
/-- lists of ints, unlike? -/
def rNeI (K : PySem.W.Frag) : R2 := fun x y H Q => ∃ (a b : Addr) (is js : List Int), x = .ref a ∧ y = .ref b ∧ SqL K H a (is.map V.int) ∧ SqL K H b (js.map V.int) ∧ Q (.bl (decide (is ≠ js))) H
theorem op_neI {X : Cx} (hu : X.A.units + 64 < cLine) : OpR X (compareOp .NotEq) (rNeI X.K) := by
  intro pins s σ H x y v u Q I rx ry h
  obtain ⟨a, b, is, js, rfl, rfl, g1, g2, q⟩ := h
  cases rx
  cases ry
  obtain ⟨its, rv1, ⟨o1, n1, p1, c1, d1, f1⟩, _⟩ := I.list g1
  obtain ⟨its2, rv2, ⟨o2, n2, p2, c2, d2, f2⟩, _⟩ := I.list g2
  have i1 : s.heap.IsList a its.toArray := ⟨o1, p1, c1, n1, by assumption⟩
  have i2 : s.heap.IsList b its2.toArray := ⟨o2, p2, c2, n2, by assumption⟩
  have len1 := rv1.length
  have len2 := rv2.length
  rw [List.length_map] at len1 len2
  by_cases hl : is.length = js.length
  · refine SeqAt.RcNeAt.lists (e := fun i => is.getD i 0 == js.getD i 0) i1 i2 (by simp; omega) (by omega) (fun j j1 j2 => ?_) _ _ _ _ ?_
    · have j1' : j < is.length := by simp at j1; omega
      have j2' : j < js.length := by omega
      obtain ⟨u1, e1, t1, q1⟩ := rv1.get (i := j) (x := V.int is[j]) (by rw [List.getElem?_map, List.getElem?_eq_getElem j1']; rfl)
      obtain ⟨u2, e2, t2, q2⟩ := rv2.get (i := j) (x := V.int js[j]) (by rw [List.getElem?_map, List.getElem?_eq_getElem j2']; rfl)
      have c1 : its.toArray[j] = u1 := by
        have z := List.getElem?_eq_some_iff.mp e1
        simpa using z.2
      have c2 : its2.toArray[j] = u2 := by
        have z := List.getElem?_eq_some_iff.mp e2
        simpa using z.2
      rw [c1, c2, q1, q2]
      have g1 : is.getD j 0 = is[j] := by simp [List.getD_eq_getElem?_getD, j1']
      have g2 : js.getD j 0 = js[j] := by simp [List.getD_eq_getElem?_getD, j2']
      rw [g1, g2]
      exact SeqAt.EqAt.int_int _ _ _ _
    · refine ⟨.bl _, H, I, rfl, ?_⟩
      have e : (!(List.range its.toArray.size).all fun i => is.getD i 0 == js.getD i 0) = decide (is ≠ js) := by
        rw [List.size_toArray, ← len1]
        by_cases hh : is = js
        · subst hh
          simp
        · rw [decide_eq_true hh]
          refine Bool.not_eq_true' _ |>.mpr ?_
          cases hc : ((List.range is.length).all fun i => is.getD i 0 == js.getD i 0) with
          | false => rfl
          | true =>
            refine absurd (List.ext_getElem hl fun i h1 h2 => ?_) hh
            rw [List.all_eq_true] at hc
            have z := hc i (List.mem_range.mpr h1)
            have g1 : is.getD i 0 = is[i] := by simp [List.getD_eq_getElem?_getD, h1]
            have g2 : js.getD i 0 = js[i] := by simp [List.getD_eq_getElem?_getD, h2]
            rw [g1, g2] at z
            exact beq_iff_eq.mp z
      rw [e]
      exact q
  · refine SeqAt.RcNeAt.lists_lengths i1 i2 (by simp; omega) (by omega) _ _ _ _ ?_
    refine ⟨.bl _, H, I, rfl, ?_⟩
    have e : decide (is ≠ js) = true := decide_eq_true fun z => hl (by rw [z])
    rw [e] at q
    exact q
end
end L2
/-! MY OWN ADDITIONS: a comprehension whose target is captured by a block inside it -/
namespace L2
open PySem PySem.Spec PyProof.Rows
def cxCompC (X : Cx) (x : Str) (scope : Scope) (cl : List (Str × Addr)) (N : List Str) (C : Addr) (s₀ : Shared) (H₀ : Hp) (ex : List Addr) : Cx where
  prog := X.prog
  w := X.w
  K := X.K
  mg := X.mg
  base := X.base
  A := X.A
  N := N
  s₀ := s₀
  H₀ := H₀
  env := compEnvC scope cl C X.env
  outer := X.stack
  stack := X.stack
  ex := ex
  fn := fun y => decide (y = x)
  calm := X.calm
  pn := []
  xe := fun _ _ => False
def compOk2 (outer scope : Scope) (x : Str) (N : List Str) : Bool :=
  decide (scope.kind = .function) && decide (scope.names.filter (fun y => y.2 == .cell) = [(x, .cell)]) && scope.names.all (fun y => decide (y.2 = .local → scope.names.lookup y.1 = some .local)) && decide (scope.names.lookup x = some .cell) &&
    scope.names.all (fun y => decide (y.2 = .free → (outer.names.lookup y.1 = some .cell ∨ outer.names.lookup y.1 = some .free))) && N.tail.all (fun y => decide (scope.names.lookup y = some .free)) && decide N.Nodup
structure CompOk2 (outer scope : Scope) (x : Str) (N : List Str) : Prop where
  kind : scope.kind = .function
  one : scope.names.filter (fun y => y.2 == .cell) = [(x, .cell)]
  locs : ∀ y ∈ scope.names, y.2 = .local → scope.names.lookup y.1 = some .local
  tgt : scope.names.lookup x = some .cell
  frees : ∀ y ∈ scope.names, y.2 = .free → (outer.names.lookup y.1 = some .cell ∨ outer.names.lookup y.1 = some .free)
  caps : ∀ y ∈ N.tail, scope.names.lookup y = some .free
  nd : N.Nodup
theorem compOk2_is {outer scope : Scope} {x : Str} {N : List Str} (h : compOk2 outer scope x N = true) : CompOk2 outer scope x N := by
  unfold compOk2 at h
  simp only [Bool.and_eq_true, List.all_eq_true, decide_eq_true_eq] at h
  obtain ⟨⟨⟨⟨⟨⟨h1, h2⟩, h3⟩, h4⟩, h5⟩, h6⟩, h7⟩ := h
  exact ⟨h1, h2, h3, h4, h5, h6, h7⟩
theorem cells_none : ∀ (names : List (Str × NameKind)) (n : Nat) (acc : List (Str × Addr)) (h : Heap), names.filter (fun y => y.2 == .cell) = [] → cellsFrom n names acc = acc ∧ pushCells h names = h
  | [], _, _, _, _ => ⟨rfl, rfl⟩
  | (y, k) :: r, n, acc, h, e => by
    rw [List.filter_cons] at e
    by_cases hk : (k == NameKind.cell) = true
    · rw [if_pos hk] at e
      cases e
    · rw [if_neg hk] at e
      unfold cellsFrom pushCells
      rw [if_neg hk, if_neg hk]
      exact cells_none r n acc h e
theorem cells_one {x : Str} : ∀ (names : List (Str × NameKind)) (n : Nat) (acc : List (Str × Addr)) (h : Heap), names.filter (fun y => y.2 == .cell) = [(x, .cell)] → cellsFrom n names acc = (x, n) :: acc ∧ pushCells h names = h.push { cls := .type "cell", data := .cell none }
  | (y, k) :: r, n, acc, h, e => by
    rw [List.filter_cons] at e
    by_cases hk : (k == NameKind.cell) = true
    · rw [if_pos hk] at e
      obtain ⟨e1, e2⟩ := List.cons.inj e
      injection e1 with e1 e3
      subst e1
      unfold cellsFrom pushCells
      rw [if_pos hk, if_pos hk]
      exact cells_none r (n + 1) _ _ e2
    · rw [if_neg hk] at e
      unfold cellsFrom pushCells
      rw [if_neg hk, if_neg hk]
      exact cells_one r n acc h e
theorem newEnv_one {M : Model} {A : Around} {E : Value → Shared → Prop} {s : Shared} {scope : Scope} {globals : Addr} {cl : List (Str × Addr)} {qual : Str} {around : Env} {x : Str} {Q : Env → Shared → Prop} (h1 : scope.names.filter (fun y => y.2 == .cell) = [(x, .cell)])
    (hQ : ∀ h', h'.Ns s.heap.objs.size (fun _ => none) → h'.IsCell (s.heap.objs.size + 1) none → (∀ b o, s.heap.get? b = some o → h'.get? b = some o) → Q (newEnv scope s.heap.objs.size globals ((x, s.heap.objs.size + 1) :: cl) qual none .none (some around) builtinsNs) { s with heap := h' }) :
    wpAny M A (newFunctionEnv scope globals cl [] qual none .none (some around)) Q E s := by
  simp only [newFunctionEnv, Option.isSome_some, if_true]
  refine wpAny_bind (wpAny_alloc ?_)
  refine wpAny_bind (wpAny_layCells _ (fun name kind cells => by cases hkc : kind == NameKind.cell <;> simp [hkc]) _ _ _ _ ?_)
  have hz : (s.heap.push { cls := .type "dict", data := .dict #[] }).objs.size = s.heap.objs.size + 1 := Heap.size_push ..
  rw [show ({ s with heap := s.heap.push { cls := .type "dict", data := .dict #[] } } : Shared).heap.objs.size = s.heap.objs.size + 1 from hz]
  obtain ⟨e1, e2⟩ := cells_one scope.names (s.heap.objs.size + 1) cl (s.heap.push { cls := .type "dict", data := .dict #[] }) h1
  rw [e1]
  show wpAny M A _ _ _ { s with heap := pushCells (s.heap.push { cls := .type "dict", data := .dict #[] }) scope.names }
  rw [e2]
  refine wpAny_bind ?_
  rw [List.forIn_nil]
  refine wpAny_pure (wpAny_pure ?_)
  refine hQ _ ((Heap.Ns.new s.heap (.type "dict")).keeps fun b o e => Heap.get?_push_of_some _ e) ?_ fun b o e => Heap.get?_push_of_some _ (Heap.get?_push_of_some _ e)
  have z := Heap.get?_push_size (s.heap.push { cls := .type "dict", data := .dict #[] }) (o := { cls := .type "cell", data := .cell none }) rfl
  rw [hz] at z
  exact ⟨_, z, rfl⟩
theorem relabel_cell {scope : Scope} {env : Env} {y : Str} (h : scope.names.lookup y = some .cell) : (relabel scope env).names.lookup y = some .cell := by
  have go : ∀ (names : List (Str × NameKind)), names.lookup y = some .cell → (names.map fun (n, k) => if (k == NameKind.free && env.scope.kind == .function && env.kindOf n == some .cell) then (n, NameKind.cell) else (n, k)).lookup y = some .cell := by
    intro names
    induction names with
    | nil => intro h; simp at h
    | cons a r ih =>
      obtain ⟨n, k⟩ := a
      intro h
      rw [List.map_cons]
      rw [List.lookup_cons] at h
      by_cases hc : (k == NameKind.free && env.scope.kind == .function && env.kindOf n == some .cell) = true
      · simp only [hc, if_true, List.lookup_cons]
        cases hy : y == n with
        | true => rfl
        | false =>
          rw [hy] at h
          exact ih h
      · simp only [hc, Bool.false_eq_true, if_false, List.lookup_cons]
        cases hy : y == n with
        | true =>
          rw [hy] at h
          exact h
        | false =>
          rw [hy] at h
          exact ih h
  exact go scope.names h
section
variable {X : Cx}
theorem lookup_two {x y : Str} {c0 c : Addr} {cl : List (Str × Addr)} (h : ((x, c0) :: cl).lookup y = some c) : (y = x ∧ c = c0) ∨ (y ≠ x ∧ cl.lookup y = some c) := by
  rw [List.lookup_cons] at h
  by_cases e : y = x
  · subst e
    rw [beq_self_eq_true] at h
    exact .inl ⟨rfl, (Option.some.inj h).symm⟩
  · rw [beq_eq_false_iff_ne.mpr e] at h
    exact .inr ⟨e, h⟩
theorem lookup_ne {x y : Str} {c0 : Addr} {cl : List (Str × Addr)} (h : y ≠ x) : ((x, c0) :: cl).lookup y = cl.lookup y := by
  rw [List.lookup_cons, beq_eq_false_iff_ne.mpr h]
theorem comp_start2 {scope : Scope} {x : Str} {caps : List Nat} {pins : List (Addr × Obj)} {σ : St} {H : Hp} {s3 : Shared} {h1 : Heap} {fp : List Addr} {m : Str → Option Value} {tk : Nat} {c0 : Addr} (ok : CompOk2 X.env.scope scope x (compN X x caps)) (I : Inv X pins σ H s3)
    (hf : ∀ b ∈ fp, FpOk X pins H b) (hlt : ∀ b ∈ fp, b < s3.heap.objs.size) (hn : h1.Ns s3.heap.objs.size m) (keep : ∀ b o, s3.heap.get? b = some o → h1.get? b = some o) (hc0 : s3.heap.objs.size ≤ c0) (hcl : h1.IsCell c0 none) :
    Inv (cxCompC X x scope ((x, c0) :: captFrom X.env scope.names []) (compN X x caps) s3.heap.objs.size s3 H fp) [] (compS σ none caps) H { s3 with heap := h1, toks := tk } := by
  have hsome : ∀ z ∈ scope.names, z.2 = .free → (X.env.cells.lookup z.1).isSome = true := fun z hz hfr => by
    obtain ⟨c, e⟩ := I.ok.has z.1 (by
      rcases ok.frees z hz hfr with q | q
      · exact .inl q
      · exact .inr q)
    rw [e]; rfl
  have sub0 : ∀ y c, (captFrom X.env scope.names []).lookup y = some c → X.env.cells.lookup y = some c := fun y c h => capt_sub hsome (fun _ _ q => by simp at q) h
  have sub : ∀ y c, ((x, c0) :: captFrom X.env scope.names []).lookup y = some c → (y = x ∧ c = c0) ∨ (y ≠ x ∧ X.env.cells.lookup y = some c) := fun y c h => by
    rcases lookup_two h with z | ⟨z1, z2⟩
    · exact .inl z
    · exact .inr ⟨z1, sub0 y c z2⟩
  have hC : H s3.heap.objs.size = none := I.hok.fresh (Nat.le_refl _)
  have hC0 : H c0 = none := I.hok.fresh hc0
  have cne : ∀ y c, X.env.cells.lookup y = some c → c < s3.heap.objs.size := fun y c e => by
    obtain ⟨v, z⟩ := I.cell y c e
    exact z.lt
  have cno : ∀ y, X.env.cells.lookup y ≠ some c0 := fun y e => Nat.lt_irrefl _ (Nat.lt_of_lt_of_le (cne y c0 e) hc0)
  refine ⟨⟨I.ok.mod, ?_, I.ok.glob, I.ok.blt, Nat.le_refl _, fun y z c e1 e2 => ?_, fun y hy => ?_, fun y c hfn e => ?_, I.ok.hd, I.ok.frames, .inl rfl, fun b hb => ⟨Nat.ne_of_lt (hlt b hb), fun y c e => ?_⟩,
      I.bs, Nat.le_trans I.ok.bsz I.sz, fun b o e hb => ?_, fun b hb hfs => ?_, I.stack, I.stkFree⟩,
    rfl, I.bare, Un.kept keep, ⟨m, hn, fun i y v e1 e2 e3 => ?_⟩, fun y c e => ?_, hC, fun y c e => ?_, fun p hp => absurd (show p ∈ ([] : List (Addr × Obj)) from hp) (by simp), I.hok.kept keep, by simp [cxCompC, compN, compS]⟩
  · show (relabel scope X.env).kind = .function
    exact ok.kind
  · rcases sub y c e1 with ⟨a1, a2⟩ | ⟨a1, a2⟩ <;> rcases sub z c e2 with ⟨b1, b2⟩ | ⟨b1, b2⟩
    · rw [a1, b1]
    · rw [a2] at b2
      exact absurd b2 (cno z)
    · rw [b2] at a2
      exact absurd a2 (cno y)
    · exact I.ok.inj y z c a2 b2
  · have hy' : (relabel scope X.env).names.lookup y = some .cell ∨ (relabel scope X.env).names.lookup y = some .free := hy
    show ∃ c, ((x, c0) :: captFrom X.env scope.names []).lookup y = some c
    by_cases hyx : y = x
    · subst hyx
      exact ⟨c0, by rw [List.lookup_cons, beq_self_eq_true]⟩
    · rw [lookup_ne hyx]
      have fr : scope.names.lookup y = some .free := by
        rcases hy' with q | q
        · obtain ⟨k, e, z⟩ := relabel_kind q
          rcases z with z | ⟨z, _⟩
          · have hm : (y, k) ∈ scope.names.filter (fun y => y.2 == .cell) := List.mem_filter.mpr ⟨PySem.mem_of_lookup e, by rw [← z]; rfl⟩
            rw [ok.one] at hm
            have := List.mem_singleton.mp hm
            injection this with h1 h2
            exact absurd h1 hyx
          · rw [e, z]
        · obtain ⟨k, e, z⟩ := relabel_kind q
          rcases z with z | ⟨_, z⟩
          · rw [e, z]
          · cases z
      exact Option.isSome_iff_exists.mp (capt_has (.inl (PySem.mem_of_lookup fr)))
  · have hyx : y = x := of_decide_eq_true (show decide (y = x) = true from hfn)
    rcases sub y c e with ⟨_, a2⟩ | ⟨a1, _⟩
    · rw [a2]
      exact hc0
    · exact absurd hyx a1
  · rcases sub y c e with ⟨_, a2⟩ | ⟨_, a2⟩
    · rw [a2]
      exact Nat.ne_of_gt (Nat.lt_of_lt_of_le (hlt b hb) hc0)
    · exact (hf b hb).2.2.2.2.1 y c a2
  · rcases (hf b hb).2.2.2.1 with z | z
    · exact I.ok.noex b o e z
    · exact absurd (Nat.lt_of_lt_of_le (Heap.lt_size e) (Nat.le_trans I.ok.bsz z)) (Nat.lt_irrefl _)
  · rcases List.mem_cons.mp (I.stkSub b hfs) with z | z
    · exact (hf b hb).2.1 z
    · exact (hf b hb).2.2.1 z
  · have e1' : (compN X x caps)[i]? = some y := e1
    cases i with
    | zero => simp [compS] at e2
    | succ i =>
      simp only [compN, List.getElem?_cons_succ, List.getElem?_map] at e1'
      simp only [compS, List.getElem?_cons_succ, List.getElem?_map] at e2
      cases hj : caps[i]? with
      | none => rw [hj] at e2; cases e2
      | some j =>
        rw [hj] at e1' e2
        simp only [Option.map_some, Option.some.injEq] at e1' e2
        cases hσ : σ[j]? with
        | none => rw [hσ] at e2; cases e2
        | some o =>
          rw [hσ] at e2
          have e2' : o = some v := e2
          subst e2'
          have hjl : j < X.N.length := by rw [← I.len]; exact (List.getElem?_eq_some_iff.mp hσ).1
          have eN : X.N[j]? = some y := by
            rw [List.getElem?_eq_getElem hjl]
            rw [List.getD_eq_getElem?_getD, List.getElem?_eq_getElem hjl] at e1'
            exact congrArg some e1'
          have hy : scope.names.lookup y = some .free := ok.caps y (by
            show y ∈ caps.map fun i => X.N.getD i (Str.ofString "")
            exact List.mem_map.mpr ⟨j, List.mem_of_getElem? hj, e1'⟩)
          have hyx : y ≠ x := fun z => by rw [z, ok.tgt] at hy; cases hy
          have hk := ok.frees (y, .free) (PySem.mem_of_lookup hy) rfl
          obtain ⟨m', _, hl⟩ := I.loc
          obtain ⟨u, r, q⟩ := hl j y v eN hσ (.inr hk)
          refine ⟨u, r, .inr ⟨relabel_free hy, ?_⟩⟩
          rcases q with ⟨k, _⟩ | ⟨_, c, e, z⟩
          · have k' : X.env.scope.names.lookup y = some .local := k
            rw [k'] at hk
            rcases hk with hk | hk <;> cases hk
          · obtain ⟨c', e'⟩ := Option.isSome_iff_exists.mp (capt_has (env := X.env) (cs := []) (.inl (PySem.mem_of_lookup hy)))
            have ec := sub0 _ _ e'
            rw [e] at ec
            cases ec
            obtain ⟨o, ho, hd⟩ := z
            exact ⟨c, (lookup_ne hyx).trans e', o, keep c o ho, hd⟩
  · rcases sub y c e with ⟨_, a2⟩ | ⟨_, a2⟩
    · rw [a2]
      exact ⟨none, hcl⟩
    · obtain ⟨v, o, ho, hd⟩ := I.cell y c a2
      exact ⟨v, o, keep c o ho, hd⟩
  · rcases sub y c e with ⟨_, a2⟩ | ⟨_, a2⟩
    · rw [a2]
      exact hC0
    · exact I.freeC y c a2
theorem comp_core2 {x : Str} {px pos p : Pos} {iter elt : Expr} {ifs : List Expr} {scope : Scope} {wi : TI} {tt : TT} {te : TE} {caps : List Nat} {use : Option (Value → Sem Unit)} {QQ : Value → Shared → Prop}
    (hc : X.calm = true) (ho : compOk2 X.env.scope scope x (compN X x caps) = true) (hi : PI X (.Name x px) iter wi)
    (ht : ∀ cl C s₀ H₀ ex, PTs (cxCompC X x scope cl (compN X x caps) C s₀ H₀ ex) ifs tt) (he : ∀ cl C s₀ H₀ ex, PE (cxCompC X x scope cl (compN X x caps) C s₀ H₀ ex) elt te)
    (hs : ∀ x, foldedSetIterable iter X.env x = pure x) {pins : List (Addr × Obj)} {s : Shared} {σ : St} {H : Hp} {Q : VK} (I : Inv X pins σ H s) (h : tComp wi tt te caps σ H Q)
    (fin : ∀ (D C : Addr) (H' : Hp) (s' : Shared) (m : Str → Option Value), Inv X pins σ H' s' → Q (.ref D) H' → s'.heap.Ns C m → FpOk X pins H' C → compPost (model X.prog X.w) X.A X.xe use QQ (.ref D) C (.ok .next) s') :
    wpAny (model X.prog X.w) X.A (comprehension (.ListComp elt [⟨.Name x px, iter, ifs, 0⟩] scope pos) scope X.env p (newList []) false (eval iter X.env) use) QQ X.xe s := by
  have ok := compOk2_is ho
  have hsome : ∀ z ∈ scope.names, z.2 = .free → (X.env.cells.lookup z.1).isSome = true := fun z hz hfr => by
    obtain ⟨c, e⟩ := I.ok.has z.1 (by
      rcases ok.frees z hz hfr with q | q
      · exact .inl q
      · exact .inr q)
    rw [e]; rfl
  refine wpAny_comprehension_free (cl := captFrom X.env scope.names []) (use := use) rfl hs (closure_is hsome) ok.kind ok.locs (thn (hi pins s σ H _ I h) fun v s1 h1 => thn h1 fun itv s2 h2 => ?_)
  obtain ⟨it, fp, tn, J, H2, e, I2, T, st2, f2, rd⟩ := h2
  subst e
  refine wpAny_newObj_type (newEnv_one ok.one fun h₁ hns₁ hcl₁ hkp₁ => ?_)
  dsimp only at hns₁ hcl₁ hkp₁ ⊢
  have hD0 : H2 s2.heap.objs.size = none := I2.hok.fresh (Nat.le_refl _)
  obtain ⟨W, ⟨m0, w0⟩, turn⟩ := rd s2.heap.objs.size hD0
  have hfpl : ∀ b ∈ fp, b < s2.heap.objs.size := fun b hb => by
    obtain ⟨o, e, _⟩ := T.obj 0 _ st2 b hb
    exact Heap.lt_size e
  have hsz : (s2.heap.push { cls := .type "list", dict := none, data := .seq ([] : List Value).toArray }).objs.size = s2.heap.objs.size + 1 := Heap.size_push ..
  have I3 : Inv X pins σ (upd H2 s2.heap.objs.size (.lst [])) { s2 with heap := s2.heap.push { cls := .type "list", dict := none, data := .seq ([] : List Value).toArray } } :=
    I2.laid (t' := s2.toks) (fun b u e => Heap.get?_push_of_some _ e) (Nat.le_refl _) ⟨by simp, [], 0, .nil, Heap.get?_push_size _ rfl⟩
  have st3 : tn 0 (s2.heap.push { cls := .type "list", dict := none, data := .seq ([] : List Value).toArray }) := T.keep _ _ _ st2 fun b _ o e => Heap.get?_push_of_some _ e
  generalize hH3 : s2.heap.push { cls := .type "list", dict := none, data := .seq ([] : List Value).toArray } = h3 at hns₁ hcl₁ hkp₁ hsz I3 st3 ⊢
  generalize hHH : upd H2 s2.heap.objs.size (.lst []) = H3 at I3 w0
  have hlt3 : ∀ b ∈ fp, b < h3.objs.size := fun b hb => by rw [hsz]; exact Nat.lt_succ_of_lt (hfpl b hb)
  have f3 : ∀ b ∈ fp, FpOk X pins H3 b := fun b hb => ⟨by rw [← hHH, upd_ne (Nat.ne_of_lt (hfpl b hb))]; exact (f2 b hb).1, (f2 b hb).2⟩
  have keep : ∀ b o, h3.get? b = some o → h₁.get? b = some o := hkp₁
  have I4 := comp_start2 (s3 := { s2 with heap := h3 }) (tk := s2.toks) ok I3 f3 hlt3 hns₁ keep (Nat.le_succ _) hcl₁
  have st4 : tn 0 h₁ := T.keep _ _ _ st3 fun b _ o e => keep b o e
  generalize hX' : cxCompC X x scope ((x, h3.objs.size + 1) :: captFrom X.env scope.names []) (compN X x caps) ({ s2 with heap := h3 } : Shared).heap.objs.size { s2 with heap := h3 } H3 fp = X' at I4
  have eA : X'.A = X.A := by rw [← hX'] <;> rfl
  have eP : X'.prog = X.prog := by rw [← hX'] <;> rfl
  have ew : X'.w = X.w := by rw [← hX'] <;> rfl
  have eK : X'.K = X.K := by rw [← hX'] <;> rfl
  have ee : X'.env = compEnvC scope ((x, h3.objs.size + 1) :: captFrom X.env scope.names []) h3.objs.size X.env := by rw [← hX'] <;> rfl
  have ex : X'.xe = fun _ _ => False := by rw [← hX'] <;> rfl
  have eN : X'.N = compN X x caps := by rw [← hX'] <;> rfl
  have ec : X'.calm = true := by rw [← hX']; exact hc
  have efs : X'.fs = frs X.stack := by rw [← hX'] <;> rfl
  have hT' : PTs X' ifs tt := by rw [← hX']; exact ht _ _ _ _ _
  have hE' : PE X' elt te := by rw [← hX']; exact he _ _ _ _ _
  have leave : ∀ {σ' : St} {H' : Hp} {s' : Shared}, Inv X' [] σ' H' s' → Q (.ref s2.heap.objs.size) H' → compPost (model X.prog X.w) X.A X.xe use QQ (.ref s2.heap.objs.size) h3.objs.size (.ok .next) s' := fun {σ' H' s'} J q => by
    have un : Un (frs X.stack) fp H3 H' h3 s'.heap := by have z := J.base; rw [← hX'] at z; exact z
    have hos : s'.os = s2.os := by have z := J.os; rw [← hX'] at z; exact z
    have hk : HOk X.prog X.w H' s'.heap := by have z := J.hok; rw [eP, ew] at z; exact z
    have Jx := I3.call' (s' := s') (ch := fp) hos un hk J.bare fun b hb => ⟨(f3 b hb).2.2.2.1, (f3 b hb).2.1, (f3 b hb).2.2.2.2.1, (f3 b hb).2.2.2.2.2⟩
    obtain ⟨m, hn, _⟩ := J.loc
    have hn' : s'.heap.Ns h3.objs.size m := by rw [ee] at hn; exact hn
    have hfr : H' h3.objs.size = none := by have z := J.free; rw [ee] at z; exact z
    exact fin _ _ H' s' m Jx q hn' (I3.fpOk (Nat.le_refl _) hfr)
  have stat : ∀ {H' : Hp}, (∀ b ∈ fp, H' b = none) → ∀ b ∈ fp, FpOk X' [] H' b := fun {H'} hn b hb => by
    refine ⟨hn b hb, ?_, ?_, .inl ?_, fun y c e => ?_, fun p hp => ?_⟩
    · rw [ee]; exact Nat.ne_of_lt (hlt3 b hb)
    · rw [efs]
      intro z
      rcases List.mem_cons.mp (I3.stkSub b z) with z | z
      · exact (f3 b hb).2.1 z
      · exact (f3 b hb).2.2.1 z
    · rw [← hX']; exact hb
    · have e' : ((x, h3.objs.size + 1) :: captFrom X.env scope.names []).lookup y = some c := by rw [ee] at e; exact e
      rcases lookup_two e' with ⟨_, z2⟩ | ⟨_, z2⟩
      · rw [z2]
        exact Nat.ne_of_gt (Nat.lt_succ_of_lt (hlt3 b hb))
      · exact (f3 b hb).2.2.2.2.1 y c (capt_sub hsome (fun _ _ q => by simp at q) z2)
    · rw [← hX'] at hp
      exact absurd (show p ∈ ([] : List (Addr × Obj)) from hp) (by simp)
  have loop : ∀ s₃ : Shared, s₃ = { s2 with heap := h₁, toks := s2.toks } →
      codeAny (model X.prog X.w) X.A (.compLoop (.ListComp elt [⟨.Name x px, iter, ifs, 0⟩] scope pos) 0 (.ref it) (.ref s2.heap.objs.size) (compEnvC scope ((x, h3.objs.size + 1) :: captFrom X.env scope.names []) h3.objs.size X.env))
        (compPost (model X.prog X.w) X.A X.xe use QQ (.ref s2.heap.objs.size) h3.objs.size) s₃ := by
    rintro s₃ rfl
    refine compLoop_any (fun n s' => ∃ i o H' ys, Inv X' [] (compS σ o caps) H' s' ∧ tn i s'.heap ∧ (∀ b ∈ fp, H' b = none) ∧ W i n ys H') ?_ m0 ⟨0, none, H3, [], I4, st4, fun b hb => (f3 b hb).1, w0⟩
    rintro n s' ⟨i, o, H', ys, J, st', fr', w'⟩
    obtain ⟨hDl, hlen, alt⟩ := turn i n ys H' w'
    rcases alt with ⟨stop, q⟩ | ⟨go, N, hN, step⟩
    · have z := T.done X' eP ew eK ec i [] s' _ H' (fun _ _ => False) J (stat fr') st' stop
      rw [eA] at z
      refine thn z fun r s4 ⟨hr, J4⟩ => ?_
      subst hr
      exact leave J4 q
    · have z := T.item X' eP ew eK ec i [] s' _ H' (fun _ _ => False) J (stat fr') st' go
      rw [eA] at z
      refine thn z fun r s4 ⟨u, hr, h4⟩ => ?_
      subst hr
      refine thn h4 fun _ s5 ⟨xv, H5, J5, r5, y5, st5, fr5⟩ => ?_
      have J5' := J5.pinned (stat fr5) (T.obj _ _ st5)
      have lx : (relabel scope X.env).names.lookup x = some .cell := relabel_cell ok.tgt
      have hg : PG X' (.Name x px) (gName 0) := pg_name (by rw [eN]; exact ok.nd) (by rw [eN] <;> rfl) (by rw [ee]; exact .inr lx) (by rw [← hX']; exact .inl (decide_eq_true rfl))
      have zg := hg _ s5 _ H5 xv u (fun σ6 H6 => σ6 = compS σ (some xv) caps ∧ H6 = H5) J5' r5 ⟨rfl, rfl⟩
      rw [eP, ew, eA, ee, ex] at zg
      refine thn zg fun _ s6 ⟨σ6, H6, J6, q6⟩ => ?_
      obtain ⟨e6, e6'⟩ := q6
      subst e6 e6'
      have zt := hT' _ s6 _ _ _ J6 (step xv _ y5)
      rw [eP, ew, eA, ee, ex] at zt
      refine thn zt fun b s7 ⟨H7, J7, q7⟩ => ?_
      have again : ∀ {H8 : Hp} {s8 : Shared} {ys' : List V}, Inv X' ([] ++ pinsAt fp s5.heap) (compS σ (some xv) caps) H8 s8 → N ys' H8 → ∃ m, m < n ∧ ∃ i o H' ys, Inv X' [] (compS σ o caps) H' s8 ∧ tn i s8.heap ∧ (∀ b ∈ fp, H' b = none) ∧ W i m ys H' := fun {H8 s8 ys'} J8 n8 => by
        obtain ⟨m', hm, w8⟩ := hN ys' H8 n8
        refine ⟨m', hm, i + 1, some xv, H8, ys', J8.unpinned, T.keep _ _ _ st5 fun b hb o e => (J8.pin (b, o) (List.mem_append_right _ (List.mem_append_right _ (mem_pinsAt hb e)))).1, fun b hb => ?_, w8⟩
        obtain ⟨o, e, d⟩ := T.obj _ _ st5 b hb
        exact (J8.pin (b, o) (List.mem_append_right _ (List.mem_append_right _ (mem_pinsAt hb e)))).2.1
      cases b with
      | false => exact again J7 q7
      | true =>
        have ze := hE' _ s7 _ H7 _ J7 q7
        rw [eP, ew, eA, ee, ex] at ze
        refine thn ze fun yv s8 ⟨y, H8, J8, r8, hD8, q8⟩ => ?_
        have za := mt_append (X := X') _ s8 _ H8 (.ref s2.heap.objs.size) [y] (.ref s2.heap.objs.size) [yv] (fun _ H9 => H9 = upd H8 s2.heap.objs.size (.lst (ys ++ [y]))) J8 rfl (.cons r8 .nil) ⟨_, ys, y, rfl, rfl, hD8, hlen, rfl⟩
        rw [eP, ew, eA, ex] at za
        refine thn za fun _ s9 ⟨_, H9, J9, _, q9⟩ => ?_
        subst q9
        exact again J9 q8
  exact codeAny_compStart_list (loop _ rfl) (T.self _ 0 _ _ _ st4 (loop _ rfl))
/-- [elt for x in iter (if ..)], x captured by elt -/
theorem pe_comp2 {x : Str} {px pos : Pos} {iter elt : Expr} {ifs : List Expr} {scope : Scope} {wi : TI} {tt : TT} {te : TE} (caps : List Nat)
    (hc : X.calm = true) (ho : compOk2 X.env.scope scope x (compN X x caps) = true) (hi : PI X (.Name x px) iter wi)
    (ht : ∀ cl C s₀ H₀ ex, PTs (cxCompC X x scope cl (compN X x caps) C s₀ H₀ ex) ifs tt) (he : ∀ cl C s₀ H₀ ex, PE (cxCompC X x scope cl (compN X x caps) C s₀ H₀ ex) elt te)
    (hs : ∀ x, foldedSetIterable iter X.env x = pure x := by intro _; rfl) : PE X (.ListComp elt [⟨.Name x px, iter, ifs, 0⟩] scope pos) (tComp wi tt te caps) := by
  intro pins s σ H Q I h
  rw [eval_ListComp]
  refine comp_core2 (use := none) hc ho hi ht he hs I h fun D C H' s' m J q hn hf => ?_
  exact ⟨m, hn, fun h' sb => ⟨.ref D, H', J.turned (t' := s'.toks) (fun b o hb e => (sb.2 b hb).trans e) hf.1 hf.2.1 hf.2.2.2.1 hf.2.2.2.2.1 hf.2.2.2.2.2, rfl, q⟩⟩
/-- inside a block: a list to walk over, the fragment by its name -/
theorem pi_listK {K : PySem.W.Frag} {tg l : Expr} {tl : TE} (hK : X.K = K) (hl : PE X l tl) : PI X tg l (iList K tl) := by
  subst hK
  exact pi_list hl
end
end L2
/-! MY OWN ADDITIONS: comprehensions with any target; zip(list, list); sum(list) -/
namespace L2
open PySem PySem.Spec PyProof.Rows
def compNs (X : Cx) (xs : List Str) (caps : List Nat) : List Str := xs ++ caps.map fun i => X.N.getD i (Str.ofString "")
def compSs (k : Nat) (σ : St) (caps : List Nat) : St := List.replicate k none ++ caps.map fun i => (σ[i]?).join
def compOks (outer scope : Scope) (xs : List Str) (N : List Str) : Bool :=
  decide (scope.kind = .function) && scope.names.all (fun y => decide (y.2 ≠ .cell)) && scope.names.all (fun y => decide (y.2 = .local → scope.names.lookup y.1 = some .local)) && xs.all (fun x => decide (scope.names.lookup x = some .local)) &&
    scope.names.all (fun y => decide (y.2 = .free → (outer.names.lookup y.1 = some .cell ∨ outer.names.lookup y.1 = some .free))) && (N.drop xs.length).all (fun y => decide (scope.names.lookup y = some .free)) && decide N.Nodup
structure CompOks (outer scope : Scope) (xs : List Str) (N : List Str) : Prop where
  kind : scope.kind = .function
  nocell : ∀ y ∈ scope.names, y.2 ≠ .cell
  locs : ∀ y ∈ scope.names, y.2 = .local → scope.names.lookup y.1 = some .local
  tgt : ∀ x ∈ xs, scope.names.lookup x = some .local
  frees : ∀ y ∈ scope.names, y.2 = .free → (outer.names.lookup y.1 = some .cell ∨ outer.names.lookup y.1 = some .free)
  caps : ∀ y ∈ N.drop xs.length, scope.names.lookup y = some .free
  nd : N.Nodup
theorem compOks_is {outer scope : Scope} {xs : List Str} {N : List Str} (h : compOks outer scope xs N = true) : CompOks outer scope xs N := by
  unfold compOks at h
  simp only [Bool.and_eq_true, List.all_eq_true, decide_eq_true_eq] at h
  obtain ⟨⟨⟨⟨⟨⟨h1, h2⟩, h3⟩, h4⟩, h5⟩, h6⟩, h7⟩ := h
  exact ⟨h1, h2, h3, h4, h5, h6, h7⟩
def CompWs (k : Nat) (g : TG) (tt : TT) (te : TE) (caps : List Nat) (σ : St) (Q : VK) (J : It) (H1 : Hp) (D : Addr) : Prop :=
  ∃ W : Nat → Nat → List V → St → Hp → Prop, (∃ m, W 0 m [] (compSs k σ caps) (upd H1 D (.lst []))) ∧ ∀ i m ys τ H, W i m ys τ H →
    H D = some (.lst ys) ∧ ys.length < sizeLine ∧
    ((J.stop i H ∧ Q (.ref D) H) ∨ (J.go i H ∧ ∃ N : List V → St → Hp → Prop, (∀ zs τ' H', N zs τ' H' → ∃ m', m' < m ∧ W (i + 1) m' zs τ' H') ∧ ∀ x H', J.yld i H x H' → g x τ H' fun τ2 H2 => tt τ2 H2 fun b H3 =>
      if b = true then te τ2 H3 fun y H4 => H4 D = some (.lst ys) ∧ N (ys ++ [y]) τ2 (upd H4 D (.lst (ys ++ [y])))
      else N ys τ2 H3))
def tComps (k : Nat) (wi : TI) (g : TG) (tt : TT) (te : TE) (caps : List Nat) : TE := fun σ H Q => wi σ H fun J H1 => ∀ D, H1 D = none → CompWs k g tt te caps σ Q J H1 D
section
variable {X : Cx}
/-- the block's invariant at its start -/
theorem comp_starts {scope : Scope} {xs : List Str} {caps : List Nat} {pins : List (Addr × Obj)} {σ : St} {H : Hp} {s3 : Shared} {h1 : Heap} {fp : List Addr} {m : Str → Option Value} {tk : Nat} (ok : CompOks X.env.scope scope xs (compNs X xs caps)) (I : Inv X pins σ H s3)
    (hf : ∀ b ∈ fp, FpOk X pins H b) (hlt : ∀ b ∈ fp, b < s3.heap.objs.size) (hn : h1.Ns s3.heap.objs.size m) (keep : ∀ b o, s3.heap.get? b = some o → h1.get? b = some o) :
    Inv (cxComp X scope (captFrom X.env scope.names []) (compNs X xs caps) s3.heap.objs.size s3 H fp) [] (compSs xs.length σ caps) H { s3 with heap := h1, toks := tk } := by
  have hsome : ∀ z ∈ scope.names, z.2 = .free → (X.env.cells.lookup z.1).isSome = true := fun z hz hfr => by
    obtain ⟨c, e⟩ := I.ok.has z.1 (by
      rcases ok.frees z hz hfr with q | q
      · exact .inl q
      · exact .inr q)
    rw [e]; rfl
  have sub : ∀ y c, (captFrom X.env scope.names []).lookup y = some c → X.env.cells.lookup y = some c := fun y c h => capt_sub hsome (fun _ _ q => by simp at q) h
  have hC : H s3.heap.objs.size = none := I.hok.fresh (Nat.le_refl _)
  have cne : ∀ y c, X.env.cells.lookup y = some c → c < s3.heap.objs.size := fun y c e => by
    obtain ⟨v, z⟩ := I.cell y c e
    exact z.lt
  refine ⟨⟨I.ok.mod, ?_, I.ok.glob, I.ok.blt, Nat.le_refl _, fun y z c e1 e2 => I.ok.inj y z c (sub _ _ e1) (sub _ _ e2), fun y hy => ?_, fun y c hfn _ => ?_, I.ok.hd, I.ok.frames, .inl rfl, fun b hb => ⟨Nat.ne_of_lt (hlt b hb), fun y c e => (hf b hb).2.2.2.2.1 y c (sub _ _ e)⟩,
      I.bs, Nat.le_trans I.ok.bsz I.sz, fun b o e hb => ?_, fun b hb hfs => ?_, I.stack, I.stkFree⟩,
    rfl, I.bare, Un.kept keep, ⟨m, hn, fun i y v e1 e2 e3 => ?_⟩, fun y c e => ?_, hC, fun y c e => I.freeC y c (sub _ _ e), fun p hp => absurd (show p ∈ ([] : List (Addr × Obj)) from hp) (by simp), I.hok.kept keep, by simp [cxComp, compNs, compSs]⟩
  · show (relabel scope X.env).kind = .function
    exact ok.kind
  · have hy' : (relabel scope X.env).names.lookup y = some .cell ∨ (relabel scope X.env).names.lookup y = some .free := hy
    have fr : scope.names.lookup y = some .free := by
      rcases hy' with q | q
      · obtain ⟨k, e, z⟩ := relabel_kind q
        rcases z with z | ⟨z, _⟩
        · exact absurd z.symm (ok.nocell _ (PySem.mem_of_lookup e))
        · rw [e, z]
      · obtain ⟨k, e, z⟩ := relabel_kind q
        rcases z with z | ⟨_, z⟩
        · rw [e, z]
        · cases z
    exact Option.isSome_iff_exists.mp (capt_has (.inl (PySem.mem_of_lookup fr)))
  · exact absurd (show (fun _ => false) y = true from hfn) (by simp)
  · rcases (hf b hb).2.2.2.1 with z | z
    · exact I.ok.noex b o e z
    · exact absurd (Nat.lt_of_lt_of_le (Heap.lt_size e) (Nat.le_trans I.ok.bsz z)) (Nat.lt_irrefl _)
  · rcases List.mem_cons.mp (I.stkSub b hfs) with z | z
    · exact (hf b hb).2.1 z
    · exact (hf b hb).2.2.1 z
  · have e1' : (compNs X xs caps)[i]? = some y := e1
    have e2b : (compSs xs.length σ caps)[i]? = some (some v) := e2
    rcases Nat.lt_or_ge i xs.length with hix | hix
    · unfold compSs at e2b
      rw [List.getElem?_append_left (by rw [List.length_replicate]; exact hix), List.getElem?_replicate, if_pos hix] at e2b
      cases e2b
    · unfold compNs at e1'
      unfold compSs at e2b
      rw [List.getElem?_append_right hix, List.getElem?_map] at e1'
      rw [List.getElem?_append_right (by rw [List.length_replicate]; exact hix), List.length_replicate, List.getElem?_map] at e2b
      cases hj : caps[i - xs.length]? with
      | none => rw [hj] at e2b; cases e2b
      | some j =>
        rw [hj] at e1' e2b
        simp only [Option.map_some, Option.some.injEq] at e1' e2b
        cases hσ : σ[j]? with
        | none => rw [hσ] at e2b; cases e2b
        | some o =>
          rw [hσ] at e2b
          have e2' : o = some v := e2b
          subst e2'
          have hjl : j < X.N.length := by rw [← I.len]; exact (List.getElem?_eq_some_iff.mp hσ).1
          have eN : X.N[j]? = some y := by
            rw [List.getElem?_eq_getElem hjl]
            rw [List.getD_eq_getElem?_getD, List.getElem?_eq_getElem hjl] at e1'
            exact congrArg some e1'
          have hy : scope.names.lookup y = some .free := ok.caps y (by
            show y ∈ (xs ++ caps.map fun i => X.N.getD i (Str.ofString "")).drop xs.length
            rw [List.drop_left]
            exact List.mem_map.mpr ⟨j, List.mem_of_getElem? hj, e1'⟩)
          have hk := ok.frees (y, .free) (PySem.mem_of_lookup hy) rfl
          obtain ⟨m', _, hl⟩ := I.loc
          obtain ⟨u, r, q⟩ := hl j y v eN hσ (.inr hk)
          refine ⟨u, r, .inr ⟨relabel_free hy, ?_⟩⟩
          rcases q with ⟨k, _⟩ | ⟨_, c, e, z⟩
          · have k' : X.env.scope.names.lookup y = some .local := k
            rw [k'] at hk
            rcases hk with hk | hk <;> cases hk
          · obtain ⟨c', e'⟩ := Option.isSome_iff_exists.mp (capt_has (env := X.env) (cs := []) (.inl (PySem.mem_of_lookup hy)))
            have ec := sub _ _ e'
            rw [e] at ec
            cases ec
            obtain ⟨o, ho, hd⟩ := z
            exact ⟨c, e', o, keep c o ho, hd⟩
  · obtain ⟨v, o, ho, hd⟩ := I.cell y c (sub _ _ e)
    exact ⟨v, o, keep c o ho, hd⟩
theorem comp_cores {xs : List Str} {pos p : Pos} {tg iter elt : Expr} {g : TG} {ifs : List Expr} {scope : Scope} {wi : TI} {tt : TT} {te : TE} {caps : List Nat} {use : Option (Value → Sem Unit)} {QQ : Value → Shared → Prop}
    (hc : X.calm = true) (ho : compOks X.env.scope scope xs (compNs X xs caps) = true) (hi : PI X tg iter wi) (hg : ∀ cl C s₀ H₀ ex, PG (cxComp X scope cl (compNs X xs caps) C s₀ H₀ ex) tg g)
    (ht : ∀ cl C s₀ H₀ ex, PTs (cxComp X scope cl (compNs X xs caps) C s₀ H₀ ex) ifs tt) (he : ∀ cl C s₀ H₀ ex, PE (cxComp X scope cl (compNs X xs caps) C s₀ H₀ ex) elt te)
    (hs : ∀ x, foldedSetIterable iter X.env x = pure x) {pins : List (Addr × Obj)} {s : Shared} {σ : St} {H : Hp} {Q : VK} (I : Inv X pins σ H s) (h : tComps xs.length wi g tt te caps σ H Q)
    (fin : ∀ (D C : Addr) (H' : Hp) (s' : Shared) (m : Str → Option Value), Inv X pins σ H' s' → Q (.ref D) H' → s'.heap.Ns C m → FpOk X pins H' C → compPost (model X.prog X.w) X.A X.xe use QQ (.ref D) C (.ok .next) s') :
    wpAny (model X.prog X.w) X.A (comprehension (.ListComp elt [⟨tg, iter, ifs, 0⟩] scope pos) scope X.env p (newList []) false (eval iter X.env) use) QQ X.xe s := by
  have ok := compOks_is ho
  have hsome : ∀ z ∈ scope.names, z.2 = .free → (X.env.cells.lookup z.1).isSome = true := fun z hz hfr => by
    obtain ⟨c, e⟩ := I.ok.has z.1 (by
      rcases ok.frees z hz hfr with q | q
      · exact .inl q
      · exact .inr q)
    rw [e]; rfl
  refine wpAny_comprehension_free (cl := captFrom X.env scope.names []) (use := use) rfl hs (closure_is hsome) ok.kind ok.locs (thn (hi pins s σ H _ I h) fun v s1 h1 => thn h1 fun itv s2 h2 => ?_)
  obtain ⟨it, fp, tn, J, H2, e, I2, T, st2, f2, rd⟩ := h2
  subst e
  refine wpAny_newObj_type (wpAny_newFunctionEnv ok.nocell (by intro y hy; simp at hy) (fun h₁ hns₁ hsb₁ => ?_) ok.kind)
  dsimp only at hns₁ hsb₁ ⊢
  have hD0 : H2 s2.heap.objs.size = none := I2.hok.fresh (Nat.le_refl _)
  obtain ⟨W, ⟨m0, w0⟩, turn⟩ := rd s2.heap.objs.size hD0
  have hfpl : ∀ b ∈ fp, b < s2.heap.objs.size := fun b hb => by
    obtain ⟨o, e, _⟩ := T.obj 0 _ st2 b hb
    exact Heap.lt_size e
  have hsz : (s2.heap.push { cls := .type "list", dict := none, data := .seq ([] : List Value).toArray }).objs.size = s2.heap.objs.size + 1 := Heap.size_push ..
  have I3 : Inv X pins σ (upd H2 s2.heap.objs.size (.lst [])) { s2 with heap := s2.heap.push { cls := .type "list", dict := none, data := .seq ([] : List Value).toArray } } :=
    I2.laid (t' := s2.toks) (fun b u e => Heap.get?_push_of_some _ e) (Nat.le_refl _) ⟨by simp, [], 0, .nil, Heap.get?_push_size _ rfl⟩
  have st3 : tn 0 (s2.heap.push { cls := .type "list", dict := none, data := .seq ([] : List Value).toArray }) := T.keep _ _ _ st2 fun b _ o e => Heap.get?_push_of_some _ e
  generalize hH3 : s2.heap.push { cls := .type "list", dict := none, data := .seq ([] : List Value).toArray } = h3 at hns₁ hsb₁ hsz I3 st3 ⊢
  generalize hHH : upd H2 s2.heap.objs.size (.lst []) = H3 at I3 w0
  have hlt3 : ∀ b ∈ fp, b < h3.objs.size := fun b hb => by rw [hsz]; exact Nat.lt_succ_of_lt (hfpl b hb)
  have f3 : ∀ b ∈ fp, FpOk X pins H3 b := fun b hb => ⟨by rw [← hHH, upd_ne (Nat.ne_of_lt (hfpl b hb))]; exact (f2 b hb).1, (f2 b hb).2⟩
  have keep : ∀ b o, h3.get? b = some o → h₁.get? b = some o := fun b o e => hsb₁.extBut b o (Nat.ne_of_lt (Heap.lt_size e)) (Heap.get?_push_of_some _ e)
  have I4 := comp_starts (s3 := { s2 with heap := h3 }) (tk := s2.toks + ([] : List (Str × Value)).length) ok I3 f3 hlt3 hns₁ keep
  have st4 : tn 0 h₁ := T.keep _ _ _ st3 fun b _ o e => keep b o e
  generalize hX' : cxComp X scope (captFrom X.env scope.names []) (compNs X xs caps) ({ s2 with heap := h3 } : Shared).heap.objs.size { s2 with heap := h3 } H3 fp = X' at I4
  have eA : X'.A = X.A := by rw [← hX'] <;> rfl
  have eP : X'.prog = X.prog := by rw [← hX'] <;> rfl
  have ew : X'.w = X.w := by rw [← hX'] <;> rfl
  have eK : X'.K = X.K := by rw [← hX'] <;> rfl
  have ee : X'.env = compEnvC scope (captFrom X.env scope.names []) h3.objs.size X.env := by rw [← hX'] <;> rfl
  have ex : X'.xe = fun _ _ => False := by rw [← hX'] <;> rfl
  have ec : X'.calm = true := by rw [← hX']; exact hc
  have efs : X'.fs = frs X.stack := by rw [← hX'] <;> rfl
  have hT' : PTs X' ifs tt := by rw [← hX']; exact ht _ _ _ _ _
  have hG' : PG X' tg g := by rw [← hX']; exact hg _ _ _ _ _
  have hE' : PE X' elt te := by rw [← hX']; exact he _ _ _ _ _
  have leave : ∀ {σ' : St} {H' : Hp} {s' : Shared}, Inv X' [] σ' H' s' → Q (.ref s2.heap.objs.size) H' → compPost (model X.prog X.w) X.A X.xe use QQ (.ref s2.heap.objs.size) h3.objs.size (.ok .next) s' := fun {σ' H' s'} J q => by
    have un : Un (frs X.stack) fp H3 H' h3 s'.heap := by have z := J.base; rw [← hX'] at z; exact z
    have hos : s'.os = s2.os := by have z := J.os; rw [← hX'] at z; exact z
    have hk : HOk X.prog X.w H' s'.heap := by have z := J.hok; rw [eP, ew] at z; exact z
    have Jx := I3.call' (s' := s') (ch := fp) hos un hk J.bare fun b hb => ⟨(f3 b hb).2.2.2.1, (f3 b hb).2.1, (f3 b hb).2.2.2.2.1, (f3 b hb).2.2.2.2.2⟩
    obtain ⟨m, hn, _⟩ := J.loc
    have hn' : s'.heap.Ns h3.objs.size m := by rw [ee] at hn; exact hn
    have hfr : H' h3.objs.size = none := by have z := J.free; rw [ee] at z; exact z
    exact fin _ _ H' s' m Jx q hn' (I3.fpOk (Nat.le_refl _) hfr)
  have stat : ∀ {H' : Hp}, (∀ b ∈ fp, H' b = none) → ∀ b ∈ fp, FpOk X' [] H' b := fun {H'} hn b hb => by
    refine ⟨hn b hb, ?_, ?_, .inl ?_, fun y c e => ?_, fun p hp => ?_⟩
    · rw [ee]; exact Nat.ne_of_lt (hlt3 b hb)
    · rw [efs]
      intro z
      rcases List.mem_cons.mp (I3.stkSub b z) with z | z
      · exact (f3 b hb).2.1 z
      · exact (f3 b hb).2.2.1 z
    · rw [← hX']; exact hb
    · have e' : (captFrom X.env scope.names []).lookup y = some c := by rw [ee] at e; exact e
      exact (f3 b hb).2.2.2.2.1 y c (capt_sub hsome (fun _ _ q => by simp at q) e')
    · rw [← hX'] at hp
      exact absurd (show p ∈ ([] : List (Addr × Obj)) from hp) (by simp)
  have loop : ∀ s₃ : Shared, s₃ = { s2 with heap := h₁, toks := s2.toks + ([] : List (Str × Value)).length } →
      codeAny (model X.prog X.w) X.A (.compLoop (.ListComp elt [⟨tg, iter, ifs, 0⟩] scope pos) 0 (.ref it) (.ref s2.heap.objs.size) (compEnvC scope (captFrom X.env scope.names []) h3.objs.size X.env))
        (compPost (model X.prog X.w) X.A X.xe use QQ (.ref s2.heap.objs.size) h3.objs.size) s₃ := by
    rintro s₃ rfl
    refine compLoop_any (fun n s' => ∃ i τ H' ys, Inv X' [] τ H' s' ∧ tn i s'.heap ∧ (∀ b ∈ fp, H' b = none) ∧ W i n ys τ H') ?_ m0 ⟨0, _, H3, [], I4, st4, fun b hb => (f3 b hb).1, w0⟩
    rintro n s' ⟨i, τ, H', ys, J, st', fr', w'⟩
    obtain ⟨hDl, hlen, alt⟩ := turn i n ys τ H' w'
    rcases alt with ⟨stop, q⟩ | ⟨go, N, hN, step⟩
    · have z := T.done X' eP ew eK ec i [] s' _ H' (fun _ _ => False) J (stat fr') st' stop
      rw [eA] at z
      refine thn z fun r s4 ⟨hr, J4⟩ => ?_
      subst hr
      exact leave J4 q
    · have z := T.item X' eP ew eK ec i [] s' _ H' (fun _ _ => False) J (stat fr') st' go
      rw [eA] at z
      refine thn z fun r s4 ⟨u, hr, h4⟩ => ?_
      subst hr
      refine thn h4 fun _ s5 ⟨xv, H5, J5, r5, y5, st5, fr5⟩ => ?_
      have J5' := J5.pinned (stat fr5) (T.obj _ _ st5)
      have zg := hG' _ s5 _ H5 xv u _ J5' r5 (step xv _ y5)
      rw [eP, ew, eA, ee, ex] at zg
      refine thn zg fun _ s6 ⟨τ6, H6, J6, q6⟩ => ?_
      have zt := hT' _ s6 _ _ _ J6 q6
      rw [eP, ew, eA, ee, ex] at zt
      refine thn zt fun b s7 ⟨H7, J7, q7⟩ => ?_
      have again : ∀ {H8 : Hp} {s8 : Shared} {ys' : List V}, Inv X' ([] ++ pinsAt fp s5.heap) τ6 H8 s8 → N ys' τ6 H8 → ∃ m, m < n ∧ ∃ i τ H' ys, Inv X' [] τ H' s8 ∧ tn i s8.heap ∧ (∀ b ∈ fp, H' b = none) ∧ W i m ys τ H' := fun {H8 s8 ys'} J8 n8 => by
        obtain ⟨m', hm, w8⟩ := hN ys' τ6 H8 n8
        refine ⟨m', hm, i + 1, τ6, H8, ys', J8.unpinned, T.keep _ _ _ st5 fun b hb o e => (J8.pin (b, o) (List.mem_append_right _ (List.mem_append_right _ (mem_pinsAt hb e)))).1, fun b hb => ?_, w8⟩
        obtain ⟨o, e, d⟩ := T.obj _ _ st5 b hb
        exact (J8.pin (b, o) (List.mem_append_right _ (List.mem_append_right _ (mem_pinsAt hb e)))).2.1
      cases b with
      | false => exact again J7 q7
      | true =>
        have ze := hE' _ s7 _ H7 _ J7 q7
        rw [eP, ew, eA, ee, ex] at ze
        refine thn ze fun yv s8 ⟨y, H8, J8, r8, hD8, q8⟩ => ?_
        have za := mt_append (X := X') _ s8 _ H8 (.ref s2.heap.objs.size) [y] (.ref s2.heap.objs.size) [yv] (fun _ H9 => H9 = upd H8 s2.heap.objs.size (.lst (ys ++ [y]))) J8 rfl (.cons r8 .nil) ⟨_, ys, y, rfl, rfl, hD8, hlen, rfl⟩
        rw [eP, ew, eA, ex] at za
        refine thn za fun _ s9 ⟨_, H9, J9, _, q9⟩ => ?_
        subst q9
        exact again J9 q8
  exact codeAny_compStart_list (loop _ rfl) (T.self _ 0 _ _ _ st4 (loop _ rfl))
/-- [elt for tg in iter (if ..)] as a value -/
theorem pe_comps {pos : Pos} {tg iter elt : Expr} {ifs : List Expr} {scope : Scope} {wi : TI} {tt : TT} {te : TE} {g : TG} (xs : List Str) (caps : List Nat)
    (hc : X.calm = true) (ho : compOks X.env.scope scope xs (compNs X xs caps) = true) (hi : PI X tg iter wi) (hg : ∀ cl C s₀ H₀ ex, PG (cxComp X scope cl (compNs X xs caps) C s₀ H₀ ex) tg g)
    (ht : ∀ cl C s₀ H₀ ex, PTs (cxComp X scope cl (compNs X xs caps) C s₀ H₀ ex) ifs tt) (he : ∀ cl C s₀ H₀ ex, PE (cxComp X scope cl (compNs X xs caps) C s₀ H₀ ex) elt te)
    (hs : ∀ x, foldedSetIterable iter X.env x = pure x := by intro _; rfl) : PE X (.ListComp elt [⟨tg, iter, ifs, 0⟩] scope pos) (tComps xs.length wi g tt te caps) := by
  intro pins s σ H Q I h
  rw [eval_ListComp]
  refine comp_cores (use := none) hc ho hi hg ht he hs I h fun D C H' s' m J q hn hf => ?_
  exact ⟨m, hn, fun h' sb => ⟨.ref D, H', J.turned (t' := s'.toks) (fun b o hb e => (sb.2 b hb).trans e) hf.1 hf.2.1 hf.2.2.2.1 hf.2.2.2.2.1 hf.2.2.2.2.2, rfl, q⟩⟩
end
end L2
/-! MY OWN ADDITIONS: zip(list, list), sum(list) -/
namespace L2
open PySem PySem.Spec PyProof.Rows
/-- the items of two lists by turns, as a new tuple each -/
def Itz (K : PySem.W.Frag) (a b : Addr) : It :=
  ⟨fun i H => ∃ xs ys x y, SqL K H a xs ∧ SqL K H b ys ∧ xs[i]? = some x ∧ ys[i]? = some y,
   fun i H x H' => ∃ t v u, H t = none ∧ H' = upd H t (.tup [v, u]) ∧ x = .ref t ∧ (∀ xs, SqL K H a xs → xs[i]? = some v) ∧ ∀ ys, SqL K H b ys → ys[i]? = some u,
   fun i H => ∃ xs ys, SqL K H a xs ∧ SqL K H b ys ∧ (xs.length ≤ i ∨ ys.length ≤ i)⟩
theorem turn_zip {P : Program} {w : World} {K : PySem.W.Frag} {elts : List Expr} {x1 : Nat} {pos : Pos} (a b z TI TO i1 i2 : Addr) (D : ZipApart z TI TO i1 i2 a b) : Turn P w K (.Tuple elts x1 pos) (Itz K a b) [z, TI, TO, i1, i2] z
    (fun i h => IsZip h z TI TO .none ∧ IsPair h TI (.ref i1) (.ref i2) ∧ (∃ u v, IsPair h TO u v) ∧ h.IsListIter i1 a i ∧ h.IsListIter i2 b i) where
  mem := by simp
  obj := fun i h st c hc => by
    obtain ⟨st1, st2, ⟨u, v, st3⟩, st4, st5⟩ := st
    rcases (by simpa using hc : c = z ∨ c = TI ∨ c = TO ∨ c = i1 ∨ c = i2) with e | e | e | e | e <;> subst e
    · exact ⟨_, st1, fun v z => nomatch z⟩
    · exact ⟨_, st2, fun v z => nomatch z⟩
    · exact ⟨_, st3, fun v z => nomatch z⟩
    · obtain ⟨o, e, c, d⟩ := st4
      exact ⟨o, e, fun v z => by rw [d] at z; cases z⟩
    · obtain ⟨o, e, c, d⟩ := st5
      exact ⟨o, e, fun v z => by rw [d] at z; cases z⟩
  keep := fun i h h' st k => by
    obtain ⟨st1, st2, ⟨u, v, st3⟩, st4, st5⟩ := st
    exact ⟨k z (by simp) _ st1, k TI (by simp) _ st2, ⟨u, v, k TO (by simp) _ st3⟩, st4.at fun o q => k i1 (by simp) o q, st5.at fun o q => k i2 (by simp) o q⟩
  item := by
    intro X hP hw hK hc i pins s σ H E I hf st hg
    subst hP hw hK
    obtain ⟨st1, st2, ⟨u0, v0, st3⟩, st4, st5⟩ := st
    obtain ⟨xs, ys, x, y, hq, hq2, hx, hy⟩ := hg
    obtain ⟨its, rv, p, hz⟩ := I.list hq
    obtain ⟨its2, rv2, p2, hz2⟩ := I.list hq2
    obtain ⟨u, hu, ru⟩ := rv.get hx
    obtain ⟨u2, hu2, ru2⟩ := rv2.get hy
    refine wpAny_pyNext_zip_item D st1 st2 st3 st4 st5 p.isList p2.isList (x := u) (y := u2) (by simpa using hu) (by simpa using hu2) fun h1 hz1 hTO1 hi1 hi2 hT1 hs1 hk1 => ?_
    refine ⟨_, rfl, wpAny_letOwnedTupleGo_zip hz1 fun h2 he2 hs2 => ?_⟩
    replace hs2 : Heap.SameBut z h1 h2 := hs2
    have hfr : H s.heap.objs.size = none := I.hok.fresh (Nat.le_refl _)
    have lt : ∀ c ∈ [z, TI, TO, i1, i2], c < s.heap.objs.size := fun c hc => by
      rcases (by simpa using hc : c = z ∨ c = TI ∨ c = TO ∨ c = i1 ∨ c = i2) with e | e | e | e | e <;> rw [e]
      · exact Heap.lt_size st1
      · exact Heap.lt_size st2
      · exact Heap.lt_size st3
      · obtain ⟨o, q, _⟩ := id st4
        exact Heap.lt_size q
      · obtain ⟨o, q, _⟩ := id st5
        exact Heap.lt_size q
    have hzl := lt z (by simp)
    have ht2 : h2.get? s.heap.objs.size = some { cls := .type "tuple", data := .seq #[u, u2] } := (hs2.2 _ (Nat.ne_of_gt hzl)).trans hT1
    have I1 : Inv X pins σ (upd H s.heap.objs.size (.tup [x, y])) { s with heap := s.heap.push { cls := .type "tuple", data := .seq #[u, u2] }, toks := s.toks } := by
      refine I.laid (t' := s.toks) (fun b u q => Heap.get?_push_of_some _ q) (Nat.le_refl _) ?_
      exact ⟨(by show 2 ≤ sizeLine; decide), [u, u2], .cons ru (.cons ru2 .nil), ⟨_, Heap.get?_push_size _ rfl, rfl, 0, rfl⟩⟩
    have I2 : Inv X pins σ (upd H s.heap.objs.size (.tup [x, y])) { s with heap := h2, toks := s.toks } := by
      refine Inv.turned2 (s := { s with heap := s.heap.push { cls := .type "tuple", data := .seq #[u, u2] }, toks := s.toks }) (h' := h2) (t' := s.toks) (ch := [z, TI, TO, i1, i2]) I1 (fun b o hb q => ?_) (fun b hb => ?_)
      · have hb1 : b ≠ z := fun e => hb (by simp [e])
        have hb2 : b ≠ TO := fun e => hb (by simp [e])
        have hb3 : b ≠ i1 := fun e => hb (by simp [e])
        have hb4 : b ≠ i2 := fun e => hb (by simp [e])
        by_cases hbs : b = s.heap.objs.size
        · subst hbs
          have q2 : (s.heap.push { cls := .type "tuple", data := .seq #[u, u2] }).get? s.heap.objs.size = some o := q
          rw [Heap.get?_push_size _ rfl] at q2
          rw [ht2, ← q2]
        · have q2 : (s.heap.push { cls := .type "tuple", data := .seq #[u, u2] }).get? b = some o := q
          have q3 : s.heap.get? b = some o := (get_push_ne _ _ _ hbs).symm.trans q2
          exact (hs2.2 b hb1).trans (hk1 b o hb1 hb2 hb3 hb4 q3)
      · have f := hf b hb
        refine ⟨?_, f.2.1, f.2.2.2.1, f.2.2.2.2.1, f.2.2.2.2.2⟩
        rw [upd_ne (Nat.ne_of_lt (lt b hb))]
        exact f.1
    refine ⟨.ref s.heap.objs.size, _, I2, rfl, ⟨_, x, y, hfr, rfl, rfl, fun zs hzs => by rw [I.list_inj hzs hq]; exact hx, fun zs hzs => by rw [I.list_inj hzs hq2]; exact hy⟩, ⟨he2, ?_, ⟨u, u2, ?_⟩, ?_, ?_⟩, fun b hb => ?_⟩
    · exact (hs2.2 TI D.TIz).trans (hk1 TI _ D.TIz D.TITO D.TIi1 D.TIi2 st2)
    · exact (hs2.2 TO D.TOz).trans hTO1
    · exact hi1.at fun o q => (hs2.2 i1 D.i1z).trans q
    · exact hi2.at fun o q => (hs2.2 i2 D.i2z).trans q
    · rw [upd_ne (Nat.ne_of_lt (lt b hb))]
      exact (hf b hb).1
  done := by
    intro X hP hw hK hc i pins s σ H E I hf st hg
    subst hP hw hK
    obtain ⟨st1, st2, ⟨u0, v0, st3⟩, st4, st5⟩ := st
    obtain ⟨xs, ys, hq, hq2, hx⟩ := hg
    obtain ⟨its, rv, p, hz⟩ := I.list hq
    obtain ⟨its2, rv2, p2, hz2⟩ := I.list hq2
    have hl := rv.length
    have hl2 := rv2.length
    refine wpAny_pyNext_zip_end (I.ok.hd hc) D st1 st2 st3 st4 st5 p.isList p2.isList ?_ fun h' eb => ⟨rfl, ?_⟩
    · rcases hx with hx | hx
      · exact .inl (by simp; omega)
      · exact .inr (by simp; omega)
    · refine Inv.turned2 (s := s) (t' := s.toks) (ch := [z, TI, TO, i1, i2]) I (fun b o hb e => eb b o (fun e => hb (by simp [e])) (fun e => hb (by simp [e])) (fun e => hb (by simp [e])) (fun e => hb (by simp [e])) e) fun b hb => ?_
      have f := hf b hb
      exact ⟨f.1, f.2.1, f.2.2.2.1, f.2.2.2.2.1, f.2.2.2.2.2⟩
  self := fun _ _ _ _ _ st h => wpAny_pyIter_zip st.1 h
section
variable {X : Cx}
theorem neA {a b : Nat} (h : a < b ∨ b < a) : a ≠ b := fun e => by omega
theorem zip_apart (n a b : Nat) (ha : a < n) (hb : b < n) : ZipApart (n + 4) (n + 2) (n + 3) n (n + 1) a b := by
  constructor <;> (refine neA ?_; omega)
/-- zip(list, list) -/
def iZip (K : PySem.W.Frag) (tl tm : TE) : TI := fun σ H R => tl σ H fun x H1 => tm σ H1 fun y H2 => ∃ a b, x = .ref a ∧ y = .ref b ∧ (∃ xs, SqL K H2 a xs) ∧ (∃ ys, SqL K H2 b ys) ∧ R (Itz K a b) H2
theorem pi_zip {l m : Expr} {tl tm : TE} {elts : List Expr} {x1 : Nat} {tpos p cpos : Pos} (hl : PE X l tl) (hm2 : PE X m tm) (hg : Gl X "zip") (hm : X.mg "zip" = none) (hv : bootBuiltins "zip" = some (.type "zip"))
    (he : starEach [l, m] X.env = (false, eval l X.env) :: starEach [m] X.env) (he2 : starEach [m] X.env = (false, eval m X.env) :: starEach [] X.env) : PI X (.Tuple elts x1 tpos) (.Call (.Name "zip" p) [l, m] [] cpos) (iZip X.K tl tm) := by
  intro pins s σ H R I h
  refine wpAny_Call_Name_kw (ld_blt I hg hm hv ?_ (by decide) (by decide))
  have hpa : PA X [l, m] (tCons tl (tCons tm tNil)) := pa_cons hl (pa_cons hm2 pa_nil he2) he
  refine PyProof.Rows.callWith_type1 (thn (hpa cpos pins s σ H (fun vs H1 => match vs with | [x, y] => ∃ a b, x = .ref a ∧ y = .ref b ∧ (∃ xs, SqL X.K H1 a xs) ∧ (∃ ys, SqL X.K H1 b ys) ∧ R (Itz X.K a b) H1 | _ => False) I h) fun us s1 ⟨vs, H1, I1, r1, q1⟩ => ?_) he (by rw [he2]; rfl)
  match vs, r1, q1 with
  | [x, y], r1, ⟨a, b, ex, ey, ⟨xs, hq⟩, ⟨ys, hq2⟩, q⟩ =>
    subst ex ey
    obtain ⟨u, u2, rfl, ru, ru2⟩ := vals2 r1
    cases ru
    cases ru2
    obtain ⟨its, rv, p, hz⟩ := I1.list hq
    obtain ⟨its2, rv2, p2, hz2⟩ := I1.list hq2
    have ha : a < s1.heap.objs.size := by
      obtain ⟨_, e, _⟩ := p.isList
      exact Heap.lt_size e
    have hb : b < s1.heap.objs.size := by
      obtain ⟨_, e, _⟩ := p2.isList
      exact Heap.lt_size e
    have D := zip_apart s1.heap.objs.size a b ha hb
    refine call_zip_2 p.isList p2.isList fun h' hz hTI hTO hi1 hi2 hsz hk => wpAny_pyIter_zip hz ?_
    refine ⟨s1.heap.objs.size + 4, [s1.heap.objs.size + 4, s1.heap.objs.size + 2, s1.heap.objs.size + 3, s1.heap.objs.size, s1.heap.objs.size + 1], _, _, H1, rfl, I1.kept (t' := s1.toks) hk, turn_zip a b _ _ _ _ _ D, ⟨hz, hTI, ⟨_, _, hTO⟩, hi1, hi2⟩, fun c hc => ?_, q⟩
    have hb' : s1.heap.objs.size ≤ c := by
      rcases (by simpa using hc : c = s1.heap.objs.size + 4 ∨ c = s1.heap.objs.size + 2 ∨ c = s1.heap.objs.size + 3 ∨ c = s1.heap.objs.size ∨ c = s1.heap.objs.size + 1) with z | z | z | z | z <;> rw [z]
      · exact Nat.le_add_right _ _
      · exact Nat.le_add_right _ _
      · exact Nat.le_add_right _ _
      · exact Nat.le_refl _
      · exact Nat.le_add_right _ _
    exact I1.fpOk hb' (I1.hok.fresh hb')
theorem ints_val {ks : List Int} : ∀ {us : List Value}, Vals (ks.map V.int) us → us.length = ks.length ∧ ∀ i v, us[i]? = some v → ∃ t, v = Value.int (ks.getD i 0) t := by
  induction ks with
  | nil => intro us r; rw [List.map_nil] at r; cases r; exact ⟨rfl, fun i v h => by simp at h⟩
  | cons z zs ih =>
    intro us r
    rw [List.map_cons] at r
    cases r with
    | cons r1 r2 =>
      obtain ⟨hl, hi⟩ := ih r2
      refine ⟨by rw [List.length_cons, List.length_cons, hl], fun i v h => ?_⟩
      cases i with
      | zero =>
        cases h
        exact r1
      | succ i =>
        obtain ⟨t, e⟩ := hi i v (by simpa using h)
        exact ⟨t, by rw [e]; rfl⟩
theorem pre_sum (l : List Int) : ∀ j, preSum (fun i => l.getD i 0) j = (l.take j).sum
  | 0 => by simp [preSum]
  | j + 1 => by
    rw [preSum, pre_sum l j]
    by_cases h : j < l.length
    · rw [List.take_succ, List.sum_append, List.getD_eq_getElem?_getD, List.getElem?_eq_getElem h]; simp
    · rw [List.take_of_length_le (by omega), List.take_of_length_le (by omega), List.getD_eq_getElem?_getD, List.getElem?_eq_none (by omega)]; simp
theorem call_sum : CallR X (.builtin "sum") (fun xs H Q => ∃ (p : Addr) (ks : List Int), xs = [.ref p] ∧ X.calm = true ∧ SqL X.K H p (ks.map V.int) ∧ Q (.int ks.sum) H) := by
  intro pins s σ H xs us Q I r h
  obtain ⟨p, ks, rfl, hc, hq, q⟩ := h
  obtain ⟨u, rfl, rx⟩ := vals1 r
  cases rx
  obtain ⟨its, r', pl, hz⟩ := I.list hq
  obtain ⟨hl, hi⟩ := ints_val r'
  have hlt : p < s.heap.objs.size := by
    obtain ⟨_, e, _⟩ := pl.isList
    exact Heap.lt_size e
  refine call_sum_walkG (wpAny_pyIter_list pl.isList ?_)
  refine ⟨s.heap.objs.size, [s.heap.objs.size, p], [s.heap.objs.size], its.toArray.size, _, _, fun i => ks.getD i 0, rfl, Walks.list (A := X.A.in1) (I.ok.hd hc) _ p (Nat.ne_of_lt hlt) its.toArray,
    ⟨⟨_, Heap.get?_push_size _ rfl, rfl, rfl⟩, pl.isList.push _⟩, fun b hb => ?_, fun i v hP => hi i v (by simpa using hP), fun h' tk t' hk => ?_⟩
  · show b < (s.heap.push _).objs.size
    rw [Heap.size_push]
    rcases (by simpa using hb : b = s.heap.objs.size ∨ b = p) with e | e <;> rw [e]
    · exact Nat.lt_succ_self _
    · exact Nat.lt_succ_of_lt hlt
  · have el : its.toArray.size = ks.length := by rw [List.size_toArray, hl]
    rw [el, pre_sum, List.take_length]
    refine ⟨.int ks.sum, H, I.kept (t' := tk) fun b o e => hk b o (fun hm => ?_) (Heap.get?_push_of_some _ e), ⟨t', rfl⟩, q⟩
    rw [List.mem_singleton.mp hm] at e
    exact Nat.lt_irrefl _ (Heap.lt_size e)
end
end L2
namespace Bk
open PySem L2 K02
/-! ### sheets of rules over kinds without arguments -/
def joinD (sep : Cs) : List Cs → Cs
  | [] => []
  | [a] => a
  | a :: r => a ++ (sep ++ joinD sep r)
theorem joinD_str (sep : Cs) : ∀ (ls : List Str), (Str.join (S sep) ls).cps.toList = joinD sep (ls.map fun s => s.cps.toList)
  | [] => rfl
  | [a] => rfl
  | a :: b :: r => by
    have ih := joinD_str sep (b :: r)
    show ((a ++ S sep) ++ Str.join (S sep) (b :: r)).cps.toList = _
    rw [PySem.W.KT.app_list, PySem.W.KT.app_list, ih, S_codes]
    show (a.cps.toList ++ sep) ++ _ = a.cps.toList ++ (sep ++ _)
    simp
theorem joinD_S (sep : Cs) (ls : List Cs) : Txt.join (S sep) (ls.map S) = S (joinD sep ls) := by
  show Builtin.Str.glued (S sep) _ = _
  rw [StrLaws.glued_eq_join, ← S_of (Str.join (S sep) (ls.map S)), joinD_str, List.map_map]
  have e : ((fun s : Str => s.cps.toList) ∘ S) = id := by
    funext p
    exact S_codes p
  rw [e, List.map_id]
theorem joinD_le (sep : Cs) : ∀ (ls : List Cs) (B : Nat), (∀ l ∈ ls, l.length ≤ B) → (joinD sep ls).length ≤ ls.length * (B + sep.length)
  | [], _, _ => by simp [joinD]
  | [a], B, h => by
    have := h a (by simp)
    show a.length ≤ 1 * (B + sep.length)
    omega
  | a :: b :: r, B, h => by
    have ih := joinD_le sep (b :: r) B fun l hl => h l (List.mem_cons_of_mem _ hl)
    have h1 := h a (by simp)
    show (a ++ (sep ++ joinD sep (b :: r))).length ≤ ((b :: r).length + 1) * (B + sep.length)
    rw [List.length_append, List.length_append, Nat.add_mul]
    omega
def commaP : List Cs → List Cs
  | [] => []
  | [a] => [a]
  | a :: r => a :: [44] :: commaP r
abbrev bare (n : Cs) : Fc := ⟨n, []⟩
theorem commaP_row : ∀ (ns : List Cs), ns ≠ [] → (∀ n ∈ ns, smallC n = true) → RowP (commaP ns) (ns.map bare)
  | [], h, _ => absurd rfl h
  | [a], _, h => .one (.bare (h a (by simp)))
  | a :: b :: r, _, h => .more (.bare (h a (by simp))) (commaP_row (b :: r) (by simp) fun n hn => h n (List.mem_cons_of_mem _ hn))
theorem small_ne {p : Cs} (h : smallC p = true) : p ≠ [] := fun z => by
  have := smallC_len h
  rw [z] at this
  simp at this
theorem commaP_toks : ∀ (ns : List Cs) (r : Cs), ns ≠ [] → (∀ n ∈ ns, smallC n = true) → Stops r → toks (joinD [44, 32] ns ++ r) = commaP ns ++ toks r
  | [], _, h, _, _ => absurd rfl h
  | [a], r, _, h, hs => by
    show toks (a ++ r) = a :: toks r
    exact toks_name (small_al (h a (by simp))) (small_ne (h a (by simp))) hs
  | a :: b :: t, r, _, h, hs => by
    have ih := commaP_toks (b :: t) r (by simp) (fun n hn => h n (List.mem_cons_of_mem _ hn)) hs
    show toks ((a ++ ([44, 32] ++ joinD [44, 32] (b :: t))) ++ r) = a :: [44] :: (commaP (b :: t) ++ toks r)
    rw [List.append_assoc, toks_name (small_al (h a (by simp))) (small_ne (h a (by simp))) (show Stops (([44, 32] ++ joinD [44, 32] (b :: t)) ++ r) from al_comma)]
    rw [List.append_assoc]
    show a :: toks (44 :: 32 :: (joinD [44, 32] (b :: t) ++ r)) = _
    rw [toks_mark (by decide), toks_blank, ih]
theorem commaP_no59 : ∀ (ns : List Cs), (∀ n ∈ ns, smallC n = true) → [59] ∉ commaP ns := by
  have one : ∀ n : Cs, smallC n = true → [59] ≠ n := fun n hn e => by rw [← e] at hn; exact absurd hn (by decide +kernel)
  intro ns
  induction ns with
  | nil => intro _; simp [commaP]
  | cons a r ih =>
    intro h
    cases r with
    | nil =>
      show [59] ∉ [a]
      rw [List.mem_singleton]
      exact one a (h a (by simp))
    | cons b t =>
      have ih' := ih fun n hn => h n (List.mem_cons_of_mem _ hn)
      show [59] ∉ a :: [44] :: commaP (b :: t)
      simp only [List.mem_cons, not_or]
      exact ⟨one a (h a (by simp)), by decide, ih'⟩
/-- a part: which word, which kinds -/
abbrev PN := Nat × List Cs
def pnText (x : PN) : Cs := wordAt x.1 ++ (32 :: joinD [44, 32] x.2)
def pnPr (x : PN) : Pr := ⟨x.1, commaP x.2, .fs (x.2.map bare)⟩
structure PNOk (x : PN) : Prop where
  n : x.1 = 0 ∨ x.1 = 1 ∨ x.1 = 3
  ne : x.2 ≠ []
  sm : ∀ n ∈ x.2, smallC n = true
theorem word_al (n : Nat) : (wordAt n).all isAl = true ∧ wordAt n ≠ [] ∧ (wordAt n).length ≤ 4 := by
  match n with
  | 0 => exact ⟨by decide +kernel, by decide, by decide⟩
  | 1 => exact ⟨by decide +kernel, by decide, by decide⟩
  | 2 => exact ⟨by decide +kernel, by decide, by decide⟩
  | 3 => exact ⟨by decide +kernel, by decide, by decide⟩
  | n + 4 => exact ⟨by show kwTell.all isAl = true; decide +kernel, by show kwTell ≠ []; decide, by show kwTell.length ≤ 4; decide⟩
theorem pn_toks {x : PN} (h : PNOk x) {r : Cs} (hs : Stops r) : toks (pnText x ++ r) = (wordAt x.1 :: commaP x.2) ++ toks r := by
  obtain ⟨h1, h2, _⟩ := word_al x.1
  unfold pnText
  rw [List.append_assoc, toks_name h1 h2 (show Stops ((32 :: joinD [44, 32] x.2) ++ r) from al_blank), List.cons_append, toks_blank, commaP_toks _ _ h.ne h.sm hs]
  rfl
theorem al_semi : isAl 59 = false := by decide +kernel
theorem pns_toks : ∀ (L : List PN), L ≠ [] → (∀ x ∈ L, PNOk x) → toks (joinD [59, 32] (L.map pnText)) = glue [59] ((L.map pnPr).map fun x => wordAt x.n :: x.ps)
  | [], h, _ => absurd rfl h
  | [x], _, h => by
    have z := pn_toks (h x (by simp)) (r := []) trivial
    rw [List.append_nil] at z
    show toks (pnText x) = wordAt x.1 :: commaP x.2
    rw [z]
    show _ ++ [] = _
    simp
  | x :: y :: t, _, h => by
    have ih := pns_toks (y :: t) (by simp) fun z hz => h z (List.mem_cons_of_mem _ hz)
    show toks (pnText x ++ ([59, 32] ++ joinD [59, 32] ((y :: t).map pnText))) = (wordAt x.1 :: commaP x.2) ++ [59] :: glue [59] (((y :: t).map pnPr).map fun x => wordAt x.n :: x.ps)
    rw [pn_toks (h x (by simp)) (show Stops ([59, 32] ++ joinD [59, 32] ((y :: t).map pnText)) from al_semi), ← ih]
    show _ ++ toks (59 :: 32 :: joinD [59, 32] ((y :: t).map pnText)) = _
    rw [toks_other al_semi (by decide), toks_blank]
def ruleT (title : Cs) (L : List PN) : Cs := kwRule ++ (32 :: (title ++ (58 :: 32 :: joinD [59, 32] (L.map pnText))))
theorem al_colon : isAl 58 = false := by decide +kernel
theorem rule_toks {title : Cs} {L : List PN} (ht : smallC title = true) (h0 : L ≠ []) (h : ∀ x ∈ L, PNOk x) : toks (ruleT title L) = rulePs title (L.map pnPr) := by
  unfold ruleT rulePs
  rw [toks_name (by decide +kernel) (by decide) (show Stops (32 :: (title ++ (58 :: 32 :: joinD [59, 32] (L.map pnText)))) from al_blank), toks_blank, toks_name (small_al ht) (small_ne ht) (show Stops (58 :: 32 :: joinD [59, 32] (L.map pnText)) from al_colon), toks_other al_colon (by decide), toks_blank, pns_toks L h0 h]
theorem all_joinD {f : Nat → Bool} {sep : Cs} (hs : sep.all f = true) : ∀ (ls : List Cs), (∀ l ∈ ls, l.all f = true) → (joinD sep ls).all f = true
  | [], _ => rfl
  | [a], h => h a (by simp)
  | a :: b :: r, h => by
    have ih := all_joinD hs (b :: r) fun l hl => h l (List.mem_cons_of_mem _ hl)
    show (a ++ (sep ++ joinD sep (b :: r))).all f = true
    rw [List.all_append, List.all_append, h a (by simp), hs, ih]
    rfl
theorem pn_all {f : Nat → Bool} (hal : ∀ c, isAl c = true → f c = true) (h32 : f 32 = true) (h44 : f 44 = true) {x : PN} (h : PNOk x) : (pnText x).all f = true := by
  have up : ∀ p : Cs, p.all isAl = true → p.all f = true := fun p h => by
    rw [List.all_eq_true] at h ⊢
    exact fun x hx => hal x (h x hx)
  unfold pnText
  rw [List.all_append, up _ (word_al x.1).1, List.all_cons, h32, all_joinD (by simp [h32, h44]) _ fun l hl => up l (small_al (h.sm l hl))]
  rfl
theorem rule_all {f : Nat → Bool} (hal : ∀ c, isAl c = true → f c = true) (h32 : f 32 = true) (h44 : f 44 = true) (h58 : f 58 = true) (h59 : f 59 = true) {title : Cs} {L : List PN} (ht : smallC title = true) (h : ∀ x ∈ L, PNOk x) : (ruleT title L).all f = true := by
  have up : ∀ p : Cs, p.all isAl = true → p.all f = true := fun p h => by
    rw [List.all_eq_true] at h ⊢
    exact fun x hx => hal x (h x hx)
  unfold ruleT
  rw [List.all_append, up kwRule (by decide +kernel), List.all_cons, h32, List.all_append, up _ (small_al ht), List.all_cons, h58, List.all_cons, h32, all_joinD (by simp [h32, h59]) _ fun l hl => by
    obtain ⟨x, hx, rfl⟩ := List.mem_map.mp hl
    exact pn_all hal h32 h44 (h x hx)]
  rfl
theorem no10_of {p : Cs} (h : p.all (fun c => !(c == 10)) = true) : 10 ∉ p := fun z => by
  rw [List.all_eq_true] at h
  exact absurd (h 10 z) (by decide)
theorem al_no10 (c : Nat) (h : isAl c = true) : (!(c == 10)) = true := by
  cases e : (c == 10) with
  | false => rfl
  | true =>
    rw [beq_iff_eq.mp e] at h
    exact absurd h (by decide +kernel)
theorem rule_told (title : Cs) (L : List PN) : told (ruleT title L) = true := rfl
/-- the words come in their order -/
def IncN : Nat → List PN → Prop
  | _, [] => True
  | m, x :: r => m ≤ x.1 ∧ x.1 < 5 ∧ IncN (x.1 + 1) r
theorem inc_of : ∀ (m : Nat) (L : List PN), IncN m L → Inc m (L.map pnPr)
  | _, [], _ => trivial
  | m, x :: r, h => ⟨h.1, h.2.1, inc_of (x.1 + 1) r h.2.2⟩
theorem rule_P {title : Cs} {L : List PN} (ht : smallC title = true) (h0 : L ≠ []) (h : ∀ x ∈ L, PNOk x) (hi : IncN 0 L) (hd : ∃ x ∈ L, x.1 = 0 ∨ x.1 = 1) : RuleP title (L.map pnPr) := by
  refine ⟨ht, by simpa using h0, inc_of 0 L hi, fun x hx => ?_, ?_, fun x hx => ?_⟩
  · obtain ⟨y, hy, rfl⟩ := List.mem_map.mp hx
    exact .fs (h y hy).n (commaP_row _ (h y hy).ne (h y hy).sm)
  · obtain ⟨x, hx, e⟩ := hd
    exact ⟨pnPr x, List.mem_map.mpr ⟨x, hx, rfl⟩, e⟩
  · obtain ⟨y, hy, rfl⟩ := List.mem_map.mp hx
    exact commaP_no59 _ (h y hy).sm
/-- the kinds of a part -/
def nmOf (n : Nat) (L : List PN) : List Cs := match L.find? fun x => x.1 == n with
  | some x => x.2
  | none => []
theorem fsOf_pn (n : Nat) (L : List PN) : fsOf n (L.map pnPr) = (nmOf n L).map bare := by
  unfold fsOf findN nmOf
  rw [List.find?_map]
  show (match Option.map pnPr (L.find? fun x => x.1 == n) with | some ⟨_, _, .fs l⟩ => l | _ => []) = _
  cases L.find? fun x => x.1 == n with
  | none => rfl
  | some x => rfl
theorem nmOf_mem {n : Nat} {L : List PN} {z : Cs} (h : z ∈ nmOf n L) : ∃ x ∈ L, z ∈ x.2 := by
  unfold nmOf at h
  cases e : L.find? fun x => x.1 == n with
  | none => rw [e] at h; cases h
  | some x => rw [e] at h; exact ⟨x, List.mem_of_find?_eq_some e, h⟩
theorem lkOf_pn {L : List PN} : lkOf (L.map pnPr) = [] := by
  unfold lkOf findN
  rw [List.find?_map]
  generalize L.find? ((fun x => x.n == 2) ∘ pnPr) = o
  cases o with
  | none => rfl
  | some x => rfl
theorem prOf_pn {L : List PN} : prOf (L.map pnPr) = [] := by
  unfold prOf findN
  rw [List.find?_map]
  generalize L.find? ((fun x => x.n == 4) ∘ pnPr) = o
  cases o with
  | none => rfl
  | some x => rfl
/-- the rule that a line of parts tells -/
theorem rlOf_pn (title : Cs) (L : List PN) : rlOf title (L.map pnPr) = ⟨title, (nmOf 0 L).map bare, (nmOf 1 L).map bare, [], (nmOf 3 L).map bare, []⟩ := by
  unfold rlOf
  rw [fsOf_pn, fsOf_pn, fsOf_pn, lkOf_pn, prOf_pn]
theorem flat_bare (ns : List Cs) : (ns.map bare).flatMap (·.as) = [] := by
  induction ns with
  | nil => rfl
  | cons a r ih =>
    rw [List.map_cons, List.flatMap_cons, ih]
    rfl
end Bk
namespace Bk
open PySem L2 K02
/-! ### specs of the sheets' functions -/
def spDig (K : PySem.W.Frag) : Sp := fun vs H Q _ => ∃ (c : Int) (l : Addr) (ms : List Int), vs = [.int c, .ref l] ∧ SqL K H l (ms.map V.int) ∧ ms.length ≤ 10 ∧ (∀ m ∈ ms, 0 < m ∧ m ≤ 1000) ∧
  ∀ (p : Addr) (ds : List Int) (H' : Hp), Same H H' → H p = none → H' p = some (.lst (ds.map V.int)) → Paired (fun m d : Int => 0 ≤ d ∧ d < m) ms ds → Q (.ref p) H'
abbrev aEight : Cs := [97, 98, 99, 100, 101, 102, 103, 104]
def nameOf (a b k : Nat) : Cs := List.replicate a 109 ++ ([aEight.getD k 0] ++ List.replicate b 109)
def spName : Sp := fun vs H Q _ => ∃ (st : Int) (k : Nat), vs = [.int st, .int k] ∧ 0 ≤ st ∧ k < 8 ∧ ∀ a b : Nat, a = (st / 5 % (1 + st % 5)).toNat → b = (1 + st % 5 - 1 - st / 5 % (1 + st % 5)).toNat → a + b ≤ 4 → Q (tx (nameOf a b k)) H
theorem name_small {a b k : Nat} (hk : k < 8) (hab : a + b ≤ 4) : smallC (nameOf a b k) = true := by
  have all : ∀ k, k < 8 → isAl (aEight.getD k 0) = true ∧ (aEight.getD k 0) ∈ aSmall.cps.toList := by
    intro k hk
    rcases (by omega : k = 0 ∨ k = 1 ∨ k = 2 ∨ k = 3 ∨ k = 4 ∨ k = 5 ∨ k = 6 ∨ k = 7) with e | e | e | e | e | e | e | e <;> subst e <;> exact ⟨by decide +kernel, by decide +kernel⟩
  have rep : ∀ n : Nat, (List.replicate n 109).all isAl = true := fun n => by
    rw [List.all_eq_true]
    intro x hx
    rw [(List.mem_replicate.mp hx).2]
    decide +kernel
  unfold smallC nameC nameOf
  have e1 : (List.replicate a 109 ++ ([aEight.getD k 0] ++ List.replicate b 109)).all isAl = true := by
    rw [List.all_append, List.all_append, rep, rep, List.all_cons, (all k hk).1]
    rfl
  have e2 : (List.replicate a 109 ++ ([aEight.getD k 0] ++ List.replicate b 109)).headD 0 ∈ aSmall.cps.toList := by
    cases a with
    | zero => exact (all k hk).2
    | succ a =>
      show (109 : Nat) ∈ aSmall.cps.toList
      decide +kernel
  rw [e1, decide_eq_true e2]
  simp only [List.length_append, List.length_replicate, List.length_cons, List.length_nil, Bool.and_true, Bool.and_eq_true, decide_eq_true_eq]
  omega
theorem name_inj {a b j k : Nat} (hj : j < 8) (hk : k < 8) (h : nameOf a b j = nameOf a b k) : j = k := by
  unfold nameOf at h
  have h2 := List.append_inj_right h rfl
  have h3 : aEight.getD j 0 = aEight.getD k 0 := (List.cons.inj h2).1
  have e : aEight.Nodup := by decide
  have gd : ∀ i, i < 8 → aEight.getD i 0 = 97 + i := by
    intro i hi
    rcases (by omega : i = 0 ∨ i = 1 ∨ i = 2 ∨ i = 3 ∨ i = 4 ∨ i = 5 ∨ i = 6 ∨ i = 7) with e | e | e | e | e | e | e | e <;> subst e <;> rfl
  rw [gd j hj, gd k hk] at h3
  omega
abbrev zz : Cs := [122, 122]
theorem name_zz {a b k : Nat} (hk : k < 8) : nameOf a b k ≠ zz := by
  intro h
  have hl : aEight.getD k 0 ∈ nameOf a b k := by
    unfold nameOf
    simp
  rw [h] at hl
  have gd : aEight.getD k 0 = 97 + k := by
    rcases (by omega : k = 0 ∨ k = 1 ∨ k = 2 ∨ k = 3 ∨ k = 4 ∨ k = 5 ∨ k = 6 ∨ k = 7) with e | e | e | e | e | e | e | e <;> subst e <;> rfl
  rw [gd] at hl
  have : 97 + k = 122 := by simpa using hl
  omega
/-- what a rule does to a kind -/
def eff (r : Rl) (z : Cs) : Int := ((r.put.filter fun f => decide (f.k = z)).length : Int) - ((r.take.filter fun f => decide (f.k = z)).length : Int)
def passing (ks : List Kd) : List Cs := (ks.filter fun k => !k.l).map (·.n)
def spPass (K : PySem.W.Frag) (c : Cl) : Sp := fun vs H Q _ => ∃ (v : V) (H0 : Hp) (ks : List Kd) (rs : List Rl), vs = [v] ∧ BookO K c H0 H ks rs v ∧ ks.length ≤ 10000 ∧ ∀ u H', Same H H' → Texts H H' u (passing ks) → Q u H'
def spEff (K : PySem.W.Frag) (c : Cl) : Sp := fun vs H Q _ => ∃ (v : V) (H0 : Hp) (r : Rl) (z : Cs), vs = [v, tx z] ∧ RuleO K c H0 H r v ∧ r.put.length ≤ 10000 ∧ r.take.length ≤ 10000 ∧ ∀ H', Same H H' → Q (.int (eff r z)) H'
/-- a list of ints; a table of them -/
def Ints (H0 H : Hp) (row : List Int) (u : V) : Prop := ∃ a, u = .ref a ∧ H0 a = none ∧ H a = some (.lst (row.map V.int))
theorem Ints.keep {H0 H H' : Hp} {row : List Int} {u : V} (k : Kp H0 H H') (h : Ints H0 H row u) : Ints H0 H' row u := by
  obtain ⟨a, e, n, h1⟩ := h
  exact ⟨a, e, n, k.new _ _ n h1⟩
theorem Ints.older {H0 H1 H : Hp} {row : List Int} {u : V} (d : ∀ b, H1 b = none → H0 b = none) (h : Ints H1 H row u) : Ints H0 H row u := by
  obtain ⟨a, e, n, h1⟩ := h
  exact ⟨a, e, d a n, h1⟩
def Table (H0 H : Hp) (v : V) (rows : List (List Int)) : Prop := ∃ l vs, v = .ref l ∧ H0 l = none ∧ H l = some (.lst vs) ∧ Paired (Ints H0 H) rows vs
theorem Table.keep {H0 H H' : Hp} {v : V} {rows : List (List Int)} (k : Kp H0 H H') (h : Table H0 H v rows) : Table H0 H' v rows := by
  obtain ⟨l, vs, e, n, h1, h2⟩ := h
  exact ⟨l, vs, e, n, k.new _ _ n h1, L2.Paired.mapP h2 fun _ _ z => z.keep k⟩
def effT (ks : List Kd) (rs : List Rl) : List (List Int) := rs.map fun r => (passing ks).map (eff r)
def spEffs (K : PySem.W.Frag) (c : Cl) : Sp := fun vs H Q _ => ∃ (v : V) (H0 : Hp) (ks : List Kd) (rs : List Rl), vs = [v] ∧ BookO K c H0 H ks rs v ∧ ks.length ≤ 10000 ∧ rs.length ≤ 10000 ∧ (∀ r ∈ rs, r.put.length ≤ 10000 ∧ r.take.length ≤ 10000) ∧ ∀ u H', Same H H' → Table H H' u (effT ks rs) → Q u H'
theorem paired_ints : ∀ {l : List Int} {ys : List V}, Paired (fun b y => y = V.int b) l ys → ys = l.map V.int
  | _, _, .nil => rfl
  | _, _, .cons r t => by rw [r, paired_ints t]; rfl
end Bk
namespace Bk
open PySem L2 K02
/-! ### the sheets that the laws draw -/
abbrev RI := List Nat × List Nat
abbrev nI (l : List Nat) : List V := l.map fun (n : Nat) => V.int (n : Int)
structure RiOk (many : Nat) (r : RI) : Prop where
  l1 : r.1.length ≤ 4
  l2 : r.2.length ≤ 4
  m1 : ∀ n ∈ r.1, n < many
  m2 : ∀ n ∈ r.2, n < many
structure SheetT (zs : List Cs) (place : Nat) (rs : List RI) : Prop where
  few : zs.length ≤ 5
  pl : place ≤ zs.length
  many : rs.length ≤ 8
  nd : zs.Nodup
  sm : ∀ z ∈ zs, smallC z = true
  nz : ∀ z ∈ zs, z ≠ zz
  ok : ∀ r ∈ rs, RiOk zs.length r
def RuleI (K : PySem.W.Frag) (H : Hp) (r : RI) (v : V) : Prop := ∃ t a b, v = .ref t ∧ SqT K H t [.ref a, .ref b] ∧ H a = some (.lst (nI r.1)) ∧ H b = some (.lst (nI r.2))
theorem RuleI.same {K : PySem.W.Frag} {H H' : Hp} {r : RI} {v : V} (s : Same H H') (h : RuleI K H r v) : RuleI K H' r v := by
  obtain ⟨t, a, b, e, h1, h2, h3⟩ := h
  exact ⟨t, a, b, e, h1.same s, s _ _ h2, s _ _ h3⟩
def spSheet (K : PySem.W.Frag) : Sp := fun vs H Q _ => ∃ (s : Addr) (ns : List Int), vs = [.ref s] ∧ SqL K H s (ns.map V.int) ∧ ns.length ≤ 63 ∧
  ∀ (t ln lr : Addr) (zs : List Cs) (place : Nat) (rs : List RI) (us : List V) (H' : Hp), Same H H' → H' t = some (.tup [.ref ln, .int (place : Int), .ref lr]) → H' ln = some (.lst (zs.map tx)) → H' lr = some (.lst us) → Paired (RuleI K H') rs us → SheetT zs place rs → Q (.ref t) H'
/-- rules under way: their tuples, their lists, all apart -/
structure Cells (H : Hp) (n : Nat) (T : Nat → Addr) (A : Nat → Nat → Addr) (R : Nat → Nat → List Nat) : Prop where
  tup : ∀ i, i < n → H (T i) = some (.tup [.ref (A i 0), .ref (A i 1)])
  lst : ∀ i u, i < n → u < 2 → H (A i u) = some (.lst (nI (R i u)))
  inj : ∀ i u j v, i < n → u < 2 → j < n → v < 2 → A i u = A j v → i = j ∧ u = v
theorem Cells.same {H H' : Hp} {n : Nat} {T : Nat → Addr} {A : Nat → Nat → Addr} {R : Nat → Nat → List Nat} (s : Same H H') (h : Cells H n T A R) : Cells H' n T A R :=
  ⟨fun i hi => s _ _ (h.tup i hi), fun i u hi hu => s _ _ (h.lst i u hi hu), h.inj⟩
theorem Cells.snoc {H : Hp} {n : Nat} {T : Nat → Addr} {A : Nat → Nat → Addr} {R : Nat → Nat → List Nat} (h : Cells H n T A R) {H' : Hp} {t a b : Addr} (s : Same H H') (na : H a = none) (nb : H b = none) (hab : a ≠ b) (ha : H' a = some (.lst [])) (hb : H' b = some (.lst [])) (ht : H' t = some (.tup [.ref a, .ref b])) :
    Cells H' (n + 1) (fun i => if i = n then t else T i) (fun i u => if i = n then (if u = 0 then a else b) else A i u) (fun i u => if i = n then [] else R i u) := by
  refine ⟨fun i hi => ?_, fun i u hi hu => ?_, fun i u j v hi hu hj hv e => ?_⟩
  · by_cases e : i = n
    · subst e
      simp only [if_true]
      exact ht
    · simp only [if_neg e]
      exact s _ _ (h.tup i (by omega))
  · by_cases e : i = n
    · subst e
      simp only [if_true]
      by_cases e2 : u = 0
      · rw [if_pos e2]; exact ha
      · rw [if_neg e2]; exact hb
    · simp only [if_neg e]
      exact s _ _ (h.lst i u (by omega) hu)
  · have old : ∀ i u x, i < n → u < 2 → H x = none → A i u ≠ x := fun i u x hi hu hx z => by
      have y := h.lst i u hi hu
      rw [z, hx] at y
      cases y
    by_cases e1 : i = n <;> by_cases e2 : j = n
    · subst e1; subst e2
      simp only [if_true] at e
      refine ⟨rfl, ?_⟩
      by_cases z1 : u = 0 <;> by_cases z2 : v = 0
      · rw [z1, z2]
      · rw [if_pos z1, if_neg z2] at e; exact absurd e hab
      · rw [if_neg z1, if_pos z2] at e; exact absurd e.symm hab
      · omega
    · subst e1
      simp only [if_true, if_neg e2] at e
      by_cases z1 : u = 0
      · rw [if_pos z1] at e; exact absurd e.symm (old j v a (by omega) hv na)
      · rw [if_neg z1] at e; exact absurd e.symm (old j v b (by omega) hv nb)
    · subst e2
      simp only [if_true, if_neg e1] at e
      by_cases z1 : v = 0
      · rw [if_pos z1] at e; exact absurd e (old i u a (by omega) hu na)
      · rw [if_neg z1] at e; exact absurd e (old i u b (by omega) hu nb)
    · simp only [if_neg e1, if_neg e2] at e
      exact h.inj i u j v (by omega) hu (by omega) hv e
theorem Cells.write {H : Hp} {n : Nat} {T : Nat → Addr} {A : Nat → Nat → Addr} {R : Nat → Nat → List Nat} (h : Cells H n T A R) {i u : Nat} (hi : i < n) (hu : u < 2) (l : List Nat) :
    Cells (upd H (A i u) (.lst (nI l))) n T A (fun j v => if j = i ∧ v = u then l else R j v) := by
  refine ⟨fun j hj => ?_, fun j v hj hv => ?_, h.inj⟩
  · rw [upd_ne fun z => by
      have y := h.tup j hj
      rw [z, h.lst i u hi hu] at y
      cases y]
    exact h.tup j hj
  · by_cases e : j = i ∧ v = u
    · rw [e.1, e.2, upd_same]
      simp
    · rw [upd_ne fun z => e (h.inj j v i u hj hv hi hu z)]
      simp only [if_neg e]
      exact h.lst j v hj hv
theorem paired_range {α β : Type} {R : α → β → Prop} {f : Nat → α} {g : Nat → β} : ∀ {n : Nat}, (∀ i, i < n → R (f i) (g i)) → Paired R ((List.range n).map f) ((List.range n).map g)
  | 0, _ => .nil
  | n + 1, h => by
    rw [List.range_succ, List.map_append, List.map_append]
    exact Paired.snoc (paired_range fun i hi => h i (by omega)) (h n (by omega))
theorem Cells.paired {K : PySem.W.Frag} {H : Hp} {n : Nat} {T : Nat → Addr} {A : Nat → Nat → Addr} {R : Nat → Nat → List Nat} (h : Cells H n T A R) : Paired (RuleI K H) ((List.range n).map fun i => (R i 0, R i 1)) ((List.range n).map fun i => V.ref (T i)) :=
  paired_range fun i hi => ⟨T i, A i 0, A i 1, rfl, SqT.of (h.tup i hi), h.lst i 0 hi (by decide), h.lst i 1 hi (by decide)⟩
theorem paired3 {α β : Type} {R : α → β → Prop} {a b c : α} {ds : List β} (h : Paired R [a, b, c] ds) : ∃ x y z, ds = [x, y, z] ∧ R a x ∧ R b y ∧ R c z := by
  obtain ⟨_⟩ | ⟨h1, h⟩ := h
  obtain ⟨_⟩ | ⟨h2, h⟩ := h
  obtain ⟨_⟩ | ⟨h3, h⟩ := h
  obtain ⟨_⟩ | _ := h
  exact ⟨_, _, _, rfl, h1, h2, h3⟩
theorem paired5 {α β : Type} {R : α → β → Prop} {a b c d e : α} {ds : List β} (h : Paired R [a, b, c, d, e] ds) : ∃ x y z p q, ds = [x, y, z, p, q] ∧ R a x ∧ R b y ∧ R c z ∧ R d p ∧ R e q := by
  obtain ⟨_⟩ | ⟨h1, h⟩ := h
  obtain ⟨_⟩ | ⟨h2, h⟩ := h
  obtain ⟨_⟩ | ⟨h3, h⟩ := h
  obtain ⟨_⟩ | ⟨h4, h⟩ := h
  obtain ⟨_⟩ | ⟨h5, h⟩ := h
  obtain ⟨_⟩ | _ := h
  exact ⟨_, _, _, _, _, rfl, h1, h2, h3, h4, h5⟩
/-- [v][:k] for k ≥ 0 -/
theorem cut_one {v : V} {k : Int} (h : 0 ≤ k) : cutV [v] none (some k) = if k = 0 then [] else [v] := by
  by_cases e : k = 0
  · subst e
    rfl
  · rw [if_neg e]
    obtain ⟨j, rfl⟩ : ∃ j : Nat, k = (j : Int) := ⟨k.toNat, by omega⟩
    have z : 1 ≤ j := by omega
    unfold cutV
    rw [show ([v] : List V).length = 1 from rfl, HT.sIx_nat, show HT.sIx 1 0 none = 0 from rfl, Nat.min_eq_right z]
    rfl
end Bk
namespace Bk
open PySem L2 K02
theorem Cells.other {H : Hp} {n : Nat} {T : Nat → Addr} {A : Nat → Nat → Addr} {R : Nat → Nat → List Nat} (h : Cells H n T A R) {D : Addr} {xs : List V} (hD : H D = some (.lst xs)) (ne : ∀ i u, i < n → u < 2 → A i u ≠ D) (o : HO) : Cells (upd H D o) n T A R := by
  refine ⟨fun i hi => ?_, fun i u hi hu => ?_, h.inj⟩
  · rw [upd_ne fun z => by
      have y := h.tup i hi
      rw [z, hD] at y
      cases y]
    exact h.tup i hi
  · rw [upd_ne (ne i u hi hu)]
    exact h.lst i u hi hu
theorem range_put {n : Nat} {T : Nat → Addr} {t : Addr} : (List.range (n + 1)).map (fun k => V.ref (if k = n then t else T k)) = (List.range n).map (fun k => V.ref (T k)) ++ [V.ref t] := by
  rw [List.range_succ, List.map_append]
  congr 1
  · refine List.map_congr_left fun k hk => ?_
    rw [if_neg (Nat.ne_of_lt (List.mem_range.mp hk))]
  · show [V.ref (if n = n then t else T n)] = _
    rw [if_pos rfl]
theorem at_range {n : Nat} {T : Nat → Addr} {j : Int} (h0 : 0 ≤ j) (h1 : j < n) : atI ((List.range n).map (fun k => V.ref (T k))) j = some (.ref (T j.toNat)) := by
  have z := atI_nat (xs := (List.range n).map (fun k => V.ref (T k))) (j := j.toNat) (v := .ref (T j.toNat)) (by
    rw [List.getElem?_map, List.getElem?_range (by omega)]
    rfl)
  rw [show ((j.toNat : Nat) : Int) = j by omega] at z
  exact z
theorem at_two {a b : Addr} {A : Nat → Addr} {j : Int} (e0 : A 0 = a) (e1 : A 1 = b) (h0 : 0 ≤ j) (h1 : j < 2) : atI [V.ref a, V.ref b] j = some (.ref (A j.toNat)) := by
  rcases (by omega : j = 0 ∨ j = 1) with e | e <;> subst e
  · show some (V.ref a) = some (V.ref (A 0))
    rw [e0]
  · show some (V.ref b) = some (V.ref (A 1))
    rw [e1]
end Bk
namespace Bk
theorem nodup_rev {α : Type} {l : List α} (h : l.Nodup) : l.reverse.Nodup := List.pairwise_reverse.mpr (List.Pairwise.imp (fun h => Ne.symm h) h)
end Bk
namespace Bk
open PySem L2 K02
/-! ### the lines of a drawn sheet -/
def nm (zs : List Cs) (l : List Nat) : List Cs := l.map fun n => zs.getD n []
def partsI (zs : List Cs) (i : Nat) (r : RI) : List PN :=
  if r.1 = [] then [(1, [(zs ++ [zz]).getD 0 []])] ++ (if r.2 = [] then [] else [(3, [zz])])
  else ([(0, nm zs r.1)] ++ (if i % 2 = 1 then [(1, [zs.getD (zs.length - 1) []])] else [])) ++ (if r.2 = [] then [] else [(3, nm zs r.2)])
abbrev titleI (i : Nat) : Cs := [114, 48 + i]
def ruleL (zs : List Cs) (i : Nat) (r : RI) : Cs := ruleT (titleI i) (partsI zs i r)
abbrev kdOf (z : Cs) : Kd := ⟨z, 0, false⟩
abbrev zzK : Kd := ⟨zz, 0, true⟩
def ksI (zs : List Cs) (place : Nat) : List Kd := (zs.take place).map kdOf ++ [zzK] ++ (zs.drop place).map kdOf
def rulesI (zs : List Cs) (rs : List RI) (n : Nat) : List Cs := (List.range n).map fun i => ruleL zs i (rs.getD i ([], []))
def linesI (zs : List Cs) (place : Nat) (rs : List RI) : List Cs := (ksI zs place).map kindText ++ rulesI zs rs rs.length
def spLinesI (K : PySem.W.Frag) : Sp := fun vs H Q _ => ∃ (ln lr : Addr) (zs : List Cs) (place : Nat) (rs : List RI) (us : List V), vs = [.ref ln, .int (place : Int), .ref lr] ∧ H ln = some (.lst (zs.map tx)) ∧ H lr = some (.lst us) ∧ Paired (RuleI K H) rs us ∧ SheetT zs place rs ∧
  ∀ H', Same H H' → Q (tx (joinN (linesI zs place rs))) H'
theorem map_tx (l : List Cs) : l.map tx = (l.map S).map V.str := by rw [List.map_map]; rfl
theorem word_text {s : Str} {n : Nat} {ns : List Cs} (h : s = S (wordAt n ++ [32])) : s ++ S (joinD [44, 32] ns) = S (pnText (n, ns)) := by
  rw [h, app_S]
  unfold pnText
  rw [List.append_assoc]
  rfl
theorem cut_take {xs : List V} {k : Nat} (h : k ≤ xs.length) : cutV xs none (some (k : Int)) = xs.take k := by
  unfold cutV
  rw [HT.sIx_nat, Nat.min_eq_left h]
  rfl
theorem br {c : Prop} [Decidable c] {A : Prop} {Rest : Hp → Prop} {H0 : Hp} (Cond : Hp → Prop) (hB : c → (∀ H', Cond H' → Rest H') → A) (hC : ¬ c → Cond H0) (hR : ∀ H', Cond H' → Rest H') : if c then A else Rest H0 := by
  by_cases h : c
  · rw [if_pos h]; exact hB h hR
  · rw [if_neg h]; exact hR _ (hC h)
theorem fig8 {c : Nat} (h : c < 8) : (Str.ofString (toString (c : Int))) = S [48 + c] ∧ (c : Int).natAbs.log2 < 1920 := by
  rcases (by omega : c = 0 ∨ c = 1 ∨ c = 2 ∨ c = 3 ∨ c = 4 ∨ c = 5 ∨ c = 6 ∨ c = 7) with e | e | e | e | e | e | e | e <;> subst e <;> exact ⟨by decide +kernel, by decide +kernel⟩
theorem nm_len {zs : List Cs} {l : List Nat} (hz : ∀ z ∈ zs, smallC z = true) (hl : ∀ n ∈ l, n < zs.length) : ∀ x ∈ nm zs l, smallC x = true := by
  intro x hx
  obtain ⟨n, hn, rfl⟩ := List.mem_map.mp hx
  have h := hl n hn
  rw [List.getD_eq_getElem?_getD, List.getElem?_eq_getElem h]
  exact hz _ (List.getElem_mem h)
theorem pn_len {x : PN} {B : Nat} (h1 : x.2.length ≤ 4) (h2 : ∀ z ∈ x.2, z.length ≤ 12) : (pnText x).length ≤ 61 := by
  unfold pnText
  have z := (word_al x.1).2.2
  have y := joinD_le [44, 32] x.2 12 h2
  rw [List.length_append, List.length_cons]
  simp only [List.length_cons, List.length_nil] at y
  omega
theorem zz_small : smallC zz = true := by decide +kernel
/-- what the parts of a rule are like -/
structure PartsOk (L : List PN) : Prop where
  few : L.length ≤ 3
  each : ∀ x ∈ L, PNOk x ∧ x.2.length ≤ 4
theorem PartsOk.nil : PartsOk [] := ⟨by decide, fun _ h => nomatch h⟩
theorem first_small {zs : List Cs} (hz : ∀ z ∈ zs, smallC z = true) : smallC ((zs ++ [zz]).getD 0 []) = true := by
  cases zs with
  | nil => exact zz_small
  | cons a r => exact hz a (by simp)
theorem last_small {zs : List Cs} (hz : ∀ z ∈ zs, smallC z = true) (h : 0 < zs.length) : smallC (zs.getD (zs.length - 1) []) = true := by
  rw [List.getD_eq_getElem?_getD, List.getElem?_eq_getElem (by omega)]
  exact hz _ (List.getElem_mem _)
theorem parts_ok {zs : List Cs} {i : Nat} {r : RI} (hz : ∀ z ∈ zs, smallC z = true) (ok : RiOk zs.length r) : PartsOk (partsI zs i r) := by
  have one : ∀ (n : Nat) (z : Cs), n = 0 ∨ n = 1 ∨ n = 3 → smallC z = true → PNOk (n, [z]) ∧ ((n, [z]) : PN).2.length ≤ 4 := fun n z h1 h2 => ⟨⟨h1, List.cons_ne_nil _ _, fun x hx => by rw [List.mem_singleton.mp hx]; exact h2⟩, by show 1 ≤ 4; decide⟩
  have many : ∀ (n : Nat) (l : List Nat), n = 0 ∨ n = 1 ∨ n = 3 → l ≠ [] → l.length ≤ 4 → (∀ m ∈ l, m < zs.length) → PNOk (n, nm zs l) ∧ ((n, nm zs l) : PN).2.length ≤ 4 := fun n l h1 h2 h3 h4 => ⟨⟨h1, fun e => h2 (List.map_eq_nil_iff.mp e), nm_len hz h4⟩, by show (nm zs l).length ≤ 4; unfold nm; rw [List.length_map]; exact h3⟩
  have put3 : ∀ (M : List PN) (x : PN) (c : Prop) [Decidable c], M.length ≤ 2 → (∀ y ∈ M, PNOk y ∧ y.2.length ≤ 4) → (¬ c → PNOk x ∧ x.2.length ≤ 4) → PartsOk (M ++ (if c then [] else [x])) := fun M x c _ hM hy hx => by
    by_cases e : c
    · rw [if_pos e, List.append_nil]
      exact ⟨by omega, hy⟩
    · rw [if_neg e]
      refine ⟨by rw [List.length_append, List.length_singleton]; omega, fun y h => ?_⟩
      rcases List.mem_append.mp h with h | h
      · exact hy y h
      · rw [List.mem_singleton.mp h]
        exact hx e
  unfold partsI
  by_cases e1 : r.1 = []
  · rw [if_pos e1]
    refine put3 _ _ _ (by show 1 ≤ 2; decide) (fun y h => ?_) (fun _ => one 3 zz (by decide) zz_small)
    rw [List.mem_singleton.mp h]
    exact one 1 _ (by decide) (first_small hz)
  · rw [if_neg e1]
    have h0 : 0 < zs.length := by
      obtain ⟨a, t, e⟩ := List.exists_cons_of_ne_nil e1
      exact Nat.lt_of_le_of_lt (Nat.zero_le _) (ok.m1 a (by rw [e]; simp))
    refine put3 _ _ _ ?_ (fun y h => ?_) (fun e2 => many 3 r.2 (by decide) e2 ok.l2 ok.m2)
    · by_cases e : i % 2 = 1
      · rw [if_pos e]; show 2 ≤ 2; decide
      · rw [if_neg e]; show 1 ≤ 2; decide
    · rcases List.mem_append.mp h with h | h
      · rw [List.mem_singleton.mp h]
        exact many 0 r.1 (by decide) e1 ok.l1 ok.m1
      · by_cases e : i % 2 = 1
        · rw [if_pos e] at h
          rw [List.mem_singleton.mp h]
          exact one 1 _ (by decide) (last_small hz h0)
        · rw [if_neg e] at h
          cases h
theorem PartsOk.len {L : List PN} (h : PartsOk L) : ∀ x ∈ L.map pnText, x.length ≤ 61 := by
  intro x hx
  obtain ⟨y, hy, rfl⟩ := List.mem_map.mp hx
  exact pn_len (B := 0) (h.each y hy).2 fun z hz => (smallC_len ((h.each y hy).1.sm z hz)).2
theorem ruleL_len {zs : List Cs} {i : Nat} {r : RI} (hz : ∀ z ∈ zs, smallC z = true) (ok : RiOk zs.length r) : (ruleL zs i r).length ≤ 250 := by
  have h := parts_ok (i := i) hz ok
  have z := joinD_le [59, 32] ((partsI zs i r).map pnText) 61 h.len
  have f := h.few
  rw [List.length_map] at z
  unfold ruleL ruleT
  simp only [List.length_append, List.length_cons, List.length_nil] at z ⊢
  omega
end Bk
namespace Bk
open PySem L2 K02
theorem first_at {zs : List Cs} {u : Str} (e : u = S zz) : atI (zs.map tx ++ [V.str u]) 0 = some (tx ((zs ++ [zz]).getD 0 [])) := by
  cases zs with
  | nil => show some (V.str u) = some (tx zz); rw [e]
  | cons a r => exact atI_nat (xs := (a :: r).map tx ++ [V.str u]) (j := 0) rfl
theorem pos1 {l : List Nat} (h : l ≠ []) : (0 : Int) < (((nI l).length : Nat) : Int) := by
  rw [List.length_map]
  have : 0 < l.length := List.length_pos_iff.mpr h
  omega
theorem pos0 {l : List Nat} (h : l = []) : ¬ (0 : Int) < (((nI l).length : Nat) : Int) := by
  rw [List.length_map, h]
  decide
theorem ne_of_pos {l : List Nat} (h : (0 : Int) < (((nI l).length : Nat) : Int)) : l ≠ [] := fun e => pos0 e h
theorem len0 {l : List Nat} : decide (V.int (((nI l).length : Nat) : Int) = V.int 0) = decide (l = []) := by
  rw [List.length_map]
  cases l with
  | nil => rfl
  | cons a r =>
    refine (decide_eq_false fun z => ?_).trans (decide_eq_false (List.cons_ne_nil a r)).symm
    injection z with z
    rw [List.length_cons] at z
    omega
theorem nm_le {zs : List Cs} {l : List Nat} (hz : ∀ z ∈ zs, smallC z = true) (hl : ∀ n ∈ l, n < zs.length) (h4 : l.length ≤ 4) : (((nm zs l).map S).map (·.length)).sum ≤ 48 ∧ ((nm zs l).map S).length ≤ 4 ∧ (joinD [44, 32] (nm zs l)).length ≤ 56 := by
  have h := fun x hx => (smallC_len (nm_len hz hl x hx)).2
  have z := len_sum (as := nm zs l) (B := 12) h
  have y := joinD_le [44, 32] (nm zs l) 12 h
  have e : (nm zs l).length = l.length := by unfold nm; rw [List.length_map]
  rw [e] at z y
  simp only [List.length_cons, List.length_nil] at y
  rw [List.length_map, e]
  omega
theorem parts_le {L : List PN} (h : PartsOk L) : (((L.map pnText).map S).map (·.length)).sum ≤ 183 ∧ ((L.map pnText).map S).length ≤ 3 ∧ (joinD [59, 32] (L.map pnText)).length ≤ 189 := by
  have z := len_sum (as := L.map pnText) (B := 61) h.len
  have y := joinD_le [59, 32] (L.map pnText) 61 h.len
  have f := h.few
  rw [List.length_map] at z y
  simp only [List.length_cons, List.length_nil] at y
  rw [List.length_map, List.length_map]
  omega
theorem rule_eq {i : Nat} (hi : i < 8) (L : List PN) {a b d e : Str} (ea : a = S (kwRule ++ [32, 114])) (eb : b = S [48 + i]) (ed : d = S [58, 32]) (ee : e = S (joinD [59, 32] (L.map pnText))) : ((a ++ b) ++ d) ++ e = S (ruleT (titleI i) L) := by
  rw [ea, eb, ed, ee, app_S, app_S, app_S]
  rfl
theorem parity {i : Nat} : decide (V.int ((i : Int) % 2) = V.int 1) = decide (i % 2 = 1) := by
  by_cases h : i % 2 = 1
  · rw [decide_eq_true h]
    exact decide_eq_true (congrArg V.int (by omega))
  · rw [decide_eq_false h]
    refine decide_eq_false fun z => h ?_
    injection z with z
    omega
theorem ksI_ok {zs : List Cs} {place : Nat} {rs : List RI} (T : SheetT zs place rs) : ∀ k ∈ ksI zs place, KdOk k := by
  intro k hk
  unfold ksI at hk
  rcases List.mem_append.mp hk with hk | hk
  · rcases List.mem_append.mp hk with hk | hk
    · obtain ⟨z, hz, rfl⟩ := List.mem_map.mp hk
      exact ⟨T.sm z (List.mem_of_mem_take hz), Nat.zero_le _⟩
    · rw [List.mem_singleton.mp hk]
      exact ⟨zz_small, Nat.zero_le _⟩
  · obtain ⟨z, hz, rfl⟩ := List.mem_map.mp hk
    exact ⟨T.sm z (List.mem_of_mem_drop hz), Nat.zero_le _⟩
theorem lines_le {zs : List Cs} {place : Nat} {rs : List RI} (T : SheetT zs place rs) : ∀ x ∈ linesI zs place rs, x.length ≤ 250 := by
  intro x hx
  unfold linesI at hx
  rcases List.mem_append.mp hx with hx | hx
  · obtain ⟨k, hk, rfl⟩ := List.mem_map.mp hx
    have := kindText_len (smallC_len (ksI_ok T k hk).1).2
    omega
  · unfold rulesI at hx
    obtain ⟨i, hi, rfl⟩ := List.mem_map.mp hx
    have hi := List.mem_range.mp hi
    refine ruleL_len T.sm (T.ok _ ?_)
    rw [List.getD_eq_getElem?_getD, List.getElem?_eq_getElem hi]
    exact List.getElem_mem hi
theorem nm_get {zs : List Cs} {l : List Nat} {j : Nat} {y : V} {b : Cs} (hy : (nI l)[j]? = some y) (hb : (nm zs l)[j]? = some b) : ∃ n ∈ l, y = V.int (n : Int) ∧ b = zs.getD n [] := by
  unfold nm at hb
  rw [List.getElem?_map] at hy hb
  cases h : l[j]? with
  | none => rw [h] at hy; cases hy
  | some n =>
    rw [h] at hy hb
    exact ⟨n, List.mem_of_getElem? h, (Option.some.inj hy).symm, (Option.some.inj hb).symm⟩
end Bk
namespace Bk
open PySem L2 K02
/-! the book that the lines tell -/
def dueR (many : Nat) (r : RI) : List Int := if r.1 = [] then List.replicate many 0 else (List.range many).map fun k => (r.2.count k : Int) - (r.1.count k : Int)
def many (k : Cs) (fs : List Fc) : Nat := (fs.filter fun f => decide (f.k = k)).length
theorem eff_many (r : Rl) (z : Cs) : eff r z = (many z r.put : Int) - (many z r.take : Int) := rfl
abbrev rowAt (rs : List (List Nat × List Nat)) (i : Nat) : List Nat × List Nat := rs.getD i ([], [])
abbrev prsI (zs : List Cs) (rs : List (List Nat × List Nat)) (i : Nat) : List Pr := (partsI zs i (rowAt rs i)).map pnPr
def itsI (zs : List Cs) (place : Nat) (rs : List (List Nat × List Nat)) : List (Cs × It) := (ksI zs place).map (fun k => (kindText k, It.kind k)) ++ (List.range rs.length).map fun i => (ruleL zs i (rowAt rs i), It.rule (titleI i) (prsI zs rs i))
def rsI (zs : List Cs) (rs : List (List Nat × List Nat)) : List Rl := (List.range rs.length).map fun i => rlOf (titleI i) (prsI zs rs i)
theorem ksOf_kinds : ∀ ks : List Kd, ksOf (ks.map It.kind) = ks ∧ rsOf (ks.map It.kind) = []
  | [] => ⟨rfl, rfl⟩
  | k :: r => by
    have ih := ksOf_kinds r
    exact ⟨by show k :: ksOf (r.map It.kind) = k :: r; rw [ih.1], ih.2⟩
theorem rsOf_rules {A : Type} (t : A → Cs) (p : A → List Pr) : ∀ xs : List A, ksOf (xs.map fun x => It.rule (t x) (p x)) = [] ∧ rsOf (xs.map fun x => It.rule (t x) (p x)) = xs.map fun x => rlOf (t x) (p x)
  | [] => ⟨rfl, rfl⟩
  | x :: r => by
    have ih := rsOf_rules t p r
    exact ⟨ih.1, by show rlOf (t x) (p x) :: rsOf (r.map _) = _; rw [ih.2]; rfl⟩
theorem its_snd (zs : List Cs) (place : Nat) (rs : List (List Nat × List Nat)) : ksOf ((itsI zs place rs).map (·.2)) = ksI zs place ∧ rsOf ((itsI zs place rs).map (·.2)) = rsI zs rs := by
  have e : (itsI zs place rs).map (·.2) = (ksI zs place).map It.kind ++ (List.range rs.length).map fun i => It.rule (titleI i) (prsI zs rs i) := by
    unfold itsI
    rw [List.map_append, List.map_map, List.map_map]
    rfl
  rw [e, ksOf_app, rsOf_app, (ksOf_kinds _).1, (ksOf_kinds _).2, (rsOf_rules titleI (prsI zs rs) _).1, (rsOf_rules titleI (prsI zs rs) _).2, List.append_nil]
  exact ⟨rfl, rfl⟩
theorem its_fst (zs : List Cs) (place : Nat) (rs : List (List Nat × List Nat)) : (itsI zs place rs).map (·.1) = linesI zs place rs := by
  unfold itsI linesI rulesI
  rw [List.map_append, List.map_map, List.map_map]
  rfl
theorem parts_ne (zs : List Cs) (i : Nat) (r : List Nat × List Nat) : partsI zs i r ≠ [] := by
  unfold partsI
  split
  · exact fun h => by cases h
  · exact fun h => by cases h
theorem parts_inc (zs : List Cs) (i : Nat) (r : List Nat × List Nat) : IncN 0 (partsI zs i r) := by
  unfold partsI
  by_cases h1 : r.1 = []
  · rw [if_pos h1]
    by_cases h2 : r.2 = []
    · rw [if_pos h2]; exact ⟨Nat.le_of_ble_eq_true rfl, Nat.le_of_ble_eq_true rfl, trivial⟩
    · rw [if_neg h2]; exact ⟨Nat.le_of_ble_eq_true rfl, Nat.le_of_ble_eq_true rfl, Nat.le_of_ble_eq_true rfl, Nat.le_of_ble_eq_true rfl, trivial⟩
  · rw [if_neg h1]
    by_cases h2 : r.2 = [] <;> by_cases h3 : i % 2 = 1
    · rw [if_pos h2, if_pos h3]; exact ⟨Nat.le_of_ble_eq_true rfl, Nat.le_of_ble_eq_true rfl, Nat.le_of_ble_eq_true rfl, Nat.le_of_ble_eq_true rfl, trivial⟩
    · rw [if_pos h2, if_neg h3]; exact ⟨Nat.le_of_ble_eq_true rfl, Nat.le_of_ble_eq_true rfl, trivial⟩
    · rw [if_neg h2, if_pos h3]; exact ⟨Nat.le_of_ble_eq_true rfl, Nat.le_of_ble_eq_true rfl, Nat.le_of_ble_eq_true rfl, Nat.le_of_ble_eq_true rfl, Nat.le_of_ble_eq_true rfl, Nat.le_of_ble_eq_true rfl, trivial⟩
    · rw [if_neg h2, if_neg h3]; exact ⟨Nat.le_of_ble_eq_true rfl, Nat.le_of_ble_eq_true rfl, Nat.le_of_ble_eq_true rfl, Nat.le_of_ble_eq_true rfl, trivial⟩
theorem parts_head (zs : List Cs) (i : Nat) (r : List Nat × List Nat) : ∃ x ∈ partsI zs i r, x.1 = 0 ∨ x.1 = 1 := by
  unfold partsI
  by_cases h1 : r.1 = []
  · rw [if_pos h1]; exact ⟨(1, [(zs ++ [zz]).getD 0 []]), by simp, .inr rfl⟩
  · rw [if_neg h1]; exact ⟨(0, nm zs r.1), by simp, .inl rfl⟩
theorem title_small {i : Nat} (h : i < 8) : smallC (titleI i) = true := by
  rcases (by omega : i = 0 ∨ i = 1 ∨ i = 2 ∨ i = 3 ∨ i = 4 ∨ i = 5 ∨ i = 6 ∨ i = 7) with e | e | e | e | e | e | e | e <;> subst e <;> decide +kernel
/-- what a line takes, keeps, puts -/
theorem nm_take (zs : List Cs) (i : Nat) (r : List Nat × List Nat) : nmOf 0 (partsI zs i r) = nm zs r.1 := by
  unfold partsI
  by_cases h1 : r.1 = []
  · rw [if_pos h1, h1]
    by_cases h2 : r.2 = []
    · rw [if_pos h2]; rfl
    · rw [if_neg h2]; rfl
  · rw [if_neg h1]
    rfl
theorem nm_put (zs : List Cs) (i : Nat) (r : List Nat × List Nat) : nmOf 3 (partsI zs i r) = if r.1 = [] then (if r.2 = [] then [] else [zz]) else nm zs r.2 := by
  unfold partsI
  by_cases h1 : r.1 = []
  · rw [if_pos h1, if_pos h1]
    by_cases h2 : r.2 = []
    · rw [if_pos h2, if_pos h2]; rfl
    · rw [if_neg h2, if_neg h2]; rfl
  · rw [if_neg h1, if_neg h1]
    by_cases h2 : r.2 = [] <;> by_cases h3 : i % 2 = 1
    · rw [if_pos h2, if_pos h3, h2]; rfl
    · rw [if_pos h2, if_neg h3, h2]; rfl
    · rw [if_neg h2, if_pos h3]; rfl
    · rw [if_neg h2, if_neg h3]; rfl
theorem nm_mem {zs : List Cs} {l : List Nat} (hl : ∀ n ∈ l, n < zs.length) : ∀ x ∈ nm zs l, x ∈ zs := by
  intro x hx
  obtain ⟨n, hn, rfl⟩ := List.mem_map.mp hx
  have h := hl n hn
  rw [List.getD_eq_getElem?_getD, List.getElem?_eq_getElem h]
  exact List.getElem_mem h
theorem part_mem {zs : List Cs} {i : Nat} {r : List Nat × List Nat} (ok : RiOk zs.length r) : ∀ x ∈ partsI zs i r, ∀ z ∈ x.2, z ∈ zs ∨ z = zz := by
  have first : (zs ++ [zz]).getD 0 [] ∈ zs ∨ (zs ++ [zz]).getD 0 [] = zz := by
    cases zs with
    | nil => exact .inr rfl
    | cons a t => exact .inl List.mem_cons_self
  intro x hx z hz
  unfold partsI at hx
  by_cases h1 : r.1 = []
  · rw [if_pos h1] at hx
    rcases List.mem_append.mp hx with hx | hx
    · rw [List.mem_singleton.mp hx] at hz
      rw [List.mem_singleton.mp hz]
      exact first
    · by_cases h2 : r.2 = []
      · rw [if_pos h2] at hx; cases hx
      · rw [if_neg h2] at hx
        rw [List.mem_singleton.mp hx] at hz
        exact .inr (List.mem_singleton.mp hz)
  · rw [if_neg h1] at hx
    have hz0 : 0 < zs.length := by
      obtain ⟨a, t, e⟩ := List.exists_cons_of_ne_nil h1
      exact Nat.lt_of_le_of_lt (Nat.zero_le _) (ok.m1 a (by rw [e]; simp))
    rcases List.mem_append.mp hx with hx | hx
    · rcases List.mem_append.mp hx with hx | hx
      · rw [List.mem_singleton.mp hx] at hz
        exact .inl (nm_mem ok.m1 z hz)
      · by_cases h3 : i % 2 = 1
        · rw [if_pos h3] at hx
          rw [List.mem_singleton.mp hx] at hz
          rw [List.mem_singleton.mp hz, List.getD_eq_getElem?_getD, List.getElem?_eq_getElem (by omega)]
          exact .inl (List.getElem_mem _)
        · rw [if_neg h3] at hx; cases hx
    · by_cases h2 : r.2 = []
      · rw [if_pos h2] at hx; cases hx
      · rw [if_neg h2] at hx
        rw [List.mem_singleton.mp hx] at hz
        exact .inl (nm_mem ok.m2 z hz)
theorem ks_names (zs : List Cs) (place : Nat) : (ksI zs place).map (·.n) = zs.take place ++ [zz] ++ zs.drop place := by
  unfold ksI
  rw [List.map_append, List.map_append, List.map_map, List.map_map]
  rw [show ((fun x : Kd => x.n) ∘ kdOf) = id from rfl, List.map_id, List.map_id]
  rfl
theorem ks_last (zs : List Cs) (place : Nat) : ((ksI zs place).filter (·.l)).map (·.n) = [zz] := by
  have e : ∀ l : List Cs, (l.map kdOf).filter (·.l) = [] := fun l => by
    rw [List.filter_eq_nil_iff]
    intro k hk
    obtain ⟨z, _, rfl⟩ := List.mem_map.mp hk
    simp
  unfold ksI
  rw [List.filter_append, List.filter_append, e, e]
  rfl
theorem ks_pass (zs : List Cs) (place : Nat) : passing (ksI zs place) = zs := by
  have e : ∀ l : List Cs, (l.map kdOf).filter (fun k => !k.l) = l.map kdOf := fun l => by
    rw [List.filter_eq_self]
    intro k hk
    obtain ⟨z, _, rfl⟩ := List.mem_map.mp hk
    rfl
  unfold passing ksI
  rw [List.filter_append, List.filter_append, e, e, List.map_append, List.map_append, List.map_map, List.map_map]
  rw [show ((fun x : Kd => x.n) ∘ kdOf) = id from rfl, List.map_id, List.map_id]
  show zs.take place ++ [] ++ zs.drop place = zs
  rw [List.append_nil, List.take_append_drop]
theorem ks_has {zs : List Cs} {place : Nat} {z : Cs} (h : z ∈ zs ∨ z = zz) : FactFits (ksI zs place) (bare z) := by
  rcases h with h | h
  · refine ⟨kdOf z, ?_, rfl, rfl⟩
    unfold ksI
    rw [← List.take_append_drop place zs, List.mem_append] at h
    rw [List.mem_append, List.mem_append]
    rcases h with h | h
    · exact .inl (.inl (List.mem_map.mpr ⟨z, h, rfl⟩))
    · exact .inr (List.mem_map.mpr ⟨z, h, rfl⟩)
  · subst h
    refine ⟨zzK, ?_, rfl, rfl⟩
    unfold ksI
    simp
theorem nmOf_part {n : Nat} {L : List PN} : nmOf n L = [] ∨ ∃ x ∈ L, nmOf n L = x.2 := by
  unfold nmOf
  cases e : L.find? fun x => x.1 == n with
  | none => exact .inl rfl
  | some x => exact .inr ⟨x, List.mem_of_find?_eq_some e, rfl⟩
theorem nmOf_few {n : Nat} {L : List PN} (h : PartsOk L) : (nmOf n L).length ≤ 4 ∧ ∀ z ∈ nmOf n L, smallC z = true := by
  rcases nmOf_part (n := n) (L := L) with e | ⟨x, hx, e⟩
  · rw [e]; exact ⟨by decide, fun z hz => by cases hz⟩
  · rw [e]; exact ⟨(h.each x hx).2, (h.each x hx).1.sm⟩
theorem rl_ok {L : List PN} (t : Cs) (h : PartsOk L) : RlOk (rlOf t (L.map pnPr)) := by
  rw [rlOf_pn]
  have h0 := nmOf_few (n := 0) h
  have h1 := nmOf_few (n := 1) h
  refine ⟨fun f hf => ?_, ?_, ?_⟩
  · rcases List.mem_append.mp hf with hf | hf
    · obtain ⟨z, hz, rfl⟩ := List.mem_map.mp hf
      exact ⟨h0.2 z hz, Nat.zero_le _, fun a ha => by cases ha⟩
    · obtain ⟨z, hz, rfl⟩ := List.mem_map.mp hf
      exact ⟨h1.2 z hz, Nat.zero_le _, fun a ha => by cases ha⟩
  · show ((nmOf 0 L).map bare ++ (nmOf 1 L).map bare).length ≤ _
    rw [List.length_append, List.length_map, List.length_map]
    omega
  · show (((nmOf 0 L).map bare ++ (nmOf 1 L).map bare).flatMap (·.as)).length ≤ _
    rw [List.flatMap_append, flat_bare, flat_bare]
    exact Nat.zero_le _
theorem rl_good {zs : List Cs} {place i : Nat} {r : List Nat × List Nat} (hz : ∀ z ∈ zs, smallC z = true) (hnz : ∀ z ∈ zs, z ≠ zz) (ok : RiOk zs.length r) : RlGood (ksI zs place) (rlOf (titleI i) ((partsI zs i r).map pnPr)) := by
  have hP := parts_ok (i := i) hz ok
  have fits : ∀ n, ∀ f ∈ (nmOf n (partsI zs i r)).map bare, FactFits (ksI zs place) f := fun n f hf => by
    obtain ⟨z, hz', rfl⟩ := List.mem_map.mp hf
    obtain ⟨x, hx, hzx⟩ := nmOf_mem hz'
    exact ks_has (part_mem ok x hx z hzx)
  have hsaid : saidOf (rlOf (titleI i) ((partsI zs i r).map pnPr)) = [] := by
    rw [rlOf_pn]
    show [] ++ (((nmOf 3 (partsI zs i r)).map bare).flatMap (·.as) ++ []) = []
    rw [flat_bare]
    rfl
  refine ⟨?_, ?_, ?_, ?_, ?_, ?_, ?_⟩
  · rw [rlOf_pn]
    intro f hf
    rcases List.mem_append.mp hf with hf | hf
    · rcases List.mem_append.mp hf with hf | hf
      · exact fits 0 f hf
      · exact fits 1 f hf
    · exact fits 3 f hf
  · rw [rlOf_pn, ks_last]
    intro f hf
    have hf : f ∈ (nmOf 0 (partsI zs i r)).map bare := hf
    rw [nm_take] at hf
    obtain ⟨z, hz', rfl⟩ := List.mem_map.mp hf
    exact fun h => hnz z (nm_mem ok.m1 z hz') (List.mem_singleton.mp h)
  · rw [rlOf_pn, ks_last]
    intro ht f hf
    have ht : (nmOf 0 (partsI zs i r)).map bare = [] := ht
    have hf : f ∈ (nmOf 3 (partsI zs i r)).map bare := hf
    rw [nm_take] at ht
    have h1 : r.1 = [] := List.map_eq_nil_iff.mp (List.map_eq_nil_iff.mp ht)
    rw [nm_put, if_pos h1] at hf
    obtain ⟨z, hz', rfl⟩ := List.mem_map.mp hf
    by_cases h2 : r.2 = []
    · rw [if_pos h2] at hz'; cases hz'
    · rw [if_neg h2] at hz'; exact hz'
  · rw [hsaid]; exact fun a ha => by cases ha
  · rw [hsaid]; exact fun a ha => by cases ha
  · rw [hsaid]; exact Nat.zero_le _
  · rw [rlOf_pn]
    have h0 := nmOf_few (n := 0) hP
    have h1 := nmOf_few (n := 1) hP
    have h3 := nmOf_few (n := 3) hP
    show (((nmOf 0 (partsI zs i r)).map bare ++ (nmOf 1 (partsI zs i r)).map bare) ++ (nmOf 3 (partsI zs i r)).map bare).length ≤ _
    rw [List.length_append, List.length_append, List.length_map, List.length_map, List.length_map]
    omega
theorem row_ok {zs : List Cs} {place : Nat} {rs : List (List Nat × List Nat)} (T : SheetT zs place rs) {i : Nat} (h : i < rs.length) : RiOk zs.length (rowAt rs i) := by
  refine T.ok _ ?_
  show rs.getD i ([], []) ∈ rs
  rw [List.getD_eq_getElem?_getD, List.getElem?_eq_getElem h]
  exact List.getElem_mem h
theorem ls_told {zs : List Cs} {place : Nat} {rs : List (List Nat × List Nat)} : ∀ l ∈ linesI zs place rs, told l = true := by
  intro l hl
  unfold linesI at hl
  rcases List.mem_append.mp hl with hl | hl
  · obtain ⟨k, _, rfl⟩ := List.mem_map.mp hl
    rw [kindText_L]
    exact kindL_told
  · unfold rulesI at hl
    obtain ⟨i, _, rfl⟩ := List.mem_map.mp hl
    exact rule_told _ _
theorem ls_all {zs : List Cs} {place : Nat} {rs : List (List Nat × List Nat)} (T : SheetT zs place rs) {f : Nat → Bool} (hal : ∀ c, isAl c = true → f c = true) (h32 : f 32 = true) (h44 : f 44 = true) (h58 : f 58 = true) (h59 : f 59 = true) : ∀ l ∈ linesI zs place rs, l.all f = true := by
  intro l hl
  have hm := T.many
  unfold linesI at hl
  rcases List.mem_append.mp hl with hl | hl
  · obtain ⟨k, hk, rfl⟩ := List.mem_map.mp hl
    have h := ksI_ok T k hk
    rw [kindText_L]
    exact kindL_all h32 hal h.1 h.2
  · unfold rulesI at hl
    obtain ⟨i, hi, rfl⟩ := List.mem_map.mp hl
    have hi := List.mem_range.mp hi
    exact rule_all hal h32 h44 h58 h59 (title_small (by omega)) fun x hx => ((parts_ok T.sm (row_ok T hi)).each x hx).1
theorem book_of {zs : List Cs} {place : Nat} {rs : List (List Nat × List Nat)} (T : SheetT zs place rs) : BookT (linesI zs place rs) (itsI zs place rs) := by
  have hm := T.many
  have hf := T.few
  have e := its_snd zs place rs
  refine ⟨?_, ?_, ?_, ?_, ?_, ?_⟩
  · rw [its_fst]
    exact List.filter_eq_self.mpr ls_told
  · intro x hx
    have h1 : x.1 ∈ linesI zs place rs := by rw [← its_fst]; exact List.mem_map.mpr ⟨x, hx, rfl⟩
    refine ⟨ls_all T (fun c h => okS_al h) (by decide +kernel) (by decide +kernel) (by decide +kernel) (by decide +kernel) _ h1, ?_⟩
    unfold itsI at hx
    rcases List.mem_append.mp hx with hx | hx
    · obtain ⟨k, hk, rfl⟩ := List.mem_map.mp hx
      have h := ksI_ok T k hk
      refine ⟨?_, h⟩
      show toks (kindText k) = kindP k
      rw [kindText_L]
      exact toks_kindL h.1 h.2 (by decide) (by decide)
    · obtain ⟨i, hi, rfl⟩ := List.mem_map.mp hx
      have hi := List.mem_range.mp hi
      have hP := parts_ok (i := i) T.sm (row_ok T hi)
      have ht := title_small (i := i) (by omega)
      exact ⟨rule_toks ht (parts_ne _ _ _) fun x hx => (hP.each x hx).1, rule_P ht (parts_ne _ _ _) (fun x hx => (hP.each x hx).1) (parts_inc _ _ _) (parts_head _ _ _), rl_ok _ hP⟩
  · rw [e.1, ks_names]
    have hn := T.nd
    rw [← List.take_append_drop place zs] at hn
    have hnz : zz ∉ zs := fun h => T.nz zz h rfl
    rw [List.nodup_append] at hn
    rw [List.append_assoc, List.nodup_append]
    refine ⟨hn.1, ?_, ?_⟩
    · show (zz :: zs.drop place).Nodup
      rw [List.nodup_cons]
      exact ⟨fun h => hnz (List.mem_of_mem_drop h), hn.2.1⟩
    · intro a ha b hb
      rcases List.mem_cons.mp hb with hb | hb
      · rw [hb]
        exact fun h => hnz (by rw [← h]; exact List.mem_of_mem_take ha)
      · exact hn.2.2 a ha b hb
  · rw [e.2]
    unfold rsI
    rw [List.map_map, show ((fun r : Rl => r.title) ∘ fun i => rlOf (titleI i) (prsI zs rs i)) = titleI from rfl]
    refine List.Pairwise.map titleI ?_ List.nodup_range
    intro a b h h2
    have : 48 + a = 48 + b := (List.cons.inj (List.cons.inj h2).2).1
    omega
  · rw [e.1, e.2]
    intro r hr
    unfold rsI at hr
    obtain ⟨i, hi, rfl⟩ := List.mem_map.mp hr
    exact rl_good T.sm T.nz (row_ok T (List.mem_range.mp hi))
  · unfold itsI ksI
    rw [List.length_append, List.length_map, List.length_append, List.length_append, List.length_map, List.length_map, List.length_map, List.length_range, List.length_take, List.length_drop]
    show _ + 1 + _ + _ < _
    omega
/-- counting names and counting numbers -/
theorem many_nm {zs : List Cs} (hn : zs.Nodup) {k : Nat} (hk : k < zs.length) : ∀ (l : List Nat), (∀ n ∈ l, n < zs.length) → many zs[k] ((nm zs l).map bare) = l.count k
  | [], _ => rfl
  | n :: l, h => by
    have ih := many_nm hn hk l fun m hm => h m (List.mem_cons_of_mem _ hm)
    have hn' := h n List.mem_cons_self
    have e : zs.getD n [] = zs[n] := by rw [List.getD_eq_getElem?_getD, List.getElem?_eq_getElem hn']; rfl
    unfold many at ih ⊢
    show ((bare (zs.getD n []) :: (nm zs l).map bare).filter fun f => decide (f.k = zs[k])).length = _
    rw [List.filter_cons, List.count_cons]
    by_cases e2 : n = k
    · subst e2
      rw [if_pos (by rw [e]; exact decide_eq_true rfl), List.length_cons, ih]
      simp
    · have ne : ¬ (bare (zs.getD n [])).k = zs[k] := by
        show ¬ zs.getD n [] = zs[k]
        rw [e]
        exact fun h => e2 ((List.getElem?_inj hn' hn).mp (by rw [List.getElem?_eq_getElem hn', List.getElem?_eq_getElem hk, h]))
      rw [if_neg (by rw [decide_eq_false ne]; decide), ih]
      simp [e2]
theorem due_row {zs : List Cs} (hn : zs.Nodup) (hnz : ∀ z ∈ zs, z ≠ zz) {i : Nat} {r : List Nat × List Nat} (ok : RiOk zs.length r) : dueR zs.length r = zs.map (eff (rlOf (titleI i) ((partsI zs i r).map pnPr))) := by
  have ez : ∀ g : Cs → Int, zs.map g = (List.range zs.length).map fun k => g (zs.getD k []) := fun g => by
    apply List.ext_getElem
    · simp
    · intro k h1 h2
      simp at h1 h2
      simp [List.getD_eq_getElem?_getD, h1]
  have hg : ∀ k, k < zs.length → zs.getD k [] ∈ zs := fun k hk => by
    rw [List.getD_eq_getElem?_getD, List.getElem?_eq_getElem hk]
    exact List.getElem_mem hk
  rw [rlOf_pn, ez]
  unfold dueR
  simp only [eff_many]
  rw [nm_take, nm_put]
  by_cases h1 : r.1 = []
  · rw [if_pos h1, if_pos h1, h1]
    have hz : ∀ z ∈ zs, many z ((if r.2 = [] then ([] : List Cs) else [zz]).map bare) = 0 := fun z hz => by
      by_cases h2 : r.2 = []
      · rw [if_pos h2]; rfl
      · rw [if_neg h2]
        unfold many
        show ((([bare zz] : List Fc)).filter fun f => decide (f.k = z)).length = 0
        rw [List.filter_cons, if_neg (by rw [decide_eq_false (show ¬ (bare zz).k = z from fun h => hnz z hz h.symm)]; decide)]
        rfl
    symm
    rw [List.eq_replicate_iff]
    refine ⟨by simp, fun b hb => ?_⟩
    obtain ⟨k, hk, rfl⟩ := List.mem_map.mp hb
    rw [hz _ (hg k (List.mem_range.mp hk))]
    rfl
  · rw [if_neg h1, if_neg h1]
    refine List.map_congr_left fun k hk => ?_
    have hk := List.mem_range.mp hk
    have e : zs.getD k [] = zs[k] := by rw [List.getD_eq_getElem?_getD, List.getElem?_eq_getElem hk]; rfl
    rw [e, many_nm hn hk _ ok.m2, many_nm hn hk _ ok.m1]
theorem due_all {zs : List Cs} {place : Nat} {rs : List (List Nat × List Nat)} (T : SheetT zs place rs) : rs.map (dueR zs.length) = (rsI zs rs).map fun r => (passing (ksI zs place)).map (eff r) := by
  rw [ks_pass]
  unfold rsI
  rw [List.map_map]
  apply List.ext_getElem
  · simp
  · intro i h1 h2
    simp at h1 h2
    have hr := row_ok T h1
    rw [List.getElem_map, List.getElem_map, List.getElem_range]
    have e : rs[i] = rowAt rs i := by
      show _ = rs.getD i ([], [])
      rw [List.getD_eq_getElem?_getD, List.getElem?_eq_getElem h1]
      rfl
    rw [e]
    exact due_row T.nd T.nz hr
end Bk
namespace Bk
open PySem L2 K02
def spDue (K : PySem.W.Frag) : Sp := fun vs H Q _ => ∃ (ln lr : Addr) (zs : List Cs) (rs : List RI) (us : List V), vs = [.ref ln, .ref lr] ∧ H ln = some (.lst (zs.map tx)) ∧ H lr = some (.lst us) ∧ Paired (RuleI K H) rs us ∧ zs.length ≤ 5 ∧ rs.length ≤ 8 ∧ (∀ r ∈ rs, r.1.length ≤ 4 ∧ r.2.length ≤ 4) ∧
  ∀ u H', Same H H' → Table H H' u (rs.map (dueR zs.length)) → Q u H'
theorem flat_nI (l : List Nat) : (nI l).all flatV = true := by
  rw [List.all_eq_true]
  intro x hx
  obtain ⟨n, _, rfl⟩ := List.mem_map.mp hx
  rfl
theorem rep_ints (n : Nat) : (List.replicate n [V.int 0]).flatten = (List.replicate n (0 : Int)).map V.int := by
  induction n with
  | zero => rfl
  | succ n ih => rw [List.replicate_succ, List.flatten_cons, ih, List.replicate_succ]; rfl
theorem count_nI (l : List Nat) (k : Nat) : (nI l).countP (fun z => eqV z (V.int (k : Int))) = l.count k := by
  induction l with
  | nil => rfl
  | cons n l ih =>
    show (V.int (n : Int) :: nI l).countP _ = _
    rw [List.countP_cons, List.count_cons, ih]
    by_cases e : n = k
    · subst e
      simp [eqV]
    · have z : ¬ ((n : Int) = (k : Int)) := by omega
      simp [eqV, e, z]
end Bk
namespace L2
open PySem PySem.Spec PyProof.Rows
section
variable {g : TG} {tt : TT} {te : TE} {caps : List Nat} {σ : St} {H1 : Hp} {Q : VK} {K : PySem.W.Frag}
theorem comp_zip {k : Nat} {a b D : Addr} {xs ys : List V} (n : Nat) (hx : xs.length = n) (hy : ys.length = n) (hn : n < sizeLine) (Pv : Nat → List V → St → Hp → Prop) (h0 : Pv 0 [] (compSs k σ caps) (upd H1 D (.lst [])))
    (hl : ∀ i zs τ H, Pv i zs τ H → SqL K H a xs ∧ SqL K H b ys) (hD : ∀ i zs τ H, Pv i zs τ H → H D = some (.lst zs) ∧ zs.length ≤ i)
    (hs : ∀ i zs τ H t v u, i < n → Pv i zs τ H → xs[i]? = some v → ys[i]? = some u → H t = none → g (.ref t) τ (upd H t (.tup [v, u])) fun τ2 H2 => tt τ2 H2 fun b H3 =>
      if b = true then te τ2 H3 fun y H4 => H4 D = some (.lst zs) ∧ Pv (i + 1) (zs ++ [y]) τ2 (upd H4 D (.lst (zs ++ [y]))) else Pv (i + 1) zs τ2 H3)
    (hd : ∀ zs τ H, Pv n zs τ H → Q (.ref D) H) : CompWs k g tt te caps σ Q (Itz K a b) H1 D := by
  refine ⟨fun i m zs τ H => m = n - i ∧ i ≤ n ∧ Pv i zs τ H, ⟨n, by simp, Nat.zero_le _, h0⟩, ?_⟩
  rintro i m zs τ H ⟨rfl, hi, p⟩
  obtain ⟨hDD, hzl⟩ := hD i zs τ H p
  obtain ⟨ha, hb⟩ := hl i zs τ H p
  refine ⟨hDD, by omega, ?_⟩
  by_cases hlt : i < n
  · refine .inr ⟨⟨xs, ys, xs[i], ys[i], ha, hb, by simp, by simp⟩, Pv (i + 1), fun zs τ H' q => ⟨n - (i + 1), by omega, rfl, hlt, q⟩, fun x H' y => ?_⟩
    obtain ⟨t, v, u, ht, rfl, rfl, h1, h2⟩ := y
    exact hs i zs τ H t v u hlt p (h1 xs ha) (h2 ys hb) ht
  · have e : i = n := by omega
    subst e
    exact .inl ⟨⟨xs, ys, ha, hb, .inl (by omega)⟩, hd zs τ H p⟩
end
end L2
namespace Bk
open PySem L2 K02
def dot (xs ys : List Int) : Int := ((xs.zip ys).map fun p => p.1 * p.2).sum
abbrev sm (i : Int) : Prop := -(2 ^ 64) < i ∧ i < 2 ^ 64
def spSumR : Sp := fun vs H Q _ => ∃ (a b : Addr) (xs ys : List Int), vs = [.ref a, .ref b] ∧ H a = some (.lst (xs.map V.int)) ∧ H b = some (.lst (ys.map V.int)) ∧ xs.length = ys.length ∧ xs.length ≤ 1000 ∧ (∀ i ∈ xs, sm i) ∧ ∀ H', Same H H' → Q (.int (dot xs ys)) H'
def firstV {A : Type} (p : A → Bool) : List A → Nat → V
  | [], _ => .non
  | r :: rs, n => if p r = true then .int (n : Int) else firstV p rs (n + 1)
theorem firstV_congr {A : Type} {p q : A → Bool} : ∀ {rs : List A} {n : Nat}, (∀ r ∈ rs, p r = q r) → firstV p rs n = firstV q rs n
  | [], _, _ => rfl
  | r :: rs, n, h => by
    unfold firstV
    rw [h r List.mem_cons_self, firstV_congr fun x hx => h x (List.mem_cons_of_mem _ hx)]
theorem firstV_non {A : Type} {p : A → Bool} : ∀ {rs : List A} {n : Nat}, (∀ r ∈ rs, p r = false) → firstV p rs n = .non
  | [], _, _ => rfl
  | r :: rs, n, h => by
    unfold firstV
    rw [h r List.mem_cons_self, if_neg (by decide)]
    exact firstV_non fun x hx => h x (List.mem_cons_of_mem _ hx)
theorem firstV_kind {A : Type} {p : A → Bool} : ∀ {rs : List A} {n : Nat}, firstV p rs n = .non ∨ ∃ i : Int, firstV p rs n = .int i
  | [], _ => .inl rfl
  | r :: rs, n => by
    unfold firstV
    split
    · exact .inr ⟨_, rfl⟩
    · exact firstV_kind
theorem firstV_at {A : Type} {p : A → Bool} {rs : List A} {i n : Nat} (h : i < rs.length) : firstV p (rs.drop i) n = if p rs[i] = true then .int (n : Int) else firstV p (rs.drop (i + 1)) (n + 1) := by
  rw [List.drop_eq_getElem_cons h]
  rfl
abbrev sStays : Str := Str.ofString "stays"
abbrev sGrows : Str := Str.ofString "never grows"
abbrev sFalls : Str := Str.ofString "never falls"
def brk (s : Str) (c : Int) : Bool := if decide (V.str s = V.str sStays) = true then !decide (V.int c = V.int 0) else if decide (V.str s = V.str sGrows) = true then decide (0 < c) else decide (c < 0)
def brk2 (s : Str) (c : Int) : Bool := (decide (0 < c) && !decide (V.str s = V.str sFalls)) || (decide (c < 0) && !decide (V.str s = V.str sGrows))
theorem brk_eq {s : Str} (h : s = sStays ∨ s = sGrows ∨ s = sFalls) (c : Int) : brk s c = brk2 s c := by
  have a1 : decide (V.str sStays = V.str sFalls) = false := by decide +kernel
  have a2 : decide (V.str sStays = V.str sGrows) = false := by decide +kernel
  have a3 : decide (V.str sGrows = V.str sStays) = false := by decide +kernel
  have a4 : decide (V.str sGrows = V.str sFalls) = false := by decide +kernel
  have a5 : decide (V.str sFalls = V.str sStays) = false := by decide +kernel
  have a6 : decide (V.str sFalls = V.str sGrows) = false := by decide +kernel
  have b : ∀ s : Str, decide (V.str s = V.str s) = true := fun s => decide_eq_true rfl
  have z : (!decide (V.int c = V.int 0)) = (decide (0 < c) || decide (c < 0)) := by
    by_cases e : c = 0
    · subst e; simp
    · have : ¬ V.int c = V.int 0 := fun z => e (V.int.inj z)
      rw [decide_eq_false this]
      by_cases h : 0 < c
      · simp [h]
      · have : c < 0 := by omega
        simp [this]
  unfold brk brk2
  rcases h with e | e | e <;> subst e
  · rw [b, if_pos rfl, a1, a2, z]; simp
  · rw [a3, b, if_neg (by decide), if_pos rfl, a4]; simp
  · rw [a5, a6, b, if_neg (by decide), if_neg (by decide)]; simp
theorem brk_zero (s : Str) : brk s 0 = false := by
  unfold brk
  split
  · rfl
  · split <;> rfl
theorem dot_zero (xs : List Int) : ∀ n, dot xs (List.replicate n 0) = 0 := by
  induction xs with
  | nil => intro n; rfl
  | cons x xs ih =>
    intro n
    cases n with
    | zero => rfl
    | succ n =>
      rw [List.replicate_succ]
      show x * 0 + dot xs (List.replicate n 0) = 0
      rw [ih, Int.mul_zero]
      rfl
theorem dot_take {xs ys : List Int} {i : Nat} (h1 : i < xs.length) (h2 : i < ys.length) : dot (xs.take (i + 1)) (ys.take (i + 1)) = dot (xs.take i) (ys.take i) + xs[i] * ys[i] := by
  unfold dot
  rw [List.take_succ, List.take_succ, List.getElem?_eq_getElem h1, List.getElem?_eq_getElem h2, List.zip_append (by rw [List.length_take, List.length_take]; omega)]
  simp
def spBreaks : Sp := fun vs H Q _ => ∃ (s : Str) (c : Int), vs = [.str s, .int c] ∧ Q (.bl (brk s c)) H
def spBreaker (K : PySem.W.Frag) (c : Cl) : Sp := fun vs H Q _ => ∃ (v : V) (H0 : Hp) (ks : List Kd) (rs : List Rl) (s : Str) (b : Addr) (ys : List Int), vs = [v, .str s, .ref b] ∧ BookO K c H0 H ks rs v ∧ ks.length ≤ 1000 ∧ rs.length ≤ 1000 ∧ (∀ r ∈ rs, r.put.length ≤ 10000 ∧ r.take.length ≤ 10000) ∧ H b = some (.lst (ys.map V.int)) ∧ ys.length = (passing ks).length ∧
  ∀ H', Same H H' → Q (firstV (fun row => brk s (dot row ys)) (effT ks rs) 0) H'
def spFirst : Sp := fun vs H Q _ => ∃ (l b : Addr) (H0 : Hp) (s : Str) (rows : List (List Int)) (ws : List V) (ys : List Int), vs = [.ref l, .str s, .ref b] ∧ H l = some (.lst ws) ∧ Paired (Ints H0 H) rows ws ∧ H b = some (.lst (ys.map V.int)) ∧ (∀ row ∈ rows, row.length = ys.length ∧ ∀ i ∈ row, sm i) ∧ ys.length ≤ 1000 ∧ rows.length ≤ 1000 ∧
  ∀ H', Same H H' → Q (firstV (fun row => brk2 s (dot row ys)) rows 0) H'
def spNums (K : PySem.W.Frag) : Sp := fun vs H Q _ => ∃ (s : Addr) (ns : List Int) (m : Nat), vs = [.ref s, .int (m : Int)] ∧ SqL K H s (ns.map V.int) ∧ ns.length ≤ 63 ∧ m ≤ 5 ∧
  ∀ (p : Addr) (ys : List Int) (H' : Hp), Same H H' → H p = none → H' p = some (.lst (ys.map V.int)) → ys.length = m → Q (.ref p) H'
theorem eff_sm {r : Rl} {z : Cs} (h1 : r.put.length ≤ 10000) (h2 : r.take.length ≤ 10000) : sm (eff r z) := by
  unfold eff sm
  have a1 := List.length_filter_le (fun f : Fc => decide (f.k = z)) r.put
  have a2 := List.length_filter_le (fun f : Fc => decide (f.k = z)) r.take
  omega
end Bk
namespace L2
open PySem
theorem kit_non_bool {K : PySem.W.Frag} : PySem.W.kitOne K (.type "NoneType") (.type "bool") = some false := by
  unfold PySem.W.kitOne PySem.W.kitCls
  rw [if_neg (by decide +kernel)]
  show (if PySem.W.kitMeta "bool" = true then PySem.W.subIn K (.type "NoneType") (.type "bool") else none) = some false
  rw [if_pos (by decide +kernel)]
  rfl
end L2
namespace K32
open PySem L2 K02 Bk
set_option maxHeartbeats 4000000
def top (i : Nat) : Stmt := PySem.Challenge.pw_poolrules_k32_the_first_breaker.main.body.getD i (.Pass ⟨0, 0, 0, 0⟩)
abbrev s__wall : Stmt := top 0
abbrev s_row_sum : Stmt := top 2
abbrev s_effects : Stmt := top 4
abbrev s_passing_kinds : Stmt := top 5
abbrev s_effect : Stmt := top 6
abbrev s_breaker : Stmt := top 7
abbrev s_breaks : Stmt := top 8
abbrev s_is_small_word : Stmt := top 23
abbrev s_is_name : Stmt := top 24
abbrev s_is_great : Stmt := top 25
abbrev s_is_name_sign : Stmt := top 26
abbrev s_row_of_facts : Stmt := top 27
abbrev s_pieces : Stmt := top 28
abbrev s_name_end : Stmt := top 29
abbrev s_piece_at : Stmt := top 30
abbrev s_fact_at : Stmt := top 31
abbrev s_arguments_at : Stmt := top 32
abbrev s_check_facts : Stmt := top 34
abbrev s_check_taken : Stmt := top 35
abbrev s_Look_init : Stmt := inClass (top 37) 0
abbrev s_Look_holds : Stmt := inClass (top 37) 1
abbrev s_Look_word : Stmt := inClass (top 37) 2
abbrev s_Same_holds : Stmt := inClass (top 38) 0
abbrev s_Same_word : Stmt := inClass (top 38) 1
abbrev s_Unlike_holds : Stmt := inClass (top 39) 0
abbrev s_Unlike_word : Stmt := inClass (top 39) 1
abbrev s_told_lines : Stmt := top 46
abbrev s_is_told : Stmt := top 47
abbrev s_line_pieces : Stmt := top 48
abbrev s_read_kind : Stmt := top 49
abbrev s_read_rule : Stmt := top 50
abbrev s_read_part : Stmt := top 51
abbrev s_read_looks : Stmt := top 52
abbrev s_read_look : Stmt := top 53
abbrev s_read_pairs : Stmt := top 54
abbrev s_read_pair : Stmt := top 55
abbrev s_check_two_names : Stmt := top 56
abbrev s_parted : Stmt := top 57
abbrev s_Rule_init : Stmt := inClass (top 59) 0
abbrev s_Rule_calls : Stmt := inClass (top 59) 1
abbrev s_Book_init : Stmt := inClass (top 60) 0
abbrev s_open_names : Stmt := top 61
abbrev s_read_book : Stmt := top 62
abbrev s_hear_line : Stmt := top 63
abbrev s_whole_book : Stmt := top 64
abbrev s_check_call : Stmt := top 65
abbrev s_check_names : Stmt := top 66
abbrev s_said_names : Stmt := top 67
abbrev s__law_cell : Stmt := top 69
abbrev s__law_digits : Stmt := top 70
abbrev s__law_name : Stmt := top 71
abbrev s__law_sheet : Stmt := top 72
abbrev s__law_lines : Stmt := top 73
abbrev s__law_effects : Stmt := top 74
abbrev s__law_sum : Stmt := top 75
abbrev s__law_whole : Stmt := top 76
abbrev s__law_numbers : Stmt := top 77
abbrev s__law_first : Stmt := top 78
abbrev s_law : Stmt := top 79
section
variable {P : Program} {w : World} {K : PySem.W.Frag} {mg : Str → Option Value} {base : Heap} {f : Addr} {fd : FuncData} {c : Cl}
theorem sc_is_name_sign : FnScope ["sign"] ["sign"] (defScope s_is_name_sign) := ⟨rfl, rfl, rfl, by decide +kernel, rfl, by decide +kernel, by decide +kernel⟩
theorem ok_is_name_sign {u1 u2 u3 : Value} (F : Fun K "is_name_sign" "is_name_sign" s_is_name_sign f fd) (m_SMALL : mg "SMALL" = some u1) (r_SMALL : RelV (.str aSmall) u1) (m_GREAT : mg "GREAT" = some u2) (r_GREAT : RelV (.str aGreat) u2) (m_FIGURES : mg "FIGURES" = some u3) (r_FIGURES : RelV (.str aFig) u3) :
    FnOk P w K mg base CX0 1 f fd ["sign"] spSign := by
  refine F.ok sc_is_name_sign (fun vs H Q E h => ?_) (fun cdv A outer s H vs Q E hr h => ?_)
  · obtain ⟨c, rfl, _⟩ := h
    rfl
  obtain ⟨c, rfl, q⟩ := h
  refine ⟨_, (pss_one (ps_ret (pe_or (pe_cmpR op_in_str (pv 0) (pe_glob rfl m_SMALL r_SMALL) (by with_unfolding_all rfl)) (pe_or (pe_cmpR op_in_str (pv 0) (pe_glob rfl m_GREAT r_GREAT) (by with_unfolding_all rfl)) (pe_one (pe_cmpR op_in_str (pv 0) (pe_glob rfl m_FIGURES r_FIGURES) (by with_unfolding_all rfl))))))), ?_⟩
  refine ⟨_, rfl, _, _, rfl, rfl, _, rfl, ?_⟩
  rw [StrLaws.found_one]
  refine ite2 (fun z => ?_) (fun z => ?_)
  · have e : isAl c = true := by unfold isAl; rw [z]; rfl
    rw [e] at q
    exact q
  refine ⟨_, rfl, _, _, rfl, rfl, _, rfl, ?_⟩
  rw [StrLaws.found_one]
  have z' : decide (c ∈ aSmall.cps.toList) = false := by simpa using z
  refine ite2 (fun y => ?_) (fun y => ?_)
  · have e : isAl c = true := by unfold isAl; rw [y]; simp
    rw [e] at q
    exact q
  have y' : decide (c ∈ aGreat.cps.toList) = false := by simpa using y
  refine ⟨_, rfl, _, _, rfl, rfl, ?_⟩
  rw [StrLaws.found_one]
  have e : isAl c = decide (c ∈ aFig.cps.toList) := by unfold isAl; rw [z', y']; rfl
  rw [e] at q
  exact q
theorem sc_is_name : FnScope ["text"] ["text"] (defScope s_is_name) := ⟨rfl, rfl, rfl, by decide +kernel, rfl, by decide +kernel, by decide +kernel⟩
theorem ok_is_name {u1 : Value} (F : Fun K "is_name" "is_name" s_is_name f fd) (c_is_name_sign : Cal P w K mg base "is_name_sign" 1 ["sign"] spSign)
    (m_len : mg "len" = none) (m_all : mg "all" = none) (m_LONGEST : mg "LONGEST" = some u1) (r_LONGEST : RelV (.int 12) u1) : FnOk P w K mg base CX0 2 f fd ["text"] (spBl nameB) := by
  refine F.ok sc_is_name (fun vs H Q E h => ?_) (fun cdv A outer s H vs Q E hr h => ?_)
  · obtain ⟨c, rfl, _⟩ := h
    rfl
  obtain ⟨x, rfl, hx, q⟩ := h
  refine ⟨_, (pss_one (ps_ret (pe_and (pe_chain op_le op_le pe_int (pe_callB call_len_str rfl m_len PySem.boot_len (pa_cons (pv 0) pa_nil)) (pe_glob rfl m_LONGEST r_LONGEST)) (pe_one (pe_callB call_all rfl m_all PyProof.Rows.boot_all (pa_cons (pe_comp [] rfl (by kernel_rfl) (pi_str (pv 0)) (fun _ _ _ _ _ => pts_nil) (fun _ _ _ _ _ => (pe_callC c_is_name_sign (hr.mono (by decide)) rfl (pa_cons (pv 0) pa_nil)))) pa_nil)))))), ?_⟩
  refine ⟨_, rfl, x, rfl, sz (by omega), _, _, rfl, rfl, _, rfl, ?_⟩
  refine ite2 (fun c1 => ?_) (fun c1 => ?_)
  · refine ⟨_, _, rfl, rfl, _, rfl, ?_⟩
    refine ite2 (fun c2 => ?_) (fun c2 => ?_)
    · refine ⟨_, rfl, x, rfl, fun D hD => ?_⟩
      refine comp_str (x := x) (szl (show x.cps.size ≤ 100000 by have z : x.cps.size ≤ 20000 := hx; omega)) (fun i ys H' => Same H H' ∧ H' D = some (.lst ys) ∧ ys = ((x.cps.toList.take i).map isAl).map V.bl) ⟨same_new hD _, upd_same, rfl⟩ (fun i ys H' p => ⟨p.2.1, ?_⟩) (fun i ys H' hi p => ?_) (fun ys H' p => ?_)
      · rw [p.2.2]
        simp
        omega
      · refine ⟨_, rfl, _, rfl, p.2.1, ?_⟩
        refine ⟨fun b o e => ?_, upd_same, ?_⟩
        · rw [upd_ne (ne_of_none e hD)]
          exact p.1 b o e
        · rw [p.2.2]
          have hi' : i < x.cps.toList.length := by simpa using hi
          rw [List.take_succ_eq_append_getElem hi']
          simp [Array.getD_eq_getD_getElem?, hi]
      · refine ⟨D, (x.cps.toList.map isAl), rfl, rfl, .inl (.inl ?_), ?_⟩
        · rw [p.2.1, p.2.2, List.take_of_length_le (by simp)]
        · have e : nameB x = (x.cps.toList.map isAl).all id := by
            unfold nameB
            rw [c1, c2]
            simp [List.all_map, Function.comp_def]
          have q' := q H' p.1
          rw [e] at q'
          exact q'
    · have e : nameB x = false := by
        unfold nameB
        have c2' : decide ((x.length : Int) ≤ 12) = false := by simpa using c2
        rw [c2']
        simp
      have q' := q H (Same.refl H)
      rw [e] at q'
      exact q'
  · have e : nameB x = false := by
      unfold nameB
      have c1' : decide ((1 : Int) ≤ x.length) = false := by simpa using c1
      rw [c1']
      simp
    have q' := q H (Same.refl H)
    rw [e] at q'
    exact ⟨_, rfl, iteF q'⟩
theorem sc_is_small_word : FnScope ["text"] ["text"] (defScope s_is_small_word) := ⟨rfl, rfl, rfl, by decide +kernel, rfl, by decide +kernel, by decide +kernel⟩
theorem ok_is_small_word {u1 : Value} (F : Fun K "is_small_word" "is_small_word" s_is_small_word f fd) (c_is_name : Cal P w K mg base "is_name" 2 ["text"] (spBl nameB))
    (m_SMALL : mg "SMALL" = some u1) (r_SMALL : RelV (.str aSmall) u1) : FnOk P w K mg base CX0 3 f fd ["text"] (spBl smallB) := by
  refine F.ok sc_is_small_word (fun vs H Q E h => ?_) (fun cdv A outer s H vs Q E hr h => ?_)
  · obtain ⟨c, rfl, _⟩ := h
    rfl
  obtain ⟨x, rfl, hx, q⟩ := h
  refine ⟨_, (pss_one (ps_ret (pe_and (pe_callC c_is_name (hr.mono (by decide)) rfl (pa_cons (pv 0) pa_nil)) (pe_one (pe_cmpR op_in_str (pe_ix ix_str (pv 0) pe_int (fun _ _ => rfl)) (pe_glob rfl m_SMALL r_SMALL) (by with_unfolding_all rfl)))))), ?_⟩
  refine ⟨_, rfl, x, rfl, hx, fun H' sm => ⟨_, rfl, ?_⟩⟩
  have q' := q H' sm
  unfold smallB at q'
  refine ite2 (fun c => ?_) (fun c => ?_)
  · refine ⟨_, rfl, x, 0, _, rfl, rfl, sz (by omega), head_at (name_pos c), _, _, rfl, rfl, ?_⟩
    rw [StrLaws.found_one]
    rw [c, Bool.true_and] at q'
    exact q'
  · have e : nameB x = false := by simpa using c
    rw [e, Bool.false_and] at q'
    exact q'
theorem sc_name_end : FnScope ["text", "start", "end"] ["text", "start"] (defScope s_name_end) := ⟨rfl, rfl, rfl, by decide +kernel, rfl, by decide +kernel, by decide +kernel⟩
theorem ok_name_end (F : Fun K "name_end" "name_end" s_name_end f fd) (c_is_name_sign : Cal P w K mg base "is_name_sign" 1 ["sign"] spSign) (m_len : mg "len" = none) : FnOk P w K mg base CX0 2 f fd ["text", "start"] spEnd := by
  refine F.ok sc_name_end (fun vs H Q E h => ?_) (fun cdv A outer s H vs Q E hr h => ?_)
  · obtain ⟨x, p, rfl, _⟩ := h
    rfl
  obtain ⟨x, p, rfl, hx, hp, q⟩ := h
  have hl := len_is x
  refine ⟨_, (pss_cons (ps_set (i := 2) sc_name_end.nd rfl (Or.inl rfl) (pv 1))
  (pss_cons (ps_while PassesOwn.never (PW.pt (pw_and (pt_cmpR op_lt (pv 2) (pe_callB call_len_str rfl m_len PySem.boot_len (pa_cons (pv 0) pa_nil)) (nomark _)) (pw_and1 (pt_val (pe_callC c_is_name_sign (hr.mono (by decide)) rfl (pa_cons (pe_ix ix_str (pv 0) (pv 2) (fun _ _ => rfl)) pa_nil))))))
  (pss_one (ps_aug (i := 2) sc_name_end.nd rfl (Or.inl rfl) pe_int ip_add)))
  (pss_one (ps_ret (pv 2))))), ?_⟩
  refine ⟨_, rfl, fun m σ H' => H' = H ∧ ∃ j : Nat, m = x.length - (p + j) ∧ σ = [some (.str x), some (.int p), some (.int ((p + j : Nat) : Int))] ∧ p + j ≤ x.length ∧ nameLen (x.cps.toList.drop p) = j + nameLen (x.cps.toList.drop (p + j)), ⟨_, rfl, 0, rfl, rfl, hp, by simp⟩, ?_⟩
  rintro m σ H' ⟨rfl, j, rfl, rfl, hj, e⟩
  refine ⟨_, rfl, _, rfl, x, rfl, sz (by omega), _, _, rfl, rfl, _, rfl, ?_⟩
  refine ite2 (fun c => ?_) (fun c => ?_)
  · have c' : p + j < x.length := by
      have z := of_decide_eq_true c
      omega
    have hd : x.cps.toList.drop (p + j) = x.cps.toList.getD (p + j) 0 :: x.cps.toList.drop (p + j + 1) := drop_get (by omega)
    rw [hd, nameLen_cons] at e
    refine ⟨_, rfl, _, rfl, x, _, _, rfl, rfl, sz (by omega), str_at (by omega) (by omega), _, rfl, _, rfl, ?_⟩
    rw [show ((p + j : Nat) : Int).toNat = p + j by omega]
    refine ite2 (fun c2 => ?_) (fun c2 => ?_)
    · rw [if_pos c2] at e
      refine ⟨fun σ' H2 => H2 = H' ∧ σ' = [some (.str x), some (.int p), some (.int ((p + (j + 1) : Nat) : Int))], fun σ' H2 z => ⟨x.length - (p + (j + 1)), by omega, z.1, j + 1, rfl, z.2, by omega, by rw [← Nat.add_assoc]; omega⟩, ?_⟩
      refine ⟨_, rfl, _, _, rfl, rfl, rfl, ?_⟩
      show [some (V.str x), some (V.int p), some (V.int (((p + j : Nat) : Int) + 1))] = _
      rw [show ((p + (j + 1) : Nat) : Int) = ((p + j : Nat) : Int) + 1 by omega]
    · rw [if_neg c2] at e
      refine ⟨_, rfl, ?_⟩
      rw [e] at q
      exact q
  · have c' : ¬ (p + j < x.length) := fun z => c (decide_eq_true (by omega))
    have hd : x.cps.toList.drop (p + j) = [] := List.drop_eq_nil_of_le (by omega)
    rw [hd] at e
    refine iteF ⟨_, rfl, ?_⟩
    rw [e] at q
    exact q
theorem sc_pieces : FnScope ["text", "marks", "found", "place", "end", "sign"] ["text", "marks"] (defScope s_pieces) := ⟨rfl, rfl, rfl, by decide +kernel, rfl, by decide +kernel, by decide +kernel⟩
theorem ok_pieces (F : Fun K "pieces" "pieces" s_pieces f fd) (c_name_end : Cal P w K mg base "name_end" 2 ["text", "start"] spEnd) (m_len : mg "len" = none) : FnOk P w K mg base CX0 3 f fd ["text", "marks"] spPieces := by
  refine F.ok sc_pieces (fun vs H Q E h => ?_) (fun cdv A outer s H vs Q E hr h => ?_)
  · obtain ⟨x, m, rfl, _⟩ := h
    rfl
  obtain ⟨x, mk, rfl, hx, hm32, hok, q⟩ := h
  have hl := len_is x
  refine ⟨_, (pss_cons (ps_set (i := 2) sc_pieces.nd rfl (Or.inl rfl) (pe_lst pa_nil))
  (pss_cons (ps_set (i := 3) sc_pieces.nd rfl (Or.inl rfl) pe_int)
  (pss_cons (ps_while PassesOwn.never (pt_cmpR op_lt (pv 3) (pe_callB call_len_str rfl m_len PySem.boot_len (pa_cons (pv 0) pa_nil)) (nomark _))
  (pss_cons (ps_set (i := 4) sc_pieces.nd rfl (Or.inl rfl) (pe_callC c_name_end (hr.mono (by decide)) rfl (pa_cons (pv 0) (pa_cons (pv 3) pa_nil))))
  (pss_cons (ps_if (pt_cmpR op_gt (pv 4) (pv 3) (nomark _))
  (pss_cons (ps_expr (pe_bm PySem.F.plainAttrs_list PySem.F.slot_list_append PySem.F.type_list_append mt_append (pv 2) (pa_cons (pe_slice sl_str (pv 0) (po_some (pv 3)) (po_some (pv 4))) pa_nil)))
  (pss_cons (ps_set (i := 3) sc_pieces.nd rfl (Or.inl rfl) (pv 4))
  (pss_one ps_continue)))
  pss_nil)
  (pss_cons (ps_set (i := 5) sc_pieces.nd rfl (Or.inl rfl) (pe_ix ix_str (pv 0) (pv 3) (fun _ _ => rfl)))
  (pss_cons (ps_if (pt_cmpR op_in_str (pv 5) (pv 1) (by with_unfolding_all rfl))
  (pss_one (ps_expr (pe_bm PySem.F.plainAttrs_list PySem.F.slot_list_append PySem.F.type_list_append mt_append (pv 2) (pa_cons (pv 5) pa_nil))))
  (pss_one (ps_if (pt_cmpR op_ne (pv 5) pe_str (nomark _))
  pss_never
  pss_nil)))
  (pss_one (ps_aug (i := 3) sc_pieces.nd rfl (Or.inl rfl) pe_int ip_add)))))))
  (pss_one (ps_ret (pv 2)))))), ?_⟩
  refine ⟨(by show 0 ≤ sizeLine; decide), fun l hl0 => ?_⟩
  refine ⟨piecesW x mk l H, ⟨_, 0, [], none, none, rfl, rfl, Nat.zero_le _, same_new hl0 _, upd_same, rfl⟩, ?_⟩
  rintro m σ H' ⟨p, done, o3, o4, rfl, rfl, hp, sm, hL, e⟩
  have hlen : done.length ≤ 20000 := by
    have z := congrArg List.length e
    rw [List.length_append] at z
    have z2 := toks_len x.cps.toList
    omega
  refine ⟨_, rfl, _, rfl, x, rfl, sz (by omega), _, _, rfl, rfl, _, rfl, ?_⟩
  refine ite2 (fun c => ?_) (fun c => ?_)
  · have c' : p < x.length := by
      have z := of_decide_eq_true c
      omega
    refine ⟨fun σ' H2 => ∃ m', m' < x.length - p ∧ piecesW x mk l H m' σ' H2, fun σ' H2 z => z, ?_⟩
    refine ⟨_, rfl, _, rfl, x, p, rfl, hx, hp, ?_⟩
    refine ⟨_, rfl, _, rfl, _, _, rfl, rfl, _, rfl, ?_⟩
    have hd := drop_get (l := x.cps.toList) (i := p) (by omega)
    have hnl := nameLen_le (x.cps.toList.drop p)
    rw [List.length_drop] at hnl
    refine ite2 (fun c2 => ?_) (fun c2 => ?_)
    · have c2' : 0 < nameLen (x.cps.toList.drop p) := by
        have z := of_decide_eq_true c2
        omega
      refine ⟨_, rfl, .inl ⟨rfl, _, SqL.of hL⟩, _, rfl, _, rfl, _, rfl, _, rfl, _, rfl, x, rfl, sz (by omega), ?_⟩
      rw [slice_S (by omega)]
      refine ⟨l, _, _, rfl, rfl, hL, (by rw [List.length_map]; exact szl (by omega)), ?_⟩
      refine ⟨_, rfl, x.length - (p + nameLen (x.cps.toList.drop p)), by omega, p + nameLen (x.cps.toList.drop p), done ++ [(x.cps.toList.drop p).take (nameLen (x.cps.toList.drop p))], _, _, rfl, rfl, by omega, Same.upd_new sm hl0 _, ?_, ?_⟩
      · rw [upd_same, List.map_append]
        rfl
      · rw [toks_step_name (by omega), List.drop_drop] at e
        rw [List.append_assoc]
        exact e
    · have c2' : nameLen (x.cps.toList.drop p) = 0 := by
        have z : ¬ ((p : Int) < ((p + nameLen (x.cps.toList.drop p) : Nat) : Int)) := fun z => c2 (decide_eq_true z)
        omega
      have hal : isAl (x.cps.toList.getD p 0) = false := by
        rw [hd] at c2'
        exact nameLen_zero c2'
      have hsg : okS mk (x.cps.toList.getD p 0) = true := by
        rw [List.all_eq_true] at hok
        exact hok _ (List.mem_of_getElem? (getD_get (by omega)))
      refine ⟨_, rfl, _, rfl, x, p, _, rfl, rfl, sz (by omega), str_at (by omega) (by omega), ?_⟩
      rw [show ((p : Nat) : Int).toNat = p by omega]
      refine ⟨_, rfl, _, rfl, _, _, rfl, rfl, _, rfl, ?_⟩
      rw [StrLaws.found_one]
      rw [hd] at e
      refine ite2 (fun c3 => ?_) (fun c3 => ?_)
      · have hb : x.cps.toList.getD p 0 ≠ 32 := fun z => hm32 (by have := of_decide_eq_true c3; rw [z] at this; exact this)
        rw [toks_other hal hb] at e
        refine ⟨_, rfl, .inl ⟨rfl, _, SqL.of hL⟩, _, rfl, l, _, _, rfl, rfl, hL, (by rw [List.length_map]; exact szl (by omega)), ?_⟩
        refine ⟨_, rfl, _, _, rfl, rfl, x.length - (p + 1), by omega, p + 1, done ++ [[x.cps.toList.getD p 0]], _, _, rfl, rfl, by omega, Same.upd_new sm hl0 _, ?_, ?_⟩
        · rw [upd_same, List.map_append]
          rfl
        · rw [List.append_assoc]
          exact e
      · have hb : x.cps.toList.getD p 0 = 32 := by
          unfold okS at hsg
          rw [hal, Bool.false_or] at hsg
          have c3' : decide (x.cps.toList.getD p 0 ∈ mk.cps.toList) = false := by simpa using c3
          rw [c3', Bool.false_or] at hsg
          exact eq_of_beq hsg
        rw [hb] at e ⊢
        rw [toks_blank] at e
        refine ⟨_, rfl, rfl, _, rfl, ?_⟩
        have z : decide (V.str ⟨#[32]⟩ = V.str (Str.ofString " ")) = true := by decide +kernel
        rw [z]
        refine iteF ?_
        exact ⟨_, rfl, _, _, rfl, rfl, x.length - (p + 1), by omega, p + 1, done, _, _, rfl, rfl, by omega, sm, hL, e⟩
  · have c' : p = x.length := by
      have z : ¬ ((p : Int) < (x.length : Int)) := fun z => c (decide_eq_true z)
      omega
    have hd : x.cps.toList.drop p = [] := List.drop_eq_nil_of_le (by omega)
    rw [hd] at e
    have e' : done = toks x.cps.toList := by
      rw [← e]
      show done = done ++ []
      rw [List.append_nil]
    rw [e'] at hL
    exact ⟨_, rfl, q l H' sm hl0 hL⟩
theorem sc_piece_at : FnScope ["found", "place"] ["found", "place"] (defScope s_piece_at) := ⟨rfl, rfl, rfl, by decide +kernel, rfl, by decide +kernel, by decide +kernel⟩
theorem ok_piece_at (F : Fun K "piece_at" "piece_at" s_piece_at f fd) (m_len : mg "len" = none) : FnOk P w K mg base CX0 1 f fd ["found", "place"] spPiece := by
  refine F.ok sc_piece_at (fun vs H Q E h => ?_) (fun cdv A outer s H vs Q E hr h => ?_)
  · obtain ⟨l, ps, p, rfl, _⟩ := h
    rfl
  obtain ⟨l, ps, p, rfl, hL, hz, q⟩ := h
  refine ⟨_, (pss_cons (ps_if (pt_cmpR op_lt (pv 1) (pe_callB call_len_seq rfl m_len PySem.boot_len (pa_cons (pv 0) pa_nil)) (nomark _))
  (pss_one (ps_ret (pe_ix ix_list (pv 0) (pv 1) (fun _ _ => rfl))))
  pss_nil)
  (pss_one (ps_ret pe_str))), ?_⟩
  refine ⟨_, rfl, _, rfl, l, _, rfl, .inl (SqL.of hL), _, _, rfl, rfl, _, rfl, ?_⟩
  refine ite2 (fun c => ?_) (fun c => ?_)
  · have c' : p < ps.length := by
      have z := of_decide_eq_true c
      rw [List.length_map] at z
      omega
    refine ⟨_, rfl, _, rfl, l, _, _, tx (ps.getD p []), rfl, rfl, SqL.of hL, ?_, q⟩
    refine atI_nat ?_
    rw [List.getElem?_map, List.getD_eq_getElem?_getD, List.getElem?_eq_getElem c']
    rfl
  · have c' : ps.length ≤ p := by
      have z : ¬ ((p : Int) < (((ps.map tx).length : Nat) : Int)) := fun z => c (decide_eq_true z)
      rw [List.length_map] at z
      omega
    have e : ps.getD p [] = [] := by
      rw [List.getD_eq_getElem?_getD, List.getElem?_eq_none c']
      rfl
    rw [e] at q
    exact q
theorem sc_arguments_at : FnScope ["found", "place", "names", "name", "mark"] ["found", "place"] (defScope s_arguments_at) := ⟨rfl, rfl, rfl, by decide +kernel, rfl, by decide +kernel, by decide +kernel⟩
theorem ok_arguments_at (F : Fun K "arguments_at" "arguments_at" s_arguments_at f fd) (c_piece_at : Cal P w K mg base "piece_at" 1 ["found", "place"] spPiece) (c_is_name : Cal P w K mg base "is_name" 2 ["text"] (spBl nameB)) (m_tuple : mg "tuple" = none) :
    FnOk P w K mg base CX0 3 f fd ["found", "place"] spArgs := by
  refine F.ok sc_arguments_at (fun vs H Q E h => ?_) (fun cdv A outer s H vs Q E hr h => ?_)
  · obtain ⟨l, ps, p, n, as, rfl, _⟩ := h
    rfl
  obtain ⟨l, ps, p, n, as, rfl, hL, hz, alt, q⟩ := h
  refine ⟨_, (pss_cons (ps_set (i := 2) sc_arguments_at.nd rfl (Or.inl rfl) (pe_lst pa_nil))
  (pss_cons (ps_if (pt_cmpR op_eq (pe_callC c_piece_at (hr.mono (by decide)) rfl (pa_cons (pv 0) (pa_cons (pv 1) pa_nil))) pe_str (nomark _))
  (pss_one (ps_ret (pe_tup (pa_cons (pe_tup pa_nil) (pa_cons (pe_op op_add (pv 1) pe_int) pa_nil)))))
  pss_nil)
  (pss_one (ps_while PassesOwn.never (pt_val pe_bl)
  (pss_cons (ps_set (i := 3) sc_arguments_at.nd rfl (Or.inl rfl) (pe_callC c_piece_at (hr.mono (by decide)) rfl (pa_cons (pv 0) (pa_cons (pv 1) pa_nil))))
  (pss_cons (ps_if (pt_not (pt_val (pe_callC c_is_name (hr.mono (by decide)) rfl (pa_cons (pv 3) pa_nil))))
  pss_never
  pss_nil)
  (pss_cons (ps_expr (pe_bm PySem.F.plainAttrs_list PySem.F.slot_list_append PySem.F.type_list_append mt_append (pv 2) (pa_cons (pv 3) pa_nil)))
  (pss_cons (ps_set (i := 4) sc_arguments_at.nd rfl (Or.inl rfl) (pe_callC c_piece_at (hr.mono (by decide)) rfl (pa_cons (pv 0) (pa_cons (pe_op op_add (pv 1) pe_int) pa_nil))))
  (pss_cons (ps_aug (i := 1) sc_arguments_at.nd rfl (Or.inl rfl) pe_int ip_add)
  (pss_cons (ps_if (pt_cmpR op_eq (pv 4) pe_str (nomark _))
  (pss_one (ps_ret (pe_tup (pa_cons (pe_callTy call_tuple_of rfl m_tuple PyProof.Rows.Boot.«tuple» (pa_cons (pv 2) pa_nil)) (pa_cons (pv 1) pa_nil)))))
  pss_nil)
  (pss_one (ps_if (pt_cmpR op_ne (pv 4) pe_str (nomark _))
  pss_never
  pss_nil)))))))))))), ?_⟩
  refine ⟨(by show 0 ≤ sizeLine; decide), fun ln hn0 => ?_⟩
  have hLn : l ≠ ln := fun z => by rw [z, hn0] at hL; cases hL
  have hL1 : upd H ln (.lst []) l = some (.lst (ps.map tx)) := by rw [upd_ne hLn]; exact hL
  refine ⟨_, rfl, _, rfl, l, ps, p, rfl, hL1, hz, rfl, _, rfl, ?_⟩
  rcases alt with ⟨rfl, rfl, e41⟩ | ⟨ne41, ha⟩
  · rw [e41]
    have z : decide (tx [41] = V.str (Str.ofString ")")) = true := by decide +kernel
    rw [z]
    refine iteT ⟨(by show 0 ≤ sizeLine; decide), fun t2 ht2 => ?_⟩
    refine ⟨_, rfl, _, _, rfl, rfl, (by show 2 ≤ sizeLine; decide), fun t ht => ?_⟩
    have h12 : t2 ≠ t := fun z => by rw [← z, upd_same] at ht; cases ht
    refine q t t2 _ (Same.trans (same_new hn0 _) (Same.trans (same_new ht2 _) (same_new ht _))) upd_same ?_
    rw [upd_ne h12]
    exact upd_same
  · have z : decide (tx (ps.getD p []) = V.str (Str.ofString ")")) = false := tx_ne (b := [41]) ne41
    rw [z]
    refine iteF ?_
    refine ⟨argsW l ln ps as (p + n) H, ⟨_, p, n, [], as, none, none, rfl, rfl, same_new hn0 _, hL1, upd_same, ha, rfl, rfl, by rw [List.length_drop]; simp; omega⟩, ?_⟩
    rintro m σ H' ⟨p', n', done, as', o3, o4, rfl, rfl, sm, hL', hN', ha', ed, ep, hdl⟩
    obtain ⟨nm, mk, r, er, hnm, alt'⟩ := argsL_inv ha'
    have g0 : ps.getD p' [] = nm := by
      have z := getD_drop (l := ps) (p := p') (i := 0)
      rw [er] at z
      exact z.symm
    have g1 : ps.getD (p' + 1) [] = mk := by
      have z := getD_drop (l := ps) (p := p') (i := 1)
      rw [er] at z
      exact z.symm
    have hr2 : ps.drop (p' + 2) = r := by
      rw [← List.drop_drop, er]
      rfl
    have hlr : (ps.drop p').length = r.length + 2 := by rw [er]; rfl
    refine ⟨_, rfl, ?_⟩
    refine iteT ⟨fun σ' H2 => ∃ m', m' < (ps.drop p').length ∧ argsW l ln ps as (p + n) H m' σ' H2, fun σ' H2 z => z, ?_⟩
    refine ⟨_, rfl, _, rfl, l, ps, p', rfl, hL', hz, ?_⟩
    rw [g0]
    have hnl : nm.length ≤ 12 := by
      unfold nameC at hnm
      simp only [Bool.and_eq_true, decide_eq_true_eq] at hnm
      exact hnm.2.1
    refine ⟨_, rfl, S nm, rfl, by rw [S_len]; omega, fun H2 sm2 => ⟨_, rfl, ?_⟩⟩
    rw [nameB_S, hnm]
    refine iteF ?_
    have hN2 := sm2 _ _ hN'
    have hL2 := sm2 _ _ hL'
    refine ⟨_, rfl, .inl ⟨rfl, _, SqL.of hN2⟩, _, rfl, ln, _, _, rfl, rfl, hN2, (by rw [List.length_map]; exact szl (by omega)), ?_⟩
    have hL3 : upd H2 ln (.lst (done.map tx ++ [tx nm])) l = some (.lst (ps.map tx)) := by rw [upd_ne hLn]; exact hL2
    refine ⟨_, rfl, _, rfl, _, _, rfl, rfl, l, ps, p' + 1, rfl, hL3, hz, ?_⟩
    rw [g1]
    refine ⟨_, rfl, _, _, rfl, rfl, ?_⟩
    have sm3 : Same H (upd H2 ln (.lst (done.map tx ++ [tx nm]))) := Same.upd_new (Same.trans sm sm2) hn0 _
    refine ⟨_, rfl, rfl, _, rfl, ?_⟩
    rcases alt' with ⟨rfl, rfl, rfl⟩ | ⟨rfl, as2, n2, ha2, rfl, rfl⟩
    · have z : decide (tx [41] = V.str (Str.ofString ")")) = true := by decide +kernel
      rw [z]
      refine iteT ⟨_, rfl, ln, _, rfl, .inl ⟨SqL.of upd_same, fun t2 ht2 => ?_⟩⟩
      refine ⟨_, rfl, (by show 2 ≤ sizeLine; decide), fun t ht => ?_⟩
      have h12 : t2 ≠ t := fun z => by rw [← z, upd_same] at ht; cases ht
      refine q t t2 _ (Same.trans sm3 (Same.trans (same_new ht2 _) (same_new ht _))) ?_ ?_
      · rw [upd_same, ← ep]
        rfl
      · rw [upd_ne h12, upd_same, ← ed, List.map_append]
        rfl
    · have z : decide (tx [44] = V.str (Str.ofString ")")) = false := by decide +kernel
      rw [z]
      refine iteF ?_
      have z2 : decide (tx [44] = V.str (Str.ofString ",")) = true := by decide +kernel
      refine ⟨_, rfl, rfl, _, rfl, ?_⟩
      rw [z2]
      refine iteF ?_
      refine ⟨(ps.drop (p' + 2)).length, by rw [hr2, hlr]; omega, p' + 2, n2, done ++ [nm], as2, _, _, rfl, rfl, sm3, hL3, ?_, by rw [hr2]; exact ha2, by rw [List.append_assoc]; exact ed, by omega, by rw [hr2, List.length_append]; simp only [List.length_cons, List.length_nil]; omega⟩
      rw [upd_same, List.map_append]
      rfl
theorem sc_fact_at : FnScope ["found", "place", "kind", "reading"] ["found", "place"] (defScope s_fact_at) := ⟨rfl, rfl, rfl, by decide +kernel, rfl, by decide +kernel, by decide +kernel⟩
theorem ok_fact_at (F : Fun K "fact_at" "fact_at" s_fact_at f fd) (c_piece_at : Cal P w K mg base "piece_at" 1 ["found", "place"] spPiece) (c_is_small_word : Cal P w K mg base "is_small_word" 3 ["text"] (spBl smallB)) (c_arguments_at : Cal P w K mg base "arguments_at" 3 ["found", "place"] spArgs) :
    FnOk P w K mg base CX0 4 f fd ["found", "place"] spFactAt := by
  refine F.ok sc_fact_at (fun vs H Q E h => ?_) (fun cdv A outer s H vs Q E hr h => ?_)
  · obtain ⟨l, ps, p, n, k, as, rfl, _⟩ := h
    rfl
  obtain ⟨l, ps, p, n, k, as, rfl, hL, hz, hF, q⟩ := h
  refine ⟨_, (pss_cons (ps_set (i := 2) sc_fact_at.nd rfl (Or.inl rfl) (pe_callC c_piece_at (hr.mono (by decide)) rfl (pa_cons (pv 0) (pa_cons (pv 1) pa_nil))))
  (pss_cons (ps_if (pt_not (pt_val (pe_callC c_is_small_word (hr.mono (by decide)) rfl (pa_cons (pv 2) pa_nil))))
  pss_never
  pss_nil)
  (pss_cons (ps_if (pt_cmpR op_ne (pe_callC c_piece_at (hr.mono (by decide)) rfl (pa_cons (pv 0) (pa_cons (pe_op op_add (pv 1) pe_int) pa_nil))) pe_str (nomark _))
  (pss_one (ps_ret (pe_tup (pa_cons (pe_tup (pa_cons (pv 2) (pa_cons (pe_tup pa_nil) pa_nil))) (pa_cons (pe_op op_add (pv 1) pe_int) pa_nil)))))
  pss_nil)
  (pss_cons (ps_set (i := 3) sc_fact_at.nd rfl (Or.inl rfl) (pe_callC c_arguments_at (hr.mono (by decide)) rfl (pa_cons (pv 0) (pa_cons (pe_op op_add (pv 1) pe_int) pa_nil))))
  (pss_one (ps_ret (pe_tup (pa_cons (pe_tup (pa_cons (pv 2) (pa_cons (pe_ix ix_tup (pv 3) pe_int (fun _ _ => rfl)) pa_nil))) (pa_cons (pe_ix ix_tup (pv 3) pe_int (fun _ _ => rfl)) pa_nil))))))))), ?_⟩
  have hd : ∃ r, ps.drop p = k :: r ∧ smallC k = true := by
    generalize ps.drop p = l0 at hF
    cases hF with
    | bare hk h => exact ⟨_, rfl, hk⟩
    | empty hk => exact ⟨_, rfl, hk⟩
    | args hk h0 h => exact ⟨_, rfl, hk⟩
  obtain ⟨r0, ed, hk⟩ := hd
  have g0 : ps.getD p [] = k := by
    have z := getD_drop (l := ps) (p := p) (i := 0)
    rw [ed] at z
    exact z.symm
  have hkl : k.length ≤ 12 := by
    unfold smallC nameC at hk
    simp only [Bool.and_eq_true, decide_eq_true_eq] at hk
    exact hk.1.2.1
  have hkb : smallB (S k) = true := by
    unfold smallB
    rw [nameB_S, S_codes]
    exact hk
  refine ⟨_, rfl, _, rfl, l, ps, p, rfl, hL, hz, ?_⟩
  rw [g0]
  refine ⟨_, rfl, S k, rfl, by rw [S_len]; omega, fun H1 s1 => ⟨_, rfl, ?_⟩⟩
  rw [hkb]
  refine iteF ?_
  have hL1 := s1 _ _ hL
  refine ⟨_, rfl, _, rfl, _, _, rfl, rfl, l, ps, p + 1, rfl, hL1, hz, rfl, _, rfl, ?_⟩
  have g1 : ps.getD (p + 1) [] = r0.getD 0 [] := by
    have z := getD_drop (l := ps) (p := p) (i := 1)
    rw [ed] at z
    exact z.symm
  rw [g1]
  have full : ∀ (as' : List (List Nat)) (n' : Nat), r0.getD 0 [] = [40] → n = n' + 2 → as = as' → ((as' = [] ∧ n' = 1 ∧ ps.getD (p + 2) [] = [41]) ∨ (ps.getD (p + 2) [] ≠ [41] ∧ argsL (ps.drop (p + 2)) = some (as', n'))) → True := fun _ _ _ _ _ _ => trivial
  by_cases h40 : r0.getD 0 [] = [40]
  · rw [h40]
    have z : decide (tx [40] = V.str (Str.ofString "(")) = true := by decide +kernel
    rw [z]
    refine iteF ?_
    have key : ∃ n', n = n' + 2 ∧ ((as = [] ∧ n' = 1 ∧ ps.getD (p + 2) [] = [41]) ∨ (ps.getD (p + 2) [] ≠ [41] ∧ argsL (ps.drop (p + 2)) = some (as, n'))) := by
      have g2 : ∀ r1, ps.drop p = k :: [40] :: r1 → ps.getD (p + 2) [] = r1.getD 0 [] ∧ ps.drop (p + 2) = r1 := fun r1 e => by
        refine ⟨?_, ?_⟩
        · have z := getD_drop (l := ps) (p := p) (i := 2)
          rw [e] at z
          exact z.symm
        · rw [← List.drop_drop, e]
          rfl
      rw [ed] at hF g2
      cases hF with
      | bare hk' h => exact absurd h40 h
      | @empty _ r hk' =>
        obtain ⟨a1, a2⟩ := g2 _ rfl
        exact ⟨1, rfl, .inl ⟨rfl, rfl, a1⟩⟩
      | @args _ r _ n' hk' h0 h =>
        obtain ⟨a1, a2⟩ := g2 _ rfl
        exact ⟨n', rfl, .inr ⟨by rw [a1]; exact h0, by rw [a2]; exact h⟩⟩
    obtain ⟨n', en, alt⟩ := key
    refine ⟨_, rfl, _, rfl, _, _, rfl, rfl, l, ps, p + 2, n', as, rfl, hL1, hz, alt, fun t t2 H2 s2 ht ht2 => ?_⟩
    refine ⟨_, rfl, _, rfl, t, _, 0, .ref t2, rfl, rfl, SqT.of ht, rfl, (by show 2 ≤ sizeLine; decide), fun t1 ht1 => ?_⟩
    have ht1' := same_new ht1 (.tup [tx k, .ref t2])
    refine ⟨_, rfl, t, _, 1, _, rfl, rfl, SqT.of (ht1' _ _ ht), rfl, (by show 2 ≤ sizeLine; decide), fun t0 ht0 => ?_⟩
    have h10 : t1 ≠ t0 := fun z => by rw [← z, upd_same] at ht0; cases ht0
    refine q t0 t1 t2 _ (Same.trans s1 (Same.trans s2 (Same.trans ht1' (same_new ht0 _)))) ?_ ?_ ((same_new ht0 _) _ _ (ht1' _ _ ht2))
    · rw [upd_same, en, show p + 2 + n' = p + (n' + 2) by omega]
    · rw [upd_ne h10]
      exact upd_same
  · have z : decide (tx (r0.getD 0 []) = V.str (Str.ofString "(")) = false := tx_ne (b := [40]) h40
    rw [z]
    have key : as = [] ∧ n = 1 := by
      rw [ed] at hF
      cases hF with
      | bare hk' h => exact ⟨rfl, rfl⟩
      | empty hk' => exact absurd rfl h40
      | args hk' h0 h => exact absurd rfl h40
    obtain ⟨rfl, rfl⟩ := key
    refine iteT ⟨_, rfl, (by show 0 ≤ sizeLine; decide), fun t2 ht2 => ?_⟩
    refine ⟨(by show 2 ≤ sizeLine; decide), fun t1 ht1 => ?_⟩
    refine ⟨_, rfl, _, _, rfl, rfl, (by show 2 ≤ sizeLine; decide), fun t0 ht0 => ?_⟩
    have h10 : t1 ≠ t0 := fun z => by rw [← z, upd_same] at ht0; cases ht0
    refine q t0 t1 t2 _ (Same.trans s1 (Same.trans (same_new ht2 _) (Same.trans (same_new ht1 _) (same_new ht0 _)))) upd_same ?_ ((same_new ht0 _) _ _ ((same_new ht1 _) _ _ upd_same))
    rw [upd_ne h10]
    exact upd_same
theorem sc_row_of_facts : FnScope ["found", "facts", "place", "reading"] ["found"] (defScope s_row_of_facts) := ⟨rfl, rfl, rfl, by decide +kernel, rfl, by decide +kernel, by decide +kernel⟩
theorem ok_row_of_facts (F : Fun K "row_of_facts" "row_of_facts" s_row_of_facts f fd) (c_fact_at : Cal P w K mg base "fact_at" 4 ["found", "place"] spFactAt) (m_len : mg "len" = none) : FnOk P w K mg base CX0 5 f fd ["found"] (spRow K) := by
  refine F.ok sc_row_of_facts (fun vs H Q E h => ?_) (fun cdv A outer s H vs Q E hr h => ?_)
  · obtain ⟨l, ps, fs, rfl, _⟩ := h
    rfl
  obtain ⟨l, ps, fs, rfl, hL, hz, hR, q⟩ := h
  refine ⟨_, (pss_cons (ps_set (i := 1) sc_row_of_facts.nd rfl (Or.inl rfl) (pe_lst pa_nil))
  (pss_cons (ps_set (i := 2) sc_row_of_facts.nd rfl (Or.inl rfl) pe_int)
  (pss_one (ps_while PassesOwn.never (pt_val pe_bl)
  (pss_cons (ps_set (i := 3) sc_row_of_facts.nd rfl (Or.inl rfl) (pe_callC c_fact_at (hr.mono (by decide)) rfl (pa_cons (pv 0) (pa_cons (pv 2) pa_nil))))
  (pss_cons (ps_expr (pe_bm PySem.F.plainAttrs_list PySem.F.slot_list_append PySem.F.type_list_append mt_append (pv 1) (pa_cons (pe_ix ix_tup (pv 3) pe_int (fun _ _ => rfl)) pa_nil)))
  (pss_cons (ps_set (i := 2) sc_row_of_facts.nd rfl (Or.inl rfl) (pe_ix ix_tup (pv 3) pe_int (fun _ _ => rfl)))
  (pss_cons (ps_if (pt_cmpR op_eq (pv 2) (pe_callB call_len_seq rfl m_len PySem.boot_len (pa_cons (pv 0) pa_nil)) (nomark _))
  (pss_one (ps_ret (pv 1)))
  pss_nil)
  (pss_cons (ps_if (pt_cmpR op_ne (pe_ix ix_list (pv 0) (pv 2) (fun _ _ => rfl)) pe_str (nomark _))
  pss_never
  pss_nil)
  (pss_one (ps_aug (i := 2) sc_row_of_facts.nd rfl (Or.inl rfl) pe_int ip_add))))))))))), ?_⟩
  refine ⟨(by show 0 ≤ sizeLine; decide), fun lf hlf => ?_⟩
  have hne : l ≠ lf := ne_of_none hL hlf
  refine ⟨rowW K l lf ps fs H, ⟨_, 0, [], fs, [], none, rfl, rfl, same_new hlf _, by rw [upd_ne hne]; exact hL, upd_same, .nil, by rw [List.drop_zero]; exact hR, rfl, by rw [List.drop_zero]; simpa using hz⟩, ?_⟩
  rintro m σ H' ⟨p, done, rest, us, o3, rfl, rfl, sm, hL', hf', pr, hr', ed, hdl⟩
  obtain ⟨f1, n, fs', rfl, hF, alt⟩ := hr'.head
  refine ⟨_, rfl, iteT ⟨fun σ' H2 => ∃ m', m' < (ps.drop p).length ∧ rowW K l lf ps fs H m' σ' H2, fun σ' H2 z => z, ?_⟩⟩
  refine ⟨_, rfl, _, rfl, l, ps, p, n, f1.k, f1.as, rfl, hL', hz, hF, fun t t1 t2 H2 s2 ht ht1 ht2 => ?_⟩
  have hf2 := s2 _ _ hf'
  have hL2 := s2 _ _ hL'
  have hlen : us.length ≤ 20000 := by
    have z := pr.length
    omega
  refine ⟨_, rfl, .inl ⟨rfl, _, SqL.of hf2⟩, _, rfl, t, _, 0, _, rfl, rfl, SqT.of ht, rfl, lf, _, _, rfl, rfl, hf2, szl (by omega), ?_⟩
  have htn : t ≠ lf := ne_of ht hf2 (by intro z; cases z)
  have kp : Kp (upd H lf (.lst [])) H2 (upd H2 lf (.lst (us ++ [V.ref t1]))) := Kp.upd upd_same hf2 (by intro xs z; cases z) (by intro o u z; cases z)
  have pr' : Paired (Fact K (upd H2 lf (.lst (us ++ [V.ref t1])))) (done ++ [f1]) (us ++ [V.ref t1]) := by
    refine (L2.Paired.mapP pr fun a b z => Fact.keep kp (Fact.keep (H0 := H) (Kp.same s2) z)).snoc ?_
    exact Fact.keep kp ⟨t1, t2, rfl, SqT.of ht1, SqT.of ht2⟩
  have hL3 : upd H2 lf (.lst (us ++ [V.ref t1])) l = some (.lst (ps.map tx)) := by rw [upd_ne hne]; exact hL2
  have sm3 : Same H (upd H2 lf (.lst (us ++ [V.ref t1]))) := Same.upd_new (Same.trans sm s2) hlf _
  refine ⟨_, rfl, t, _, 1, _, rfl, rfl, SqT.of (by rw [upd_ne htn]; exact ht), rfl, ?_⟩
  refine ⟨_, rfl, _, rfl, l, _, rfl, .inl (SqL.of hL3), rfl, _, rfl, ?_⟩
  rw [List.length_map]
  have hdr : (ps.drop p).length = ps.length - p := List.length_drop ..
  rcases alt with ⟨en, rfl⟩ | ⟨hn, h44, hR'⟩
  · have z : decide (V.int ((p + n : Nat) : Int) = V.int (ps.length : Int)) = true := by
      refine decide_eq_true ?_
      have : 1 ≤ (ps.drop p).length := hr'.pos
      rw [show p + n = ps.length by omega]
    rw [z]
    refine iteT ⟨_, rfl, q _ _ sm3 ⟨lf, _, rfl, hlf, upd_same, ?_⟩⟩
    rw [← ed]
    exact pr'
  · have z : decide (V.int ((p + n : Nat) : Int) = V.int (ps.length : Int)) = false := by
      refine decide_eq_false fun z => ?_
      have z' : ((p + n : Nat) : Int) = (ps.length : Int) := by injection z
      omega
    rw [z]
    refine iteF ?_
    have g : ps.getD (p + n) [] = [44] := by
      have z := getD_drop (l := ps) (p := p) (i := n)
      rw [← z]
      exact h44
    refine ⟨_, rfl, _, rfl, l, _, _, tx [44], rfl, rfl, SqL.of hL3, ?_, rfl, _, rfl, ?_⟩
    · refine atI_nat ?_
      rw [List.getElem?_map, List.getElem?_eq_getElem (by omega)]
      rw [List.getD_eq_getElem?_getD, List.getElem?_eq_getElem (by omega)] at g
      exact congrArg (fun z => some (tx z)) g
    · have z2 : decide (tx [44] = V.str (Str.ofString ",")) = true := by decide +kernel
      rw [z2]
      refine iteF ⟨_, rfl, _, _, rfl, rfl, (ps.drop (p + n + 1)).length, ?_, p + n + 1, done ++ [f1], fs', _, _, rfl, rfl, sm3, hL3, upd_same, pr', ?_, by rw [List.append_assoc]; exact ed, ?_⟩
      · rw [List.length_drop, List.length_drop]; omega
      · rw [show p + n + 1 = p + (n + 1) by omega, ← List.drop_drop]; exact hR'
      · rw [List.length_append, List.length_drop]; simp only [List.length_cons, List.length_nil]; omega
end
end K32
namespace K32
open PySem L2 K02 Bk
set_option maxHeartbeats 4000000
section
variable {P : Program} {w : World} {K : PySem.W.Frag} {mg : Str → Option Value} {base : Heap} {f : Addr} {fd : FuncData} {c : Cl}
theorem sc_is_told : FnScope ["line", "bare"] ["line"] (defScope s_is_told) := ⟨rfl, rfl, rfl, by decide +kernel, rfl, by decide +kernel, by decide +kernel⟩
theorem ok_is_told (F : Fun K "is_told" "is_told" s_is_told f fd) : FnOk P w K mg base CX0 1 f fd ["line"] spTold := by
  refine F.ok sc_is_told (fun vs H Q E h => ?_) (fun cdv A outer s H vs Q E hr h => ?_)
  · obtain ⟨p, rfl, _⟩ := h
    rfl
  obtain ⟨p, rfl, hx, q⟩ := h
  refine ⟨_, (pss_cons (ps_set (i := 1) sc_is_told.nd rfl (Or.inl rfl) (pe_bm PySem.F.plainAttrs_str PySem.F.slot_str_strip PySem.F.type_str_strip mt_strip (pv 0) (pa_cons pe_str pa_nil)))
  (pss_one (ps_ret (pe_and (pe_cmpR op_ne (pv 1) pe_str (nomark _)) (pe_one (pe_cmpR op_ne (pe_ix ix_str (pv 1) pe_int (fun _ _ => rfl)) pe_str (nomark _))))))), ?_⟩
  obtain ⟨b, eb, hb, eh⟩ := strip_is p
  refine ⟨_, rfl, rfl, _, _, rfl, rfl, (by rw [S_len]; exact sz (by omega)), ?_⟩
  rw [eb]
  unfold told at q
  refine ⟨_, rfl, rfl, _, rfl, ?_⟩
  have e0 : (Str.ofString "") = S [] := by decide +kernel
  rw [e0]
  cases hd : p.dropWhile (· == 32) with
  | nil =>
    rw [hd] at eh q
    have hb0 : b = [] := by
      cases b with
      | nil => rfl
      | cons x r => cases eh
    subst hb0
    rw [decide_eq_true rfl]
    exact iteF q
  | cons x r =>
    rw [hd] at eh q
    obtain ⟨b', rfl⟩ : ∃ b', b = x :: b' := by
      cases b with
      | nil => cases eh
      | cons y r' => exact ⟨r', by rw [Option.some.inj eh]⟩
    have e1 : decide (V.str (S (x :: b')) = V.str (S [])) = false := tx_ne (a := x :: b') (b := []) (by simp)
    rw [e1]
    refine iteT ⟨_, rfl, S (x :: b'), 0, x, rfl, rfl, (by rw [S_len]; exact sz (by omega)), ?_, rfl, ?_⟩
    · rw [S_codes]
      exact atI_nat (j := 0) rfl
    · have e2 : decide (V.str ⟨#[x]⟩ = V.str (Str.ofString "#")) = (x == 35) := by
        have e3 : (Str.ofString "#") = S [35] := by decide +kernel
        rw [e3]
        have e4 := tx_dec [x] [35]
        show decide (tx [x] = tx [35]) = _
        rw [e4]
        simp [Bool.beq_eq_decide_eq]
      rw [e2]
      exact q
theorem sc_told_lines : FnScope ["text"] ["text"] (defScope s_told_lines) := ⟨rfl, rfl, rfl, by decide +kernel, rfl, by decide +kernel, by decide +kernel⟩
theorem ok_told_lines (F : Fun K "told_lines" "told_lines" s_told_lines f fd) (c_is_told : Cal P w K mg base "is_told" 1 ["line"] spTold) : FnOk P w K mg base CX0 2 f fd ["text"] spLines := by
  refine F.ok sc_told_lines (fun vs H Q E h => ?_) (fun cdv A outer s H vs Q E hr h => ?_)
  · obtain ⟨ls, rfl, _⟩ := h
    rfl
  obtain ⟨ls, rfl, h0, hN, hx, q⟩ := h
  refine ⟨_, (pss_one (ps_ret (pe_comp [] rfl (by kernel_rfl) (pi_list (pe_bm PySem.F.plainAttrs_str PySem.F.slot_str_split PySem.F.type_str_split mt_split (pv 0) (pa_cons pe_str pa_nil))) (fun _ _ _ _ _ => (pts_one (pt_val (pe_callC c_is_told (hr.mono (by decide)) rfl (pa_cons (pv 0) pa_nil))))) (fun _ _ _ _ _ => (pv 0))))), ?_⟩
  have hll := joinN_len ls
  refine ⟨_, rfl, rfl, _, _, rfl, rfl, rfl, (by rw [S_len]; exact sz (by omega)), ?_⟩
  rw [split_lines h0 hN]
  refine ⟨(by rw [List.length_map]; exact sz (by omega)), fun l hl => ⟨l, rfl, ⟨_, SqL.of upd_same⟩, fun D hD => ?_⟩⟩
  have hDn : H D = none := (same_new hl _).free hD
  refine comp_fm (K := K) (xs := (ls.map S).map V.str) (by rw [List.length_map, List.length_map]; exact szl (by omega)) hD (SqL.of upd_same) (fun v => match v with | .str x => told x.cps.toList | _ => false) id (fun x H' R hm sm hR => ?_) (fun x H' R hm hk sm hR => ?_) (fun H' sm hL => ?_)
  · obtain ⟨z, hz, rfl⟩ := List.mem_map.mp hm
    obtain ⟨y, hy, rfl⟩ := List.mem_map.mp hz
    refine ⟨_, rfl, y, rfl, by have := joinN_mem ls y hy; omega, _, rfl, ?_⟩
    have z : R (told (S y).cps.toList) H' := hR H' (Same.refl H')
    rw [S_codes] at z
    exact z
  · exact ⟨_, rfl, hR H' (Same.refl H')⟩
  · refine q _ _ (Same.trans (same_new hl _) sm) ⟨D, rfl, hDn, ?_⟩
    rw [hL, List.map_id, List.map_map]
    congr 2
    rw [List.filter_map]
    have e : ((fun v => match v with | V.str x => told x.cps.toList | _ => false) ∘ (V.str ∘ S)) = told := by
      funext y
      show told (S y).cps.toList = told y
      rw [S_codes]
    rw [e]
    rfl
theorem sc_line_pieces : FnScope ["line"] ["line"] (defScope s_line_pieces) := ⟨rfl, rfl, rfl, by decide +kernel, rfl, by decide +kernel, by decide +kernel⟩
theorem ok_line_pieces {u1 : Value} (F : Fun K "line_pieces" "line_pieces" s_line_pieces f fd) (c_pieces : Cal P w K mg base "pieces" 3 ["text", "marks"] spPieces) (m_LINE_MARKS : mg "LINE_MARKS" = some u1) (r_LINE_MARKS : RelV (.str aLine) u1) : FnOk P w K mg base CX0 4 f fd ["line"] spLine := by
  refine F.ok sc_line_pieces (fun vs H Q E h => ?_) (fun cdv A outer s H vs Q E hr h => ?_)
  · obtain ⟨p, rfl, _⟩ := h
    rfl
  obtain ⟨p, rfl, hx, hok, q⟩ := h
  refine ⟨_, (pss_one (ps_ret (pe_callC c_pieces (hr.mono (by decide)) rfl (pa_cons (pv 0) (pa_cons (pe_glob rfl m_LINE_MARKS r_LINE_MARKS) pa_nil))))), ?_⟩
  refine ⟨_, rfl, _, _, rfl, by rw [S_len]; exact hx, by decide +kernel, by rw [S_codes]; exact hok, fun l H' sm hl hL => ?_⟩
  rw [S_codes] at hL
  exact q _ _ sm ⟨l, rfl, hl, hL⟩
theorem sc_read_kind : FnScope ["found"] ["found"] (defScope s_read_kind) := ⟨rfl, rfl, rfl, by decide +kernel, rfl, by decide +kernel, by decide +kernel⟩
theorem ok_read_kind {aKW aCT : Addr} (F : Fun K "read_kind" "read_kind" s_read_kind f fd) (c_is_small_word : Cal P w K mg base "is_small_word" 3 ["text"] (spBl smallB)) (m_len : mg "len" = none) (m_int : mg "int" = none)
    (m_KIND_WORDS : mg "KIND_WORDS" = some (.ref aKW)) (k_KIND_WORDS : ∀ H, SqT K H aKW [tx kwPassing, tx kwLasting]) (m_COUNTS : mg "COUNTS" = some (.ref aCT)) (k_COUNTS : ∀ H, SqT K H aCT [tx [48], tx [49], tx [50], tx [51], tx [52]]) :
    FnOk P w K mg base CX0 4 f fd ["found"] (spKind K) := by
  have r_KIND_WORDS : RelV (.ref aKW) (.ref aKW) := rfl
  have r_COUNTS : RelV (.ref aCT) (.ref aCT) := rfl
  refine F.ok sc_read_kind (fun vs H Q E h => ?_) (fun cdv A outer s H vs Q E hr h => ?_)
  · obtain ⟨l, k, rfl, _⟩ := h
    rfl
  obtain ⟨l, ⟨n, c, b⟩, rfl, hL, hn, hc, q⟩ := h
  have hn : smallC n = true := hn
  have hc : c ≤ 4 := hc
  have hL' : H l = some (.lst [tx (if b = true then kwLasting else kwPassing), tx n, tx [48 + c]]) := hL
  refine ⟨_, (pss_cons (ps_if (PW.pt (pw_or (pt_cmpR op_ne (pe_callB call_len_seq rfl m_len PySem.boot_len (pa_cons (pv 0) pa_nil)) pe_int (nomark _)) (pw_or1 (pt_cmpR op_notIn_seq (pe_ix ix_list (pv 0) pe_int (fun _ _ => rfl)) (pe_glob rfl m_KIND_WORDS r_KIND_WORDS) (by with_unfolding_all rfl)))))
  pss_never
  pss_nil)
  (pss_cons (ps_if (pt_not (pt_val (pe_callC c_is_small_word (hr.mono (by decide)) rfl (pa_cons (pe_ix ix_list (pv 0) pe_int (fun _ _ => rfl)) pa_nil))))
  pss_never
  pss_nil)
  (pss_cons (ps_if (pt_cmpR op_notIn_seq (pe_ix ix_list (pv 0) pe_int (fun _ _ => rfl)) (pe_glob rfl m_COUNTS r_COUNTS) (by with_unfolding_all rfl))
  pss_never
  pss_nil)
  (pss_one (ps_ret (pe_tup (pa_cons (pe_ix ix_list (pv 0) pe_int (fun _ _ => rfl)) (pa_cons (pe_callTy call_int_text rfl m_int PyProof.Rows.Boot.«int» (pa_cons (pe_ix ix_list (pv 0) pe_int (fun _ _ => rfl)) pa_nil)) (pa_cons (pe_cmpR op_eq (pe_ix ix_list (pv 0) pe_int (fun _ _ => rfl)) pe_str (nomark _)) pa_nil))))))))), ?_⟩
  refine ⟨_, rfl, l, _, rfl, .inl (SqL.of hL'), rfl, _, rfl, iteF ?_⟩
  refine ⟨_, rfl, l, _, 0, _, rfl, rfl, SqL.of hL', rfl, aKW, _, rfl, .inr (k_KIND_WORDS _), rfl, rfl, _, rfl, ?_⟩
  have e1 : inV (tx (if b = true then kwLasting else kwPassing)) [tx kwPassing, tx kwLasting] = true := by cases b <;> decide +kernel
  rw [e1]
  refine iteF ?_
  refine ⟨_, rfl, l, _, 1, _, rfl, rfl, SqL.of hL', rfl, S n, rfl, by have := smallC_len hn; rw [S_len]; omega, fun H1 s1 => ⟨_, rfl, ?_⟩⟩
  rw [smallB_S, hn]
  refine iteF ?_
  have hL1 := s1 _ _ hL'
  refine ⟨_, rfl, l, _, 2, _, rfl, rfl, SqL.of hL1, rfl, aCT, _, rfl, .inr (k_COUNTS _), rfl, rfl, _, rfl, ?_⟩
  have e2 : inV (tx [48 + c]) [tx [48], tx [49], tx [50], tx [51], tx [52]] = true := by
    rcases (by omega : c = 0 ∨ c = 1 ∨ c = 2 ∨ c = 3 ∨ c = 4) with e | e | e | e | e <;> subst e <;> decide +kernel
  rw [e2]
  refine iteF ?_
  have e3 : PySem.intText? (S [48 + c]) = some (c : Int) := by
    rcases (by omega : c = 0 ∨ c = 1 ∨ c = 2 ∨ c = 3 ∨ c = 4) with e | e | e | e | e <;> subst e <;> decide +kernel
  refine ⟨_, rfl, l, _, 1, _, rfl, rfl, SqL.of hL1, rfl, _, rfl, l, _, 2, _, rfl, rfl, SqL.of hL1, rfl, _, _, rfl, e3, (by rw [S_len]; show 1 ≤ 640; decide), ?_⟩
  refine ⟨_, rfl, l, _, 0, _, rfl, rfl, SqL.of hL1, rfl, rfl, (by show 3 ≤ sizeLine; decide), fun t ht => ?_⟩
  have e4 : decide (tx (if b = true then kwLasting else kwPassing) = V.str (Str.ofString "lasting")) = b := by cases b <;> decide +kernel
  rw [e4]
  exact q _ _ (Same.trans s1 (same_new ht _)) ⟨t, rfl, SqT.of upd_same⟩
end
end K32
namespace K32
open PySem L2 K02 Bk
set_option maxHeartbeats 4000000
section
variable {P : Program} {w : World} {K : PySem.W.Frag} {mg : Str → Option Value} {base : Heap} {f : Addr} {fd : FuncData} {c : Cl}
theorem at_last {xs : List V} {v : V} : atI (xs ++ [v]) (-1) = some v := by
  unfold atI
  have e : ixN (xs ++ [v]).length (-1) = some xs.length := by
    unfold ixN
    rw [List.length_append, List.length_singleton, if_neg (by decide)]
    simp
    omega
  rw [e]
  simp
theorem sc_parted : FnScope ["found", "mark", "rows", "piece"] ["found", "mark"] (defScope s_parted) := ⟨rfl, rfl, rfl, by decide +kernel, rfl, by decide +kernel, by decide +kernel⟩
theorem ok_parted (F : Fun K "parted" "parted" s_parted f fd) : FnOk P w K mg base CX0 1 f fd ["found", "mark"] spParted := by
  refine F.ok sc_parted (fun vs H Q E h => ?_) (fun cdv A outer s H vs Q E hr h => ?_)
  · obtain ⟨l, ps, m, rfl, _⟩ := h
    rfl
  obtain ⟨l, ps, m, rfl, hL, hz, q⟩ := h
  refine ⟨_, (pss_cons (ps_set (i := 2) sc_parted.nd rfl (Or.inl rfl) (pe_lst (pa_cons (pe_lst pa_nil) pa_nil)))
  (pss_cons (ps_for PassesOwn.never rfl (pi_list (pv 0)) (pg_name (i := 3) sc_parted.nd rfl (Or.inl rfl))
  (pss_one (ps_if (pt_cmpR op_eq (pv 3) (pv 1) (nomark _))
  (pss_one (ps_expr (pe_bm PySem.F.plainAttrs_list PySem.F.slot_list_append PySem.F.type_list_append mt_append (pv 2) (pa_cons (pe_lst pa_nil) pa_nil))))
  (pss_one (ps_expr (pe_bm PySem.F.plainAttrs_list PySem.F.slot_list_append PySem.F.type_list_append mt_append (pe_ix ix_list (pv 2) (pe_un un_neg pe_int) (fun _ _ => rfl)) (pa_cons (pv 3) pa_nil)))))))
  (pss_one (ps_ret (pv 2))))), ?_⟩
  refine ⟨(by show 0 ≤ sizeLine; decide), fun b0 hb0 => ⟨(by show 1 ≤ sizeLine; decide), fun lr hlr => ?_⟩⟩
  have n0r : b0 ≠ lr := fun z => by rw [← z, upd_same] at hlr; cases hlr
  have hlr0 : H lr = none := (same_new hb0 _).free hlr
  have s0 : Same H (upd (upd H b0 (.lst [])) lr (.lst [V.ref b0])) := Same.trans (same_new hb0 _) (same_new hlr _)
  refine ⟨_, rfl, l, rfl, ⟨_, SqL.of (s0 _ _ hL)⟩, for_list (K := K) (a := l) (xs := ps.map tx) (fun i σ H' => ∃ (bs : List Addr) (o : Option V), σ = [some (.ref l), some (tx m), some (.ref lr), o] ∧ Same H H' ∧ H' lr = some (.lst (bs.map V.ref)) ∧
      Paired (fun row b => H b = none ∧ b ≠ lr ∧ H' b = some (.lst (row.map tx))) (partedA m (ps.take i) [[]]) bs ∧ bs.Nodup)
    ⟨[b0], none, rfl, s0, upd_same, .cons ⟨hb0, n0r, by rw [upd_ne n0r]; exact upd_same⟩ .nil, by simp⟩ (fun i σ H' _ ⟨_, _, _, sm, _⟩ => SqL.of (sm _ _ hL)) ?_ ?_⟩
  · rintro i y σ H' hi ⟨bs, o, rfl, sm, hr', pr, nd⟩
    have hil : i < ps.length := by
      have := (List.getElem?_eq_some_iff.mp hi).1
      simpa using this
    obtain rfl : y = tx ps[i] := by
      rw [List.getElem?_map, List.getElem?_eq_getElem hil] at hi
      exact (Option.some.inj hi).symm
    have stp : partedA m (ps.take (i + 1)) [[]] = stepP m ps[i] (partedA m (ps.take i) [[]]) := by
      rw [List.take_succ_eq_append_getElem hil, partedA_snoc]
    have hbl : bs.length ≤ 20002 := by
      have z := Paired.length pr
      have z2 := partedA_len m (ps.take i) [[]]
      rw [List.length_take] at z2
      simp only [List.length_cons, List.length_nil] at z2
      omega
    refine ⟨_, rfl, _, rfl, rfl, _, rfl, ?_⟩
    rw [tx_dec]
    refine ite2 (fun e => ?_) (fun e => ?_)
    · have e' : ps[i] = m := of_decide_eq_true e
      refine ⟨_, rfl, .inl ⟨rfl, _, SqL.of hr'⟩, (by show 0 ≤ sizeLine; decide), fun b hb => ?_⟩
      have nbr : b ≠ lr := fun z => by rw [z, hr'] at hb; cases hb
      have hbH : H b = none := sm.free hb
      have hr2 : upd H' b (.lst []) lr = some (.lst (bs.map V.ref)) := by rw [upd_ne (Ne.symm nbr)]; exact hr'
      refine ⟨lr, _, _, rfl, rfl, hr2, (by rw [List.length_map]; exact szl (by omega)), bs ++ [b], _, rfl, Same.upd_new (Same.upd_new sm hbH _) hlr0 _, ?_, ?_, ?_⟩
      · rw [upd_same, List.map_append]
        rfl
      · rw [stp]
        unfold stepP
        rw [if_pos e']
        have p2 : Paired (fun row x => H x = none ∧ x ≠ lr ∧ upd (upd H' b (.lst [])) lr (.lst (bs.map V.ref ++ [V.ref b])) x = some (.lst (row.map tx))) (partedA m (ps.take i) [[]]) bs := L2.Paired.mapP pr fun row x z => ⟨z.1, z.2.1, by
          rw [upd_ne z.2.1, upd_ne (ne_of_none z.2.2 hb)]
          exact z.2.2⟩
        exact p2.snoc ⟨hbH, nbr, by rw [upd_ne nbr]; exact upd_same⟩
      · rw [List.nodup_append]
        refine ⟨nd, by simp, ?_⟩
        intro x hx y hy
        rw [List.mem_singleton.mp hy]
        intro z
        subst z
        obtain ⟨row, _, hrw⟩ := paired_mem pr hx
        rw [hrw.2.2] at hb
        cases hb
    · have e' : ps[i] ≠ m := fun z => by rw [decide_eq_true z] at e; exact e rfl
      obtain ⟨a1, row, b1, b, e1, e2, p1, hb⟩ := paired_last pr (partedA_ne m _ _ (by simp))
      have hrow : row.length ≤ 20000 := by
        have z := partedA_in m (ps.take i) [[]] 0 (by intro r hr; rw [List.mem_singleton.mp hr]; exact Nat.le_refl _) row (by rw [e1]; simp)
        rw [List.length_take] at z
        omega
      have hrr : H' lr = some (.lst (b1.map V.ref ++ [V.ref b])) := by
        rw [hr', e2, List.map_append]
        rfl
      refine ⟨_, rfl, _, rfl, lr, _, _, V.ref b, rfl, rfl, SqL.of hrr, at_last, .inl ⟨rfl, _, SqL.of hb.2.2⟩, _, rfl, b, _, _, rfl, rfl, hb.2.2, (by rw [List.length_map]; exact szl (by omega)), ?_⟩
      refine ⟨bs, _, rfl, Same.upd_new sm hb.1 _, by rw [upd_ne (Ne.symm hb.2.1)]; exact hr', ?_, nd⟩
      rw [stp]
      unfold stepP
      rw [if_neg e', e1, List.dropLast_concat, show (a1 ++ [row]).getLastD [] = row by simp, e2]
      rw [e2, List.nodup_append] at nd
      refine Paired.snoc ?_ ⟨hb.1, hb.2.1, ?_⟩
      · refine paired_mono p1 fun r x hx z => ⟨z.1, z.2.1, ?_⟩
        rw [upd_ne (nd.2.2 x hx b (by simp))]
        exact z.2.2
      · rw [upd_same, List.map_append]
        rfl
  · rintro σ H' ⟨bs, o, rfl, sm, hr', pr, nd⟩
    rw [List.length_map, List.take_length] at pr
    refine ⟨_, rfl, q _ _ sm ⟨lr, _, rfl, hlr0, hr', ?_⟩⟩
    exact paired_mapR (L2.Paired.mapP pr fun row b z => (⟨b, rfl, z.1, z.2.2⟩ : RowAt H H' row (V.ref b)))
end
end K32
namespace K32
open PySem L2 K02 Bk
set_option maxHeartbeats 4000000
section
variable {P : Program} {w : World} {K : PySem.W.Frag} {mg : Str → Option Value} {base : Heap} {f : Addr} {fd : FuncData} {c : Cl}
theorem sc_check_two_names : FnScope ["found"] ["found"] (defScope s_check_two_names) := ⟨rfl, rfl, rfl, by decide +kernel, rfl, by decide +kernel, by decide +kernel⟩
theorem ok_check_two_names (F : Fun K "check_two_names" "check_two_names" s_check_two_names f fd) (c_is_name : Cal P w K mg base "is_name" 2 ["text"] (spBl nameB)) (m_len : mg "len" = none) : FnOk P w K mg base CX0 3 f fd ["found"] spTwo := by
  refine F.ok sc_check_two_names (fun vs H Q E h => ?_) (fun cdv A outer s H vs Q E hr h => ?_)
  · obtain ⟨l, a, m, b, rfl, _⟩ := h
    rfl
  obtain ⟨l, a, m, b, rfl, hL, ha, hb, q⟩ := h
  refine ⟨_, (pss_one (ps_if (PW.pt (pw_or (pt_cmpR op_ne (pe_callB call_len_seq rfl m_len PySem.boot_len (pa_cons (pv 0) pa_nil)) pe_int (nomark _)) (pw_or (pt_not (pt_val (pe_callC c_is_name (hr.mono (by decide)) rfl (pa_cons (pe_ix ix_list (pv 0) pe_int (fun _ _ => rfl)) pa_nil)))) (pw_or1 (pt_not (pt_val (pe_callC c_is_name (hr.mono (by decide)) rfl (pa_cons (pe_ix ix_list (pv 0) pe_int (fun _ _ => rfl)) pa_nil))))))))
  pss_never
  pss_nil)), ?_⟩
  refine ⟨_, rfl, l, _, rfl, .inl (SqL.of hL), rfl, _, rfl, iteF ?_⟩
  refine ⟨_, rfl, l, _, 0, _, rfl, rfl, SqL.of hL, rfl, S a, rfl, by have := nameC_len ha; rw [S_len]; omega, fun H1 s1 => ⟨_, rfl, ?_⟩⟩
  rw [nameB_S, ha]
  refine iteF ⟨_, rfl, l, _, 2, _, rfl, rfl, SqL.of (s1 _ _ hL), rfl, S b, rfl, by have := nameC_len hb; rw [S_len]; omega, fun H2 s2 => ⟨_, rfl, ?_⟩⟩
  rw [nameB_S, hb]
  exact iteF (q _ (Same.trans s1 s2))
theorem sc_Look_init : FnScope ["self", "left", "right"] ["self", "left", "right"] (defScope s_Look_init) := ⟨rfl, rfl, rfl, by decide +kernel, rfl, by decide +kernel, by decide +kernel⟩
theorem ok_Look_init (F : Fun K "__init__" "Look.__init__" s_Look_init f fd) : FnOk P w K mg base CX0 1 f fd ["self", "left", "right"] (spLInit K) := by
  refine F.ok sc_Look_init (fun vs H Q E h => ?_) (fun cdv A outer s H vs Q E hr h => ?_)
  · obtain ⟨C, p, dx, l, r, rfl, _⟩ := h
    rfl
  obtain ⟨C, p, dx, l, r, rfl, T, hp, q⟩ := h
  refine ⟨_, (pss_cons (ps_fld (pv 0) (pv 1) rfl)
  (pss_one (ps_fld (pv 0) (pv 2) rfl))), ?_⟩
  refine ⟨_, rfl, _, rfl, p, C, dx, [], rfl, hp, T.cl, T.nL, (by show 0 < 1000; decide), _, rfl, _, rfl, p, C, dx, _, rfl, upd_same, T.cl, T.nR, (by show 1 < 1000; decide), ?_⟩
  refine q _ _ upd_same ?_ ?_ ?_ ?_ fun b o e hb => ?_
  · rw [lookup_putF, if_neg (by decide +kernel), lookup_putF, if_pos rfl]
  · rw [lookup_putF, if_pos rfl]
  · rw [lookup_putF, if_neg (by decide +kernel), lookup_putF, if_neg (by decide +kernel)]
    rfl
  · rw [lookup_putF, if_neg (by decide +kernel), lookup_putF, if_neg (by decide +kernel)]
    rfl
  · rw [upd_ne hb, upd_ne hb]
    exact e
theorem made_look {H : Hp} {C : Addr} {a b : V} {Q : VK} (T : LTxt K C) (q : ∀ x dx fs H', Same H H' → H x = none → H' x = some (.ins C dx fs) → fs.lookup ("left" : Str) = some a → fs.lookup ("right" : Str) = some b → fs.lookup ("holds" : Str) = none → fs.lookup ("word" : Str) = none → Q (.ref x) H') :
    ∀ x dx, H x = none → H dx = none → dx ≠ x → spLInit K (.ref x :: ([a, b] ++ [])) (upd (upd H dx (.own x)) x (.ins C dx [])) (fun v H2 => v = .non ∧ Q (.ref x) H2) E0 := fun x dx hx hdx nex => by
  refine ⟨C, x, dx, a, b, rfl, T, upd_same, fun H' fs h1 h2 h3 h4 h5 kp => ⟨rfl, q x dx fs H' (fun b o e => kp b o ?_ (ne_of_none e hx)) hx h1 h2 h3 h4 h5⟩⟩
  rw [upd_ne (ne_of_none e hx), upd_ne (ne_of_none e hdx)]
  exact e
theorem sc_read_look : FnScope ["found"] ["found"] (defScope s_read_look) := ⟨rfl, rfl, rfl, by decide +kernel, rfl, by decide +kernel, by decide +kernel⟩
theorem ok_read_look (F : Fun K "read_look" "read_look" s_read_look f fd) (c_check_two_names : Cal P w K mg base "check_two_names" 3 ["found"] spTwo) (Ts : LTxt K c.same) (Tu : LTxt K c.unlike)
    (c_Same : Mak P w K mg base "Same" c.same 1 ["self", "left", "right"] (spLInit K)) (c_Unlike : Mak P w K mg base "Unlike" c.unlike 1 ["self", "left", "right"] (spLInit K)) : FnOk P w K mg base CX0 4 f fd ["found"] (spLook c) := by
  refine F.ok sc_read_look (fun vs H Q E h => ?_) (fun cdv A outer s H vs Q E hr h => ?_)
  · obtain ⟨l, k, rfl, _⟩ := h
    rfl
  obtain ⟨l, ⟨sm, a, b⟩, rfl, hL, ha, hb, q⟩ := h
  have hL' : H l = some (.lst [tx a, tx (if sm = true then kwSame else kwUnlike), tx b]) := hL
  refine ⟨_, (pss_cons (ps_expr (pe_callC c_check_two_names (hr.mono (by decide)) rfl (pa_cons (pv 0) pa_nil)))
  (pss_cons (ps_if (pt_cmpR op_eq (pe_ix ix_list (pv 0) pe_int (fun _ _ => rfl)) pe_str (nomark _))
  (pss_one (ps_ret (pe_makeC c_Same (hr.mono (by decide)) rfl (pa_cons (pe_ix ix_list (pv 0) pe_int (fun _ _ => rfl)) (pa_cons (pe_ix ix_list (pv 0) pe_int (fun _ _ => rfl)) pa_nil)))))
  pss_nil)
  (pss_cons (ps_if (pt_cmpR op_eq (pe_ix ix_list (pv 0) pe_int (fun _ _ => rfl)) pe_str (nomark _))
  (pss_one (ps_ret (pe_makeC c_Unlike (hr.mono (by decide)) rfl (pa_cons (pe_ix ix_list (pv 0) pe_int (fun _ _ => rfl)) (pa_cons (pe_ix ix_list (pv 0) pe_int (fun _ _ => rfl)) pa_nil)))))
  pss_nil)
  (pss_one ps_never)))), ?_⟩
  refine ⟨_, rfl, l, a, _, b, rfl, hL', ha, hb, fun H1 s1 => ?_⟩
  have hL1 := s1 _ _ hL'
  refine ⟨_, rfl, l, _, 1, _, rfl, rfl, SqL.of hL1, rfl, rfl, _, rfl, ?_⟩
  cases sm with
  | true =>
    have e : decide (tx (if true = true then kwSame else kwUnlike) = V.str (Str.ofString "same")) = true := by decide +kernel
    rw [e]
    refine iteT ⟨_, rfl, l, _, 0, _, rfl, rfl, SqL.of hL1, rfl, _, rfl, l, _, 2, _, rfl, rfl, SqL.of hL1, rfl, made_look Ts fun x dx fs H' s' hx h1 h2 h3 h4 h5 => ?_⟩
    exact q _ _ (Same.trans s1 s') ⟨x, dx, fs, rfl, s1.free hx, h1, h2, h3, h4, h5⟩
  | false =>
    have e : decide (tx (if false = true then kwSame else kwUnlike) = V.str (Str.ofString "same")) = false := by decide +kernel
    have e2 : decide (tx (if false = true then kwSame else kwUnlike) = V.str (Str.ofString "unlike")) = true := by decide +kernel
    rw [e]
    refine iteF ⟨_, rfl, l, _, 1, _, rfl, rfl, SqL.of hL1, rfl, rfl, _, rfl, ?_⟩
    rw [e2]
    refine iteT ⟨_, rfl, l, _, 0, _, rfl, rfl, SqL.of hL1, rfl, _, rfl, l, _, 2, _, rfl, rfl, SqL.of hL1, rfl, made_look Tu fun x dx fs H' s' hx h1 h2 h3 h4 h5 => ?_⟩
    exact q _ _ (Same.trans s1 s') ⟨x, dx, fs, rfl, s1.free hx, h1, h2, h3, h4, h5⟩
theorem sc_read_pair : FnScope ["found"] ["found"] (defScope s_read_pair) := ⟨rfl, rfl, rfl, by decide +kernel, rfl, by decide +kernel, by decide +kernel⟩
theorem ok_read_pair (F : Fun K "read_pair" "read_pair" s_read_pair f fd) (c_check_two_names : Cal P w K mg base "check_two_names" 3 ["found"] spTwo) : FnOk P w K mg base CX0 4 f fd ["found"] (spPair K) := by
  refine F.ok sc_read_pair (fun vs H Q E h => ?_) (fun cdv A outer s H vs Q E hr h => ?_)
  · obtain ⟨l, k, rfl, _⟩ := h
    rfl
  obtain ⟨l, ⟨a, b⟩, rfl, hL, ha, hb, q⟩ := h
  have hL' : H l = some (.lst [tx a, tx [61], tx b]) := hL
  refine ⟨_, (pss_cons (ps_expr (pe_callC c_check_two_names (hr.mono (by decide)) rfl (pa_cons (pv 0) pa_nil)))
  (pss_cons (ps_if (pt_cmpR op_ne (pe_ix ix_list (pv 0) pe_int (fun _ _ => rfl)) pe_str (nomark _))
  pss_never
  pss_nil)
  (pss_one (ps_ret (pe_tup (pa_cons (pe_ix ix_list (pv 0) pe_int (fun _ _ => rfl)) (pa_cons (pe_ix ix_list (pv 0) pe_int (fun _ _ => rfl)) pa_nil))))))), ?_⟩
  refine ⟨_, rfl, l, a, _, b, rfl, hL', ha, hb, fun H1 s1 => ?_⟩
  have hL1 := s1 _ _ hL'
  refine ⟨_, rfl, l, _, 1, _, rfl, rfl, SqL.of hL1, rfl, rfl, _, rfl, ?_⟩
  have e : decide (tx [61] = V.str (Str.ofString "=")) = true := by decide +kernel
  rw [e]
  refine iteF ⟨_, rfl, l, _, 0, _, rfl, rfl, SqL.of hL1, rfl, _, rfl, l, _, 2, _, rfl, rfl, SqL.of hL1, rfl, (by show 2 ≤ sizeLine; decide), fun t ht => ?_⟩
  exact q _ _ (Same.trans s1 (same_new ht _)) ⟨t, rfl, SqT.of upd_same⟩
theorem look_no44 {ks : List Lk} (h : ∀ k ∈ ks, nameC k.l = true ∧ nameC k.r = true) : ∀ q ∈ ks.map lookP, ([44] : Cs) ∉ q := by
  intro q hq hm
  obtain ⟨k, hk, rfl⟩ := List.mem_map.mp hq
  have hn := h k hk
  unfold lookP at hm
  rcases List.mem_cons.mp hm with e | hm
  · exact name_ne44 hn.1 e.symm
  rcases List.mem_cons.mp hm with e | hm
  · revert e; cases k.same <;> decide
  · exact name_ne44 hn.2 (List.mem_singleton.mp hm).symm
theorem pair_no44 {ks : List (Cs × Cs)} (h : ∀ k ∈ ks, nameC k.1 = true ∧ nameC k.2 = true) : ∀ q ∈ ks.map pairP, ([44] : Cs) ∉ q := by
  intro q hq hm
  obtain ⟨k, hk, rfl⟩ := List.mem_map.mp hq
  have hn := h k hk
  unfold pairP at hm
  rcases List.mem_cons.mp hm with e | hm
  · exact name_ne44 hn.1 e.symm
  rcases List.mem_cons.mp hm with e | hm
  · revert e; decide
  · exact name_ne44 hn.2 (List.mem_singleton.mp hm).symm
theorem e_comma : (Str.ofString ",") = S [44] := by decide +kernel
theorem e_semi : (Str.ofString ";") = S [59] := by decide +kernel
theorem sc_read_looks : FnScope ["found"] ["found"] (defScope s_read_looks) := ⟨rfl, rfl, rfl, by decide +kernel, rfl, by decide +kernel, by decide +kernel⟩
theorem ok_read_looks (F : Fun K "read_looks" "read_looks" s_read_looks f fd) (c_parted : Cal P w K mg base "parted" 1 ["found", "mark"] spParted) (c_read_look : Cal P w K mg base "read_look" 4 ["found"] (spLook c)) : FnOk P w K mg base CX0 5 f fd ["found"] (spLooks c) := by
  refine F.ok sc_read_looks (fun vs H Q E h => ?_) (fun cdv A outer s H vs Q E hr h => ?_)
  · obtain ⟨l, k, rfl, _⟩ := h
    rfl
  obtain ⟨l, ks, rfl, hL, h0, hz, hn, q⟩ := h
  refine ⟨_, (pss_one (ps_ret (pe_comp [] rfl (by kernel_rfl) (pi_list (pe_callC c_parted (hr.mono (by decide)) rfl (pa_cons (pv 0) (pa_cons pe_str pa_nil)))) (fun _ _ _ _ _ => pts_nil) (fun _ _ _ _ _ => (pe_callC c_read_look (hr.mono (by decide)) rfl (pa_cons (pv 0) pa_nil)))))), ?_⟩
  refine ⟨_, rfl, l, _, [44], by rw [e_comma]; rfl, hL, ?_, fun v H1 s1 R => ?_⟩
  · have z := glue_len (m := [44]) (ks.map lookP) 3 (by intro q hq; obtain ⟨k, _, rfl⟩ := List.mem_map.mp hq; exact Nat.le_refl _)
    rw [List.length_map] at z
    omega
  have e := partedA_glue (m := [44]) (ks.map lookP) [] (by simpa using h0) (look_no44 hn)
  rw [List.nil_append] at e
  rw [e, List.nil_append] at R
  obtain ⟨lr, vs, rfl, hlr, hR, pr⟩ := R
  have hlen := Paired.length pr
  rw [List.length_map] at hlen
  refine ⟨lr, rfl, ⟨_, SqL.of hR⟩, fun D hD => ?_⟩
  refine comp_rel (K := K) (xs := vs) ks (fun H0 H b y => LookO c H0 H b y) (fun _ _ _ _ _ k h => h.keep k) (fun _ _ _ _ _ d h => h.older d) (szl (by omega)) hD (SqL.of hR) hlen (fun i x k H' R hx hk sm hQ => ?_) (fun H' ys sm hL' po => ?_)
  · have hi : i < vs.length := (List.getElem?_eq_some_iff.mp hx).1
    have hik : i < ks.length := (List.getElem?_eq_some_iff.mp hk).1
    have ex : vs[i] = x := (List.getElem?_eq_some_iff.mp hx).2
    have ek : ks[i] = k := (List.getElem?_eq_some_iff.mp hk).2
    obtain ⟨b, eb, hb, hrow⟩ := paired_at pr i (by rw [List.length_map]; exact hik) hi
    rw [List.getElem_map, ek] at hrow
    rw [ex] at eb
    subst eb
    have hm := hn k (by rw [← ek]; exact List.getElem_mem hik)
    exact ⟨_, rfl, b, k, rfl, sm _ _ hrow, hm.1, hm.2, fun v H'' s2 ho => hQ v H'' s2 ho⟩
  · refine q _ _ (Same.trans s1 sm) ⟨D, ys, rfl, s1.free hD, hL', L2.Paired.mapP po fun b y z => z.older fun _ h => s1.free h⟩
theorem sc_read_pairs : FnScope ["found"] ["found"] (defScope s_read_pairs) := ⟨rfl, rfl, rfl, by decide +kernel, rfl, by decide +kernel, by decide +kernel⟩
theorem ok_read_pairs (F : Fun K "read_pairs" "read_pairs" s_read_pairs f fd) (c_parted : Cal P w K mg base "parted" 1 ["found", "mark"] spParted) (c_read_pair : Cal P w K mg base "read_pair" 4 ["found"] (spPair K)) : FnOk P w K mg base CX0 5 f fd ["found"] (spPairs K) := by
  refine F.ok sc_read_pairs (fun vs H Q E h => ?_) (fun cdv A outer s H vs Q E hr h => ?_)
  · obtain ⟨l, k, rfl, _⟩ := h
    rfl
  obtain ⟨l, ks, rfl, hL, h0, hz, hn, q⟩ := h
  refine ⟨_, (pss_one (ps_ret (pe_comp [] rfl (by kernel_rfl) (pi_list (pe_callC c_parted (hr.mono (by decide)) rfl (pa_cons (pv 0) (pa_cons pe_str pa_nil)))) (fun _ _ _ _ _ => pts_nil) (fun _ _ _ _ _ => (pe_callC c_read_pair (hr.mono (by decide)) rfl (pa_cons (pv 0) pa_nil)))))), ?_⟩
  refine ⟨_, rfl, l, _, [44], by rw [e_comma]; rfl, hL, ?_, fun v H1 s1 R => ?_⟩
  · have z := glue_len (m := [44]) (ks.map pairP) 3 (by intro q hq; obtain ⟨k, _, rfl⟩ := List.mem_map.mp hq; exact Nat.le_refl _)
    rw [List.length_map] at z
    omega
  have e := partedA_glue (m := [44]) (ks.map pairP) [] (by simpa using h0) (pair_no44 hn)
  rw [List.nil_append] at e
  rw [e, List.nil_append] at R
  obtain ⟨lr, vs, rfl, hlr, hR, pr⟩ := R
  have hlen := Paired.length pr
  rw [List.length_map] at hlen
  refine ⟨lr, rfl, ⟨_, SqL.of hR⟩, fun D hD => ?_⟩
  refine comp_rel (K := K) (xs := vs) ks (fun _ H b y => Pair K H b y) (fun _ _ _ _ _ k h => h.keep k) (fun _ _ _ _ _ _ h => h) (szl (by omega)) hD (SqL.of hR) hlen (fun i x k H' R hx hk sm hQ => ?_) (fun H' ys sm hL' po => ?_)
  · have hi : i < vs.length := (List.getElem?_eq_some_iff.mp hx).1
    have hik : i < ks.length := (List.getElem?_eq_some_iff.mp hk).1
    have ex : vs[i] = x := (List.getElem?_eq_some_iff.mp hx).2
    have ek : ks[i] = k := (List.getElem?_eq_some_iff.mp hk).2
    obtain ⟨b, eb, hb, hrow⟩ := paired_at pr i (by rw [List.length_map]; exact hik) hi
    rw [List.getElem_map, ek] at hrow
    rw [ex] at eb
    subst eb
    have hm := hn k (by rw [← ek]; exact List.getElem_mem hik)
    exact ⟨_, rfl, b, k, rfl, sm _ _ hrow, hm.1, hm.2, fun v H'' s2 ho => hQ v H'' s2 ho⟩
  · exact q _ _ (Same.trans s1 sm) ⟨D, ys, rfl, s1.free hD, hL', po⟩
theorem sc_read_part : FnScope ["word", "found"] ["word", "found"] (defScope s_read_part) := ⟨rfl, rfl, rfl, by decide +kernel, rfl, by decide +kernel, by decide +kernel⟩
theorem ok_read_part (F : Fun K "read_part" "read_part" s_read_part f fd) (c_read_looks : Cal P w K mg base "read_looks" 5 ["found"] (spLooks c)) (c_read_pairs : Cal P w K mg base "read_pairs" 5 ["found"] (spPairs K)) (c_row_of_facts : Cal P w K mg base "row_of_facts" 5 ["found"] (spRow K)) :
    FnOk P w K mg base CX0 6 f fd ["word", "found"] (spPart K c) := by
  refine F.ok sc_read_part (fun vs H Q E h => ?_) (fun cdv A outer s H vs Q E hr h => ?_)
  · obtain ⟨l, n, ps, p, rfl, _⟩ := h
    rfl
  obtain ⟨l, n, ps, p, rfl, hL, hz, hP, q⟩ := h
  refine ⟨_, (pss_cons (ps_if (pt_cmpR op_eq (pv 0) pe_str (nomark _))
  (pss_one (ps_ret (pe_callC c_read_looks (hr.mono (by decide)) rfl (pa_cons (pv 1) pa_nil))))
  pss_nil)
  (pss_cons (ps_if (pt_cmpR op_eq (pv 0) pe_str (nomark _))
  (pss_one (ps_ret (pe_callC c_read_pairs (hr.mono (by decide)) rfl (pa_cons (pv 1) pa_nil))))
  pss_nil)
  (pss_one (ps_ret (pe_callC c_row_of_facts (hr.mono (by decide)) rfl (pa_cons (pv 1) pa_nil)))))), ?_⟩
  refine ⟨_, rfl, rfl, _, rfl, ?_⟩
  cases hP with
  | lk h0 hl h =>
    have e : decide (tx (wordAt 2) = V.str (Str.ofString "look")) = true := by decide +kernel
    rw [e]
    exact iteT ⟨_, rfl, l, _, rfl, hL, h0, hl, h, fun v H' s' ho => q v H' s' ho⟩
  | pr h0 hl h =>
    have e : decide (tx (wordAt 4) = V.str (Str.ofString "look")) = false := by decide +kernel
    have e2 : decide (tx (wordAt 4) = V.str (Str.ofString "tell")) = true := by decide +kernel
    rw [e]
    refine iteF ⟨_, rfl, rfl, _, rfl, ?_⟩
    rw [e2]
    exact iteT ⟨_, rfl, l, _, rfl, hL, h0, hl, h, fun v H' s' ho => q v H' s' ho⟩
  | fs hn h =>
    have e : decide (tx (wordAt n) = V.str (Str.ofString "look")) = false := by rcases hn with e | e | e <;> subst e <;> decide +kernel
    have e2 : decide (tx (wordAt n) = V.str (Str.ofString "tell")) = false := by rcases hn with e | e | e <;> subst e <;> decide +kernel
    rw [e]
    refine iteF ⟨_, rfl, rfl, _, rfl, ?_⟩
    rw [e2]
    exact iteF ⟨_, rfl, l, _, _, rfl, hL, hz, h, fun v H' s' ho => q v H' s' ho⟩
end
end K32
namespace K32
open PySem L2 K02 Bk
set_option maxHeartbeats 4000000
section
variable {P : Program} {w : World} {K : PySem.W.Frag} {mg : Str → Option Value} {base : Heap} {f : Addr} {fd : FuncData} {c : Cl}
abbrev pwords : List V := [tx kwTake, tx kwKeep, tx kwLook, tx kwPut, tx kwTell]
theorem cut_from {n : Nat} (hn : n ≤ 5) : cutV pwords (some (n : Int)) none = pwords.drop n := by
  rcases (by omega : n = 0 ∨ n = 1 ∨ n = 2 ∨ n = 3 ∨ n = 4 ∨ n = 5) with e | e | e | e | e | e <;> subst e <;> rfl
theorem in_from {m n : Nat} (h : m ≤ n) (hn : n < 5) : inV (tx (wordAt n)) (pwords.drop m) = true := by
  rcases (by omega : n = 0 ∨ n = 1 ∨ n = 2 ∨ n = 3 ∨ n = 4) with e | e | e | e | e <;> subst e <;>
  rcases (by omega : m = 0 ∨ m = 1 ∨ m = 2 ∨ m = 3 ∨ m = 4) with e | e | e | e | e <;> subst e <;> first | omega | decide +kernel
theorem words_flat (m : Nat) : (pwords.drop m).all flatV = true := by
  rw [List.all_eq_true]
  intro x hx
  have hx' := List.mem_of_mem_drop hx
  rcases List.mem_cons.mp hx' with e | hx'
  · rw [e]; rfl
  rcases List.mem_cons.mp hx' with e | hx'
  · rw [e]; rfl
  rcases List.mem_cons.mp hx' with e | hx'
  · rw [e]; rfl
  rcases List.mem_cons.mp hx' with e | hx'
  · rw [e]; rfl
  · rw [List.mem_singleton.mp hx']; rfl
theorem word_place {n : Nat} (hn : n < 5) : (∃ z, pwords[n]? = some z ∧ eqV z (tx (wordAt n)) = true) ∧ ∀ m z, m < n → pwords[m]? = some z → eqV z (tx (wordAt n)) = false := by
  rcases (by omega : n = 0 ∨ n = 1 ∨ n = 2 ∨ n = 3 ∨ n = 4) with e | e | e | e | e <;> subst e <;> refine ⟨⟨_, rfl, by decide +kernel⟩, fun m z hm hz => ?_⟩
  · omega
  all_goals
    rcases (by omega : m = 0 ∨ m = 1 ∨ m = 2 ∨ m = 3) with e | e | e | e <;> subst e <;> first | omega | (cases hz; decide +kernel)
theorem sc_read_rule : FnScope ["found", "title", "parts", "earliest", "piece", "word"] ["found"] (defScope s_read_rule) := ⟨rfl, rfl, rfl, by decide +kernel, rfl, by decide +kernel, by decide +kernel⟩
theorem ok_read_rule {aPW : Addr} {u1 : Value} (F : Fun K "read_rule" "read_rule" s_read_rule f fd) (c_piece_at : Cal P w K mg base "piece_at" 1 ["found", "place"] spPiece) (c_is_small_word : Cal P w K mg base "is_small_word" 3 ["text"] (spBl smallB)) (c_parted : Cal P w K mg base "parted" 1 ["found", "mark"] spParted)
    (c_read_part : Cal P w K mg base "read_part" 6 ["word", "found"] (spPart K c)) (m_RULE_WORD : mg "RULE_WORD" = some u1) (r_RULE_WORD : RelV (tx kwRule) u1) (m_PART_WORDS : mg "PART_WORDS" = some (.ref aPW)) (k_PART_WORDS : ∀ H, SqT K H aPW pwords) (o_PART_WORDS : ∃ o, K.lookup aPW = some o ∧ o.cls = .type "tuple" ∧ o.dict = none) :
    FnOk P w K mg base CX0 7 f fd ["found"] (spRule K c) := by
  have r_PART_WORDS : RelV (.ref aPW) (.ref aPW) := rfl
  refine F.ok sc_read_rule (fun vs H Q E h => ?_) (fun cdv A outer s H vs Q E hr h => ?_)
  · obtain ⟨l, title, L, rfl, _⟩ := h
    rfl
  obtain ⟨l, title, L, rfl, hL, hz, R, q⟩ := h
  have hu := hu_of hr
  refine ⟨_, (pss_cons (ps_set (i := 1) sc_read_rule.nd rfl (Or.inl rfl) (pe_callC c_piece_at (hr.mono (by decide)) rfl (pa_cons (pv 0) (pa_cons pe_int pa_nil))))
  (pss_cons (ps_if (PW.pt (pw_or (pt_cmpR op_ne (pe_callC c_piece_at (hr.mono (by decide)) rfl (pa_cons (pv 0) (pa_cons pe_int pa_nil))) (pe_glob rfl m_RULE_WORD r_RULE_WORD) (nomark _)) (pw_or (pt_not (pt_val (pe_callC c_is_small_word (hr.mono (by decide)) rfl (pa_cons (pv 1) pa_nil)))) (pw_or1 (pt_cmpR op_ne (pe_callC c_piece_at (hr.mono (by decide)) rfl (pa_cons (pv 0) (pa_cons pe_int pa_nil))) pe_str (nomark _))))))
  pss_never
  pss_nil)
  (pss_cons (ps_set (i := 2) sc_read_rule.nd rfl (Or.inl rfl) pe_dnewK)
  (pss_cons (ps_set (i := 3) sc_read_rule.nd rfl (Or.inl rfl) pe_int)
  (pss_cons (ps_for PassesOwn.never rfl (pi_list (pe_callC c_parted (hr.mono (by decide)) rfl (pa_cons (pe_slice sl_list (pv 0) (po_some pe_int) po_none) (pa_cons pe_str pa_nil)))) (pg_name (i := 4) sc_read_rule.nd rfl (Or.inl rfl))
  (pss_cons (ps_set (i := 5) sc_read_rule.nd rfl (Or.inl rfl) (pe_callC c_piece_at (hr.mono (by decide)) rfl (pa_cons (pv 4) (pa_cons pe_int pa_nil))))
  (pss_cons (ps_if (pt_cmpR op_notIn_seq (pv 5) (pe_slice sl_tupA (pe_glob rfl m_PART_WORDS r_PART_WORDS) (po_some (pv 3)) po_none) (by with_unfolding_all rfl))
  pss_never
  pss_nil)
  (pss_cons (ps_set (i := 3) sc_read_rule.nd rfl (Or.inl rfl) (pe_op op_add (pe_bm PySem.F.plainAttrs_tuple PySem.F.slot_tuple_index PySem.F.type_tuple_index mt_index (pe_glob rfl m_PART_WORDS r_PART_WORDS) (pa_cons (pv 5) pa_nil)) pe_int))
  (pss_one (ps_dput hu (pv 2) (pv 5) (pe_callC c_read_part (hr.mono (by decide)) rfl (pa_cons (pv 5) (pa_cons (pe_slice sl_list (pv 4) (po_some pe_int) po_none) pa_nil))) rfl))))))
  (pss_cons (ps_if (PW.pt (pw_and (pt_cmp (pc_dnotin hu pe_str (pv 2))) (pw_and1 (pt_cmp (pc_dnotin hu pe_str (pv 2))))))
  pss_never
  pss_nil)
  (pss_one (ps_ret (pe_tup (pa_cons (pv 1) (pa_cons (pv 2) pa_nil))))))))))), ?_⟩
  refine ⟨_, rfl, l, _, 1, rfl, hL, hz, ?_⟩
  have htl := smallC_len R.tt
  refine ⟨_, rfl, l, _, 0, rfl, hL, hz, rfl, _, rfl, ?_⟩
  have e0 : decide (tx ((rulePs title L).getD 0 []) = tx kwRule) = true := decide_eq_true rfl
  rw [e0]
  refine iteF ⟨_, rfl, S title, rfl, by rw [S_len]; omega, fun H1 s1 => ⟨_, rfl, ?_⟩⟩
  rw [smallB_S, R.tt]
  have hL1 := s1 _ _ hL
  refine iteF ⟨_, rfl, l, _, 2, rfl, hL1, hz, rfl, _, rfl, ?_⟩
  have e2 : decide (tx ((rulePs title L).getD 2 []) = V.str (Str.ofString ":")) = true := by
    show decide (tx [58] = V.str (Str.ofString ":")) = true
    decide +kernel
  rw [e2]
  refine iteF ?_
  intro d hd
  have hdH : H d = none := s1.free hd
  have s2 : Same H (upd H1 d (.dK [])) := Same.upd_new s1 hdH _
  refine ⟨_, rfl, _, rfl, l, _, rfl, .inl (.inl (s2 _ _ hL)), fun l2 hl2 => ?_⟩
  have ecut : cutV ((rulePs title L).map tx) (some (3 : Int)) none = (glue [59] (L.map fun x => wordAt x.n :: x.ps)).map tx := cut_drop (k := 3) (by rw [List.length_map]; show 3 ≤ (glue [59] (L.map fun x => wordAt x.n :: x.ps)).length + 3; omega)
  rw [ecut]
  have hgl : (glue [59] (L.map fun x => wordAt x.n :: x.ps)).length ≤ 20000 := by
    have z : (rulePs title L).length = (glue [59] (L.map fun x => wordAt x.n :: x.ps)).length + 3 := rfl
    omega
  have hl2H : H l2 = none := s2.free hl2
  have s3 : Same H (upd (upd H1 d (.dK [])) l2 (.lst ((glue [59] (L.map fun x => wordAt x.n :: x.ps)).map tx))) := Same.upd_new s2 hl2H _
  have nd2 : d ≠ l2 := fun z => by rw [← z, upd_same] at hl2; cases hl2
  refine ⟨l2, _, [59], by rw [e_semi]; rfl, upd_same, hgl, fun v H2 s4 RW => ?_⟩
  have no59 : ∀ q ∈ L.map (fun x => wordAt x.n :: x.ps), ([59] : Cs) ∉ q := by
    intro q hq hm
    obtain ⟨x, hx, rfl⟩ := List.mem_map.mp hq
    rcases List.mem_cons.mp hm with e | hm
    · have hx5 := (inc_lt R.inc x hx).2
      revert e
      rcases (by omega : x.n = 0 ∨ x.n = 1 ∨ x.n = 2 ∨ x.n = 3 ∨ x.n = 4) with e | e | e | e | e <;> rw [e] <;> decide
    · exact R.no x hx hm
  have eP := partedA_glue (m := [59]) (L.map fun x => wordAt x.n :: x.ps) [] (by simpa using R.ne) no59
  rw [List.nil_append] at eP
  rw [eP, List.nil_append] at RW
  obtain ⟨lr, rows, rfl, hlr, hR, pr⟩ := RW
  have hrl := Paired.length pr
  rw [List.length_map] at hrl
  have hd2 : H2 d = some (.dK []) := s4 _ _ (by rw [upd_ne nd2]; exact upd_same)
  have s24 : Same H H2 := Same.trans s3 s4
  have hLlen : L.length ≤ 5 := inc_len R.inc (by omega)
  refine ⟨lr, rfl, ⟨_, SqL.of hR⟩, for_list (K := K) (a := lr) (xs := rows) (fun i σ H' => ∃ (kvs : List (Key × V)) (m : Nat) (o4 o5 : Option V), σ = [some (.ref l), some (tx title), some (.ref d), some (.int m), o4, o5] ∧ m ≤ 5 ∧ (∀ x ∈ L.drop i, m ≤ x.n) ∧
      (∀ b o, b ≠ d → H2 b = some o → H' b = some o) ∧ (∀ b, H' b = none → H2 b = none) ∧ H' d = some (.dK kvs) ∧ PartsAt K c (upd H1 d (.dK [])) H' (L.take i) kvs)
    ⟨[], 0, none, none, rfl, by omega, fun _ _ => Nat.zero_le _, fun _ _ _ h => h, fun _ h => h, hd2, .nil⟩ (fun i σ H' _ ⟨_, _, _, _, _, _, _, k1, _⟩ => SqL.of (k1 _ _ (ne_of hR hd2 (by intro z; cases z)) hR)) ?_ ?_⟩
  · rintro i y σ H' hi ⟨kvs, m, o4, o5, rfl, hm5, hmx, k1, k2, hdk, pa⟩
    have hir : i < rows.length := (List.getElem?_eq_some_iff.mp hi).1
    have hiL : i < L.length := by omega
    have ey : rows[i] = y := (List.getElem?_eq_some_iff.mp hi).2
    obtain ⟨b, eb, hb0, hbr⟩ := paired_at pr i (by rw [List.length_map]; exact hiL) hir
    rw [List.getElem_map] at hbr
    rw [ey] at eb
    subst eb
    have hxm : L[i] ∈ L := List.getElem_mem hiL
    generalize hx : L[i] = x at hbr hxm
    have hx5 := (inc_lt R.inc x hxm).2
    have hmn : m ≤ x.n := hmx x (by rw [← hx]; exact List.mem_of_getElem? (by rw [List.getElem?_drop, Nat.add_zero]; exact List.getElem?_eq_getElem hiL))
    have hbd : b ≠ d := ne_of hbr hd2 (by intro z; cases z)
    have hb' := k1 _ _ hbd hbr
    have hxl : (wordAt x.n :: x.ps).length ≤ 20000 := by
      have z := glue_mem (m := [59]) (L.map fun x => wordAt x.n :: x.ps) (wordAt x.n :: x.ps) (List.mem_map.mpr ⟨x, hxm, rfl⟩)
      omega
    refine ⟨_, rfl, b, _, 0, rfl, hb', hxl, ?_⟩
    refine ⟨_, rfl, _, rfl, _, rfl, aPW, _, rfl, k_PART_WORDS _, fun p H3 s3' hp => ?_⟩
    rw [cut_from hm5] at hp
    refine ⟨p, _, rfl, .inr hp, rfl, words_flat m, _, rfl, ?_⟩
    have ein : (if true = true then !inV (tx ((wordAt x.n :: x.ps).getD 0 [])) (pwords.drop m) else inV (tx ((wordAt x.n :: x.ps).getD 0 [])) (pwords.drop m)) = false := by
      rw [if_pos rfl]
      show (!inV (tx (wordAt x.n)) (pwords.drop m)) = false
      rw [in_from hmn hx5]
      rfl
    rw [ein]
    refine iteF ?_
    obtain ⟨wp1, wp2⟩ := word_place hx5
    refine ⟨.inr (.inl ⟨rfl, o_PART_WORDS⟩), _, rfl, aPW, pwords, _, x.n, rfl, rfl, k_PART_WORDS _, rfl, words_flat 0, wp1, wp2, _, _, rfl, rfl, ?_⟩
    have hb3 := s3' _ _ hb'
    refine ⟨_, rfl, _, rfl, _, rfl, b, _, rfl, .inl (.inl hb3), fun l3 hl3 => ?_⟩
    have ec : cutV ((wordAt x.n :: x.ps).map tx) (some (1 : Int)) none = x.ps.map tx := cut_drop (k := 1) (by rw [List.length_map, List.length_cons]; omega)
    rw [ec]
    have hd3 : H3 d = some (.dK kvs) := s3' _ _ hdk
    have nd3 : d ≠ l3 := ne_of_none hd3 hl3
    refine ⟨l3, x.n, x.ps, x.p, rfl, upd_same, by rw [List.length_cons] at hxl; omega, R.ok x hxm, fun v H5 s5 hpa => ?_⟩
    have s35 : Same H3 H5 := Same.trans (same_new hl3 _) s5
    have hd5 : H5 d = some (.dK kvs) := s35 _ _ hd3
    have hkl : kvs.length ≤ 5 := by
      have z := Paired.length pa
      rw [List.length_take] at z
      omega
    have hnew : valV kvs (Sum.inr (S (wordAt x.n)) : Key) = none := valV_none fun kv hkv e => by
      obtain ⟨z, hz, hz2⟩ := paired_mem pa hkv
      rw [hz2.1] at e
      have e2 : wordAt z.n = wordAt x.n := S_inj (Sum.inr.inj e)
      have ia := inc_at R.inc i hiL
      rw [hx] at ia
      have hlt := ia.1 z hz
      have := wordAt_inj (by omega) hx5 e2
      omega
    have kp : Kp (upd H1 d (.dK [])) H5 (upd H5 d (.dK (kvs ++ [(Sum.inr (S (wordAt x.n)), v)]))) := Kp.upd upd_same hd5 (by intro xs z; cases z) (by intro o u z; cases z)
    have k25 : ∀ b, H5 b = none → H2 b = none := fun b h => k2 b (Same.free (Same.trans s3' s35) h)
    refine ⟨_, rfl, _, rfl, d, _, rfl, DPut.k (k := (Sum.inr (S (wordAt x.n)) : Key)) hd5 (szl (by omega)), ?_⟩
    rw [putK_new _ hnew]
    refine ⟨kvs ++ [(Sum.inr (S (wordAt x.n)), v)], x.n + 1, _, _, rfl, by omega, fun z hz => ?_, fun b' o hb hH => ?_, fun b' h => k25 b' (kp.dom b' h), upd_same, ?_⟩
    · have z2 := inc_after R.inc i hiL z hz
      rw [hx] at z2
      omega
    · rw [upd_ne hb]
      exact s35 _ _ (s3' _ _ (k1 _ _ hb hH))
    · rw [List.take_succ_eq_append_getElem hiL, hx]
      refine ((PartsAt.keep (Kp.same (Same.trans s3' s35)) pa).keep kp).snoc ⟨rfl, ?_⟩
      refine PartAt.keep kp (PartAt.older (fun b h => ?_) hpa)
      have h3 : H3 b = none := (same_new hl3 _).free h
      exact (Same.trans (same_new hl2 _) s4).free (k2 b (s3'.free h3))
  · rintro σ H' ⟨kvs, m, o4, o5, rfl, hm5, hmx, k1, k2, hdk, pa⟩
    have hrr : rows.length = L.length := hrl.symm
    rw [hrr, List.take_length] at pa
    have sH : Same H H' := fun b o e => k1 b o (ne_of_none e hdH) (s24 b o e)
    have fin : ∀ t, H' t = none → Q (.ref t) (upd H' t (.tup [tx title, .ref d])) := fun t ht => by
      have ntd : d ≠ t := ne_of_none hdk ht
      refine q t d kvs _ (Same.trans sH (same_new ht _)) upd_same hdH (by rw [upd_ne ntd]; exact hdk) ?_
      exact L2.Paired.mapP pa fun x kv z => ⟨z.1, PartAt.older (fun b h => Same.free (Same.upd_new s1 hdH _) h) (z.2.keep (Kp.same (same_new ht _)))⟩
    refine ⟨_, rfl, d, _, rfl, DGet.k (k := (Sum.inr (Str.ofString "take") : Key)) hdk, _, rfl, ?_⟩
    obtain ⟨x, hxm, hx01⟩ := R.hd
    have hhas := parts_has pa hxm
    rcases hx01 with e | e
    · rw [e] at hhas
      have e2 : (S (wordAt 0)) = Str.ofString "take" := by decide +kernel
      rw [e2] at hhas
      rw [hhas]
      exact iteF ⟨_, rfl, _, rfl, (by show 2 ≤ sizeLine; decide), fin⟩
    · rw [e] at hhas
      have e2 : (S (wordAt 1)) = Str.ofString "keep" := by decide +kernel
      rw [e2] at hhas
      have two : ∀ b : Bool, (if b = true then (∃ a o, V.ref d = .ref a ∧ DGet H' a (.str (Str.ofString "keep")) o ∧ False) else True) → True := fun _ _ => trivial
      refine ite2 (fun _ => ⟨_, rfl, d, _, rfl, DGet.k (k := (Sum.inr (Str.ofString "keep") : Key)) hdk, _, rfl, ?_⟩) (fun _ => iteF ⟨_, rfl, _, rfl, (by show 2 ≤ sizeLine; decide), fin⟩)
      rw [hhas]
      exact iteF ⟨_, rfl, _, rfl, (by show 2 ≤ sizeLine; decide), fin⟩
end
end K32
namespace K32
open PySem L2 K02 Bk
set_option maxHeartbeats 4000000
section
variable {P : Program} {w : World} {K : PySem.W.Frag} {mg : Str → Option Value} {base : Heap} {f : Addr} {fd : FuncData} {c : Cl}
theorem sc_is_great : FnScope ["name"] ["name"] (defScope s_is_great) := ⟨rfl, rfl, rfl, by decide +kernel, rfl, by decide +kernel, by decide +kernel⟩
theorem ok_is_great {u1 : Value} (F : Fun K "is_great" "is_great" s_is_great f fd) (m_GREAT : mg "GREAT" = some u1) (r_GREAT : RelV (.str aGreat) u1) : FnOk P w K mg base CX0 1 f fd ["name"] spGreat := by
  refine F.ok sc_is_great (fun vs H Q E h => ?_) (fun cdv A outer s H vs Q E hr h => ?_)
  · obtain ⟨p, rfl, _⟩ := h
    rfl
  obtain ⟨p, rfl, h1, hx, q⟩ := h
  refine ⟨_, (pss_one (ps_ret (pe_cmpR op_in_str (pe_ix ix_str (pv 0) pe_int (fun _ _ => rfl)) (pe_glob rfl m_GREAT r_GREAT) (by with_unfolding_all rfl)))), ?_⟩
  have hl : 1 ≤ (S p).length := by
    rw [S_len]
    cases p with
    | nil => exact absurd rfl h1
    | cons a r => simp
  refine ⟨_, rfl, S p, 0, _, rfl, rfl, (by rw [S_len]; exact sz (by omega)), head_at hl, _, _, rfl, rfl, ?_⟩
  rw [StrLaws.found_one, S_codes]
  exact q
theorem sc_open_names : FnScope ["facts", "found", "fact", "name"] ["facts"] (defScope s_open_names) := ⟨rfl, rfl, rfl, by decide +kernel, rfl, by decide +kernel, by decide +kernel⟩
theorem ok_open_names (F : Fun K "open_names" "open_names" s_open_names f fd) (c_is_great : Cal P w K mg base "is_great" 1 ["name"] spGreat) (m_list : mg "list" = none) : FnOk P w K mg base CX0 2 f fd ["facts"] (spOpens K) := by
  refine F.ok sc_open_names (fun vs H Q E h => ?_) (fun cdv A outer s H vs Q E hr h => ?_)
  · obtain ⟨l, us, fs, rfl, _⟩ := h
    rfl
  obtain ⟨l, us, fs, rfl, hL, hP, hz, hok, hfl, q⟩ := h
  have hu := hu_of hr
  refine ⟨_, (pss_cons (ps_set (i := 1) sc_open_names.nd rfl (Or.inl rfl) pe_dnewK)
  (pss_cons (ps_for PassesOwn.never rfl (pi_list (pv 0)) (pg_name (i := 2) sc_open_names.nd rfl (Or.inl rfl))
  (pss_one (ps_for PassesOwn.never rfl (pi_tup (pe_ix ix_tup (pv 2) pe_int (fun _ _ => rfl))) (pg_name (i := 3) sc_open_names.nd rfl (Or.inl rfl))
  (pss_one (ps_if (pt_val (pe_callC c_is_great (hr.mono (by decide)) rfl (pa_cons (pv 3) pa_nil)))
  (pss_one (ps_dput hu (pv 1) (pv 3) pe_bl rfl))
  pss_nil)))))
  (pss_one (ps_ret (pe_callTy (call_list_dict rfl) rfl m_list PyProof.Rows.Boot.«list» (pa_cons (pv 1) pa_nil)))))), ?_⟩
  intro d hd
  have hPl := Paired.length hP
  refine ⟨_, rfl, l, rfl, ⟨_, SqL.of ((same_new hd _) _ _ hL)⟩, for_list (K := K) (a := l) (xs := us) (fun i σ H' => ∃ o2 o3, σ = [some (.ref l), some (.ref d), o2, o3] ∧ Same H H' ∧ H' d = some (.dK ((onceL ((fs.take i).flatMap (·.as)) []).map entT)) ∧ (onceL ((fs.take i).flatMap (·.as)) []).length ≤ ((fs.take i).flatMap (·.as)).length)
    ⟨none, none, rfl, same_new hd _, upd_same, Nat.le_refl _⟩ (fun i σ H' _ ⟨_, _, _, sm, _⟩ => SqL.of (sm _ _ hL)) ?_ ?_⟩
  · rintro i y σ H' hi ⟨o2, o3, rfl, sm, hdk, hacc⟩
    have hiu : i < us.length := (List.getElem?_eq_some_iff.mp hi).1
    have hif : i < fs.length := by omega
    have ey : us[i] = y := (List.getElem?_eq_some_iff.mp hi).2
    obtain ⟨t, t2, et, h1, h2⟩ := paired_at hP i hif hiu
    rw [ey] at et
    subst et
    have h1' : SqT K H' t [tx fs[i].k, .ref t2] := h1.same sm
    have fok := hok fs[i] (List.getElem_mem hif)
    generalize hacc0 : onceL ((fs.take i).flatMap (·.as)) [] = acc0 at hdk hacc
    have stepE : ∀ j, onceL (((fs.take i).flatMap (·.as)) ++ (fs[i].as.take j)) [] = onceL (fs[i].as.take j) acc0 := fun j => by rw [onceL_app, hacc0]
    have hlenA : ((fs.take i).flatMap (·.as)).length + fs[i].as.length ≤ 20000 := by
      have e : fs.flatMap (·.as) = (fs.take i).flatMap (·.as) ++ (fs[i].as ++ (fs.drop (i + 1)).flatMap (·.as)) := by
        rw [← List.flatMap_cons, ← List.flatMap_append, ← List.drop_eq_getElem_cons hif, List.take_append_drop]
      have z := congrArg List.length e
      rw [List.length_append, List.length_append] at z
      omega
    refine ⟨_, rfl, t, _, 1, _, rfl, rfl, h1', rfl, t2, rfl, ⟨_, h2.same sm⟩, for_tup (K := K) (a := t2) (xs := fs[i].as.map tx) (fun j σ H2 => ∃ o3, σ = [some (.ref l), some (.ref d), some (.ref t), o3] ∧ Same H H2 ∧ H2 d = some (.dK ((onceL (fs[i].as.take j) acc0).map entT)) ∧ (onceL (fs[i].as.take j) acc0).length ≤ acc0.length + j)
      ⟨_, rfl, sm, hdk, Nat.le_refl _⟩ (fun j σ H2 _ ⟨_, _, sm2, _⟩ => h2.same sm2) ?_ ?_⟩
    · rintro j y σ H2 hj ⟨o3', rfl, sm2, hdk2, hl2⟩
      have hja : j < fs[i].as.length := by
        have := (List.getElem?_eq_some_iff.mp hj).1
        simpa using this
      obtain rfl : y = tx fs[i].as[j] := by
        rw [List.getElem?_map, List.getElem?_eq_getElem hja] at hj
        exact (Option.some.inj hj).symm
      have hnm := nameC_len (fok.2.2 _ (List.getElem_mem hja))
      have st : onceL (fs[i].as.take (j + 1)) acc0 = onceS fs[i].as[j] (onceL (fs[i].as.take j) acc0) := by
        rw [List.take_succ_eq_append_getElem hja, onceL_app]
        rfl
      have hl3 := onceS_len fs[i].as[j] (onceL (fs[i].as.take j) acc0)
      refine ⟨_, rfl, fs[i].as[j], rfl, (fun z => by rw [z] at hnm; simp at hnm), by omega, _, rfl, ?_⟩
      refine ite2 (fun g => ?_) (fun g => ?_)
      · refine ⟨_, rfl, _, rfl, d, _, rfl, DPut.k (k := (Sum.inr (S fs[i].as[j]) : Key)) hdk2 (by rw [List.length_map]; exact szl (by omega)), ?_⟩
        rw [put_once]
        refine ⟨_, rfl, Same.upd_new sm2 hd _, ?_, ?_⟩
        · rw [upd_same, st]
          unfold onceS
          rw [if_pos g]
        · rw [st]; omega
      · refine ⟨_, rfl, sm2, ?_, ?_⟩
        · rw [st]
          unfold onceS
          rw [if_neg g]
          exact hdk2
        · rw [st]; omega
    · rintro σ H2 ⟨o3', rfl, sm2, hdk2, hl2⟩
      rw [List.length_map, List.take_length] at hdk2 hl2
      have e : onceL ((fs.take (i + 1)).flatMap (·.as)) [] = onceL fs[i].as acc0 := by
        rw [List.take_succ_eq_append_getElem hif, List.flatMap_append, onceL_app, hacc0]
        simp
      refine ⟨_, _, rfl, sm2, by rw [e]; exact hdk2, ?_⟩
      rw [e, List.take_succ_eq_append_getElem hif, List.flatMap_append, List.length_append, show ([fs[i]].flatMap (·.as)) = fs[i].as by simp]
      omega
  · rintro σ H' ⟨o2, o3, rfl, sm, hdk, hacc⟩
    rw [← hPl, List.take_length] at hdk
    refine ⟨_, rfl, d, _, rfl, hdk, fun l2 hl2 => ?_⟩
    refine q _ _ (Same.trans sm (same_new hl2 _)) ⟨l2, rfl, sm.free hl2, ?_⟩
    rw [upd_same, opens_eq, List.map_map]
    rfl
theorem sc_Rule_init : FnScope ["self", "title", "parts"] ["self", "title", "parts"] (defScope s_Rule_init) := ⟨rfl, rfl, rfl, by decide +kernel, rfl, by decide +kernel, by decide +kernel⟩
theorem ok_Rule_init (F : Fun K "__init__" "Rule.__init__" s_Rule_init f fd) (T : RTxt K c.rule) (c_open_names : Cal P w K mg base "open_names" 2 ["facts"] (spOpens K)) : FnOk P w K mg base CX0 3 f fd ["self", "title", "parts"] (spRInit K c) := by
  refine F.ok sc_Rule_init (fun vs H Q E h => ?_) (fun cdv A outer s H vs Q E hr h => ?_)
  · obtain ⟨H0, p, dx, d, title, L, kvs, u0, rfl, _⟩ := h
    rfl
  obtain ⟨H0, p, dx, d, title, L, kvs, u0, rfl, hp, h0p, dom, hd, pa, h5, hok, rok, q⟩ := h
  have hu := hu_of hr
  refine ⟨_, (pss_cons (ps_fld (pv 0) (pv 1) rfl)
  (pss_cons (ps_fld (pv 0) (pe_dget2 hu (pv 2) pe_str (pe_lst pa_nil) ⟨rfl, rfl, rfl, rfl⟩) rfl)
  (pss_cons (ps_fld (pv 0) (pe_dget2 hu (pv 2) pe_str (pe_lst pa_nil) ⟨rfl, rfl, rfl, rfl⟩) rfl)
  (pss_cons (ps_fld (pv 0) (pe_dget2 hu (pv 2) pe_str (pe_lst pa_nil) ⟨rfl, rfl, rfl, rfl⟩) rfl)
  (pss_cons (ps_fld (pv 0) (pe_dget2 hu (pv 2) pe_str (pe_lst pa_nil) ⟨rfl, rfl, rfl, rfl⟩) rfl)
  (pss_cons (ps_fld (pv 0) (pe_dget2 hu (pv 2) pe_str (pe_lst pa_nil) ⟨rfl, rfl, rfl, rfl⟩) rfl)
  (pss_one (ps_fld (pv 0) (pe_callC c_open_names (hr.mono (by decide)) rfl (pa_cons (pe_op op_cat (pe_fld (pv 0) rfl) (pe_fld (pv 0) rfl)) pa_nil)) rfl)))))))), ?_⟩
  have npd : p ≠ d := ne_of hp hd (by intro z; cases z)
  have n59 : ∀ (o : HO), (∃ fs, o = .ins c.rule dx fs) → (∀ xs, o ≠ .tup xs) ∧ ∀ ob u, o ≠ .frz ob u := fun o ⟨fs, e⟩ => ⟨(by intro xs z; rw [e] at z; cases z), (by intro ob u z; rw [e] at z; cases z)⟩
  -- title
  refine ⟨_, rfl, _, rfl, p, c.rule, dx, [], rfl, hp, T.cl, T.n1, (by show 0 < 1000; decide), ?_⟩
  have key : ∀ (H1 : Hp) (fs1 : List (Str × V)) (n : Str), H1 p = some (.ins c.rule dx fs1) → H1 d = some (.dK kvs) → PartsAt K c H0 H1 L kvs → (∀ b, H1 b = none → H0 b = none) → (∀ b o, H b = some o → b ≠ p → H1 b = some o) →
      ∀ l, H1 l = none → ∀ y : V, (upd (upd H1 l (.lst [])) p (.ins c.rule dx (putF n y fs1))) p = some (.ins c.rule dx (putF n y fs1)) ∧ (upd (upd H1 l (.lst [])) p (.ins c.rule dx (putF n y fs1))) d = some (.dK kvs) ∧
        Kp H0 H1 (upd (upd H1 l (.lst [])) p (.ins c.rule dx (putF n y fs1))) ∧ H0 l = none ∧ upd H1 l (.lst []) l = some (.lst []) ∧ upd H1 l (.lst []) d = some (.dK kvs) ∧ upd H1 l (.lst []) p = some (.ins c.rule dx fs1) ∧ PartsAt K c H0 (upd H1 l (.lst [])) L kvs ∧
        (∀ b o, H b = some o → b ≠ p → (upd (upd H1 l (.lst [])) p (.ins c.rule dx (putF n y fs1))) b = some o) ∧ Kp H0 (upd H1 l (.lst [])) (upd (upd H1 l (.lst [])) p (.ins c.rule dx (putF n y fs1))) := by
    intro H1 fs1 n h1p h1d h1pa h1dom h1k l hl y
    have s1 := same_new hl (.lst [])
    have h2p := s1 _ _ h1p
    have kp2 : Kp H0 (upd H1 l (.lst [])) (upd (upd H1 l (.lst [])) p (.ins c.rule dx (putF n y fs1))) := Kp.upd h0p h2p (n59 _ ⟨_, rfl⟩).1 (n59 _ ⟨_, rfl⟩).2
    refine ⟨upd_same, by rw [upd_ne (Ne.symm npd)]; exact s1 _ _ h1d, (Kp.same s1).trans kp2, h1dom l hl, upd_same, s1 _ _ h1d, h2p, h1pa.keep (Kp.same s1), fun b o e hb => ?_, kp2⟩
    rw [upd_ne hb]
    exact s1 _ _ (h1k b o e hb)
  have kp1 : Kp H0 H (upd H p (.ins c.rule dx (putF "title" (tx title) []))) := Kp.upd h0p hp (n59 _ ⟨_, rfl⟩).1 (n59 _ ⟨_, rfl⟩).2
  have g1p : (upd H p (.ins c.rule dx (putF "title" (tx title) []))) p = some (.ins c.rule dx (putF "title" (tx title) [])) := upd_same
  have g1d : (upd H p (.ins c.rule dx (putF "title" (tx title) []))) d = some (.dK kvs) := by rw [upd_ne (Ne.symm npd)]; exact hd
  have g1k : ∀ b o, H b = some o → b ≠ p → (upd H p (.ins c.rule dx (putF "title" (tx title) []))) b = some o := fun b o e hb => by rw [upd_ne hb]; exact e
  have g1pa := pa.keep kp1
  have g1dom : ∀ b, (upd H p (.ins c.rule dx (putF "title" (tx title) []))) b = none → H0 b = none := fun b h => dom b (kp1.dom b h)
  generalize upd H p (.ins c.rule dx (putF "title" (tx title) [])) = H1 at kp1 g1p g1d g1k g1pa g1dom ⊢
  -- taken
  refine ⟨_, rfl, d, rfl, .inl ⟨_, .inl g1d⟩, (by show 0 ≤ sizeLine; decide), fun l1 hl1 => ?_⟩
  obtain ⟨b1_1, b2_1, b3_1, b4_1, b5_1, b6_1, b7_1, b8_1, b9_1, b10_1⟩ := key H1 _ "taken" g1p g1d g1pa g1dom g1k l1 hl1 ((valV kvs (Sum.inr (Str.ofString "take") : Key)).getD (.ref l1))
  refine ⟨_, DGet.k (k := (Sum.inr (Str.ofString "take") : Key)) b6_1, _, rfl, p, c.rule, dx, _, rfl, b7_1, T.cl, T.n2, (by show 1 < 1000; decide), ?_⟩
  have v1 := (get_fs b8_1 h5 hok (n := 0) (by decide) b4_1 b5_1).keep b10_1
  rw [show S (wordAt 0) = Str.ofString "take" by decide +kernel] at v1
  have g2pa := g1pa.keep b3_1
  have g2dom : ∀ b, _ = none → H0 b = none := fun b h => g1dom b (b3_1.dom b h)
  generalize hH2 : upd (upd H1 l1 (.lst [])) p (.ins c.rule dx (putF "taken" ((valV kvs (Sum.inr (Str.ofString "take") : Key)).getD (.ref l1)) (putF "title" (tx title) []))) = H2 at b1_1 b2_1 b3_1 b9_1 b10_1 g2pa g2dom v1  ⊢
  have g2p := b1_1
  have g2d := b2_1
  have g2k := b9_1
  -- kept
  refine ⟨_, rfl, d, rfl, .inl ⟨_, .inl g2d⟩, (by show 0 ≤ sizeLine; decide), fun l2 hl2 => ?_⟩
  obtain ⟨b1_2, b2_2, b3_2, b4_2, b5_2, b6_2, b7_2, b8_2, b9_2, b10_2⟩ := key H2 _ "kept" g2p g2d g2pa g2dom g2k l2 hl2 ((valV kvs (Sum.inr (Str.ofString "keep") : Key)).getD (.ref l2))
  refine ⟨_, DGet.k (k := (Sum.inr (Str.ofString "keep") : Key)) b6_2, _, rfl, p, c.rule, dx, _, rfl, b7_2, T.cl, T.n3, (by show 2 < 1000; decide), ?_⟩
  have v2 := (get_fs b8_2 h5 hok (n := 1) (by decide) b4_2 b5_2).keep b10_2
  rw [show S (wordAt 1) = Str.ofString "keep" by decide +kernel] at v2
  have g3pa := g2pa.keep b3_2
  have g3dom : ∀ b, _ = none → H0 b = none := fun b h => g2dom b (b3_2.dom b h)
  have v1 := v1.keep b3_2
  generalize hH3 : upd (upd H2 l2 (.lst [])) p (.ins c.rule dx (putF "kept" ((valV kvs (Sum.inr (Str.ofString "keep") : Key)).getD (.ref l2)) (putF "taken" ((valV kvs (Sum.inr (Str.ofString "take") : Key)).getD (.ref l1)) (putF "title" (tx title) [])))) = H3 at b1_2 b2_2 b3_2 b9_2 b10_2 g3pa g3dom v2 v1 ⊢
  have g3p := b1_2
  have g3d := b2_2
  have g3k := b9_2
  -- looks
  refine ⟨_, rfl, d, rfl, .inl ⟨_, .inl g3d⟩, (by show 0 ≤ sizeLine; decide), fun l3 hl3 => ?_⟩
  obtain ⟨b1_3, b2_3, b3_3, b4_3, b5_3, b6_3, b7_3, b8_3, b9_3, b10_3⟩ := key H3 _ "looks" g3p g3d g3pa g3dom g3k l3 hl3 ((valV kvs (Sum.inr (Str.ofString "look") : Key)).getD (.ref l3))
  refine ⟨_, DGet.k (k := (Sum.inr (Str.ofString "look") : Key)) b6_3, _, rfl, p, c.rule, dx, _, rfl, b7_3, T.cl, T.n4, (by show 3 < 1000; decide), ?_⟩
  have v3 := (get_lk b8_3 h5 hok b4_3 b5_3).keep b10_3
  rw [show S (wordAt 2) = Str.ofString "look" by decide +kernel] at v3
  have g4pa := g3pa.keep b3_3
  have g4dom : ∀ b, _ = none → H0 b = none := fun b h => g3dom b (b3_3.dom b h)
  have v1 := v1.keep b3_3
  have v2 := v2.keep b3_3
  generalize hH4 : upd (upd H3 l3 (.lst [])) p (.ins c.rule dx (putF "looks" ((valV kvs (Sum.inr (Str.ofString "look") : Key)).getD (.ref l3)) (putF "kept" ((valV kvs (Sum.inr (Str.ofString "keep") : Key)).getD (.ref l2)) (putF "taken" ((valV kvs (Sum.inr (Str.ofString "take") : Key)).getD (.ref l1)) (putF "title" (tx title) []))))) = H4 at b1_3 b2_3 b3_3 b9_3 b10_3 g4pa g4dom v3 v1 v2 ⊢
  have g4p := b1_3
  have g4d := b2_3
  have g4k := b9_3
  -- given
  refine ⟨_, rfl, d, rfl, .inl ⟨_, .inl g4d⟩, (by show 0 ≤ sizeLine; decide), fun l4 hl4 => ?_⟩
  obtain ⟨b1_4, b2_4, b3_4, b4_4, b5_4, b6_4, b7_4, b8_4, b9_4, b10_4⟩ := key H4 _ "given" g4p g4d g4pa g4dom g4k l4 hl4 ((valV kvs (Sum.inr (Str.ofString "put") : Key)).getD (.ref l4))
  refine ⟨_, DGet.k (k := (Sum.inr (Str.ofString "put") : Key)) b6_4, _, rfl, p, c.rule, dx, _, rfl, b7_4, T.cl, T.n5, (by show 4 < 1000; decide), ?_⟩
  have v4 := (get_fs b8_4 h5 hok (n := 3) (by decide) b4_4 b5_4).keep b10_4
  rw [show S (wordAt 3) = Str.ofString "put" by decide +kernel] at v4
  have g5pa := g4pa.keep b3_4
  have g5dom : ∀ b, _ = none → H0 b = none := fun b h => g4dom b (b3_4.dom b h)
  have v1 := v1.keep b3_4
  have v2 := v2.keep b3_4
  have v3 := v3.keep b3_4
  generalize hH5 : upd (upd H4 l4 (.lst [])) p (.ins c.rule dx (putF "given" ((valV kvs (Sum.inr (Str.ofString "put") : Key)).getD (.ref l4)) (putF "looks" ((valV kvs (Sum.inr (Str.ofString "look") : Key)).getD (.ref l3)) (putF "kept" ((valV kvs (Sum.inr (Str.ofString "keep") : Key)).getD (.ref l2)) (putF "taken" ((valV kvs (Sum.inr (Str.ofString "take") : Key)).getD (.ref l1)) (putF "title" (tx title) [])))))) = H5 at b1_4 b2_4 b3_4 b9_4 b10_4 g5pa g5dom v4 v1 v2 v3 ⊢
  have g5p := b1_4
  have g5d := b2_4
  have g5k := b9_4
  -- told
  refine ⟨_, rfl, d, rfl, .inl ⟨_, .inl g5d⟩, (by show 0 ≤ sizeLine; decide), fun l5 hl5 => ?_⟩
  obtain ⟨b1_5, b2_5, b3_5, b4_5, b5_5, b6_5, b7_5, b8_5, b9_5, b10_5⟩ := key H5 _ "told" g5p g5d g5pa g5dom g5k l5 hl5 ((valV kvs (Sum.inr (Str.ofString "tell") : Key)).getD (.ref l5))
  refine ⟨_, DGet.k (k := (Sum.inr (Str.ofString "tell") : Key)) b6_5, _, rfl, p, c.rule, dx, _, rfl, b7_5, T.cl, T.n6, (by show 5 < 1000; decide), ?_⟩
  have v5 := (get_pr b8_5 h5 hok b4_5 b5_5).keep b10_5
  rw [show S (wordAt 4) = Str.ofString "tell" by decide +kernel] at v5
  have g6pa := g5pa.keep b3_5
  have g6dom : ∀ b, _ = none → H0 b = none := fun b h => g5dom b (b3_5.dom b h)
  have v1 := v1.keep b3_5
  have v2 := v2.keep b3_5
  have v3 := v3.keep b3_5
  have v4 := v4.keep b3_5
  generalize hH6 : upd (upd H5 l5 (.lst [])) p (.ins c.rule dx (putF "told" ((valV kvs (Sum.inr (Str.ofString "tell") : Key)).getD (.ref l5)) (putF "given" ((valV kvs (Sum.inr (Str.ofString "put") : Key)).getD (.ref l4)) (putF "looks" ((valV kvs (Sum.inr (Str.ofString "look") : Key)).getD (.ref l3)) (putF "kept" ((valV kvs (Sum.inr (Str.ofString "keep") : Key)).getD (.ref l2)) (putF "taken" ((valV kvs (Sum.inr (Str.ofString "take") : Key)).getD (.ref l1)) (putF "title" (tx title) []))))))) = H6 at b1_5 b2_5 b3_5 b9_5 b10_5 g6pa g6dom v5 v1 v2 v3 v4 ⊢
  have g6p := b1_5
  have g6d := b2_5
  have g6k := b9_5
  generalize hfs : (putF "told" ((valV kvs (Sum.inr (Str.ofString "tell") : Key)).getD (.ref l5)) (putF "given" ((valV kvs (Sum.inr (Str.ofString "put") : Key)).getD (.ref l4)) (putF "looks" ((valV kvs (Sum.inr (Str.ofString "look") : Key)).getD (.ref l3)) (putF "kept" ((valV kvs (Sum.inr (Str.ofString "keep") : Key)).getD (.ref l2)) (putF "taken" ((valV kvs (Sum.inr (Str.ofString "take") : Key)).getD (.ref l1)) (putF "title" (tx title) [])))))) = fs6 at g6p ⊢
  have lk : ∀ n : Str, fs6.lookup n = if n = "told" then some ((valV kvs (Sum.inr (Str.ofString "tell") : Key)).getD (.ref l5)) else if n = "given" then some ((valV kvs (Sum.inr (Str.ofString "put") : Key)).getD (.ref l4)) else if n = "looks" then some ((valV kvs (Sum.inr (Str.ofString "look") : Key)).getD (.ref l3)) else if n = "kept" then some ((valV kvs (Sum.inr (Str.ofString "keep") : Key)).getD (.ref l2)) else if n = "taken" then some ((valV kvs (Sum.inr (Str.ofString "take") : Key)).getD (.ref l1)) else if n = "title" then some (tx title) else none := fun n => by
    rw [← hfs, lookup_putF, lookup_putF, lookup_putF, lookup_putF, lookup_putF, lookup_putF]
    rfl
  obtain ⟨lt, ut, et, nt, ht, pt⟩ := id v1
  obtain ⟨lk2, uk, ek, nk, hk, pk⟩ := id v2
  have lkT : fs6.lookup ("taken" : Str) = some (.ref lt) := by
    rw [lk, if_neg (by decide +kernel), if_neg (by decide +kernel), if_neg (by decide +kernel), if_neg (by decide +kernel), if_pos rfl, et]
  have lkK : fs6.lookup ("kept" : Str) = some (.ref lk2) := by
    rw [lk, if_neg (by decide +kernel), if_neg (by decide +kernel), if_neg (by decide +kernel), if_pos rfl, ek]
  have hcnt : fs6.length < 1000 := by
    rw [← hfs]
    show 6 < 1000
    decide
  have zl1 := Paired.length pt
  have zl2 := Paired.length pk
  have hfew := rok.few
  have e_tk : (rlOf title L).take ++ (rlOf title L).keep = fsOf 0 L ++ fsOf 1 L := rfl
  rw [e_tk, List.length_append] at hfew
  refine ⟨_, rfl, p, c.rule, dx, fs6, _, rfl, g6p, T.cl, T.n2, lkT, _, rfl, p, c.rule, dx, fs6, _, rfl, g6p, T.cl, T.n3, lkK, lt, lk2, _, _, rfl, rfl, ht, hk, sz (by omega), fun l6 hl6 => ?_⟩
  have s6 := same_new hl6 (.lst (ut ++ uk))
  refine ⟨l6, _, fsOf 0 L ++ fsOf 1 L, rfl, upd_same, paired_app (L2.Paired.mapP pt fun _ _ z => z.keep (H0 := H0) (Kp.same s6)) (L2.Paired.mapP pk fun _ _ z => z.keep (H0 := H0) (Kp.same s6)), by rw [List.length_append]; omega, rok.heads, rok.fewA, fun v7 H7 s7 T7 => ?_⟩
  have s67 := Same.trans s6 s7
  have h7p := s67 _ _ g6p
  refine ⟨_, rfl, p, c.rule, dx, fs6, rfl, h7p, T.cl, T.n7, hcnt, ?_⟩
  have kp7 : Kp H0 H7 (upd H7 p (.ins c.rule dx (putF "names" v7 fs6))) := Kp.upd h0p h7p (n59 _ ⟨_, rfl⟩).1 (n59 _ ⟨_, rfl⟩).2
  have kpA : Kp H0 H6 (upd H7 p (.ins c.rule dx (putF "names" v7 fs6))) := (Kp.same s67).trans kp7
  have lk7 : ∀ n : Str, n ≠ "names" → (putF "names" v7 fs6).lookup n = fs6.lookup n := fun n hn => by rw [lookup_putF, if_neg hn]
  refine q _ (putF "names" v7 fs6) upd_same ⟨?_, ⟨_, ?_, v1.keep kpA⟩, ⟨_, ?_, v2.keep kpA⟩, ⟨_, ?_, v3.keep kpA⟩, ⟨_, ?_, v4.keep kpA⟩, ⟨_, ?_, v5.keep kpA⟩, ⟨v7, ?_, ?_⟩, ?_⟩ (fun b o e hb => ?_)
  · rw [lk7 _ (by decide +kernel), lk, if_neg (by decide +kernel), if_neg (by decide +kernel), if_neg (by decide +kernel), if_neg (by decide +kernel), if_neg (by decide +kernel), if_pos rfl]
    rfl
  · rw [lk7 _ (by decide +kernel), lkT, et]
  · rw [lk7 _ (by decide +kernel), lkK, ek]
  · rw [lk7 _ (by decide +kernel), lk, if_neg (by decide +kernel), if_neg (by decide +kernel), if_pos rfl]
  · rw [lk7 _ (by decide +kernel), lk, if_neg (by decide +kernel), if_pos rfl]
  · rw [lk7 _ (by decide +kernel), lk, if_pos rfl]
  · rw [lookup_putF, if_pos rfl]
  · obtain ⟨ln, en, nn, hn⟩ := T7
    have hn6 : H6 ln = none := s6.free nn
    exact ⟨ln, en, g6dom ln hn6, kp7.new _ _ (g6dom ln hn6) hn⟩
  · rw [lk7 _ (by decide +kernel), lk, if_neg (by decide +kernel), if_neg (by decide +kernel), if_neg (by decide +kernel), if_neg (by decide +kernel), if_neg (by decide +kernel), if_neg (by decide +kernel)]
  · rw [upd_ne hb]
    exact s67 _ _ (g6k b o e hb)
theorem sc_Rule_calls : FnScope ["self"] ["self"] (defScope s_Rule_calls) := ⟨rfl, rfl, rfl, by decide +kernel, rfl, by decide +kernel, by decide +kernel⟩
theorem ok_Rule_calls (F : Fun K "calls" "Rule.calls" s_Rule_calls f fd) (T : RTxt K c.rule) (m_len : mg "len" = none) : FnOk P w K mg base CX0 1 f fd ["self"] (spCalls K c) := by
  refine F.ok sc_Rule_calls (fun vs H Q E h => ?_) (fun cdv A outer s H vs Q E hr h => ?_)
  · obtain ⟨H0, v, r, rfl, _⟩ := h
    rfl
  obtain ⟨H0, v, r, rfl, hR, q⟩ := h
  obtain ⟨a, dx, fs, rfl, n, h1, RF⟩ := hR
  obtain ⟨vt, ev, lt, us, rfl, nt, ht, pt⟩ := RF.taken
  have zl := Paired.length pt
  refine ⟨_, (pss_one (ps_ret (pe_cmpR op_eq (pe_callB call_len_seq rfl m_len PySem.boot_len (pa_cons (pe_fld (pv 0) rfl) pa_nil)) pe_int (nomark _)))), ?_⟩
  refine ⟨_, rfl, a, c.rule, dx, fs, _, rfl, h1, T.cl, T.n2, ev, lt, _, rfl, .inl (SqL.of ht), rfl, ?_⟩
  have e : decide (V.int (us.length : Int) = V.int 0) = decide (r.take = []) := by
    rw [decide_eq_decide]
    constructor
    · intro z
      have z' : (us.length : Int) = 0 := by injection z
      exact List.eq_nil_of_length_eq_zero (by omega)
    · intro z
      rw [z] at zl
      rw [← zl]
      rfl
  rw [e]
  exact q
theorem sc_Book_init : FnScope ["self", "kinds", "rules"] ["self", "kinds", "rules"] (defScope s_Book_init) := ⟨rfl, rfl, rfl, by decide +kernel, rfl, by decide +kernel, by decide +kernel⟩
theorem ok_Book_init (F : Fun K "__init__" "Book.__init__" s_Book_init f fd) (T : BTxt K c.book) : FnOk P w K mg base CX0 1 f fd ["self", "kinds", "rules"] (spBInit K c) := by
  refine F.ok sc_Book_init (fun vs H Q E h => ?_) (fun cdv A outer s H vs Q E hr h => ?_)
  · obtain ⟨p, dx, l, r, rfl, _⟩ := h
    rfl
  obtain ⟨p, dx, l, r, rfl, hp, q⟩ := h
  refine ⟨_, (pss_cons (ps_fld (pv 0) (pv 1) rfl)
  (pss_one (ps_fld (pv 0) (pv 2) rfl))), ?_⟩
  refine ⟨_, rfl, _, rfl, p, c.book, dx, [], rfl, hp, T.cl, T.n1, (by show 0 < 1000; decide), _, rfl, _, rfl, p, c.book, dx, _, rfl, upd_same, T.cl, T.n2, (by show 1 < 1000; decide), ?_⟩
  refine q _ _ upd_same ?_ ?_ fun b o e hb => ?_
  · rw [lookup_putF, if_neg (by decide +kernel), lookup_putF, if_pos rfl]
  · rw [lookup_putF, if_pos rfl]
  · rw [upd_ne hb, upd_ne hb]
    exact e
end
end K32
namespace K32
open PySem L2 K02 Bk
set_option maxHeartbeats 4000000
section
variable {P : Program} {w : World} {K : PySem.W.Frag} {mg : Str → Option Value} {base : Heap} {f : Addr} {fd : FuncData} {c : Cl}
theorem get_of {α : Type} {l : List α} {i : Nat} {x : α} (h : l[i]? = some x) : ∃ hi : i < l.length, l[i] = x := List.getElem?_eq_some_iff.mp h
theorem sc_hear_line : FnScope ["kinds", "rules", "line", "found", "reading", "kind"] ["kinds", "rules", "line"] (defScope s_hear_line) := ⟨rfl, rfl, rfl, by decide +kernel, rfl, by decide +kernel, by decide +kernel⟩
theorem ok_hear_line {u1 : Value} (F : Fun K "hear_line" "hear_line" s_hear_line f fd) (T : RTxt K c.rule) (c_line_pieces : Cal P w K mg base "line_pieces" 4 ["line"] spLine) (c_read_rule : Cal P w K mg base "read_rule" 7 ["found"] (spRule K c)) (c_read_kind : Cal P w K mg base "read_kind" 4 ["found"] (spKind K))
    (c_Rule : Mak P w K mg base "Rule" c.rule 3 ["self", "title", "parts"] (spRInit K c)) (m_RULE_WORD : mg "RULE_WORD" = some u1) (r_RULE_WORD : RelV (tx kwRule) u1) : FnOk P w K mg base CX0 8 f fd ["kinds", "rules", "line"] (spHear K c) := by
  refine F.ok sc_hear_line (fun vs H Q E h => ?_) (fun cdv A outer s H vs Q E hr h => ?_)
  · obtain ⟨H0, lk, lr, ks, rs, kvs, rvs, p, rfl, _⟩ := h
    rfl
  obtain ⟨H0, lk, lr, ks, rs, kvs, rvs, p, rfl, I, fk1, fr1, hz, hok, alt⟩ := h
  refine ⟨_, (pss_cons (ps_set (i := 3) sc_hear_line.nd rfl (Or.inl rfl) (pe_callC c_line_pieces (hr.mono (by decide)) rfl (pa_cons (pv 2) pa_nil)))
  (pss_one (ps_if (pt_cmpR op_eq (pe_ix ix_list (pv 3) pe_int (fun _ _ => rfl)) (pe_glob rfl m_RULE_WORD r_RULE_WORD) (nomark _))
  (pss_cons (ps_set (i := 4) sc_hear_line.nd rfl (Or.inl rfl) (pe_callC c_read_rule (hr.mono (by decide)) rfl (pa_cons (pv 3) pa_nil)))
  (pss_cons (ps_if (pt_cmpR op_in_seq (pe_ix ix_tup (pv 4) pe_int (fun _ _ => rfl)) (pe_comp [] rfl (by kernel_rfl) (pi_list (pv 1)) (fun _ _ _ _ _ => pts_nil) (fun _ _ _ _ _ => (pe_fldK (K := K) rfl (pv 0) rfl))) (by with_unfolding_all rfl))
  pss_never
  pss_nil)
  (pss_one (ps_expr (pe_bm PySem.F.plainAttrs_list PySem.F.slot_list_append PySem.F.type_list_append mt_append (pv 1) (pa_cons (pe_makeC c_Rule (hr.mono (by decide)) rfl (pa_cons (pe_ix ix_tup (pv 4) pe_int (fun _ _ => rfl)) (pa_cons (pe_ix ix_tup (pv 4) pe_int (fun _ _ => rfl)) pa_nil))) pa_nil))))))
  (pss_cons (ps_set (i := 5) sc_hear_line.nd rfl (Or.inl rfl) (pe_callC c_read_kind (hr.mono (by decide)) rfl (pa_cons (pv 3) pa_nil)))
  (pss_cons (ps_if (pt_cmpR op_in_seq (pe_ix ix_tup (pv 5) pe_int (fun _ _ => rfl)) (pe_comp [] rfl (by kernel_rfl) (pi_list (pv 0)) (fun _ _ _ _ _ => pts_nil) (fun _ _ _ _ _ => (pe_ix (r := rIxT K) ix_tup (pv 0) pe_int (fun _ _ => rfl)))) (by with_unfolding_all rfl))
  pss_never
  pss_nil)
  (pss_one (ps_expr (pe_bm PySem.F.plainAttrs_list PySem.F.slot_list_append PySem.F.type_list_append mt_append (pv 0) (pa_cons (pv 5) pa_nil))))))))), ?_⟩
  refine ⟨_, rfl, p, rfl, hz, hok, fun v H1 s1 T1 => ?_⟩
  obtain ⟨l, rfl, hl0, hl⟩ := T1
  have htl : (toks p).length ≤ 20000 := Nat.le_trans (toks_len p) hz
  rcases alt with ⟨k, etk, kok, knew, q⟩ | ⟨title, L, etk, R, rok, tnew, q⟩
  · rw [etk] at hl
    have hl' : H1 l = some (.lst [tx (if k.l = true then kwLasting else kwPassing), tx k.n, tx [48 + k.c]]) := hl
    refine ⟨_, rfl, l, _, 0, _, rfl, rfl, SqL.of hl', rfl, rfl, _, rfl, ?_⟩
    have e0 : decide (tx (if k.l = true then kwLasting else kwPassing) = tx kwRule) = false := by cases k.l <;> decide +kernel
    rw [e0]
    refine iteF ⟨_, rfl, l, k, rfl, hl, kok.1, kok.2, fun v H2 s2 hK => ?_⟩
    have s12 := Same.trans s1 s2
    obtain ⟨t, rfl, ht⟩ := hK
    refine ⟨_, rfl, t, _, 0, _, rfl, rfl, ht, rfl, _, rfl, lk, rfl, ⟨_, SqL.of (s12 _ _ I.hk)⟩, fun D hD => ?_⟩
    have zl := Paired.length I.pk
    refine comp_rel (K := K) (xs := kvs) (ks.map (·.n)) (fun _ _ b y => y = tx b) (fun _ _ _ _ _ _ h => h) (fun _ _ _ _ _ _ h => h) (szl (by have := I.fk; omega)) hD (SqL.of (s12 _ _ I.hk)) (by rw [List.length_map]; exact zl) (fun i x b H' R hx hb sm hQ => ?_) (fun H3 ys sm hL po => ?_)
    · obtain ⟨hi, ex⟩ := get_of hx
      obtain ⟨hib, eb⟩ := get_of hb
      rw [List.length_map] at hib
      rw [List.getElem_map] at eb
      obtain ⟨tk, etk2, hk⟩ := paired_at I.pk i hib hi
      rw [ex] at etk2
      subst etk2
      refine ⟨_, rfl, tk, _, 0, _, rfl, rfl, hk.same (Same.trans s12 sm), rfl, hQ _ _ (Same.refl _) ?_⟩
      rw [eb]
    · rw [paired_tx po] at hL
      refine ⟨D, _, rfl, .inl (SqL.of hL), rfl, flat_map _, _, rfl, ?_⟩
      rw [inV_map, decide_eq_false knew]
      refine iteF ?_
      have sA := Same.trans s12 sm
      have hk3 := sA _ _ I.hk
      refine ⟨_, rfl, .inl ⟨rfl, _, SqL.of hk3⟩, _, rfl, lk, _, _, rfl, rfl, hk3, szl (by have := I.fk; omega), ?_⟩
      obtain ⟨u0, hu0⟩ := I.ok
      have kp : Kp H0 H3 (upd H3 lk (.lst (kvs ++ [V.ref t]))) := Kp.upd hu0 hk3 (by intro xs z; cases z) (by intro o u z; cases z)
      have kpA : Kp H0 H (upd H3 lk (.lst (kvs ++ [V.ref t]))) := (Kp.same sA).trans kp
      refine q (.ref t) _ (fun b o hb e => by rw [upd_ne hb]; exact sA _ _ e) ⟨upd_same, ?_, ?_, L2.Paired.mapP I.pr fun _ _ z => z.keep kpA, I.ne, I.ok, I.or, fun b h => I.dom b (kpA.dom b h), ?_, I.fr⟩
      · exact (L2.Paired.mapP I.pk fun _ _ z => z.keep kpA).snoc (Kind.keep kp ⟨t, rfl, ht.same sm⟩)
      · rw [upd_ne (Ne.symm I.ne)]
        exact sA _ _ I.hr
      · rw [List.length_append, List.length_singleton]
        omega
  · rw [etk] at hl htl
    refine ⟨_, rfl, l, _, 0, tx kwRule, rfl, rfl, SqL.of hl, atI_nat (j := 0) rfl, rfl, _, rfl, ?_⟩
    rw [decide_eq_true rfl]
    refine iteT ⟨_, rfl, l, title, L, rfl, hl, htl, R, fun t d kd H2 s2 ht hd0 hd pa => ?_⟩
    have s12 := Same.trans s1 s2
    refine ⟨_, rfl, t, _, 0, _, rfl, rfl, SqT.of ht, rfl, _, rfl, lr, rfl, ⟨_, SqL.of (s12 _ _ I.hr)⟩, fun D hD => ?_⟩
    have zl := Paired.length I.pr
    refine comp_rel (K := K) (xs := rvs) (rs.map (·.title)) (fun _ _ b y => y = tx b) (fun _ _ _ _ _ _ h => h) (fun _ _ _ _ _ _ h => h) (szl (by have := I.fr; omega)) hD (SqL.of (s12 _ _ I.hr)) (by rw [List.length_map]; exact zl) (fun i x b H' R hx hb sm hQ => ?_) (fun H3 ys sm hL po => ?_)
    · obtain ⟨hi, ex⟩ := get_of hx
      obtain ⟨hib, eb⟩ := get_of hb
      rw [List.length_map] at hib
      rw [List.getElem_map] at eb
      obtain ⟨a, dx, fs, ea, na, ha, RF⟩ := paired_at I.pr i hib hi
      rw [ex] at ea
      subst ea
      refine ⟨_, rfl, a, c.rule, dx, fs, _, rfl, (Same.trans s12 sm) _ _ ha, T.cl, T.n1, RF.title, hQ _ _ (Same.refl _) ?_⟩
      rw [eb]
    · rw [paired_tx po] at hL
      refine ⟨D, _, rfl, .inl (SqL.of hL), rfl, flat_map _, _, rfl, ?_⟩
      rw [inV_map, decide_eq_false tnew]
      refine iteF ?_
      have sA := Same.trans s12 sm
      have hr3 := sA _ _ I.hr
      have ht3 := sm _ _ ht
      have hd3 := sm _ _ hd
      refine ⟨_, rfl, .inl ⟨rfl, _, SqL.of hr3⟩, _, rfl, t, _, 0, _, rfl, rfl, SqT.of ht3, rfl, _, rfl, t, _, 1, _, rfl, rfl, SqT.of ht3, rfl, fun x dx hx hdx nex => ?_⟩
      have hxH : H x = none := sA.free hx
      have hx0 : H0 x = none := I.dom x hxH
      have sM : Same H3 (upd (upd H3 dx (.own x)) x (.ins c.rule dx [])) := Same.trans (same_new hdx _) (Same.upd_new (Same.refl _) (by rw [upd_ne (Ne.symm nex)]; exact hx) _)
      have pa3 : PartsAt K c (upd H0 x (.own x)) (upd (upd H3 dx (.own x)) x (.ins c.rule dx [])) L kd := by
        refine L2.Paired.mapP pa fun y kv z => ⟨z.1, ?_⟩
        have z1 := PartAt.older (H0 := H0) (fun b h => I.dom b (s1.free h)) z.2
        exact PartAt.keep (Kp.same sM) (PartAt.apart hx (PartAt.keep (Kp.same sm) z1))
      obtain ⟨ur, hur⟩ := I.or
      have nlx : lr ≠ x := ne_of_none hr3 hx
      refine ⟨upd H0 x (.own x), x, dx, d, title, L, kd, _, rfl, upd_same, upd_same, fun b h => ?_, sM _ _ hd3, pa3, fun y hy => (inc_lt R.inc y hy).2, R.ok, rok, fun H4 fs h4 RF kp4 => ⟨rfl, ?_⟩⟩
      · have nbx : b ≠ x := fun z => by rw [z, upd_same] at h; cases h
        rw [upd_ne nbx]
        exact I.dom b (Same.free (Same.trans sA sM) h)
      have s4 : Same H H4 := fun b o e => kp4 b o ((Same.trans sA sM) b o e) (ne_of_none e hxH)
      have hr4 := s4 _ _ I.hr
      refine ⟨lr, _, _, rfl, rfl, hr4, szl (by have := I.fr; omega), ?_⟩
      have kp : Kp H0 H4 (upd H4 lr (.lst (rvs ++ [V.ref x]))) := Kp.upd hur hr4 (by intro xs z; cases z) (by intro o u z; cases z)
      have kpX : Kp (upd H0 x (.own x)) H4 (upd H4 lr (.lst (rvs ++ [V.ref x]))) := Kp.upd (by rw [upd_ne nlx]; exact hur) hr4 (by intro xs z; cases z) (by intro o u z; cases z)
      have kpA : Kp H0 H (upd H4 lr (.lst (rvs ++ [V.ref x]))) := (Kp.same s4).trans kp
      refine q (.ref x) _ (fun b o hb e => by rw [upd_ne hb]; exact s4 _ _ e) ⟨?_, L2.Paired.mapP I.pk fun _ _ z => z.keep kpA, upd_same, ?_, I.ne, I.ok, I.or, fun b h => I.dom b (kpA.dom b h), I.fk, ?_⟩
      · rw [upd_ne I.ne]
        exact s4 _ _ I.hk
      · refine (L2.Paired.mapP I.pr fun _ _ z => z.keep kpA).snoc ⟨x, dx, fs, rfl, hx0, by rw [upd_ne (Ne.symm nlx)]; exact h4, ?_⟩
        refine RuleF.older (fun b h => ?_) (RF.keep kpX)
        have nbx : b ≠ x := fun z => by rw [z, upd_same] at h; cases h
        rw [upd_ne nbx] at h
        exact h
      · rw [List.length_append, List.length_singleton]
        omega
end
end K32
namespace K32
open PySem L2 K02 Bk
set_option maxHeartbeats 4000000
section
variable {P : Program} {w : World} {K : PySem.W.Frag} {mg : Str → Option Value} {base : Heap} {f : Addr} {fd : FuncData} {c : Cl}
theorem sc_check_facts : FnScope ["kinds", "facts", "counts", "fact"] ["kinds", "facts"] (defScope s_check_facts) := ⟨rfl, rfl, rfl, by decide +kernel, rfl, by decide +kernel, by decide +kernel⟩
theorem ok_check_facts (F : Fun K "check_facts" "check_facts" s_check_facts f fd) (m_dict : mg "dict" = none) (m_len : mg "len" = none) : FnOk P w K mg base CX0 1 f fd ["kinds", "facts"] (spCheckF K) := by
  refine F.ok sc_check_facts (fun vs H Q E h => ?_) (fun cdv A outer s H vs Q E hr h => ?_)
  · obtain ⟨lk, lf, kvs, fvs, ks, fs, rfl, _⟩ := h
    rfl
  obtain ⟨lk, lf, kvs, fvs, ks, fs, rfl, hk, pk, nd, fk, hf, pf, hfit, q⟩ := h
  have hu := hu_of hr
  refine ⟨_, (pss_cons (ps_set (i := 2) sc_check_facts.nd rfl (Or.inl rfl) (pe_callTy (call_dict_pairs rfl) rfl m_dict PyProof.Rows.Boot.«dict» (pa_cons (pe_comp [] rfl (by kernel_rfl) (pi_list (pv 0)) (fun _ _ _ _ _ => pts_nil) (fun _ _ _ _ _ => (pe_tup (pa_cons (pe_ix (r := rIxT K) ix_tup (pv 0) pe_int (fun _ _ => rfl)) (pa_cons (pe_ix (r := rIxT K) ix_tup (pv 0) pe_int (fun _ _ => rfl)) pa_nil))))) pa_nil)))
  (pss_one (ps_for PassesOwn.never rfl (pi_list (pv 1)) (pg_name (i := 3) sc_check_facts.nd rfl (Or.inl rfl))
  (pss_cons (ps_if (pt_cmp (pc_dnotin hu (pe_ix ix_tup (pv 3) pe_int (fun _ _ => rfl)) (pv 2)))
  pss_never
  pss_nil)
  (pss_one (ps_if (pt_cmpR op_ne (pe_callB call_len_seq rfl m_len PySem.boot_len (pa_cons (pe_ix ix_tup (pv 3) pe_int (fun _ _ => rfl)) pa_nil)) (pe_dget hu (pv 2) (pe_ix ix_tup (pv 3) pe_int (fun _ _ => rfl)) (fun _ _ => rfl)) (nomark _))
  pss_never
  pss_nil)))))), ?_⟩
  have zl := Paired.length pk
  have zf := Paired.length pf
  refine ⟨_, rfl, lk, rfl, ⟨_, SqL.of hk⟩, fun D hD => ?_⟩
  refine comp_rel (K := K) (xs := kvs) ks (fun _ H k y => ∃ t, y = .ref t ∧ SqT K H t [tx k.n, .int k.c]) (fun _ _ _ _ _ k ⟨t, e, h⟩ => ⟨t, e, SqT.keep k h⟩) (fun _ _ _ _ _ _ h => h) (szl (by omega)) hD (SqL.of hk) zl (fun i x b H' R hx hb sm hQ => ?_) (fun H1 ys s1 hL po => ?_)
  · obtain ⟨hi, ex⟩ := get_of hx
    obtain ⟨hib, eb⟩ := get_of hb
    obtain ⟨t, et, ht⟩ := paired_at pk i hib hi
    rw [ex] at et
    rw [eb] at ht
    subst et
    have ht' := ht.same sm
    exact ⟨_, rfl, t, _, 0, _, rfl, rfl, ht', rfl, _, rfl, t, _, 1, _, rfl, rfl, ht', rfl, (by show 2 ≤ sizeLine; decide), fun t2 ht2 => hQ _ _ (same_new ht2 _) ⟨t2, rfl, SqT.of upd_same⟩⟩
  refine ⟨D, ys, ks.map kdEnt, rfl, hL, paired_mapL po, (by rw [List.length_map]; omega), fun d hd => ?_⟩
  rw [mergeK_nodup _ _ (kdEnt_nodup nd), List.nil_append]
  have s2 : Same H (upd H1 d (.dK (ks.map kdEnt))) := Same.trans s1 (same_new hd _)
  have hdd := upd_same (H := H1) (a := d) (o := .dK (ks.map kdEnt))
  generalize upd H1 d (.dK (ks.map kdEnt)) = H2 at s2 hdd ⊢
  refine ⟨_, rfl, lf, rfl, ⟨_, SqL.of (s2 _ _ hf)⟩, for_list (K := K) (a := lf) (xs := fvs) (fun i σ H' => H' = H2 ∧ ∃ o, σ = [some (.ref lk), some (.ref lf), some (.ref d), o]) ⟨rfl, none, rfl⟩ (fun i σ H' _ ⟨e, _⟩ => by rw [e]; exact SqL.of (s2 _ _ hf)) ?_ ?_⟩
  · rintro i y σ H' hi ⟨rfl, o, rfl⟩
    obtain ⟨hif, ey⟩ := get_of hi
    have hiF : i < fs.length := by omega
    obtain ⟨t, t2, et, h1, h2⟩ := paired_at pf i hiF hif
    rw [ey] at et
    subst et
    obtain ⟨k, hkm, ekn, ekc⟩ := hfit fs[i] (List.getElem_mem hiF)
    have hval : valV (ks.map kdEnt) (Sum.inr (S fs[i].k) : Key) = some (.int k.c) := by
      rw [← ekn]
      exact valV_find (kdEnt_nodup nd) (List.mem_map.mpr ⟨k, hkm, rfl⟩)
    have h1' := h1.same s2
    have h2' := h2.same s2
    refine ⟨_, rfl, t, _, 0, _, rfl, rfl, h1', rfl, _, rfl, d, _, rfl, DGet.k (k := (Sum.inr (S fs[i].k) : Key)) hdd, _, rfl, ?_⟩
    rw [hval]
    refine iteF ?_
    refine ⟨_, rfl, t, _, 1, _, rfl, rfl, h1', rfl, t2, _, rfl, .inr h2', _, rfl, _, rfl, t, _, 0, _, rfl, rfl, h1', rfl, d, _, rfl, (by have z := DGet.k (k := (Sum.inr (S fs[i].k) : Key)) hdd; rw [hval] at z; exact z), rfl, _, rfl, ?_⟩
    rw [List.length_map, ekc, decide_eq_true rfl]
    exact iteF ⟨rfl, _, rfl⟩
  · rintro σ H' ⟨rfl, o, rfl⟩
    exact q _ s2
theorem sc_check_taken : FnScope ["lasts", "taken", "fact"] ["lasts", "taken"] (defScope s_check_taken) := ⟨rfl, rfl, rfl, by decide +kernel, rfl, by decide +kernel, by decide +kernel⟩
theorem ok_check_taken (F : Fun K "check_taken" "check_taken" s_check_taken f fd) : FnOk P w K mg base CX0 1 f fd ["lasts", "taken"] (spCheckT K) := by
  refine F.ok sc_check_taken (fun vs H Q E h => ?_) (fun cdv A outer s H vs Q E hr h => ?_)
  · obtain ⟨ll, lf, fvs, ls, fs, rfl, _⟩ := h
    rfl
  obtain ⟨ll, lf, fvs, ls, fs, rfl, hl, hf, pf, hno, q⟩ := h
  refine ⟨_, (pss_one (ps_for PassesOwn.never rfl (pi_list (pv 1)) (pg_name (i := 2) sc_check_taken.nd rfl (Or.inl rfl))
  (pss_one (ps_if (pt_cmpR op_in_seq (pe_ix ix_tup (pv 2) pe_int (fun _ _ => rfl)) (pv 0) (by with_unfolding_all rfl))
  pss_never
  pss_nil)))), ?_⟩
  have zf := Paired.length pf
  refine ⟨_, rfl, lf, rfl, ⟨_, SqL.of hf⟩, for_list (K := K) (a := lf) (xs := fvs) (fun i σ H' => H' = H ∧ ∃ o, σ = [some (.ref ll), some (.ref lf), o]) ⟨rfl, none, rfl⟩ (fun i σ H' _ ⟨e, _⟩ => by rw [e]; exact SqL.of hf) ?_ ?_⟩
  · rintro i y σ H' hi ⟨rfl, o, rfl⟩
    obtain ⟨hif, ey⟩ := get_of hi
    have hiF : i < fs.length := by omega
    obtain ⟨t, t2, et, h1, h2⟩ := paired_at pf i hiF hif
    rw [ey] at et
    subst et
    refine ⟨_, rfl, t, _, 0, _, rfl, rfl, h1, rfl, _, rfl, ll, _, rfl, .inl (SqL.of hl), rfl, flat_map _, _, rfl, ?_⟩
    rw [inV_map, decide_eq_false (hno _ (List.getElem_mem hiF))]
    exact iteF ⟨rfl, _, rfl⟩
  · rintro σ H' ⟨rfl, o, rfl⟩
    exact q
theorem sc_check_call : FnScope ["lasts", "rule", "fact"] ["lasts", "rule"] (defScope s_check_call) := ⟨rfl, rfl, rfl, by decide +kernel, rfl, by decide +kernel, by decide +kernel⟩
theorem ok_check_call (F : Fun K "check_call" "check_call" s_check_call f fd) (T : RTxt K c.rule) (c_m_calls : Met P w K mg base c.rule "calls" 1 ["self"] (spCalls K c)) : FnOk P w K mg base CX0 2 f fd ["lasts", "rule"] (spCheckC K c) := by
  refine F.ok sc_check_call (fun vs H Q E h => ?_) (fun cdv A outer s H vs Q E hr h => ?_)
  · obtain ⟨H0, ll, v, ls, r, rfl, _⟩ := h
    rfl
  obtain ⟨H0, ll, v, ls, r, rfl, hl, hR, hin, q⟩ := h
  refine ⟨_, (pss_cons (ps_if (pt_not (pt_val (pe_methC0 (pv 1) c_m_calls (hr.mono (by decide)))))
  (pss_one ps_retN)
  pss_nil)
  (pss_one (ps_for PassesOwn.never rfl (pi_list (pe_fld (pv 1) rfl)) (pg_name (i := 2) sc_check_call.nd rfl (Or.inl rfl))
  (pss_one (ps_if (pt_cmpR op_notIn_seq (pe_ix ix_tup (pv 2) pe_int (fun _ _ => rfl)) (pv 0) (by with_unfolding_all rfl))
  pss_never
  pss_nil))))), ?_⟩
  obtain ⟨a, dx, fs, rfl, na, ha, RF⟩ := id hR
  refine ⟨_, rfl, a, dx, fs, rfl, ha, RF.calls, H0, _, r, rfl, hR, _, rfl, ?_⟩
  by_cases e : r.take = []
  · rw [decide_eq_true e]
    refine iteF ?_
    obtain ⟨vg, ev, lg, us, rfl, ng, hg, pg⟩ := RF.given
    have zg := Paired.length pg
    refine ⟨_, rfl, a, c.rule, dx, fs, _, rfl, ha, T.cl, T.n5, ev, lg, rfl, ⟨_, SqL.of hg⟩, for_list (K := K) (a := lg) (xs := us) (fun i σ H' => H' = H ∧ ∃ o, σ = [some (.ref ll), some (.ref a), o]) ⟨rfl, none, rfl⟩ (fun i σ H' _ ⟨e, _⟩ => by rw [e]; exact SqL.of hg) ?_ ?_⟩
    · rintro i y σ H' hi ⟨rfl, o, rfl⟩
      obtain ⟨hif, ey⟩ := get_of hi
      have hiF : i < r.put.length := by omega
      obtain ⟨t, t2, et, h1, h2⟩ := paired_at pg i hiF hif
      rw [ey] at et
      subst et
      refine ⟨_, rfl, t, _, 0, _, rfl, rfl, h1, rfl, _, rfl, ll, _, rfl, .inl (SqL.of hl), rfl, flat_map _, _, rfl, ?_⟩
      rw [inV_map, decide_eq_true (hin e _ (List.getElem_mem hiF))]
      exact iteF ⟨rfl, _, rfl⟩
    · rintro σ H' ⟨rfl, o, rfl⟩
      exact q
  · rw [decide_eq_false e]
    exact iteT q
theorem sc_said_names : FnScope ["rule", "said", "look", "fact", "pair"] ["rule"] (defScope s_said_names) := ⟨rfl, rfl, rfl, by decide +kernel, rfl, by decide +kernel, by decide +kernel⟩
theorem ok_said_names (F : Fun K "said_names" "said_names" s_said_names f fd) (T : RTxt K c.rule) (Ts : LTxt K c.same) (Tu : LTxt K c.unlike) : FnOk P w K mg base CX0 1 f fd ["rule"] (spSaid K c) := by
  refine F.ok sc_said_names (fun vs H Q E h => ?_) (fun cdv A outer s H vs Q E hr h => ?_)
  · obtain ⟨H0, v, r, rfl, _⟩ := h
    rfl
  obtain ⟨H0, v, r, rfl, hR, hz, q⟩ := h
  refine ⟨_, (pss_cons (ps_set (i := 1) sc_said_names.nd rfl (Or.inl rfl) (pe_lst pa_nil))
  (pss_cons (ps_for PassesOwn.never rfl (pi_list (pe_fld (pv 0) rfl)) (pg_name (i := 2) sc_said_names.nd rfl (Or.inl rfl))
  (pss_one (ps_expr (pe_bm PySem.F.plainAttrs_list PySem.F.slot_list_extend PySem.F.type_list_extend mt_extend (pv 1) (pa_cons (pe_lst (pa_cons (pe_fld (pv 2) rfl) (pa_cons (pe_fld (pv 2) rfl) pa_nil))) pa_nil)))))
  (pss_cons (ps_for PassesOwn.never rfl (pi_list (pe_fld (pv 0) rfl)) (pg_name (i := 3) sc_said_names.nd rfl (Or.inl rfl))
  (pss_one (ps_expr (pe_bm PySem.F.plainAttrs_list PySem.F.slot_list_extend PySem.F.type_list_extend mt_extendT (pv 1) (pa_cons (pe_ix ix_tup (pv 3) pe_int (fun _ _ => rfl)) pa_nil)))))
  (pss_cons (ps_for PassesOwn.never rfl (pi_list (pe_fld (pv 0) rfl)) (pg_name (i := 4) sc_said_names.nd rfl (Or.inl rfl))
  (pss_one (ps_expr (pe_bm PySem.F.plainAttrs_list PySem.F.slot_list_extend PySem.F.type_list_extend mt_extendT (pv 1) (pa_cons (pv 4) pa_nil)))))
  (pss_one (ps_ret (pv 1))))))), ?_⟩
  obtain ⟨a, dx, fs, rfl, na, ha, RF⟩ := id hR
  obtain ⟨vl, el, ll, ul, rfl, nl, hl, pl⟩ := RF.looks
  obtain ⟨vg, eg, lg, ug, rfl, ng, hg, pg⟩ := RF.given
  obtain ⟨vt, et, lt, ut, rfl, nt, ht, pt⟩ := RF.told
  have hz' := hz
  unfold saidOf at hz'
  rw [List.length_append, List.length_append] at hz'
  refine ⟨(by show 0 ≤ sizeLine; decide), fun ls hls => ?_⟩
  have s0 := same_new hls (.lst [])
  have zl := Paired.length pl
  have zg := Paired.length pg
  have zt := Paired.length pt
  have look_cls : ∀ b, Cls K (c.look b) ∧ NoAttr K (c.look b) "left" ∧ NoAttr K (c.look b) "right" := fun b => by
    cases b with
    | true => exact ⟨Ts.cl, Ts.nL, Ts.nR⟩
    | false => exact ⟨Tu.cl, Tu.nL, Tu.nR⟩
  refine ⟨_, rfl, a, c.rule, dx, fs, _, rfl, s0 _ _ ha, T.cl, T.n4, el, ll, rfl, ⟨_, SqL.of (s0 _ _ hl)⟩, for_list (K := K) (a := ll) (xs := ul) (fun i σ H' => Same H H' ∧ H' ls = some (.lst (((r.looks.take i).flatMap fun k => [k.l, k.r]).map tx)) ∧ ((r.looks.take i).flatMap fun k => [k.l, k.r]).length ≤ (r.looks.flatMap fun k => [k.l, k.r]).length ∧ ∃ o2 o3 o4, σ = [some (.ref a), some (.ref ls), o2, o3, o4])
    ⟨s0, upd_same, Nat.zero_le _, none, none, none, rfl⟩ (fun i σ H' _ ⟨sm, _⟩ => SqL.of (sm _ _ hl)) ?_ ?_⟩
  · rintro i y σ H' hi ⟨sm, hs, hlen, o2, o3, o4, rfl⟩
    obtain ⟨hiu, ey⟩ := get_of hi
    have hiL : i < r.looks.length := by omega
    obtain ⟨b, dxb, fb, eb, nb, hb, f1, f2, f3, f4⟩ := paired_at pl i hiL hiu
    rw [ey] at eb
    subst eb
    obtain ⟨C1, C2, C3⟩ := look_cls r.looks[i].same
    have hb' := sm _ _ hb
    refine ⟨_, rfl, .inl ⟨rfl, _, SqL.of hs⟩, _, rfl, b, _, dxb, fb, _, rfl, hb', C1, C2, f1, _, rfl, b, _, dxb, fb, _, rfl, hb', C1, C3, f2, (by show 2 ≤ sizeLine; decide), fun l2 hl2 => ?_⟩
    have n2 : ls ≠ l2 := ne_of_none hs hl2
    have hs2 : upd H' l2 (.lst [tx r.looks[i].l, tx r.looks[i].r]) ls = some (.lst (((r.looks.take i).flatMap fun k => [k.l, k.r]).map tx)) := by rw [upd_ne n2]; exact hs
    have hl2H : H l2 = none := sm.free hl2
    have e1 : (r.looks.take (i + 1)).flatMap (fun k => [k.l, k.r]) = (r.looks.take i).flatMap (fun k => [k.l, k.r]) ++ [r.looks[i].l, r.looks[i].r] := by
      rw [List.take_succ_eq_append_getElem hiL, List.flatMap_append]
      simp
    have e2 := flat_take (fun k : Lk => [k.l, k.r]) r.looks (i + 1)
    refine ⟨ls, l2, _, _, rfl, rfl, hs2, upd_same, (by rw [List.length_map]; exact sz (by simp only [List.length_cons, List.length_nil]; omega)), Same.upd_new (Same.upd_new sm hl2H _) hls _, ?_, e2, _, _, _, rfl⟩
    rw [upd_same, e1, List.map_append]
    rfl
  rintro σ H1 ⟨s1, hs1, -, o2, o3, o4, rfl⟩
  have zul : ul.length = r.looks.length := zl.symm
  rw [zul, List.take_length] at hs1
  generalize hA : (r.looks.flatMap fun k => [k.l, k.r]) = LA at hs1 hz'
  refine ⟨_, rfl, a, c.rule, dx, fs, _, rfl, s1 _ _ ha, T.cl, T.n5, eg, lg, rfl, ⟨_, SqL.of (s1 _ _ hg)⟩, for_list (K := K) (a := lg) (xs := ug) (fun i σ H' => Same H H' ∧ H' ls = some (.lst ((LA ++ ((r.put.take i).flatMap (·.as))).map tx)) ∧ ∃ o2 o3 o4, σ = [some (.ref a), some (.ref ls), o2, o3, o4])
    ⟨s1, by rw [List.take_zero, List.flatMap_nil, List.append_nil]; exact hs1, _, _, _, rfl⟩ (fun i σ H' _ ⟨sm, _⟩ => SqL.of (sm _ _ hg)) ?_ ?_⟩
  · rintro i y σ H' hi ⟨sm, hs, o2, o3, o4, rfl⟩
    obtain ⟨hiu, ey⟩ := get_of hi
    have hiL : i < r.put.length := by omega
    obtain ⟨t, t2, e3, h1, h2⟩ := paired_at pg i hiL hiu
    rw [ey] at e3
    subst e3
    have e1 : (r.put.take (i + 1)).flatMap (·.as) = (r.put.take i).flatMap (·.as) ++ r.put[i].as := by
      rw [List.take_succ_eq_append_getElem hiL, List.flatMap_append]
      simp
    have e2 := flat_take (fun f : Fc => f.as) r.put (i + 1)
    rw [e1, List.length_append] at e2
    refine ⟨_, rfl, .inl ⟨rfl, _, SqL.of hs⟩, _, rfl, t, _, 1, _, rfl, rfl, h1.same sm, rfl, ls, t2, _, _, rfl, rfl, hs, h2.same sm, (by rw [List.length_map, List.length_map, List.length_append]; exact sz (by omega)), Same.upd_new sm hls _, ?_, _, _, _, rfl⟩
    rw [upd_same, e1, ← List.append_assoc, List.map_append (l₁ := LA ++ _)]
  rintro σ H2 ⟨s2, hs2, o2, o3, o4, rfl⟩
  have zug : ug.length = r.put.length := zg.symm
  rw [zug, List.take_length] at hs2
  generalize hB : r.put.flatMap (·.as) = LB at hs2 hz'
  refine ⟨_, rfl, a, c.rule, dx, fs, _, rfl, s2 _ _ ha, T.cl, T.n6, et, lt, rfl, ⟨_, SqL.of (s2 _ _ ht)⟩, for_list (K := K) (a := lt) (xs := ut) (fun i σ H' => Same H H' ∧ H' ls = some (.lst ((LA ++ (LB ++ ((r.tell.take i).flatMap fun p => [p.1, p.2]))).map tx)) ∧ ∃ o2 o3 o4, σ = [some (.ref a), some (.ref ls), o2, o3, o4])
    ⟨s2, by rw [List.take_zero, List.flatMap_nil, List.append_nil]; exact hs2, _, _, _, rfl⟩ (fun i σ H' _ ⟨sm, _⟩ => SqL.of (sm _ _ ht)) ?_ ?_⟩
  · rintro i y σ H' hi ⟨sm, hs, o2, o3, o4, rfl⟩
    obtain ⟨hiu, ey⟩ := get_of hi
    have hiL : i < r.tell.length := by omega
    obtain ⟨t, e3, h1⟩ := paired_at pt i hiL hiu
    rw [ey] at e3
    subst e3
    have e1 : (r.tell.take (i + 1)).flatMap (fun p => [p.1, p.2]) = (r.tell.take i).flatMap (fun p => [p.1, p.2]) ++ [r.tell[i].1, r.tell[i].2] := by
      rw [List.take_succ_eq_append_getElem hiL, List.flatMap_append]
      simp
    have e2 := flat_take (fun p : Cs × Cs => [p.1, p.2]) r.tell (i + 1)
    rw [e1, List.length_append] at e2
    refine ⟨_, rfl, .inl ⟨rfl, _, SqL.of hs⟩, _, rfl, ls, t, _, _, rfl, rfl, hs, h1.same sm, (by rw [List.length_map, List.length_append, List.length_append]; exact sz (by simp only [List.length_cons, List.length_nil] at e2 ⊢; omega)), Same.upd_new sm hls _, ?_, _, _, _, rfl⟩
    rw [upd_same, e1, ← List.append_assoc, ← List.append_assoc, ← List.append_assoc, List.map_append (l₁ := LA ++ LB ++ _)]
    rfl
  rintro σ H3 ⟨s3, hs3, o2, o3, o4, rfl⟩
  have zut : ut.length = r.tell.length := zt.symm
  rw [zut, List.take_length] at hs3
  refine ⟨_, rfl, q _ _ s3 ⟨ls, rfl, hls, ?_⟩⟩
  unfold saidOf
  rw [hA, hB]
  exact hs3
theorem sc_check_names : FnScope ["rule", "name"] ["rule"] (defScope s_check_names) := ⟨rfl, rfl, rfl, by decide +kernel, rfl, by decide +kernel, by decide +kernel⟩
theorem ok_check_names (F : Fun K "check_names" "check_names" s_check_names f fd) (T : RTxt K c.rule) (c_said_names : Cal P w K mg base "said_names" 1 ["rule"] (spSaid K c)) (c_is_great : Cal P w K mg base "is_great" 1 ["name"] spGreat) : FnOk P w K mg base CX0 2 f fd ["rule"] (spCheckN K c) := by
  refine F.ok sc_check_names (fun vs H Q E h => ?_) (fun cdv A outer s H vs Q E hr h => ?_)
  · obtain ⟨H0, v, r, rfl, _⟩ := h
    rfl
  obtain ⟨H0, v, r, rfl, hR, hz, hnm, hgr, q⟩ := h
  refine ⟨_, (pss_one (ps_for PassesOwn.never rfl (pi_list (pe_callC c_said_names (hr.mono (by decide)) rfl (pa_cons (pv 0) pa_nil))) (pg_name (i := 1) sc_check_names.nd rfl (Or.inl rfl))
  (pss_one (ps_if (PW.pt (pw_and (pt_val (pe_callC c_is_great (hr.mono (by decide)) rfl (pa_cons (pv 1) pa_nil))) (pw_and1 (pt_cmpR op_notIn_seq (pv 1) (pe_fld (pv 0) rfl) (by with_unfolding_all rfl)))))
  pss_never
  pss_nil)))), ?_⟩
  refine ⟨_, rfl, H0, v, r, rfl, hR, hz, fun u H1 s1 T1 => ?_⟩
  obtain ⟨l, rfl, hl0, hl⟩ := T1
  obtain ⟨a, dx, fs, rfl, na, ha, RF⟩ := id hR
  obtain ⟨vn, en, ln, rfl, nn, hn⟩ := RF.names
  refine ⟨l, rfl, ⟨_, SqL.of hl⟩, for_list (K := K) (a := l) (xs := (saidOf r).map tx) (fun i σ H' => H' = H1 ∧ ∃ o, σ = [some (.ref a), o]) ⟨rfl, none, rfl⟩ (fun i σ H' _ ⟨e, _⟩ => by rw [e]; exact SqL.of hl) ?_ ?_⟩
  · rintro i y σ H' hi ⟨rfl, o, rfl⟩
    obtain ⟨hiu, ey⟩ := get_of hi
    rw [List.length_map] at hiu
    rw [List.getElem_map] at ey
    subst ey
    have hmem : (saidOf r)[i] ∈ saidOf r := List.getElem_mem hiu
    have hlen := nameC_len (hnm _ hmem)
    refine ⟨_, rfl, (saidOf r)[i], rfl, (fun z => by rw [z] at hlen; simp at hlen), by omega, _, rfl, ?_⟩
    refine ite2 (fun g => ?_) (fun g => iteF ⟨rfl, _, rfl⟩)
    refine ⟨_, rfl, _, rfl, a, c.rule, dx, fs, _, rfl, s1 _ _ ha, T.cl, T.n7, en, ln, _, rfl, .inl (SqL.of (s1 _ _ hn)), rfl, flat_map _, _, rfl, ?_⟩
    rw [inV_map, decide_eq_true (hgr _ hmem g)]
    exact iteF ⟨rfl, _, rfl⟩
  · rintro σ H' ⟨rfl, o, rfl⟩
    exact q _ s1
end
end K32
namespace K32
open PySem L2 K02 Bk
set_option maxHeartbeats 4000000
section
variable {P : Program} {w : World} {K : PySem.W.Frag} {mg : Str → Option Value} {base : Heap} {f : Addr} {fd : FuncData} {c : Cl}
theorem sc_whole_book : FnScope ["kinds", "rules", "lasts", "rule"] ["kinds", "rules"] (defScope s_whole_book) := ⟨rfl, rfl, rfl, by decide +kernel, rfl, by decide +kernel, by decide +kernel⟩
theorem ok_whole_book (F : Fun K "whole_book" "whole_book" s_whole_book f fd) (T : RTxt K c.rule) (c_check_facts : Cal P w K mg base "check_facts" 1 ["kinds", "facts"] (spCheckF K)) (c_check_taken : Cal P w K mg base "check_taken" 1 ["lasts", "taken"] (spCheckT K)) (c_check_call : Cal P w K mg base "check_call" 2 ["lasts", "rule"] (spCheckC K c))
    (c_check_names : Cal P w K mg base "check_names" 2 ["rule"] (spCheckN K c)) (c_Book : Mak P w K mg base "Book" c.book 1 ["self", "kinds", "rules"] (spBInit K c)) : FnOk P w K mg base CX0 3 f fd ["kinds", "rules"] (spWhole K c) := by
  refine F.ok sc_whole_book (fun vs H Q E h => ?_) (fun cdv A outer s H vs Q E hr h => ?_)
  · obtain ⟨H0, lk, lr, ks, rs, kvs, rvs, rfl, _⟩ := h
    rfl
  obtain ⟨H0, lk, lr, ks, rs, kvs, rvs, rfl, I, nd, good, q⟩ := h
  refine ⟨_, (pss_cons (ps_setc (i := 2) [] sc_whole_book.nd rfl (Or.inl rfl) rfl (by kernel_rfl) (pi_list (pv 0)) (fun _ _ _ _ _ => (pts_one (pt_val (pe_ix (r := rIxT K) ix_tup (pv 0) pe_int (fun _ _ => rfl))))) (fun _ _ _ _ _ => (pe_ix (r := rIxT K) ix_tup (pv 0) pe_int (fun _ _ => rfl))))
  (pss_cons (ps_for PassesOwn.never rfl (pi_list (pv 1)) (pg_name (i := 3) sc_whole_book.nd rfl (Or.inl rfl))
  (pss_cons (ps_expr (pe_callC c_check_facts (hr.mono (by decide)) rfl (pa_cons (pv 0) (pa_cons (pe_op op_cat (pe_op op_cat (pe_fld (pv 3) rfl) (pe_fld (pv 3) rfl)) (pe_fld (pv 3) rfl)) pa_nil))))
  (pss_cons (ps_expr (pe_callC c_check_taken (hr.mono (by decide)) rfl (pa_cons (pv 2) (pa_cons (pe_fld (pv 3) rfl) pa_nil))))
  (pss_cons (ps_expr (pe_callC c_check_call (hr.mono (by decide)) rfl (pa_cons (pv 2) (pa_cons (pv 3) pa_nil))))
  (pss_one (ps_expr (pe_callC c_check_names (hr.mono (by decide)) rfl (pa_cons (pv 3) pa_nil))))))))
  (pss_one (ps_ret (pe_makeC c_Book (hr.mono (by decide)) rfl (pa_cons (pv 0) (pa_cons (pv 1) pa_nil))))))), ?_⟩
  have zk := Paired.length I.pk
  have zr := Paired.length I.pr
  refine ⟨_, rfl, lk, rfl, ⟨_, SqL.of I.hk⟩, fun D hD => ?_⟩
  refine comp_relF (K := K) (xs := kvs) ks (·.l) (·.n) (fun _ _ b y => y = tx b) (fun _ _ _ _ _ _ h => h) (fun _ _ _ _ _ _ h => h) (szl (by have := I.fk; omega)) hD (SqL.of I.hk) zk (fun i x b H' R hx hb sm hQ => ?_) (fun i x b H' R hx hb hk sm hQ => ?_) (fun H1 ys s1 hL po => ?_)
  · obtain ⟨hi, ex⟩ := get_of hx
    obtain ⟨hib, eb⟩ := get_of hb
    obtain ⟨t, et, ht⟩ := paired_at I.pk i hib hi
    rw [ex] at et
    rw [eb] at ht
    subst et
    exact ⟨_, rfl, t, _, 2, _, rfl, rfl, ht.same sm, rfl, _, rfl, hQ _ (Same.refl _)⟩
  · obtain ⟨hi, ex⟩ := get_of hx
    obtain ⟨hib, eb⟩ := get_of hb
    obtain ⟨t, et, ht⟩ := paired_at I.pk i hib hi
    rw [ex] at et
    rw [eb] at ht
    subst et
    exact ⟨_, rfl, t, _, 0, _, rfl, rfl, ht.same sm, rfl, hQ _ _ (Same.refl _) rfl⟩
  rw [paired_tx po] at hL
  refine ⟨_, rfl, lr, rfl, ⟨_, SqL.of (s1 _ _ I.hr)⟩, for_list (K := K) (a := lr) (xs := rvs) (fun i σ H' => Same H1 H' ∧ ∃ o, σ = [some (.ref lk), some (.ref lr), some (.ref D), o]) ⟨Same.refl _, none, rfl⟩ (fun i σ H' _ ⟨sm, _⟩ => SqL.of (sm _ _ (s1 _ _ I.hr))) ?_ ?_⟩
  · rintro i y σ H' hi ⟨sm, o, rfl⟩
    obtain ⟨hiu, ey⟩ := get_of hi
    have hiR : i < rs.length := by omega
    have sA := Same.trans s1 sm
    have hR0 := paired_at I.pr i hiR hiu
    rw [ey] at hR0
    have g := good _ (List.getElem_mem hiR)
    generalize rs[i] = r at hR0 g
    have hR := hR0.keep (Kp.same sA)
    obtain ⟨a, dx, fs, rfl, na, ha, RF⟩ := id hR
    obtain ⟨vt, ev, lt, ut, rfl, nt, ht, pt⟩ := RF.taken
    obtain ⟨vk, ek, lp, uk, rfl, nk, hk, pk⟩ := RF.kept
    obtain ⟨vg, eg, lg, ug, rfl, ng, hg, pg⟩ := RF.given
    have zt := Paired.length pt
    have zk2 := Paired.length pk
    have zg := Paired.length pg
    have hfew := g.fewF
    rw [List.length_append, List.length_append] at hfew
    refine ⟨_, rfl, _, rfl, a, c.rule, dx, fs, _, rfl, ha, T.cl, T.n2, ev, _, rfl, a, c.rule, dx, fs, _, rfl, ha, T.cl, T.n3, ek, lt, lp, _, _, rfl, rfl, ht, hk, sz (by omega), fun p1 hp1 => ?_⟩
    have sp1 := same_new hp1 (.lst (ut ++ uk))
    refine ⟨_, rfl, a, c.rule, dx, fs, _, rfl, sp1 _ _ ha, T.cl, T.n5, eg, p1, lg, _, _, rfl, rfl, upd_same, sp1 _ _ hg, sz (by rw [List.length_append]; omega), fun p2 hp2 => ?_⟩
    have sp2 := Same.trans sp1 (same_new hp2 (.lst ((ut ++ uk) ++ ug)))
    have sB := Same.trans sA sp2
    refine ⟨lk, p2, kvs, _, ks, r.take ++ r.keep ++ r.put, rfl, sB _ _ I.hk, L2.Paired.mapP I.pk fun _ _ z => z.keep (H0 := H0) (Kp.same sB), nd, I.fk, upd_same, ?_, g.fits, fun H2 s2 => ?_⟩
    · exact paired_app (paired_app (L2.Paired.mapP pt fun _ _ z => z.keep (H0 := H0) (Kp.same sp2)) (L2.Paired.mapP pk fun _ _ z => z.keep (H0 := H0) (Kp.same sp2))) (L2.Paired.mapP pg fun _ _ z => z.keep (H0 := H0) (Kp.same sp2))
    have sC := Same.trans sp2 s2
    have hR2 := hR.keep (Kp.same sC)
    have hD2 := sC _ _ (sm _ _ hL)
    refine ⟨_, rfl, _, rfl, a, c.rule, dx, fs, _, rfl, sC _ _ ha, T.cl, T.n2, ev, D, lt, _, _, r.take, rfl, hD2, sC _ _ ht, L2.Paired.mapP pt fun _ _ z => z.keep (H0 := H0) (Kp.same sC), g.takes, ?_⟩
    refine ⟨_, rfl, _, rfl, H0, D, _, _, r, rfl, hD2, hR2, g.calls, ?_⟩
    exact ⟨_, rfl, H0, _, r, rfl, hR2, g.few, g.names, g.said, fun H3 s3 => ⟨Same.trans sm (Same.trans sC s3), _, rfl⟩⟩
  · rintro σ H' ⟨sm, o, rfl⟩
    have sA := Same.trans s1 sm
    refine ⟨_, rfl, _, rfl, fun x dx hx hdx nex => ?_⟩
    refine ⟨x, dx, _, _, rfl, upd_same, fun H2 fs h1 h2 h3 kp => ⟨rfl, q x dx fs H2 (fun b o e => kp b o ?_ (ne_of_none (sA _ _ e) hx)) (sA.free hx) h1 h2 h3⟩⟩
    rw [upd_ne (ne_of_none (sA _ _ e) hx), upd_ne (ne_of_none (sA _ _ e) hdx)]
    exact sA _ _ e
theorem sc_read_book : FnScope ["text", "kinds", "rules", "line"] ["text"] (defScope s_read_book) := ⟨rfl, rfl, rfl, by decide +kernel, rfl, by decide +kernel, by decide +kernel⟩
theorem ok_read_book (F : Fun K "read_book" "read_book" s_read_book f fd) (c_told_lines : Cal P w K mg base "told_lines" 2 ["text"] spLines) (c_hear_line : Cal P w K mg base "hear_line" 8 ["kinds", "rules", "line"] (spHear K c)) (c_whole_book : Cal P w K mg base "whole_book" 3 ["kinds", "rules"] (spWhole K c)) :
    FnOk P w K mg base CX0 9 f fd ["text"] (spBook K c) := by
  refine F.ok sc_read_book (fun vs H Q E h => ?_) (fun cdv A outer s H vs Q E hr h => ?_)
  · obtain ⟨ls, its, rfl, _⟩ := h
    rfl
  obtain ⟨ls, its, rfl, h0, hN, hx, B, q⟩ := h
  refine ⟨_, (pss_cons (ps_set (i := 1) sc_read_book.nd rfl (Or.inl rfl) (pe_lst pa_nil))
  (pss_cons (ps_set (i := 2) sc_read_book.nd rfl (Or.inl rfl) (pe_lst pa_nil))
  (pss_cons (ps_for PassesOwn.never rfl (pi_list (pe_callC c_told_lines (hr.mono (by decide)) rfl (pa_cons (pv 0) pa_nil))) (pg_name (i := 3) sc_read_book.nd rfl (Or.inl rfl))
  (pss_one (ps_expr (pe_callC c_hear_line (hr.mono (by decide)) rfl (pa_cons (pv 1) (pa_cons (pv 2) (pa_cons (pv 3) pa_nil)))))))
  (pss_one (ps_ret (pe_callC c_whole_book (hr.mono (by decide)) rfl (pa_cons (pv 1) (pa_cons (pv 2) pa_nil)))))))), ?_⟩
  refine ⟨(by show 0 ≤ sizeLine; decide), fun lk hlk => ⟨(by show 0 ≤ sizeLine; decide), fun lr hlr => ?_⟩⟩
  have nkr : lk ≠ lr := fun z => by rw [← z, upd_same] at hlr; cases hlr
  have hlrH : H lr = none := (same_new hlk _).free hlr
  have s0 : Same H (upd (upd H lk (.lst [])) lr (.lst [])) := Same.trans (same_new hlk _) (same_new hlr _)
  have hk0 : upd (upd H lk (.lst [])) lr (.lst []) lk = some (.lst []) := by rw [upd_ne nkr]; exact upd_same
  have hr0 : upd (upd H lk (.lst [])) lr (.lst []) lr = some (.lst []) := upd_same
  generalize upd (upd H lk (.lst [])) lr (.lst []) = B0 at s0 hk0 hr0
  refine ⟨_, rfl, ls, rfl, h0, hN, hx, fun v H1 s1 T1 => ?_⟩
  obtain ⟨l, rfl, hl0, hl⟩ := T1
  rw [B.lines] at hl
  have nlk : l ≠ lk := fun z => by rw [z, hk0] at hl0; cases hl0
  have nlr : l ≠ lr := fun z => by rw [z, hr0] at hl0; cases hl0
  refine ⟨l, rfl, ⟨_, SqL.of hl⟩, for_list (K := K) (a := l) (xs := (its.map (·.1)).map tx) (fun i σ H' => ∃ (kvs rvs : List V) (o : Option V), σ = [some (tx (joinN ls)), some (.ref lk), some (.ref lr), o] ∧ (∀ b o, b ≠ lk → b ≠ lr → H1 b = some o → H' b = some o) ∧
      HearIn K c B0 H' lk lr (ksOf ((its.take i).map (·.2))) (rsOf ((its.take i).map (·.2))) kvs rvs)
    ⟨[], [], none, rfl, fun _ _ _ _ h => h, ⟨s1 _ _ hk0, .nil, s1 _ _ hr0, .nil, nkr, ⟨_, hk0⟩, ⟨_, hr0⟩, fun b h => s1.free h, Nat.zero_le _, Nat.zero_le _⟩⟩ (fun i σ H' _ ⟨_, _, _, _, k1, _⟩ => SqL.of (k1 _ _ nlk nlr hl)) ?_ ?_⟩
  · rintro i y σ H' hi ⟨kvs, rvs, o, rfl, k1, I⟩
    obtain ⟨hiu, ey⟩ := get_of hi
    rw [List.length_map, List.length_map] at hiu
    rw [List.getElem_map, List.getElem_map] at ey
    subst ey
    have hm := List.getElem_mem hiu
    have hx1 := B.ok _ hm
    have hkl := ksOf_len ((its.take i).map (·.2))
    have hrl := rsOf_len ((its.take i).map (·.2))
    rw [List.length_map, List.length_take] at hkl hrl
    have hfew := B.few
    have hlen1 : its[i].1.length ≤ 20000 := by
      have z : its[i].1 ∈ ls := by
        have z2 : its[i].1 ∈ ls.filter told := by rw [B.lines]; exact List.mem_map.mpr ⟨_, hm, rfl⟩
        exact (List.mem_filter.mp z2).1
      have := joinN_mem ls _ z
      omega
    have etake : (its.take (i + 1)).map (·.2) = (its.take i).map (·.2) ++ [its[i].2] := by
      rw [List.take_succ_eq_append_getElem hiu, List.map_append]
      rfl
    have eall : its.map (·.2) = (its.take i).map (·.2) ++ ([its[i].2] ++ (its.drop (i + 1)).map (·.2)) := by
      rw [List.singleton_append, ← List.map_cons (f := (·.2)) (a := its[i]) (l := its.drop (i + 1)), ← List.map_append, ← List.drop_eq_getElem_cons hiu, List.take_append_drop]
    refine ⟨_, rfl, _, rfl, _, rfl, B0, lk, lr, _, _, kvs, rvs, its[i].1, rfl, I, by omega, by omega, hlen1, hx1.1, ?_⟩
    have hnk := B.nk
    have hnr := B.nr
    rw [eall] at hnk hnr
    rw [ksOf_app, ksOf_app] at hnk
    rw [rsOf_app, rsOf_app] at hnr
    rcases hx1 with ⟨-, hx2, hx3⟩
    generalize its[i].2 = it at hx2 hx3 etake hnk hnr
    cases it with
    | kind k =>
      refine .inl ⟨k, hx2, hx3, ?_, fun v H2 k2 I2 => ⟨kvs ++ [v], rvs, _, rfl, fun b o b1 b2 e => k2 b o b1 (k1 b o b1 b2 e), ?_⟩⟩
      · intro hin
        rw [List.map_append, List.map_append, List.nodup_append] at hnk
        exact hnk.2.2 k.n hin k.n (List.mem_append_left _ (by simp [ksOf])) rfl
      · rw [etake, ksOf_app, rsOf_app]
        show HearIn K c B0 H2 lk lr (_ ++ [k]) (_ ++ []) _ _
        rw [List.append_nil]
        exact I2
    | rule t L =>
      refine .inr ⟨t, L, hx2, hx3.1, hx3.2, ?_, fun v H2 k2 I2 => ⟨kvs, rvs ++ [v], _, rfl, fun b o b1 b2 e => k2 b o b2 (k1 b o b1 b2 e), ?_⟩⟩
      · intro hin
        rw [List.map_append, List.map_append, List.nodup_append] at hnr
        exact hnr.2.2 t hin t (List.mem_append_left _ (by simp [rsOf, rlOf])) rfl
      · rw [etake, ksOf_app, rsOf_app]
        show HearIn K c B0 H2 lk lr (_ ++ []) (_ ++ [rlOf t L]) _ _
        rw [List.append_nil]
        exact I2
  · rintro σ H' ⟨kvs, rvs, o, rfl, k1, I⟩
    rw [List.length_map, List.length_map, List.take_length] at I
    refine ⟨_, rfl, _, rfl, B0, lk, lr, _, _, kvs, rvs, rfl, I, B.nk, B.good, fun x dx fs H2 s2 hx h1 h2 h3 => ?_⟩
    have sH : Same H H2 := fun b o e => s2 b o (k1 b o (ne_of_none e hlk) (ne_of_none e hlrH) (s1 _ _ (s0 _ _ e)))
    have domB : ∀ b, B0 b = none → H b = none := fun b h => s0.free h
    refine q _ _ sH ⟨x, dx, fs, rfl, domB x (I.dom x hx), h1, ⟨_, h2, lk, kvs, rfl, hlk, s2 _ _ I.hk, L2.Paired.mapP I.pk fun _ _ z => z.keep (H0 := H) (Kp.same s2)⟩, ⟨_, h3, lr, rvs, rfl, hlrH, s2 _ _ I.hr, L2.Paired.mapP I.pr fun _ _ z => RuleO.older domB (z.keep (Kp.same s2))⟩⟩
end
end K32
namespace K32
open PySem L2 K02 Bk
set_option maxHeartbeats 4000000
section
variable {P : Program} {w : World} {K : PySem.W.Frag} {mg : Str → Option Value} {base : Heap} {f : Addr} {fd : FuncData} {c : Cl}
theorem sc_passing_kinds : FnScope ["book"] ["book"] (defScope s_passing_kinds) := ⟨rfl, rfl, rfl, by decide +kernel, rfl, by decide +kernel, by decide +kernel⟩
theorem ok_passing_kinds (F : Fun K "passing_kinds" "passing_kinds" s_passing_kinds f fd) (T : BTxt K c.book) : FnOk P w K mg base CX0 1 f fd ["book"] (spPass K c) := by
  refine F.ok sc_passing_kinds (fun vs H Q E h => ?_) (fun cdv A outer s H vs Q E hr h => ?_)
  · obtain ⟨v, H0, ks, rs, rfl, _⟩ := h
    rfl
  obtain ⟨v, H0, ks, rs, rfl, ⟨x, dx, fs, rfl, hx0, hx, ⟨v1, e1, lk, kvs, rfl, hk0, hk, pk⟩, _⟩, hfew, q⟩ := h
  refine ⟨_, (pss_one (ps_ret (pe_comp [] rfl (by kernel_rfl) (pi_list (pe_fld (pv 0) rfl)) (fun _ _ _ _ _ => (pts_one (pt_not (pt_val (pe_ix (r := rIxT K) ix_tup (pv 0) pe_int (fun _ _ => rfl)))))) (fun _ _ _ _ _ => (pe_ix (r := rIxT K) ix_tup (pv 0) pe_int (fun _ _ => rfl)))))), ?_⟩
  have zk := Paired.length pk
  refine ⟨_, rfl, x, c.book, dx, fs, _, rfl, hx, T.cl, T.n1, e1, lk, rfl, ⟨_, SqL.of hk⟩, fun D hD => ?_⟩
  refine comp_relF (K := K) (xs := kvs) ks (fun k => !k.l) (·.n) (fun _ _ b y => y = tx b) (fun _ _ _ _ _ _ h => h) (fun _ _ _ _ _ _ h => h) (szl (by omega)) hD (SqL.of hk) zk (fun i x b H' R hx hb sm hQ => ?_) (fun i x b H' R hx hb hk sm hQ => ?_) (fun H1 ys s1 hL po => ?_)
  · obtain ⟨hi, ex⟩ := get_of hx
    obtain ⟨hib, eb⟩ := get_of hb
    obtain ⟨t, et, ht⟩ := paired_at pk i hib hi
    rw [ex] at et
    rw [eb] at ht
    subst et
    exact ⟨_, rfl, t, _, 2, _, rfl, rfl, ht.same sm, rfl, _, rfl, hQ _ (Same.refl _)⟩
  · obtain ⟨hi, ex⟩ := get_of hx
    obtain ⟨hib, eb⟩ := get_of hb
    obtain ⟨t, et, ht⟩ := paired_at pk i hib hi
    rw [ex] at et
    rw [eb] at ht
    subst et
    exact ⟨_, rfl, t, _, 0, _, rfl, rfl, ht.same sm, rfl, hQ _ _ (Same.refl _) rfl⟩
  rw [paired_tx po] at hL
  exact q _ _ s1 ⟨D, rfl, hD, hL⟩
theorem sc_effect : FnScope ["rule", "kind", "given", "taken"] ["rule", "kind"] (defScope s_effect) := ⟨rfl, rfl, rfl, by decide +kernel, rfl, by decide +kernel, by decide +kernel⟩
theorem ok_effect (F : Fun K "effect" "effect" s_effect f fd) (T : RTxt K c.rule) (m_len : mg "len" = none) : FnOk P w K mg base CX0 1 f fd ["rule", "kind"] (spEff K c) := by
  refine F.ok sc_effect (fun vs H Q E h => ?_) (fun cdv A outer s H vs Q E hr h => ?_)
  · obtain ⟨v, H0, r, z, rfl, _⟩ := h
    rfl
  obtain ⟨v, H0, r, z, rfl, ⟨a, dx, fs, rfl, na, ha, RF⟩, hf1, hf2, q⟩ := h
  obtain ⟨vt, ev, lt, ut, rfl, nt, ht, pt⟩ := RF.taken
  obtain ⟨vg, eg, lg, ug, rfl, ng, hg, pg⟩ := RF.given
  refine ⟨_, (pss_cons (ps_setc (i := 2) [1] sc_effect.nd rfl (Or.inl rfl) rfl (by kernel_rfl) (pi_list (pe_fld (pv 0) rfl)) (fun _ _ _ _ _ => (pts_one (pt_cmpR op_eq (pe_ix (r := rIxT K) ix_tup (pv 0) pe_int (fun _ _ => rfl)) (pv 1) (nomark _)))) (fun _ _ _ _ _ => (pv 0)))
  (pss_cons (ps_setc (i := 3) [1] sc_effect.nd rfl (Or.inl rfl) rfl (by kernel_rfl) (pi_list (pe_fld (pv 0) rfl)) (fun _ _ _ _ _ => (pts_one (pt_cmpR op_eq (pe_ix (r := rIxT K) ix_tup (pv 0) pe_int (fun _ _ => rfl)) (pv 1) (nomark _)))) (fun _ _ _ _ _ => (pv 0)))
  (pss_one (ps_ret (pe_op op_sub (pe_callB call_len_seq rfl m_len PySem.boot_len (pa_cons (pv 2) pa_nil)) (pe_callB call_len_seq rfl m_len PySem.boot_len (pa_cons (pv 3) pa_nil))))))), ?_⟩
  have zt := Paired.length pt
  have zg := Paired.length pg
  have one : ∀ (fc : Fc) (u : V) (H1 : Hp), Fact K H1 fc u → ∃ t t2, u = .ref t ∧ SqT K H1 t [tx fc.k, .ref t2] := fun fc u H1 ⟨t, t2, e, h1, _⟩ => ⟨t, t2, e, h1⟩
  refine ⟨_, rfl, a, c.rule, dx, fs, _, rfl, ha, T.cl, T.n5, eg, lg, rfl, ⟨_, SqL.of hg⟩, fun D hD => ?_⟩
  refine comp_relF (K := K) (xs := ug) r.put (fun f => decide (f.k = z)) id (fun _ _ _ _ => True) (fun _ _ _ _ _ _ h => h) (fun _ _ _ _ _ _ h => h) (szl (by omega)) hD (SqL.of hg) zg (fun i x b H' R hx hb sm hQ => ?_) (fun i x b H' R hx hb hk sm hQ => ?_) (fun H1 ys s1 hL po => ?_)
  · obtain ⟨hi, ex⟩ := get_of hx
    obtain ⟨hib, eb⟩ := get_of hb
    have hF := paired_at pg i hib hi
    rw [ex, eb] at hF
    obtain ⟨t, t2, et, h1⟩ := one _ _ _ hF
    subst et
    refine ⟨_, rfl, t, _, 0, _, rfl, rfl, h1.same sm, rfl, _, rfl, rfl, _, rfl, ?_⟩
    have z := hQ _ (Same.refl _)
    rw [← tx_dec] at z
    exact z
  · exact ⟨_, rfl, hQ _ _ (Same.refl _) trivial⟩
  have zy := Paired.length po
  refine ⟨_, rfl, a, c.rule, dx, fs, _, rfl, s1 _ _ ha, T.cl, T.n2, ev, lt, rfl, ⟨_, SqL.of (s1 _ _ ht)⟩, fun D2 hD2 => ?_⟩
  refine comp_relF (K := K) (xs := ut) r.take (fun f => decide (f.k = z)) id (fun _ _ _ _ => True) (fun _ _ _ _ _ _ h => h) (fun _ _ _ _ _ _ h => h) (szl (by omega)) hD2 (SqL.of (s1 _ _ ht)) zt (fun i x b H' R hx hb sm hQ => ?_) (fun i x b H' R hx hb hk sm hQ => ?_) (fun H2 ys2 s2 hL2 po2 => ?_)
  · obtain ⟨hi, ex⟩ := get_of hx
    obtain ⟨hib, eb⟩ := get_of hb
    have hF := paired_at pt i hib hi
    rw [ex, eb] at hF
    obtain ⟨t, t2, et, h1⟩ := one _ _ _ hF
    subst et
    refine ⟨_, rfl, t, _, 0, _, rfl, rfl, h1.same (Same.trans s1 sm), rfl, _, rfl, rfl, _, rfl, ?_⟩
    have z := hQ _ (Same.refl _)
    rw [← tx_dec] at z
    exact z
  · exact ⟨_, rfl, hQ _ _ (Same.refl _) trivial⟩
  have zy2 := Paired.length po2
  refine ⟨_, rfl, D, _, rfl, .inl (SqL.of (s2 _ _ hL)), _, rfl, D2, _, rfl, .inl (SqL.of hL2), _, _, rfl, rfl, ?_⟩
  have e := q _ (Same.trans s1 s2)
  unfold eff at e
  rw [List.length_map] at zy zy2
  rw [zy, zy2] at e
  exact e
theorem sc_effects : FnScope ["book", "kinds"] ["book"] (defScope s_effects) := ⟨rfl, rfl, rfl, by decide +kernel, rfl, by decide +kernel, by decide +kernel⟩
theorem ok_effects (F : Fun K "effects" "effects" s_effects f fd) (T : BTxt K c.book) (c_passing_kinds : Cal P w K mg base "passing_kinds" 1 ["book"] (spPass K c)) (c_effect : Cal P w K mg base "effect" 1 ["rule", "kind"] (spEff K c)) : FnOk P w K mg base CX0 4 f fd ["book"] (spEffs K c) := by
  refine F.ok sc_effects (fun vs H Q E h => ?_) (fun cdv A outer s H vs Q E hr h => ?_)
  · obtain ⟨v, H0, ks, rs, rfl, _⟩ := h
    rfl
  obtain ⟨v, H0, ks, rs, rfl, B, hfew, hfr, hff, q⟩ := h
  refine ⟨_, (pss_cons (ps_set (i := 1) sc_effects.nd rfl (Or.inr rfl) (pe_callC c_passing_kinds (hr.mono (by decide)) rfl (pa_cons (pv 0) pa_nil)))
  (pss_one (ps_ret (pe_comp2 [1] rfl (by kernel_rfl) (pi_list (pe_fld (pv 0) rfl)) (fun _ _ _ _ _ => pts_nil) (fun _ _ _ _ _ => (pe_comp [0] rfl (by kernel_rfl) (pi_listK (K := K) rfl (pv 1)) (fun _ _ _ _ _ => pts_nil) (fun _ _ _ _ _ => (pe_callC c_effect (hr.mono (by decide)) rfl (pa_cons (pv 1) (pa_cons (pv 0) pa_nil)))))))))), ?_⟩
  refine ⟨_, rfl, v, H0, ks, rs, rfl, B, hfew, fun u H1 s1 T1 => ?_⟩
  obtain ⟨lp, rfl, hlp0, hlp⟩ := T1
  obtain ⟨x, dx, fs, rfl, hx0, hx, ⟨v1, e1, lk, kvs, rfl, hk0, hk, pk⟩, ⟨v2, e2, lr, rvs, rfl, hr0, hr1, pr⟩⟩ := B.keep (Kp.same s1)
  have zr := Paired.length pr
  have zp : (Bk.passing ks).length ≤ 10000 := by
    unfold Bk.passing
    rw [List.length_map]
    exact Nat.le_trans (List.length_filter_le _ _) hfew
  refine ⟨_, rfl, x, c.book, dx, fs, _, rfl, hx, T.cl, T.n2, e2, lr, rfl, ⟨_, SqL.of hr1⟩, fun D hD => ?_⟩
  refine comp_rel (K := K) (xs := rvs) (effT ks rs) (fun H0 H b y => Ints H0 H b y) (fun _ _ _ _ _ k h => h.keep k) (fun _ _ _ _ _ d h => h.older d) (szl (by omega)) hD (SqL.of hr1) (by unfold effT; rw [List.length_map]; exact zr) (fun i y b H' R hy hb sm hQ => ?_) (fun H2 ys s2 hL po => ?_)
  · obtain ⟨hi, ey⟩ := get_of hy
    obtain ⟨hib, eb⟩ := get_of hb
    unfold effT at hib eb
    rw [List.length_map] at hib
    rw [List.getElem_map] at eb
    have hR := (paired_at pr i hib hi).keep (Kp.same sm)
    rw [ey] at hR
    have hf2 := hff _ (List.getElem_mem hib)
    generalize rs[i] = r at eb hR hf2
    refine ⟨_, rfl, lp, rfl, ⟨_, SqL.of (sm _ _ hlp)⟩, fun D2 hD2 => ?_⟩
    refine comp_rel (K := K) (xs := (Bk.passing ks).map tx) ((Bk.passing ks).map (eff r)) (fun _ _ b y => y = V.int b) (fun _ _ _ _ _ _ h => h) (fun _ _ _ _ _ _ h => h) (szl (by rw [List.length_map]; omega)) hD2 (SqL.of (sm _ _ hlp)) (by rw [List.length_map, List.length_map]) (fun j z b2 H3 R2 hz hb2 sm2 hQ2 => ?_) (fun H3 zs s3 hL3 po3 => ?_)
    · obtain ⟨hj, ez⟩ := get_of hz
      obtain ⟨hjb, eb2⟩ := get_of hb2
      rw [List.length_map] at hj
      rw [List.getElem_map] at ez eb2
      subst ez
      exact ⟨_, rfl, _, rfl, y, H0, r, _, rfl, hR.keep (Kp.same sm2), hf2.1, hf2.2, fun H4 s4 => hQ2 _ _ s4 (by rw [← eb2])⟩
    · rw [paired_ints po3] at hL3
      refine hQ _ _ s3 ⟨D2, rfl, hD2, ?_⟩
      rw [hL3, ← eb]
  · exact q _ _ (Same.trans s1 s2) ⟨D, ys, rfl, s1.free hD, hL, L2.Paired.mapP po fun _ _ z => z.older (fun b h => s1.free h)⟩
end
end K32
namespace K32
open PySem L2 K02 Bk
set_option maxHeartbeats 4000000
section
variable {P : Program} {w : World} {K : PySem.W.Frag} {mg : Str → Option Value} {base : Heap} {f : Addr} {fd : FuncData} {c : Cl}
theorem sc__law_cell : FnScope ["_law_script", "_law_k"] ["_law_script", "_law_k"] (defScope s__law_cell) := ⟨rfl, rfl, rfl, by decide +kernel, rfl, by decide +kernel, by decide +kernel⟩
theorem ok__law_cell (F : Fun K "_law_cell" "_law_cell" s__law_cell f fd) (m_len : mg "len" = none) : FnOk P w K mg base CX0 1 f fd ["_law_script", "_law_k"] (spCell K) := by
  refine F.ok sc__law_cell (fun vs H Q E h => ?_) (fun cdv A outer s H vs Q E hr h => ?_)
  · obtain ⟨a, ns, k, rfl, _⟩ := h
    rfl
  obtain ⟨a, ns, k, rfl, hS, h0, q⟩ := h
  refine ⟨_, (pss_cons (ps_if (pt_cmpR op_lt (pv 1) (pe_callB call_len_seq rfl m_len PySem.boot_len (pa_cons (pv 0) pa_nil)) (nomark _))
  (pss_one (ps_ret (pe_ix ix_list (pv 0) (pv 1) (fun _ _ => rfl))))
  pss_nil)
  (pss_one (ps_ret pe_int))), ?_⟩
  refine ⟨_, rfl, _, rfl, a, _, rfl, .inl hS, _, _, rfl, rfl, _, rfl, ?_⟩
  refine ite2 (fun c => ?_) (fun c => ?_)
  · have c' : k < (((ns.map V.int).length : Nat) : Int) := of_decide_eq_true c
    have hk : k.toNat < ns.length := by rw [List.length_map] at c'; omega
    have e : atI (ns.map V.int) k = some (.int ns[k.toNat]) := by
      have z := atI_nat (xs := ns.map V.int) (j := k.toNat) (v := .int ns[k.toNat]) (by simp [hk])
      rw [show ((k.toNat : Nat) : Int) = k by omega] at z
      exact z
    exact ⟨_, rfl, _, rfl, a, _, k, _, rfl, rfl, hS, e, q _⟩
  · exact q 0
theorem sc__law_digits : FnScope ["_law_cell_here", "_law_sizes", "_law_number", "_law_found", "_law_size"] ["_law_cell_here", "_law_sizes"] (defScope s__law_digits) := ⟨rfl, rfl, rfl, by decide +kernel, rfl, by decide +kernel, by decide +kernel⟩
theorem ok__law_digits (F : Fun K "_law_digits" "_law_digits" s__law_digits f fd) : FnOk P w K mg base CX0 1 f fd ["_law_cell_here", "_law_sizes"] (spDig K) := by
  refine F.ok sc__law_digits (fun vs H Q E h => ?_) (fun cdv A outer s H vs Q E hr h => ?_)
  · obtain ⟨cc, l, ms, rfl, _⟩ := h
    rfl
  obtain ⟨cc, l, ms, rfl, hS, hfew, hms, q⟩ := h
  refine ⟨_, (pss_cons (ps_set (i := 2) sc__law_digits.nd rfl (Or.inl rfl) (pe_op op_mod (pe_op op_mul (pe_op op_mod (pv 0) pe_int) pe_int) pe_int))
  (pss_cons (ps_set (i := 3) sc__law_digits.nd rfl (Or.inl rfl) (pe_lst pa_nil))
  (pss_cons (ps_for PassesOwn.never rfl (pi_list (pv 1)) (pg_name (i := 4) sc__law_digits.nd rfl (Or.inl rfl))
  (pss_cons (ps_expr (pe_bm PySem.F.plainAttrs_list PySem.F.slot_list_append PySem.F.type_list_append mt_append (pv 3) (pa_cons (pe_op op_mod (pv 2) (pv 4)) pa_nil)))
  (pss_one (ps_set (i := 2) sc__law_digits.nd rfl (Or.inl rfl) (pe_op op_fdiv (pv 2) (pv 4))))))
  (pss_one (ps_ret (pv 3)))))), ?_⟩
  refine ⟨_, rfl, _, _, rfl, rfl, (by show (0 : Int) < 2147483647; decide), _, _, rfl, rfl, .inr ⟨by decide, by decide⟩, _, _, rfl, rfl, (by show (0 : Int) < 2147483647; decide), ?_⟩
  refine ⟨(by show 0 ≤ sizeLine; decide), fun p hp => ?_⟩
  refine ⟨_, rfl, l, rfl, ⟨_, (same_new hp _).seq hS⟩, for_list (K := K) (a := l) (xs := ms.map V.int) (fun i σ H' => ∃ (n : Int) (o : Option V) (ds : List Int), σ = [some (.int cc), some (.ref l), some (.int n), some (.ref p), o] ∧ Same H H' ∧ H' p = some (.lst (ds.map V.int)) ∧ Paired (fun m d : Int => 0 ≤ d ∧ d < m) (ms.take i) ds)
    ⟨_, none, [], rfl, same_new hp _, upd_same, by rw [List.take_zero]; exact .nil⟩ (fun i σ H' _ ⟨_, _, _, _, sm, _⟩ => sm.seq hS) ?_ ?_⟩
  · rintro i y σ H' hi ⟨n, o, ds, rfl, sm, hd, pr⟩
    rw [List.getElem?_map] at hi
    cases hq : ms[i]? with
    | none => rw [hq] at hi; cases hi
    | some m =>
      rw [hq] at hi
      obtain rfl : V.int m = y := Option.some.inj hi
      obtain ⟨hil, em⟩ := List.getElem?_eq_some_iff.mp hq
      have hm := hms m (List.mem_of_getElem? hq)
      have zl := Paired.length pr
      rw [List.length_take] at zl
      have md := mid (a := n) (b := m) hm.1
      refine ⟨_, rfl, .inl ⟨rfl, _, SqL.of hd⟩, _, rfl, _, rfl, _, _, rfl, rfl, hm.1, p, _, _, rfl, rfl, hd, szl (by rw [List.length_map]; omega), ?_⟩
      refine ⟨_, rfl, _, rfl, _, _, rfl, rfl, ⟨by omega, by omega⟩, ?_⟩
      refine ⟨_, _, ds ++ [n % m], rfl, Same.upd_new sm hp _, ?_, ?_⟩
      · rw [upd_same, List.map_append]
        rfl
      · rw [List.take_succ_eq_append_getElem hil, em]
        exact pr.snoc md
  · rintro σ H' ⟨n, o, ds, rfl, sm, hd, pr⟩
    rw [List.length_map, List.take_length] at pr
    exact ⟨_, rfl, q p ds H' sm hp hd pr⟩
theorem sc__law_name : FnScope ["_law_style", "_law_k", "_law_size", "_law_at"] ["_law_style", "_law_k"] (defScope s__law_name) := ⟨rfl, rfl, rfl, by decide +kernel, rfl, by decide +kernel, by decide +kernel⟩
theorem ok__law_name (F : Fun K "_law_name" "_law_name" s__law_name f fd) : FnOk P w K mg base CX0 1 f fd ["_law_style", "_law_k"] spName := by
  refine F.ok sc__law_name (fun vs H Q E h => ?_) (fun cdv A outer s H vs Q E hr h => ?_)
  · obtain ⟨st, k, rfl, _⟩ := h
    rfl
  obtain ⟨st, k, rfl, h0, hk, q⟩ := h
  refine ⟨_, (pss_cons (ps_set (i := 2) sc__law_name.nd rfl (Or.inl rfl) (pe_op op_add pe_int (pe_op op_mod (pv 0) pe_int)))
  (pss_cons (ps_set (i := 3) sc__law_name.nd rfl (Or.inl rfl) (pe_op op_mod (pe_op op_fdiv (pv 0) pe_int) (pv 2)))
  (pss_one (ps_ret (pe_op op_add_str (pe_op op_add_str (pe_op op_mulC pe_str (pv 3)) (pe_ix ix_str pe_str (pv 1) (fun _ _ => rfl))) (pe_op op_mulC pe_str (pe_op op_sub (pe_op op_sub (pv 2) pe_int) (pv 3)))))))), ?_⟩
  have m1 := mid (a := st) (b := 5) (by decide)
  have m2 := mid (a := st / 5) (b := 1 + st % 5) (by omega)
  refine ⟨_, rfl, _, _, rfl, rfl, (by show (0 : Int) < 5; decide), _, _, rfl, rfl, ?_⟩
  refine ⟨_, rfl, _, _, rfl, rfl, ⟨by decide, by decide⟩, _, rfl, _, _, rfl, rfl, (by show (0 : Int) < 1 + st % 5; omega), ?_⟩
  have em : (Str.ofString "m") = ⟨#[109]⟩ := by decide +kernel
  have e8 : (Str.ofString "abcdefgh") = S aEight := by decide +kernel
  rw [em, e8]
  refine ⟨_, rfl, 109, _, rfl, rfl, by omega, by omega, ?_⟩
  have hat : atI (S aEight).cps.toList (k : Int) = some (aEight.getD k 0) := by
    rw [S_codes]
    exact atI_nat (getD_get hk)
  refine ⟨_, rfl, S aEight, _, _, rfl, rfl, (by rw [S_len]; exact sz (by decide)), hat, ?_⟩
  have z1 := Int.toNat_of_nonneg m2.1
  have z2 : (st / 5 % (1 + st % 5)).toNat + (1 + st % 5 - 1 - st / 5 % (1 + st % 5)).toNat ≤ 4 := by omega
  have qq := q _ _ rfl rfl z2
  refine ⟨_, _, rfl, rfl, ?_, ?_⟩
  · rw [S_len]
    show _ + 1 ≤ _
    exact sz (by rw [List.length_replicate]; omega)
  refine ⟨_, rfl, _, _, rfl, rfl, _, rfl, _, _, rfl, rfl, 109, _, rfl, rfl, by omega, by omega, ?_⟩
  rw [show (⟨#[aEight.getD k 0]⟩ : Str) = S [aEight.getD k 0] from rfl, app_S]
  refine ⟨_, _, rfl, rfl, ?_, ?_⟩
  · rw [S_len, S_len, List.length_append, List.length_replicate, List.length_replicate]
    exact sz (by simp only [List.length_cons, List.length_nil]; omega)
  rw [app_S, List.append_assoc]
  exact qq
end
end K32
namespace K32
open PySem L2 K02 Bk
set_option maxHeartbeats 4000000
section
variable {P : Program} {w : World} {K : PySem.W.Frag} {mg : Str → Option Value} {base : Heap} {f : Addr} {fd : FuncData} {c : Cl}
theorem sc__law_sheet : FnScope ["_law_script", "_law_d", "_law_many", "_law_rules", "_law_at", "_law_cell_here", "_law_side", "_law_row", "_law_names"] ["_law_script"] (defScope s__law_sheet) := ⟨rfl, rfl, rfl, by decide +kernel, rfl, by decide +kernel, by decide +kernel⟩
theorem ok__law_sheet (F : Fun K "_law_sheet" "_law_sheet" s__law_sheet f fd) (c__law_cell : Cal P w K mg base "_law_cell" 1 ["_law_script", "_law_k"] (spCell K)) (c__law_digits : Cal P w K mg base "_law_digits" 1 ["_law_cell_here", "_law_sizes"] (spDig K)) (c__law_name : Cal P w K mg base "_law_name" 1 ["_law_style", "_law_k"] spName)
    (m_range : mg "range" = none) (m_len : mg "len" = none) (m_list : mg "list" = none) (m_reversed : mg "reversed" = none) (m_enumerate : mg "enumerate" = none) : FnOk P w K mg base CX0 4 f fd ["_law_script"] (spSheet K) := by
  refine F.ok sc__law_sheet (fun vs H Q E h => ?_) (fun cdv A outer s H vs Q E hr h => ?_)
  · obtain ⟨a, ns, rfl, _⟩ := h
    rfl
  obtain ⟨s0, ns, rfl, hS, hfew, q⟩ := h
  refine ⟨_, (pss_cons (ps_set (i := 1) sc__law_sheet.nd rfl (Or.inr rfl) (pe_callC c__law_digits (hr.mono (by decide)) rfl (pa_cons (pe_callC c__law_cell (hr.mono (by decide)) rfl (pa_cons (pv 0) (pa_cons pe_int pa_nil))) (pa_cons (pe_lst (pa_cons pe_int (pa_cons pe_int (pa_cons pe_int (pa_cons pe_int (pa_cons pe_int pa_nil)))))) pa_nil))))
  (pss_cons (ps_set (i := 2) sc__law_sheet.nd rfl (Or.inl rfl) (pe_op op_fdiv (pe_op op_add (pe_ix ix_list (pv 1) pe_int (fun _ _ => rfl)) pe_int) pe_int))
  (pss_cons (ps_setc (i := 3) [] sc__law_sheet.nd rfl (Or.inl rfl) rfl (by kernel_rfl) (pi_range1 rfl m_range (pa_cons (pe_op op_fdiv (pe_op op_add (pe_ix ix_list (pv 1) pe_int (fun _ _ => rfl)) pe_int) pe_int) pa_nil)) (fun _ _ _ _ _ => pts_nil) (fun _ _ _ _ _ => (pe_tup (pa_cons (pe_lst pa_nil) (pa_cons (pe_lst pa_nil) pa_nil)))))
  (pss_cons (ps_for PassesOwn.never rfl (pi_enum (pe_slice sl_list (pv 0) (po_some pe_int) (po_some pe_int)) rfl m_enumerate PyProof.Rows.boot_enumerate) (pg_tup rfl (pgs_cons (pg_name (i := 4) sc__law_sheet.nd rfl (Or.inl rfl)) (pgs_cons (pg_name (i := 5) sc__law_sheet.nd rfl (Or.inl rfl)) pgs_nil)))
  (pss_cons (ps_set (i := 6) sc__law_sheet.nd rfl (Or.inl rfl) (pe_callC c__law_digits (hr.mono (by decide)) rfl (pa_cons (pv 5) (pa_cons (pe_lst (pa_cons pe_int (pa_cons pe_int (pa_cons pe_int pa_nil)))) pa_nil))))
  (pss_one (ps_if (PW.pt (pw_and (pt_cmpR op_gt (pv 2) pe_int (nomark _)) (pw_and (pt_cmpR op_gt (pe_callB call_len_seq rfl m_len PySem.boot_len (pa_cons (pv 3) pa_nil)) pe_int (nomark _)) (pw_and1 (pt_cmpR op_gt (pe_ix ix_list (pv 6) pe_int (fun _ _ => rfl)) pe_int (nomark _))))))
  (pss_cons (ps_set (i := 7) sc__law_sheet.nd rfl (Or.inl rfl) (pe_ix ix_tup (pe_ix ix_list (pv 3) (pe_op op_mod (pv 4) (pe_callB call_len_seq rfl m_len PySem.boot_len (pa_cons (pv 3) pa_nil))) (fun _ _ => rfl)) (pe_ix ix_list (pv 6) pe_int (fun _ _ => rfl)) (fun _ _ => rfl)))
  (pss_one (ps_expr (pe_bm PySem.F.plainAttrs_list PySem.F.slot_list_extend PySem.F.type_list_extend mt_extend (pv 7) (pa_cons (pe_slice sl_list (pe_lst (pa_cons (pe_op op_mod (pe_ix ix_list (pv 6) pe_int (fun _ _ => rfl)) (pv 2)) pa_nil)) po_none (po_some (pe_op op_sub pe_int (pe_callB call_len_seq rfl m_len PySem.boot_len (pa_cons (pv 7) pa_nil))))) pa_nil)))))
  pss_nil))))
  (pss_cons (ps_setc (i := 8) [1] sc__law_sheet.nd rfl (Or.inl rfl) rfl (by kernel_rfl) (pi_range1 rfl m_range (pa_cons (pv 2) pa_nil)) (fun _ _ _ _ _ => pts_nil) (fun _ _ _ _ _ => (pe_callC c__law_name (hr.mono (by decide)) rfl (pa_cons (pe_ix (r := rIxL K) ix_list (pv 1) pe_int (fun _ _ => rfl)) (pa_cons (pv 0) pa_nil)))))
  (pss_cons (ps_if (pt_cmpR op_eq (pe_ix ix_list (pv 1) pe_int (fun _ _ => rfl)) pe_int (nomark _))
  (pss_one (ps_set (i := 8) sc__law_sheet.nd rfl (Or.inl rfl) (pe_listrev rfl (pv 8) rfl m_list PyProof.Rows.Boot.«list» rfl m_reversed PyProof.Rows.boot_reversed)))
  pss_nil)
  (pss_one (ps_ret (pe_tup (pa_cons (pv 8) (pa_cons (pe_op op_mod (pe_ix ix_list (pv 1) pe_int (fun _ _ => rfl)) (pe_op op_add (pv 2) pe_int)) (pa_cons (pv 3) pa_nil)))))))))))), ?_⟩
  refine ⟨_, rfl, s0, ns, 0, rfl, hS, by decide, fun v0 => ⟨by show 5 ≤ sizeLine; decide, fun p5 hp5 => ⟨v0, p5, [25, 11, 6, 16, 2], rfl, SqL.of upd_same, by decide, by decide, fun d ds H1 s1 hd0 hd pr => ?_⟩⟩⟩
  have s1 := Same.trans (same_new hp5 _) s1
  have hd0 : H d = none := (same_new hp5 _).free hd0
  obtain ⟨d0, d1, d2, d3, d4, rfl, b0, b1, b2, b3, b4⟩ := paired5 pr
  refine ⟨_, rfl, d, _, 1, _, rfl, rfl, SqL.of hd, rfl, _, _, rfl, rfl, _, _, rfl, rfl, ⟨by decide, by decide⟩, ?_⟩
  have mM : 0 ≤ (d1 + 1) / 2 ∧ (d1 + 1) / 2 ≤ 5 := by omega
  refine ⟨_, rfl, d, _, 3, _, rfl, rfl, SqL.of hd, rfl, _, _, rfl, rfl, _, _, rfl, rfl, ⟨by decide, by decide⟩, (d3 + 1) / 2, rfl, by omega, by omega, fun D hD => ?_⟩
  have mN : ((d3 + 1) / 2).toNat ≤ 8 := by omega
  generalize hN : ((d3 + 1) / 2).toNat = N at mN
  refine comp_range (lo := 0) (n := N) (szl (by omega)) (fun i ys H' => Same H1 H' ∧ H' D = some (.lst ys) ∧ ∃ T A R, ys = (List.range i).map (fun k => V.ref (T k)) ∧ Cells H' i T A R ∧ (∀ j u, R j u = []) ∧ ∀ j u, j < i → u < 2 → A j u ≠ D ∧ H1 (A j u) = none)
    ⟨same_new hD _, upd_same, fun _ => 0, fun _ _ => 0, fun _ _ => [], rfl, ⟨fun i hi => absurd hi (by omega), fun i u hi => absurd hi (by omega), fun i u j v hi => absurd hi (by omega)⟩, fun _ _ => rfl, fun i u hi => absurd hi (by omega)⟩ (fun i ys H' p => ⟨p.2.1, ?_⟩) (fun i ys H' hi p => ?_) (fun ys H2 p => ?_)
  · obtain ⟨T, A, R, rfl, _⟩ := p.2.2
    rw [List.length_map, List.length_range]
    exact Nat.le_refl _
  · obtain ⟨sm, hDD, T, A, R, rfl, C, hR, ap⟩ := p
    refine ⟨(by show 0 ≤ sizeLine; decide), fun a ha => ⟨(by show 0 ≤ sizeLine; decide), fun b hb => ⟨(by show 2 ≤ sizeLine; decide), fun t ht => ?_⟩⟩⟩
    have sa := same_new ha (.lst [])
    have sb := same_new hb (.lst [])
    have st := same_new ht (.tup [.ref a, .ref b])
    have sab := Same.trans sa sb
    have sA := Same.trans sab st
    have hb0 : H' b = none := sa.free hb
    have aD : a ≠ D := fun z => by rw [z, hDD] at ha; cases ha
    have bD : b ≠ D := fun z => by rw [z, hDD] at hb0; cases hb0
    have hab : a ≠ b := fun z => by rw [← z, upd_same] at hb; cases hb
    have C2 := C.snoc sA ha hb0 hab (st _ _ (sb _ _ upd_same)) (st _ _ upd_same) upd_same
    refine ⟨sA _ _ hDD, Same.upd_new (Same.trans sm sA) hD _, upd_same, _, _, _, range_put.symm, C2.other (sA _ _ hDD) (fun j u hj hu => ?_) _, fun j u => ?_, fun j u hj hu => ?_⟩
    · by_cases e : j = i
      · simp only [if_pos e]
        by_cases e2 : u = 0
        · rw [if_pos e2]; exact aD
        · rw [if_neg e2]; exact bD
      · simp only [if_neg e]
        exact (ap j u (by omega) hu).1
    · by_cases e : j = i
      · simp only [if_pos e]
      · simp only [if_neg e]
        exact hR j u
    · by_cases e : j = i
      · simp only [if_pos e]
        by_cases e2 : u = 0
        · rw [if_pos e2]; exact ⟨aD, sm.free ha⟩
        · rw [if_neg e2]; exact ⟨bD, sm.free hb0⟩
      · simp only [if_neg e]
        exact ap j u (by omega) hu
  obtain ⟨sm, hDD, T, A, R, rfl, C, hR, ap⟩ := p
  have s2 := Same.trans s1 sm
  refine ⟨_, rfl, _, rfl, _, rfl, s0, _, rfl, s2.seq hS, fun p hp => ?_⟩
  obtain ⟨ms, ems, hms⟩ := cut_ints ns (some 1) (some 63)
  rw [ems]
  refine ⟨p, rfl, ⟨_, SqL.of upd_same⟩, ?_⟩
  have sp := same_new hp (.lst (ms.map V.int))
  have apd : ∀ j u, j < N → u < 2 → A j u ≠ d ∧ A j u ≠ D ∧ A j u ≠ p ∧ H (A j u) = none := fun j u hj hu => by
    have z := ap j u hj hu
    refine ⟨fun e => ?_, z.1, fun e => ?_, s1.free z.2⟩
    · rw [e, hd] at z
      cases z.2
    · have y := C.lst j u hj hu
      rw [e, hp] at y
      cases y
  refine for_enum (K := K) (a := p) (xs := ms.map V.int) (fun i σ H' => ∃ o4 o5 o6 o7 R, σ = [some (.ref s0), some (.ref d), some (.int ((d1 + 1) / 2)), some (.ref D), o4, o5, o6, o7, none] ∧ Same H H' ∧ H' d = some (.lst ([d0, d1, d2, d3, d4].map V.int)) ∧ H' D = some (.lst ((List.range N).map fun k => V.ref (T k))) ∧ H' p = some (.lst (ms.map V.int)) ∧
      Cells H' N T A R ∧ ∀ j u, (R j u).length ≤ 4 ∧ ∀ n ∈ R j u, n < ((d1 + 1) / 2).toNat)
    ⟨none, none, none, none, R, rfl, Same.trans s2 sp, sp _ _ (sm _ _ hd), sp _ _ hDD, upd_same, C.same sp, fun j u => by rw [hR]; exact ⟨by decide, fun _ z => nomatch z⟩⟩ (fun i σ H' _ ⟨_, _, _, _, _, _, _, _, _, h, _⟩ => SqL.of h) ?_ ?_
  · rintro i y σ H' t hi ⟨o4, o5, o6, o7, R, rfl, sH, hd, hDD, hpp, C, hR⟩ ht
    rw [List.getElem?_map] at hi
    cases hq : ms[i]? with
    | none => rw [hq] at hi; cases hi
    | some m =>
      rw [hq] at hi
      obtain rfl : V.int m = y := Option.some.inj hi
      have st := same_new ht (.tup [.int (i : Int), .int m])
      refine ⟨t, _, rfl, SqT.of upd_same, rfl, _, _, rfl, _, _, rfl, rfl, ?_⟩
      refine ⟨_, rfl, by show 3 ≤ sizeLine; decide, fun p3 hp3 => ⟨m, p3, [2, 7, 5], rfl, SqL.of upd_same, by decide, by decide, fun sd es H3 s3 hs0 hsd pr3 => ?_⟩⟩
      have s3 := Same.trans (Same.trans st (same_new hp3 _)) s3
      obtain ⟨e0, e1, e2, rfl, c0, c1, c2⟩ := paired3 pr3
      have stay : ∀ (σ' : St), σ' = [some (.ref s0), some (.ref d), some (.int ((d1 + 1) / 2)), some (.ref D), some (.int (i : Int)), some (.int m), some (.ref sd), o7, none] → ∃ o4 o5 o6 o7 R, σ' = [some (.ref s0), some (.ref d), some (.int ((d1 + 1) / 2)), some (.ref D), o4, o5, o6, o7, none] ∧ Same H H3 ∧ H3 d = some (.lst ([d0, d1, d2, d3, d4].map V.int)) ∧ H3 D = some (.lst ((List.range N).map fun k => V.ref (T k))) ∧ H3 p = some (.lst (ms.map V.int)) ∧
        Cells H3 N T A R ∧ ∀ j u, (R j u).length ≤ 4 ∧ ∀ n ∈ R j u, n < ((d1 + 1) / 2).toNat := fun σ' e => ⟨_, _, _, _, R, e, Same.trans sH s3, s3 _ _ hd, s3 _ _ hDD, s3 _ _ hpp, C.same s3, hR⟩
      refine ⟨_, rfl, _, _, rfl, rfl, _, rfl, ite2 (fun k1 => ?_) (fun k1 => iteF (stay _ rfl))⟩
      have k1 : (0 : Int) < (d1 + 1) / 2 := of_decide_eq_true k1
      refine ⟨_, rfl, D, _, rfl, .inl (SqL.of (s3 _ _ hDD)), _, _, rfl, rfl, _, rfl, ite2 (fun k2 => ?_) (fun k2 => iteF (stay _ rfl))⟩
      have k2 : (0 : Int) < ((((List.range N).map fun k => V.ref (T k)).length : Nat) : Int) := of_decide_eq_true k2
      have eN : ((((List.range N).map fun k => V.ref (T k)).length : Nat) : Int) = (N : Int) := by rw [List.length_map, List.length_range]
      refine ⟨_, rfl, sd, _, 1, _, rfl, rfl, SqL.of hsd, rfl, _, _, rfl, rfl, _, rfl, ite2 (fun k3 => ?_) (fun k3 => stay _ rfl)⟩
      have md := mid (a := (i : Int)) (b := ((((List.range N).map fun k => V.ref (T k)).length : Nat) : Int)) k2
      have md2 := md
      rw [eN] at md2
      have hk : ((i : Int) % (N : Int)).toNat < N := by omega
      have hu : e0.toNat < 2 := by omega
      have ha := at_range (n := N) (T := T) (j := (i : Int) % ((((List.range N).map fun k => V.ref (T k)).length : Nat) : Int)) md.1 (by rw [← eN]; exact md.2)
      have ek : ((i : Int) % ((((List.range N).map fun k => V.ref (T k)).length : Nat) : Int)).toNat = ((i : Int) % (N : Int)).toNat := by rw [eN]
      rw [ek] at ha
      have C3 := C.same s3
      generalize hkk : ((i : Int) % (N : Int)).toNat = k at ha hk
      have al := at_two (A := fun u => A k u) (j := e0) rfl rfl c0.1 c0.2
      have hrow := C3.lst k e0.toNat hk hu
      refine ⟨_, rfl, _, rfl, _, rfl, D, _, rfl, .inl (SqL.of (s3 _ _ hDD)), _, _, rfl, rfl, k2, D, _, _, _, rfl, rfl, SqL.of (s3 _ _ hDD), ha, _, rfl, sd, _, 0, _, rfl, rfl, SqL.of hsd, rfl, T k, _, e0, _, rfl, rfl, SqT.of (C3.tup k hk), al, ?_⟩
      refine ⟨_, rfl, .inl ⟨rfl, _, SqL.of hrow⟩, _, rfl, sd, _, 2, _, rfl, rfl, SqL.of hsd, rfl, _, rfl, _, _, rfl, rfl, k1, by show 1 ≤ sizeLine; decide, fun p4 hp4 => ?_⟩
      have s4 := same_new hp4 (.lst [V.int (e2 % ((d1 + 1) / 2))])
      have hl4 := (hR k e0.toNat).1
      have em := mid (a := e2) (b := (d1 + 1) / 2) k1
      refine ⟨_, rfl, A k e0.toNat, _, rfl, .inl (SqL.of (s4 _ _ hrow)), _, _, rfl, rfl, _, rfl, p4, _, rfl, SqL.of upd_same, fun p6 hp6 => ?_⟩
      have eL : (((nI (R k e0.toNat)).length : Nat) : Int) = ((R k e0.toNat).length : Nat) := by rw [List.length_map]
      have ec := cut_one (v := V.int (e2 % ((d1 + 1) / 2))) (k := 4 - (((nI (R k e0.toNat)).length : Nat) : Int)) (by rw [eL]; omega)
      have e2' : V.int (e2 % ((d1 + 1) / 2)) = V.int (((e2 % ((d1 + 1) / 2)).toNat : Nat) : Int) := congrArg V.int (by omega)
      have en : (if (4 - (((nI (R k e0.toNat)).length : Nat) : Int)) = 0 then [] else [V.int (e2 % ((d1 + 1) / 2))]) = nI (if (R k e0.toNat).length = 4 then [] else [(e2 % ((d1 + 1) / 2)).toNat]) := by
        by_cases z : (R k e0.toNat).length = 4
        · rw [if_pos z, if_pos (by rw [eL]; omega)]
          rfl
        · rw [if_neg z, if_neg (by rw [eL]; omega), e2']
          rfl
      rw [en] at ec
      have s5 := same_new hp6 (.lst (cutV [V.int (e2 % ((d1 + 1) / 2))] none (some (4 - (((nI (R k e0.toNat)).length : Nat) : Int)))))
      have s6 := Same.trans s4 s5
      have s7 := Same.trans s3 s6
      refine ⟨A k e0.toNat, p6, _, _, rfl, rfl, s6 _ _ hrow, upd_same, ?_, ?_⟩
      · show (nI (R k e0.toNat)).length + (cutV [V.int (e2 % ((d1 + 1) / 2))] none (some (4 - (((nI (R k e0.toNat)).length : Nat) : Int)))).length ≤ _
        have zL : (nI (R k e0.toNat)).length ≤ 4 := by rw [List.length_map]; exact hl4
        have z := cutV_length [V.int (e2 % ((d1 + 1) / 2))] none (some (4 - (((nI (R k e0.toNat)).length : Nat) : Int)))
        rw [List.length_singleton] at z
        exact sz (by omega)
      have C4 := (C.same s7).write hk hu (R k e0.toNat ++ (if (R k e0.toNat).length = 4 then [] else [(e2 % ((d1 + 1) / 2)).toNat]))
      have eW : nI (R k e0.toNat) ++ cutV [V.int (e2 % ((d1 + 1) / 2))] none (some (4 - (((nI (R k e0.toNat)).length : Nat) : Int))) = nI (R k e0.toNat ++ (if (R k e0.toNat).length = 4 then [] else [(e2 % ((d1 + 1) / 2)).toNat])) := by
        rw [ec, ← List.map_append]
      rw [← eW] at C4
      obtain ⟨n1, n2, n3, n4⟩ := apd k e0.toNat hk hu
      refine ⟨_, _, _, _, _, rfl, Same.upd_new (Same.trans sH s7) n4 _, ?_, ?_, ?_, C4, fun j u => ?_⟩
      · rw [upd_ne n1.symm]; exact s7 _ _ hd
      · rw [upd_ne n2.symm]; exact s7 _ _ hDD
      · rw [upd_ne n3.symm]; exact s7 _ _ hpp
      · by_cases e : j = k ∧ u = e0.toNat
        · simp only [if_pos e]
          refine ⟨?_, fun n hn => ?_⟩
          · rw [List.length_append]
            by_cases z : (R k e0.toNat).length = 4
            · rw [if_pos z, z]
              decide
            · rw [if_neg z, List.length_singleton]
              omega
          · rcases List.mem_append.mp hn with hn | hn
            · exact (hR _ _).2 n hn
            · by_cases z : (R k e0.toNat).length = 4
              · rw [if_pos z] at hn
                cases hn
              · rw [if_neg z] at hn
                rw [List.mem_singleton.mp hn]
                omega
        · simp only [if_neg e]
          exact hR j u
  rintro σ H4 ⟨o4, o5, o6, o7, R, rfl, sH, hd, hDD, hpp, C, hR⟩
  refine ⟨_, rfl, (d1 + 1) / 2, rfl, by omega, by omega, fun D2 hD2 => ?_⟩
  have ma := mid (a := d0) (b := 5) (by decide)
  have mb := mid (a := d0 / 5) (b := 1 + d0 % 5) (by omega)
  obtain ⟨na, ena⟩ : ∃ na : Nat, na = (d0 / 5 % (1 + d0 % 5)).toNat := ⟨_, rfl⟩
  obtain ⟨nb, enb⟩ : ∃ nb : Nat, nb = (1 + d0 % 5 - 1 - d0 / 5 % (1 + d0 % 5)).toNat := ⟨_, rfl⟩
  have hab : na + nb ≤ 4 := by omega
  refine comp_range (lo := 0) (n := ((d1 + 1) / 2).toNat) (szl (by omega)) (fun i ys H' => Same H4 H' ∧ H' D2 = some (.lst ys) ∧ ys = ((List.range i).map (nameOf na nb)).map tx) ⟨same_new hD2 _, upd_same, rfl⟩ (fun i ys H' p => ⟨p.2.1, ?_⟩) (fun i ys H' hi p => ?_) (fun ys H5 p => ?_)
  · rw [p.2.2, List.length_map, List.length_map, List.length_range]
    exact Nat.le_refl _
  · obtain ⟨sm5, hDL, rfl⟩ := p
    refine ⟨_, rfl, d, _, 0, _, rfl, rfl, SqL.of (sm5 _ _ hd), rfl, _, rfl, d0, i, (by show [V.int d0, V.int (0 + (i : Int))] = [V.int d0, V.int (i : Int)]; rw [Int.zero_add]), b0.1, by omega, fun a b ea eb _ => ⟨hDL, Same.upd_new sm5 hD2 _, upd_same, ?_⟩⟩
    rw [ea, eb, ← ena, ← enb, List.range_succ, List.map_append, List.map_append]
    rfl
  obtain ⟨sm5, hDL, rfl⟩ := p
  have s5 := Same.trans sH sm5
  have C5 := C.same sm5
  have fin : ∀ (ln : Addr) (zs : List Cs) (H6 : Hp), Same H5 H6 → H6 ln = some (.lst (zs.map tx)) → zs.length = ((d1 + 1) / 2).toNat → zs.Nodup → (∀ z ∈ zs, smallC z = true ∧ z ≠ zz) → ∀ t, H6 t = none → Q (.ref t) (upd H6 t (.tup [.ref ln, .int (d2 % ((d1 + 1) / 2 + 1)), .ref D])) := fun ln zs H6 s6 hln hzl hnd hz t ht => by
    have st := same_new ht (.tup [.ref ln, .int (d2 % ((d1 + 1) / 2 + 1)), .ref D])
    have mp := mid (a := d2) (b := (d1 + 1) / 2 + 1) (by omega)
    refine q t ln D zs (d2 % ((d1 + 1) / 2 + 1)).toNat ((List.range N).map fun i => (R i 0, R i 1)) _ _ (Same.trans (Same.trans s5 s6) st) ?_ (st _ _ hln) (st _ _ (s6 _ _ (sm5 _ _ hDD))) ((C5.same (Same.trans s6 st)).paired) ?_
    · rw [upd_same, Int.toNat_of_nonneg mp.1]
    · refine ⟨by omega, by omega, by rw [List.length_map, List.length_range]; exact mN, hnd, fun z h => (hz z h).1, fun z h => (hz z h).2, fun r hr => ?_⟩
      obtain ⟨i, _, rfl⟩ := List.mem_map.mp hr
      rw [hzl]
      exact ⟨(hR i 0).1, (hR i 1).1, (hR i 0).2, (hR i 1).2⟩
  have zl : ((List.range ((d1 + 1) / 2).toNat).map (nameOf na nb)).length = ((d1 + 1) / 2).toNat := by rw [List.length_map, List.length_range]
  have zn : ((List.range ((d1 + 1) / 2).toNat).map (nameOf na nb)).Nodup := nodup_map_range fun i j hi hj e => name_inj (by omega) (by omega) e
  have zg : ∀ z ∈ ((List.range ((d1 + 1) / 2).toNat).map (nameOf na nb)), smallC z = true ∧ z ≠ zz := fun z hz => by
    obtain ⟨k, hk, rfl⟩ := List.mem_map.mp hz
    have hk := List.mem_range.mp hk
    exact ⟨name_small (by omega) hab, name_zz (by omega)⟩
  generalize ((List.range ((d1 + 1) / 2).toNat).map (nameOf na nb)) = zs at hDL zl zn zg
  have hd5 := sm5 _ _ hd
  refine ⟨_, rfl, d, _, 4, _, rfl, rfl, SqL.of hd5, rfl, rfl, _, rfl, ite2 (fun k => ?_) (fun k => ?_)⟩
  · refine ⟨_, rfl, D2, _, rfl, SqL.of hDL, fun p7 hp7 => ?_⟩
    have s7 := same_new hp7 (.lst ((zs.map tx).reverse))
    refine ⟨_, rfl, _, rfl, d, _, 2, _, rfl, rfl, SqL.of (s7 _ _ hd5), rfl, _, rfl, _, _, rfl, rfl, _, _, rfl, rfl, (by show (0 : Int) < (d1 + 1) / 2 + 1; omega), _, rfl, by show 3 ≤ sizeLine; decide, fun t ht => ?_⟩
    exact fin p7 zs.reverse _ s7 (by rw [upd_same, List.map_reverse]) (by rw [List.length_reverse, zl]) (nodup_rev zn) (fun z hz => zg z (List.mem_reverse.mp hz)) t ht
  · refine ⟨_, rfl, _, rfl, d, _, 2, _, rfl, rfl, SqL.of hd5, rfl, _, rfl, _, _, rfl, rfl, _, _, rfl, rfl, (by show (0 : Int) < (d1 + 1) / 2 + 1; omega), _, rfl, by show 3 ≤ sizeLine; decide, fun t ht => ?_⟩
    exact fin D2 zs _ (Same.refl _) hDL zl zn zg t ht
end
end K32
namespace K32
open PySem L2 K02 Bk
set_option maxHeartbeats 4000000
section
variable {P : Program} {w : World} {K : PySem.W.Frag} {mg : Str → Option Value} {base : Heap} {f : Addr} {fd : FuncData} {c : Cl}
theorem sc__law_lines : FnScope ["_law_names", "_law_place", "_law_rules", "_law_lines_here", "_law_number", "_law_rule", "_law_parts"] ["_law_names", "_law_place", "_law_rules"] (defScope s__law_lines) := ⟨rfl, rfl, rfl, by decide +kernel, rfl, by decide +kernel, by decide +kernel⟩
theorem ok__law_lines (F : Fun K "_law_lines" "_law_lines" s__law_lines f fd) (m_len : mg "len" = none) (m_str : mg "str" = none) (m_enumerate : mg "enumerate" = none) : FnOk P w K mg base CX0 1 f fd ["_law_names", "_law_place", "_law_rules"] (spLinesI K) := by
  refine F.ok sc__law_lines (fun vs H Q E h => ?_) (fun cdv A outer s H vs Q E hr h => ?_)
  · obtain ⟨ln, lr, zs, place, rs, us, rfl, _⟩ := h
    rfl
  obtain ⟨ln, lr, zs, place, rs, us, rfl, hln, hlr, pr, T, q⟩ := h
  refine ⟨_, (pss_cons (ps_setc (i := 3) [] sc__law_lines.nd rfl (Or.inl rfl) rfl (by kernel_rfl) (pi_list (pv 0)) (fun _ _ _ _ _ => pts_nil) (fun _ _ _ _ _ => (pe_op op_add_str (pe_op op_add_str pe_str (pv 0)) pe_str)))
  (pss_cons (ps_set (i := 3) sc__law_lines.nd rfl (Or.inl rfl) (pe_op op_cat (pe_op op_cat (pe_slice sl_list (pv 3) po_none (po_some (pv 1))) (pe_lst (pa_cons pe_str pa_nil))) (pe_slice sl_list (pv 3) (po_some (pv 1)) po_none)))
  (pss_cons (ps_for PassesOwn.never rfl (pi_enum (pv 2) rfl m_enumerate PyProof.Rows.boot_enumerate) (pg_tup rfl (pgs_cons (pg_name (i := 4) sc__law_lines.nd rfl (Or.inl rfl)) (pgs_cons (pg_name (i := 5) sc__law_lines.nd rfl (Or.inl rfl)) pgs_nil)))
  (pss_cons (ps_set (i := 6) sc__law_lines.nd rfl (Or.inl rfl) (pe_lst (pa_cons (pe_op op_add_str pe_str (pe_ix ix_list (pe_op op_cat (pv 0) (pe_lst (pa_cons pe_str pa_nil))) pe_int (fun _ _ => rfl))) pa_nil)))
  (pss_cons (ps_if (pt_cmpR op_gt (pe_callB call_len_seq rfl m_len PySem.boot_len (pa_cons (pe_ix ix_tup (pv 5) pe_int (fun _ _ => rfl)) pa_nil)) pe_int (nomark _))
  (pss_cons (ps_set (i := 6) sc__law_lines.nd rfl (Or.inl rfl) (pe_lst (pa_cons (pe_op op_add_str pe_str (pe_bm PySem.F.plainAttrs_str PySem.F.slot_str_join PySem.F.type_str_join mt_join pe_str (pa_cons (pe_comp [0] rfl (by kernel_rfl) (pi_list (pe_ix ix_tup (pv 5) pe_int (fun _ _ => rfl))) (fun _ _ _ _ _ => pts_nil) (fun _ _ _ _ _ => (pe_ix (r := rIxL K) ix_list (pv 1) (pv 0) (fun _ _ => rfl)))) pa_nil))) pa_nil)))
  (pss_one (ps_if (pt_cmpR op_eq (pe_op op_mod (pv 4) pe_int) pe_int (nomark _))
  (pss_one (ps_expr (pe_bm PySem.F.plainAttrs_list PySem.F.slot_list_append PySem.F.type_list_append mt_append (pv 6) (pa_cons (pe_op op_add_str pe_str (pe_ix ix_list (pv 0) (pe_op op_sub (pe_callB call_len_seq rfl m_len PySem.boot_len (pa_cons (pv 0) pa_nil)) pe_int) (fun _ _ => rfl))) pa_nil))))
  pss_nil)))
  pss_nil)
  (pss_cons (ps_if (PW.pt (pw_and (pt_cmpR op_gt (pe_callB call_len_seq rfl m_len PySem.boot_len (pa_cons (pe_ix ix_tup (pv 5) pe_int (fun _ _ => rfl)) pa_nil)) pe_int (nomark _)) (pw_and1 (pt_cmpR op_gt (pe_callB call_len_seq rfl m_len PySem.boot_len (pa_cons (pe_ix ix_tup (pv 5) pe_int (fun _ _ => rfl)) pa_nil)) pe_int (nomark _)))))
  (pss_one (ps_expr (pe_bm PySem.F.plainAttrs_list PySem.F.slot_list_append PySem.F.type_list_append mt_append (pv 6) (pa_cons (pe_op op_add_str pe_str (pe_bm PySem.F.plainAttrs_str PySem.F.slot_str_join PySem.F.type_str_join mt_join pe_str (pa_cons (pe_comp [0] rfl (by kernel_rfl) (pi_list (pe_ix ix_tup (pv 5) pe_int (fun _ _ => rfl))) (fun _ _ _ _ _ => pts_nil) (fun _ _ _ _ _ => (pe_ix (r := rIxL K) ix_list (pv 1) (pv 0) (fun _ _ => rfl)))) pa_nil))) pa_nil))))
  pss_nil)
  (pss_cons (ps_if (PW.pt (pw_and (pt_cmpR op_eq (pe_callB call_len_seq rfl m_len PySem.boot_len (pa_cons (pe_ix ix_tup (pv 5) pe_int (fun _ _ => rfl)) pa_nil)) pe_int (nomark _)) (pw_and1 (pt_cmpR op_gt (pe_callB call_len_seq rfl m_len PySem.boot_len (pa_cons (pe_ix ix_tup (pv 5) pe_int (fun _ _ => rfl)) pa_nil)) pe_int (nomark _)))))
  (pss_one (ps_expr (pe_bm PySem.F.plainAttrs_list PySem.F.slot_list_append PySem.F.type_list_append mt_append (pv 6) (pa_cons pe_str pa_nil))))
  pss_nil)
  (pss_one (ps_expr (pe_bm PySem.F.plainAttrs_list PySem.F.slot_list_append PySem.F.type_list_append mt_append (pv 3) (pa_cons (pe_op op_add_str (pe_op op_add_str (pe_op op_add_str pe_str (pe_callTy call_str_int rfl m_str PyProof.Rows.Boot.«str» (pa_cons (pv 4) pa_nil))) pe_str) (pe_bm PySem.F.plainAttrs_str PySem.F.slot_str_join PySem.F.type_str_join mt_join pe_str (pa_cons (pv 6) pa_nil))) pa_nil)))))))))
  (pss_one (ps_ret (pe_bm PySem.F.plainAttrs_str PySem.F.slot_str_join PySem.F.type_str_join mt_join pe_str (pa_cons (pv 3) pa_nil))))))), ?_⟩
  have zfew := T.few
  have zpl := T.pl
  have zr := Paired.length pr
  have z8 := T.many
  have e_p : (Str.ofString "passing ") = S (kwPassing ++ [32]) := by decide +kernel
  have e_0 : (Str.ofString " 0") = S [32, 48] := by decide +kernel
  have e_z : (Str.ofString "lasting zz 0") = S (kindText zzK) := by decide +kernel
  have e_zz : (Str.ofString "zz") = S zz := by decide +kernel
  have e_keep : (Str.ofString "keep ") = S (wordAt 1 ++ [32]) := by decide +kernel
  have e_take : (Str.ofString "take ") = S (wordAt 0 ++ [32]) := by decide +kernel
  have e_put : (Str.ofString "put ") = S (wordAt 3 ++ [32]) := by decide +kernel
  have e_putz : (Str.ofString "put zz") = S (pnText (3, [zz])) := by decide +kernel
  have e_cm : (Str.ofString ", ") = S [44, 32] := by decide +kernel
  have e_sm : (Str.ofString "; ") = S [59, 32] := by decide +kernel
  have e_rr : (Str.ofString "rule r") = S (kwRule ++ [32, 114]) := by decide +kernel
  have e_co : (Str.ofString ": ") = S [58, 32] := by decide +kernel
  have e_nl : (Str.ofString "\n") = ⟨#[10]⟩ := by decide +kernel
  refine ⟨_, rfl, ln, rfl, ⟨_, SqL.of hln⟩, fun D hD => ?_⟩
  refine comp_rel (K := K) (xs := zs.map tx) (zs.map fun z => kindText (kdOf z)) (fun _ _ b y => y = tx b) (fun _ _ _ _ _ _ h => h) (fun _ _ _ _ _ _ h => h) (szl (by rw [List.length_map]; omega)) hD (SqL.of hln) (by rw [List.length_map, List.length_map]) (fun i y b H' R hy hb sm hQ => ?_) (fun H1 ys s1 hL po => ?_)
  · obtain ⟨hi, ey⟩ := get_of hy
    obtain ⟨hib, eb⟩ := get_of hb
    rw [List.length_map] at hi
    rw [List.getElem_map] at ey eb
    subst ey
    have hl := (smallC_len (T.sm _ (List.getElem_mem hi))).2
    rw [e_p, e_0]
    refine ⟨_, rfl, _, _, rfl, rfl, ?_, _, _, rfl, rfl, ?_, hQ _ _ (Same.refl _) ?_⟩
    · rw [S_len, S_len]
      exact sz (by simp only [List.length_append, List.length_cons, List.length_nil]; omega)
    · rw [app_S, S_len, S_len]
      exact sz (by simp only [List.length_append, List.length_cons, List.length_nil]; omega)
    · rw [app_S, app_S, ← eb]
      rfl
  rw [paired_tx po] at hL
  have lK : ((zs.map fun z => kindText (kdOf z)).map tx).length = zs.length := by rw [List.length_map, List.length_map]
  refine ⟨_, rfl, _, rfl, _, rfl, D, _, rfl, SqL.of hL, fun p hp => ?_⟩
  rw [cut_take (by rw [lK]; exact zpl)]
  rw [e_z]
  refine ⟨by show 1 ≤ sizeLine; decide, fun p2 hp2 => ?_⟩
  have sA := Same.trans (same_new hp (.lst (((zs.map fun z => kindText (kdOf z)).map tx).take place))) (same_new hp2 (.lst [V.str (S (kindText zzK))]))
  refine ⟨p, p2, _, _, rfl, rfl, same_new hp2 _ _ _ upd_same, upd_same, ?_, fun p3 hp3 => ?_⟩
  · rw [List.length_take, List.length_singleton]
    exact sz (by omega)
  refine ⟨_, rfl, _, rfl, _, rfl, D, _, rfl, SqL.of (same_new hp3 _ _ _ (sA _ _ hL)), fun p4 hp4 => ?_⟩
  rw [cut_drop (by rw [lK]; exact zpl)]
  refine ⟨p3, p4, _, _, rfl, rfl, same_new hp4 _ _ _ upd_same, upd_same, ?_, fun LL hLL => ?_⟩
  · rw [List.length_append, List.length_take, List.length_singleton, List.length_drop]
    exact sz (by omega)
  have eK : (((zs.map fun z => kindText (kdOf z)).map tx).take place ++ [V.str (S (kindText zzK))]) ++ ((zs.map fun z => kindText (kdOf z)).map tx).drop place = ((ksI zs place).map kindText).map tx := by
    unfold ksI
    simp only [List.map_append, List.map_take, List.map_drop, List.map_map, List.map_cons, List.map_nil, Function.comp_def]
  rw [eK]
  have sB : Same H _ := Same.trans (Same.trans s1 (Same.trans (Same.trans sA (same_new hp3 _)) (same_new hp4 _))) (same_new hLL (.lst (((ksI zs place).map kindText).map tx)))
  have hLL0 := (Same.trans s1 (Same.trans (Same.trans sA (same_new hp3 _)) (same_new hp4 _))).free hLL
  have kl : (ksI zs place).length ≤ 6 := by
    unfold ksI
    simp only [List.length_append, List.length_map, List.length_take, List.length_drop, List.length_cons, List.length_nil]
    omega
  refine ⟨_, rfl, lr, rfl, ⟨_, SqL.of (sB _ _ hlr)⟩, for_enum (K := K) (a := lr) (xs := us) (fun i σ H' => ∃ o4 o5 o6, σ = [some (.ref ln), some (.int (place : Int)), some (.ref lr), some (.ref LL), o4, o5, o6] ∧ Same H H' ∧ H' LL = some (.lst (((ksI zs place).map kindText ++ rulesI zs rs i).map tx)))
    ⟨none, none, none, rfl, sB, by rw [upd_same]; unfold rulesI; rw [List.range_zero, List.map_nil, List.append_nil]⟩ (fun i σ H' _ ⟨_, _, _, _, sm, _⟩ => SqL.of (sm _ _ hlr)) ?_ ?_⟩
  · rintro i y σ H' t hi ⟨o4, o5, o6, rfl, sH, hLL⟩ ht
    obtain ⟨hiu, ey⟩ := get_of hi
    have hir : i < rs.length := by omega
    obtain ⟨tt, a, b, ett, htt, ha, hb⟩ := paired_at pr i hir hiu
    rw [ey] at ett
    subst ett
    have ok := T.ok _ (List.getElem_mem hir)
    have hget : rs.getD i ([], []) = rs[i] := by rw [List.getD_eq_getElem?_getD, List.getElem?_eq_getElem hir]; rfl
    have hstep : rulesI zs rs (i + 1) = rulesI zs rs i ++ [ruleL zs i rs[i]] := by
      unfold rulesI
      rw [List.range_succ, List.map_append, ← hget]
      rfl
    generalize rs[i] = r at htt ha hb ok hstep
    have st := same_new ht (.tup [.int (i : Int), .ref tt])
    have sI := Same.trans sH st
    refine ⟨t, _, rfl, SqT.of upd_same, rfl, _, _, rfl, _, _, rfl, rfl, ?_⟩
    have hat := first_at (zs := zs) e_zz
    have hX := smallC_len (first_small T.sm)
    refine ⟨_, rfl, by show 1 ≤ sizeLine; decide, fun p1 hp1 => ⟨ln, p1, _, _, rfl, rfl, same_new hp1 _ _ _ (sI _ _ hln), upd_same, by rw [List.length_map, List.length_singleton]; exact sz (by omega), fun p2 hp2 => ⟨p2, _, 0, _, rfl, rfl, SqL.of upd_same, hat, _, _, rfl, rfl, ?_, by show 1 ≤ sizeLine; decide, fun pp hpp => ?_⟩⟩⟩
    · rw [e_keep, S_len, S_len]
      exact sz (by simp only [List.length_append, List.length_cons, List.length_nil]; have := (word_al 1).2.2; omega)
    have e1 : (Str.ofString "keep " ++ S ((zs ++ [zz]).getD 0 [])) = S (pnText (1, [(zs ++ [zz]).getD 0 []])) := word_text (ns := [(zs ++ [zz]).getD 0 []]) e_keep
    rw [e1]
    have s3 := Same.trans (same_new hp1 (.lst [V.str (Str.ofString "zz")])) (Same.trans (same_new hp2 (.lst (zs.map tx ++ [V.str (Str.ofString "zz")]))) (same_new hpp (.lst [V.str (S (pnText (1, [(zs ++ [zz]).getD 0 []])))])))
    have n3 : upd H' t (.tup [.int (i : Int), .ref tt]) pp = none := (Same.trans (same_new hp1 (.lst [V.str (Str.ofString "zz")])) (same_new hp2 (.lst (zs.map tx ++ [V.str (Str.ofString "zz")])))).free hpp
    have h3 : ∀ H3, H3 = upd (upd (upd (upd H' t (.tup [.int (i : Int), .ref tt])) p1 (.lst [V.str (Str.ofString "zz")])) p2 (.lst (zs.map tx ++ [V.str (Str.ofString "zz")]))) pp (.lst [V.str (S (pnText (1, [(zs ++ [zz]).getD 0 []])))]) → Same (upd H' t (.tup [.int (i : Int), .ref tt])) H3 ∧ H3 pp = some (.lst (([((1 : Nat), [(zs ++ [zz]).getD 0 []])].map pnText).map tx)) := fun H3 e => by
      rw [e]
      exact ⟨s3, upd_same⟩
    generalize hG : upd (upd (upd (upd H' t (.tup [.int (i : Int), .ref tt])) p1 (.lst [V.str (Str.ofString "zz")])) p2 (.lst (zs.map tx ++ [V.str (Str.ofString "zz")]))) pp (.lst [V.str (S (pnText (1, [(zs ++ [zz]).getD 0 []])))]) = H3
    obtain ⟨s3, hp3⟩ := h3 H3 hG.symm
    have s4 := Same.trans st s3
    have s5 := Same.trans sH s4
    have npp : H' pp = none := st.free n3
    have hi8 : i < 8 := by omega
    obtain ⟨f1, f2⟩ := fig8 hi8
    have hR := ruleL_len (i := i) T.sm ok
    have pOk := parts_ok (i := i) T.sm ok
    obtain ⟨g1, g2, g3⟩ := parts_le pOk
    have lR : (rulesI zs rs i).length = i := by unfold rulesI; rw [List.length_map, List.length_range]
    refine ⟨_, rfl, tt, _, 0, _, rfl, rfl, htt.same s5, rfl, a, _, rfl, .inl (SqL.of (s5 _ _ ha)), _, _, rfl, rfl, _, rfl, ?_⟩
    by_cases c1 : r.1 = []
    · refine ite2 (fun k => absurd (of_decide_eq_true k) (pos0 c1)) (fun k => ?_)
      refine ⟨_, rfl, tt, _, 0, _, rfl, rfl, htt.same s5, rfl, a, _, rfl, .inl (SqL.of (s5 _ _ ha)), _, _, rfl, rfl, _, rfl, ite2 (fun k => absurd (of_decide_eq_true k) (pos0 c1)) (fun k => iteF ?_)⟩
      refine ⟨_, rfl, tt, _, 0, _, rfl, rfl, htt.same s5, rfl, a, _, rfl, .inl (SqL.of (s5 _ _ ha)), rfl, _, rfl, ite2 (fun k => ?_) (fun k => absurd (len0.trans (decide_eq_true c1)) k)⟩
      refine ⟨_, rfl, tt, _, 1, _, rfl, rfl, htt.same s5, rfl, b, _, rfl, .inl (SqL.of (s5 _ _ hb)), _, _, rfl, rfl, _, rfl, br (H0 := H3) (fun H4 => Same H' H4 ∧ H4 pp = some (.lst (((partsI zs i r).map pnText).map tx))) (fun k next => ?_) (fun k => ?_) (fun H4 hc => ?_)⟩
      · have k : r.2 ≠ [] := ne_of_pos (of_decide_eq_true k)
        refine ⟨_, rfl, .inl ⟨rfl, _, SqL.of hp3⟩, pp, _, _, rfl, rfl, hp3, szl (by show 1 ≤ _; decide), next _ ⟨Same.upd_new s4 npp _, ?_⟩⟩
        rw [upd_same, e_putz]
        unfold partsI
        rw [if_pos c1, if_neg k]
        rfl
      · have k : r.2 = [] := Classical.byContradiction fun z => k (decide_eq_true (pos1 z))
        refine ⟨s4, ?_⟩
        unfold partsI
        rw [if_pos c1, if_pos k]
        exact hp3
      · obtain ⟨s6, hp6⟩ := hc
        have e_j : Txt.join (Str.ofString "; ") (((partsI zs i r).map pnText).map S) = S (joinD [59, 32] ((partsI zs i r).map pnText)) := by rw [e_sm, joinD_S]
        have e_r := rule_eq hi8 (partsI zs i r) e_rr f1 e_co e_j
        have hLp : LL ≠ pp := fun e => by rw [← e, hLL] at npp; cases npp
        refine ⟨_, rfl, .inl ⟨rfl, _, SqL.of (s6 _ _ hLL)⟩, _, rfl, _, rfl, f2, _, _, rfl, rfl, ?_, _, _, rfl, rfl, ?_, rfl, _, rfl, _, pp, ((partsI zs i r).map pnText).map S, rfl, rfl, .inl (SqL.of (by rw [← map_tx]; exact hp6)), ?_, _, _, rfl, rfl, ?_, LL, _, _, rfl, rfl, s6 _ _ hLL, ?_, ?_⟩
        · rw [e_rr, f1, S_len, S_len]
          exact sz (by simp only [List.length_append, List.length_cons, List.length_nil]; omega)
        · rw [e_rr, f1, e_co, app_S, S_len, S_len]
          exact sz (by simp only [List.length_append, List.length_cons, List.length_nil]; omega)
        · rw [e_sm, S_len]
          simp only [List.length_cons, List.length_nil]
          omega
        · rw [e_rr, f1, e_co, e_j, app_S, app_S, S_len, S_len]
          exact sz (by simp only [List.length_append, List.length_cons, List.length_nil]; omega)
        · rw [List.length_map, List.length_append, List.length_map, lR]
          exact szl (by omega)
        · refine ⟨_, _, _, rfl, Same.upd_new (Same.trans sH s6) hLL0 _, ?_⟩
          rw [upd_same, e_r, hstep, ← List.append_assoc, List.map_append (l₂ := [ruleL zs i r])]
          rfl
    · refine ite2 (fun _ => ?_) (fun k => absurd (decide_eq_true (pos1 c1)) k)
      obtain ⟨w1, w2, w3⟩ := nm_le T.sm ok.m1 ok.l1
      refine ⟨rfl, _, rfl, tt, _, 0, _, rfl, rfl, htt.same s5, rfl, a, rfl, ⟨_, SqL.of (s5 _ _ ha)⟩, fun D2 hD2 => ?_⟩
      refine comp_rel (K := K) (xs := nI r.1) (nm zs r.1) (fun _ _ b y => y = tx b) (fun _ _ _ _ _ _ h => h) (fun _ _ _ _ _ _ h => h) (szl (by rw [List.length_map]; have := ok.l1; omega)) hD2 (SqL.of (s5 _ _ ha)) (by unfold nm; rw [List.length_map, List.length_map]) (fun j y b H4 R hy hb sm hQ => ?_) (fun H4 ys s6 hL4 po4 => ?_)
      · obtain ⟨n, hn, rfl, rfl⟩ := nm_get hy hb
        have hlt := ok.m1 n hn
        exact ⟨_, rfl, _, rfl, ln, _, _, _, rfl, rfl, SqL.of (sm _ _ (s5 _ _ hln)), at_list (by omega) (by omega), hQ _ _ (Same.refl _) rfl⟩
      rw [paired_tx po4] at hL4
      have e_j : Txt.join (Str.ofString ", ") ((nm zs r.1).map S) = S (joinD [44, 32] (nm zs r.1)) := by rw [e_cm, joinD_S]
      refine ⟨_, D2, (nm zs r.1).map S, rfl, rfl, .inl (SqL.of (by rw [← map_tx]; exact hL4)), ?_, _, _, rfl, rfl, ?_, by show 1 ≤ sizeLine; decide, fun qq hqq => ?_⟩
      · rw [e_cm, S_len]
        simp only [List.length_cons, List.length_nil]
        omega
      · rw [e_take, e_j, S_len, S_len]
        have := (word_al 0).2.2
        exact sz (by simp only [List.length_append, List.length_cons, List.length_nil]; omega)
      have e_t : Str.ofString "take " ++ Txt.join (Str.ofString ", ") ((nm zs r.1).map S) = S (pnText (0, nm zs r.1)) := by rw [e_j]; exact word_text e_take
      rw [e_t]
      have nqq : H' qq = none := (Same.trans s4 s6).free hqq
      have s7 := Same.trans (Same.trans s4 s6) (same_new hqq (.lst [V.str (S (pnText (0, nm zs r.1)))]))
      have h7 : upd H4 qq (.lst [V.str (S (pnText (0, nm zs r.1)))]) qq = some (.lst (([((0 : Nat), nm zs r.1)].map pnText).map tx)) := upd_same
      generalize upd H4 qq (.lst [V.str (S (pnText (0, nm zs r.1)))]) = H7 at s7 h7
      have h0 : 0 < zs.length := by
        obtain ⟨x, t, e⟩ := List.exists_cons_of_ne_nil c1
        exact Nat.lt_of_le_of_lt (Nat.zero_le _) (ok.m1 x (by rw [e]; simp))
      refine ⟨_, rfl, _, _, rfl, rfl, (by show (0 : Int) < 2; decide), rfl, _, rfl, br (H0 := H7) (fun H8 => Same H' H8 ∧ H8 qq = some (.lst (([((0 : Nat), nm zs r.1)] ++ (if i % 2 = 1 then [(1, [zs.getD (zs.length - 1) []])] else [])).map pnText |>.map tx))) (fun k next => ?_) (fun k => ?_) (fun H8 hc => ?_)⟩
      · have k : i % 2 = 1 := of_decide_eq_true (parity.symm.trans k)
        have s8 := Same.trans sH s7
        have hx := smallC_len (last_small T.sm h0)
        have ha2 : atI (zs.map tx) ((((zs.map tx).length : Nat) : Int) - 1) = some (tx (zs.getD (zs.length - 1) [])) := by
          have z := at_list (zs := zs) (i := (((zs.map tx).length : Nat) : Int) - 1) (by rw [List.length_map]; omega) (by rw [List.length_map]; omega)
          rw [z, List.length_map]
          congr 3
          omega
        refine ⟨_, rfl, .inl ⟨rfl, _, SqL.of h7⟩, _, rfl, _, rfl, ln, _, rfl, .inl (SqL.of (s8 _ _ hln)), _, _, rfl, rfl, ln, _, _, _, rfl, rfl, SqL.of (s8 _ _ hln), ha2, _, _, rfl, rfl, ?_, qq, _, _, rfl, rfl, h7, szl (by show 1 ≤ _; decide), next _ ⟨Same.upd_new s7 nqq _, ?_⟩⟩
        · rw [e_keep, S_len, S_len]
          have := (word_al 1).2.2
          exact sz (by simp only [List.length_append, List.length_cons, List.length_nil]; omega)
        · have e_k : Str.ofString "keep " ++ S (zs.getD (zs.length - 1) []) = S (pnText (1, [zs.getD (zs.length - 1) []])) := word_text (ns := [zs.getD (zs.length - 1) []]) e_keep
          rw [upd_same, if_pos k, e_k]
          rfl
      · have k : ¬ i % 2 = 1 := fun z => k (parity.trans (decide_eq_true z))
        refine ⟨s7, ?_⟩
        rw [if_neg k, List.append_nil]
        exact h7
      obtain ⟨s8, h8⟩ := hc
      have s9 := Same.trans sH s8
      refine ⟨_, rfl, tt, _, 0, _, rfl, rfl, htt.same s9, rfl, a, _, rfl, .inl (SqL.of (s9 _ _ ha)), _, _, rfl, rfl, _, rfl, ite2 (fun _ => ?_) (fun k => absurd (decide_eq_true (pos1 c1)) k)⟩
      refine ⟨_, rfl, tt, _, 1, _, rfl, rfl, htt.same s9, rfl, b, _, rfl, .inl (SqL.of (s9 _ _ hb)), _, _, rfl, rfl, _, rfl, br (H0 := H8) (fun H9 => Same H' H9 ∧ H9 qq = some (.lst (((partsI zs i r).map pnText).map tx))) (fun k next => ?_) (fun k => ?_) (fun H9 hc => ?_)⟩
      · have k : r.2 ≠ [] := ne_of_pos (of_decide_eq_true k)
        obtain ⟨y1, y2, y3⟩ := nm_le T.sm ok.m2 ok.l2
        refine ⟨_, rfl, .inl ⟨rfl, _, SqL.of h8⟩, rfl, _, rfl, tt, _, 1, _, rfl, rfl, htt.same s9, rfl, b, rfl, ⟨_, SqL.of (s9 _ _ hb)⟩, fun D3 hD3 => ?_⟩
        refine comp_rel (K := K) (xs := nI r.2) (nm zs r.2) (fun _ _ b y => y = tx b) (fun _ _ _ _ _ _ h => h) (fun _ _ _ _ _ _ h => h) (szl (by rw [List.length_map]; have := ok.l2; omega)) hD3 (SqL.of (s9 _ _ hb)) (by unfold nm; rw [List.length_map, List.length_map]) (fun j y b H4 R hy hb sm hQ => ?_) (fun H10 ys s10 hL10 po10 => ?_)
        · obtain ⟨n, hn, rfl, rfl⟩ := nm_get hy hb
          have hlt := ok.m2 n hn
          exact ⟨_, rfl, _, rfl, ln, _, _, _, rfl, rfl, SqL.of (sm _ _ (s9 _ _ hln)), at_list (by omega) (by omega), hQ _ _ (Same.refl _) rfl⟩
        rw [paired_tx po10] at hL10
        have e_j2 : Txt.join (Str.ofString ", ") ((nm zs r.2).map S) = S (joinD [44, 32] (nm zs r.2)) := by rw [e_cm, joinD_S]
        refine ⟨_, D3, (nm zs r.2).map S, rfl, rfl, .inl (SqL.of (by rw [← map_tx]; exact hL10)), ?_, _, _, rfl, rfl, ?_, qq, _, _, rfl, rfl, s10 _ _ h8, ?_, next _ ⟨Same.upd_new (Same.trans s8 s10) nqq _, ?_⟩⟩
        · rw [e_cm, S_len]
          simp only [List.length_cons, List.length_nil]
          omega
        · rw [e_put, e_j2, S_len, S_len]
          have := (word_al 3).2.2
          exact sz (by simp only [List.length_append, List.length_cons, List.length_nil]; omega)
        · by_cases z : i % 2 = 1
          · rw [if_pos z]; exact szl (by show 2 ≤ _; decide)
          · rw [if_neg z]; exact szl (by show 1 ≤ _; decide)
        · rw [upd_same, e_j2, word_text e_put]
          unfold partsI
          rw [if_neg c1, if_neg k, List.map_append (l₂ := [(3, nm zs r.2)]), List.map_append (l₂ := [(3, nm zs r.2)].map pnText)]
          rfl
      · have k : r.2 = [] := Classical.byContradiction fun z => k (decide_eq_true (pos1 z))
        refine ⟨s8, ?_⟩
        unfold partsI
        rw [if_neg c1, if_pos k, List.append_nil]
        exact h8
      obtain ⟨s10, h10⟩ := hc
      have s11 := Same.trans sH s10
      refine ⟨_, rfl, tt, _, 0, _, rfl, rfl, htt.same s11, rfl, a, _, rfl, .inl (SqL.of (s11 _ _ ha)), rfl, _, rfl, ite2 (fun k => absurd (of_decide_eq_true (len0.symm.trans k)) c1) (fun _ => iteF ?_)⟩
      have e_j3 : Txt.join (Str.ofString "; ") (((partsI zs i r).map pnText).map S) = S (joinD [59, 32] ((partsI zs i r).map pnText)) := by rw [e_sm, joinD_S]
      have e_r := rule_eq hi8 (partsI zs i r) e_rr f1 e_co e_j3
      refine ⟨_, rfl, .inl ⟨rfl, _, SqL.of (s10 _ _ hLL)⟩, _, rfl, _, rfl, f2, _, _, rfl, rfl, ?_, _, _, rfl, rfl, ?_, rfl, _, rfl, _, qq, ((partsI zs i r).map pnText).map S, rfl, rfl, .inl (SqL.of (by rw [← map_tx]; exact h10)), ?_, _, _, rfl, rfl, ?_, LL, _, _, rfl, rfl, s10 _ _ hLL, ?_, ?_⟩
      · rw [e_rr, f1, S_len, S_len]
        exact sz (by simp only [List.length_append, List.length_cons, List.length_nil]; omega)
      · rw [e_rr, f1, e_co, app_S, S_len, S_len]
        exact sz (by simp only [List.length_append, List.length_cons, List.length_nil]; omega)
      · rw [e_sm, S_len]
        simp only [List.length_cons, List.length_nil]
        omega
      · rw [e_rr, f1, e_co, e_j3, app_S, app_S, S_len, S_len]
        exact sz (by simp only [List.length_append, List.length_cons, List.length_nil]; omega)
      · rw [List.length_map, List.length_append, List.length_map, lR]
        exact szl (by omega)
      · refine ⟨_, _, _, rfl, Same.upd_new (Same.trans sH s10) hLL0 _, ?_⟩
        rw [upd_same, e_r, hstep, ← List.append_assoc, List.map_append (l₂ := [ruleL zs i r])]
        rfl
  · rintro σ H' ⟨o4, o5, o6, rfl, sH, hLL⟩
    rw [← zr] at hLL
    have lR : (rulesI zs rs rs.length).length = rs.length := by unfold rulesI; rw [List.length_map, List.length_range]
    have hle : ∀ x ∈ linesI zs place rs, x.length ≤ 250 := lines_le T
    have hll : (linesI zs place rs).length ≤ 14 := by
      unfold linesI
      rw [List.length_append, List.length_map, lR]
      omega
    have z := len_sum (as := linesI zs place rs) (B := 250) hle
    refine ⟨rfl, _, rfl, _, LL, (linesI zs place rs).map S, rfl, rfl, .inl (SqL.of (by rw [← map_tx]; exact hLL)), ?_, ?_⟩
    · rw [e_nl, List.length_map]
      show _ + _ * 1 ≤ _
      omega
    · rw [e_nl, joinC_S, joinC_N]
      exact q _ sH
end
end K32
namespace K32
open PySem L2 K02 Bk
set_option maxHeartbeats 4000000
section
variable {P : Program} {w : World} {K : PySem.W.Frag} {mg : Str → Option Value} {base : Heap} {f : Addr} {fd : FuncData} {c : Cl}
theorem sc__law_effects : FnScope ["_law_names", "_law_rules", "_law_table", "_law_rule"] ["_law_names", "_law_rules"] (defScope s__law_effects) := ⟨rfl, rfl, rfl, by decide +kernel, rfl, by decide +kernel, by decide +kernel⟩
theorem ok__law_effects (F : Fun K "_law_effects" "_law_effects" s__law_effects f fd) (m_len : mg "len" = none) (m_range : mg "range" = none) : FnOk P w K mg base CX0 1 f fd ["_law_names", "_law_rules"] (spDue K) := by
  refine F.ok sc__law_effects (fun vs H Q E h => ?_) (fun cdv A outer s H vs Q E hr h => ?_)
  · obtain ⟨ln, lr, zs, rs, us, rfl, _⟩ := h
    rfl
  obtain ⟨ln, lr, zs, rs, us, rfl, hn, hl, pr, hz, hrs, h4, q⟩ := h
  refine ⟨_, (pss_cons (ps_set (i := 2) sc__law_effects.nd rfl (Or.inl rfl) (pe_lst pa_nil))
  (pss_cons (ps_for PassesOwn.never rfl (pi_list (pv 1)) (pg_name (i := 3) sc__law_effects.nd rfl (Or.inr rfl))
  (pss_one (ps_if (pt_cmpR op_eq (pe_callB call_len_seq rfl m_len PySem.boot_len (pa_cons (pe_ix ix_tup (pv 3) pe_int (fun _ _ => rfl)) pa_nil)) pe_int (nomark _))
  (pss_one (ps_expr (pe_bm PySem.F.plainAttrs_list PySem.F.slot_list_append PySem.F.type_list_append mt_append (pv 2) (pa_cons (pe_op op_rep (pe_lst (pa_cons pe_int pa_nil)) (pe_callB call_len_seq rfl m_len PySem.boot_len (pa_cons (pv 0) pa_nil))) pa_nil))))
  (pss_one (ps_expr (pe_bm PySem.F.plainAttrs_list PySem.F.slot_list_append PySem.F.type_list_append mt_append (pv 2) (pa_cons (pe_comp [3] rfl (by kernel_rfl) (pi_range1 rfl m_range (pa_cons (pe_callB call_len_seq rfl m_len PySem.boot_len (pa_cons (pv 0) pa_nil)) pa_nil)) (fun _ _ _ _ _ => pts_nil) (fun _ _ _ _ _ => (pe_op op_sub (id (α := PE _ _ (tBM K "list" (rCount K) _ _)) (pe_bm PySem.F.plainAttrs_list PySem.F.slot_list_count PySem.F.type_list_count mt_count (pe_ix (r := rIxT K) ix_tup (pv 1) pe_int (fun _ _ => rfl)) (pa_cons (pv 0) pa_nil))) (id (α := PE _ _ (tBM K "list" (rCount K) _ _)) (pe_bm PySem.F.plainAttrs_list PySem.F.slot_list_count PySem.F.type_list_count mt_count (pe_ix (r := rIxT K) ix_tup (pv 1) pe_int (fun _ _ => rfl)) (pa_cons (pv 0) pa_nil)))))) pa_nil)))))))
  (pss_one (ps_ret (pv 2))))), ?_⟩
  refine ⟨(by show 0 ≤ sizeLine; decide), fun D hD => ?_⟩
  have zu := Paired.length pr
  have sD := same_new hD (.lst [])
  refine ⟨_, rfl, lr, rfl, ⟨_, SqL.of (sD _ _ hl)⟩, for_list (K := K) (a := lr) (xs := us) (fun i σ H' => ∃ (o : Option V) (vs : List V), σ = [some (.ref ln), some (.ref lr), some (.ref D), o] ∧ Same H H' ∧ H' D = some (.lst vs) ∧ Paired (Ints H H') ((rs.take i).map (dueR zs.length)) vs ∧ ∀ v ∈ vs, v ≠ .ref D)
    ⟨none, [], rfl, sD, upd_same, by rw [List.take_zero]; exact .nil, fun _ h => nomatch h⟩ (fun i σ H' _ ⟨_, _, _, sm, _⟩ => SqL.of (sm _ _ hl)) ?_ ?_⟩
  · rintro i y σ H' hi ⟨o, vs, rfl, sm, hDD, po, ap⟩
    obtain ⟨hiu, ey⟩ := get_of hi
    have hiR : i < rs.length := by omega
    have hR := (paired_at pr i hiR hiu).same sm
    rw [ey] at hR
    have h4i := h4 _ (List.getElem_mem hiR)
    have ts : rs.take (i + 1) = rs.take i ++ [rs[i]] := by rw [List.take_succ, List.getElem?_eq_getElem hiR]; rfl
    generalize rs[i] = r at hR h4i ts
    obtain ⟨t, a, b, rfl, ht, ha, hb⟩ := hR
    have zo := Paired.length po
    rw [List.length_map, List.length_take] at zo
    have step : ∀ (H2 : Hp) (p : Addr) (o : Option V), Same H' H2 → H' p = none → H2 p = some (.lst ((dueR zs.length r).map V.int)) → ∃ (o' : Option V) (vs' : List V), [some (V.ref ln), some (.ref lr), some (.ref D), o] = [some (.ref ln), some (.ref lr), some (.ref D), o'] ∧ Same H (upd H2 D (.lst (vs ++ [.ref p]))) ∧ (upd H2 D (.lst (vs ++ [.ref p]))) D = some (.lst vs') ∧ Paired (Ints H (upd H2 D (.lst (vs ++ [.ref p])))) ((rs.take (i + 1)).map (dueR zs.length)) vs' ∧ ∀ v ∈ vs', v ≠ .ref D := by
      intro H2 p o s2 hp0 hp
      have pD : p ≠ D := fun z => by rw [z, hDD] at hp0; cases hp0
      refine ⟨o, _, rfl, Same.upd_new (Same.trans sm s2) hD _, upd_same, ?_, fun v hv => ?_⟩
      · rw [ts, List.map_append]
        refine Paired.snoc ?_ ⟨p, rfl, sm.free hp0, by rw [upd_ne pD]; exact hp⟩
        refine paired_mono po fun row v hv hI => ?_
        obtain ⟨a1, rfl, n1, h1⟩ := hI
        exact ⟨a1, rfl, n1, by rw [upd_ne fun z => ap _ hv (by rw [z])]; exact s2 _ _ h1⟩
      · rcases List.mem_append.mp hv with hv | hv
        · exact ap v hv
        · rw [List.mem_singleton.mp hv]
          exact fun z => pD (V.ref.inj z)
    refine ⟨_, rfl, t, _, 0, _, rfl, rfl, ht, rfl, a, _, rfl, .inl (SqL.of ha), rfl, _, rfl, ?_⟩
    refine ite2 (fun k => ?_) (fun k => ?_)
    · have e1 : r.1 = [] := of_decide_eq_true (len0.symm.trans k)
      refine ⟨_, rfl, .inl ⟨rfl, _, SqL.of hDD⟩, (by show 1 ≤ sizeLine; decide), fun p hp => ?_⟩
      have sp := same_new hp (.lst [V.int 0])
      refine ⟨_, rfl, ln, _, rfl, .inl (SqL.of (sp _ _ (sm _ _ hn))), p, _, _, rfl, rfl, upd_same, by rw [List.length_map]; omega, by rw [List.length_map]; omega, ?_, fun p2 hp2 => ?_⟩
      · rw [List.length_map]
        exact sz (by show 1 * _ ≤ _; omega)
      · have sp2 := same_new hp2 (.lst (List.replicate ((((zs.map tx).length : Nat) : Int)).toNat [V.int 0]).flatten)
        refine ⟨D, _, _, rfl, rfl, sp2 _ _ (sp _ _ hDD), szl (by omega), step _ p2 _ (Same.trans sp sp2) (sp.free hp2) ?_⟩
        rw [upd_same, rep_ints, List.length_map]
        unfold dueR
        rw [if_pos e1]
        rfl
    · have e1 : ¬ r.1 = [] := fun z => k (len0.trans (decide_eq_true z))
      refine ⟨_, rfl, .inl ⟨rfl, _, SqL.of hDD⟩, _, rfl, ln, _, rfl, .inl (SqL.of (sm _ _ hn)), ?_⟩
      refine ⟨_, rfl, by rw [List.length_map]; omega, by rw [List.length_map]; omega, fun D2 hD2 => ?_⟩
      have en : ((((zs.map tx).length : Nat) : Int)).toNat = zs.length := by rw [List.length_map]; omega
      rw [en]
      refine comp_range (lo := 0) (n := zs.length) (szl (by omega)) (fun i ys H2 => Same H' H2 ∧ H2 D2 = some (.lst ys) ∧ ys = ((List.range i).map fun k => (r.2.count k : Int) - (r.1.count k : Int)).map V.int) ⟨same_new hD2 _, upd_same, rfl⟩ (fun i ys H2 p => ⟨p.2.1, by rw [p.2.2]; simp⟩) (fun k ys H2 hk p => ?_) (fun ys H2 p => ?_)
      · obtain ⟨s2, hD3, rfl⟩ := p
        have e0 : (0 : Int) + (k : Int) = (k : Int) := by omega
        rw [e0]
        refine ⟨_, rfl, t, _, 1, _, rfl, rfl, ht.same s2, rfl, .inl ⟨rfl, _, SqL.of (s2 _ _ hb)⟩, _, rfl, b, _, _, rfl, rfl, SqL.of (s2 _ _ hb), rfl, flat_nI _, _, rfl, t, _, 0, _, rfl, rfl, ht.same s2, rfl, .inl ⟨rfl, _, SqL.of (s2 _ _ ha)⟩, _, rfl, a, _, _, rfl, rfl, SqL.of (s2 _ _ ha), rfl, flat_nI _, _, _, rfl, rfl, ?_⟩
        rw [count_nI, count_nI]
        refine ⟨hD3, Same.upd_new s2 hD2 _, upd_same, ?_⟩
        rw [List.range_succ, List.map_append, List.map_append]
        rfl
      · obtain ⟨s2, hD3, rfl⟩ := p
        refine ⟨D, _, _, rfl, rfl, s2 _ _ hDD, szl (by omega), step _ D2 _ s2 hD2 ?_⟩
        rw [hD3]
        unfold dueR
        rw [if_neg e1]
  · rintro σ H' ⟨o, vs, rfl, sm, hDD, po, ap⟩
    rw [← zu, List.take_length] at po
    exact ⟨_, rfl, q _ _ sm ⟨D, vs, rfl, hD, hDD, po⟩⟩
end
end K32
namespace K32
open PySem L2 K02 Bk
set_option maxHeartbeats 4000000
section
variable {P : Program} {w : World} {K : PySem.W.Frag} {mg : Str → Option Value} {base : Heap} {f : Addr} {fd : FuncData} {c : Cl}
theorem sc_row_sum : FnScope ["row", "numbers"] ["row", "numbers"] (defScope s_row_sum) := ⟨rfl, rfl, rfl, by decide +kernel, rfl, by decide +kernel, by decide +kernel⟩
theorem ok_row_sum (F : Fun K "row_sum" "row_sum" s_row_sum f fd) (m_sum : mg "sum" = none) (m_zip : mg "zip" = none) : FnOk P w K mg base CX0 1 f fd ["row", "numbers"] spSumR := by
  refine F.ok sc_row_sum (fun vs H Q E h => ?_) (fun cdv A outer s H vs Q E hr h => ?_)
  · obtain ⟨a, b, xs, ys, rfl, _⟩ := h
    rfl
  obtain ⟨a, b, xs, ys, rfl, ha, hb, hl, hz, hs, q⟩ := h
  refine ⟨_, (pss_one (ps_ret (pe_callB call_sum rfl m_sum PyProof.Rows.boot_sum (pa_cons (pe_comps ["one", "other"] [] rfl (by kernel_rfl) (pi_zip (pv 0) (pv 1) rfl m_zip PyProof.Rows.boot_zip rfl rfl) (fun _ _ _ _ _ => (id (α := PG _ _ (gTup K 2 (gCons (gName 0) (gCons (gName 1) gNil)))) (pg_tup rfl (pgs_cons (pg_name (i := 0) (by exact (show (["one", "other"] : List Str).Nodup by decide +kernel)) rfl (Or.inl rfl)) (pgs_cons (pg_name (i := 1) (by exact (show (["one", "other"] : List Str).Nodup by decide +kernel)) rfl (Or.inl rfl)) pgs_nil))))) (fun _ _ _ _ _ => pts_nil) (fun _ _ _ _ _ => (pe_op op_mul (pv 0) (pv 1)))) pa_nil)))), ?_⟩
  refine ⟨_, rfl, _, rfl, a, b, rfl, rfl, ⟨_, SqL.of ha⟩, ⟨_, SqL.of hb⟩, fun D hD => ?_⟩
  refine comp_zip (K := K) (xs := xs.map V.int) (ys := ys.map V.int) xs.length (by rw [List.length_map]) (by rw [List.length_map, hl]) (szl (by omega)) (fun i zs τ H' => ∃ o0 o1, τ = [o0, o1] ∧ Same H H' ∧ H' D = some (.lst zs) ∧ zs = (((xs.take i).zip (ys.take i)).map fun p => p.1 * p.2).map V.int)
    ⟨none, none, rfl, same_new hD _, upd_same, by rw [List.take_zero]; rfl⟩ (fun i zs τ H' ⟨_, _, _, sm, _⟩ => ⟨SqL.of (sm _ _ ha), SqL.of (sm _ _ hb)⟩) (fun i zs τ H' ⟨_, _, _, _, h, e⟩ => ⟨h, ?_⟩) (fun i zs τ H' t v u hi p hv hu ht => ?_) (fun zs τ H' p => ?_)
  · rw [e, List.length_map, List.length_map, List.length_zip, List.length_take]
    omega
  · obtain ⟨o0, o1, rfl, sm, hDD, rfl⟩ := p
    have hiy : i < ys.length := by omega
    rw [List.getElem?_map, List.getElem?_eq_getElem hi] at hv
    rw [List.getElem?_map, List.getElem?_eq_getElem hiy] at hu
    obtain rfl : V.int xs[i] = v := Option.some.inj hv
    obtain rfl : V.int ys[i] = u := Option.some.inj hu
    have st := same_new ht (.tup [V.int xs[i], V.int ys[i]])
    refine ⟨t, _, rfl, SqT.of upd_same, rfl, _, _, rfl, _, _, rfl, rfl, ?_⟩
    refine ⟨_, rfl, _, rfl, _, _, rfl, rfl, .inl (hs _ (List.getElem_mem hi)), st _ _ hDD, _, _, rfl, Same.upd_new (Same.trans sm st) hD _, upd_same, ?_⟩
    rw [List.take_succ, List.take_succ, List.getElem?_eq_getElem hi, List.getElem?_eq_getElem hiy, List.zip_append (by rw [List.length_take, List.length_take]; omega), List.map_append, List.map_append]
    rfl
  · obtain ⟨o0, o1, rfl, sm, hDD, rfl⟩ := p
    refine ⟨D, _, rfl, rfl, SqL.of hDD, ?_⟩
    rw [List.take_length, hl, List.take_length]
    exact q _ sm
theorem sc_breaks : FnScope ["how", "change"] ["how", "change"] (defScope s_breaks) := ⟨rfl, rfl, rfl, by decide +kernel, rfl, by decide +kernel, by decide +kernel⟩
theorem ok_breaks (F : Fun K "breaks" "breaks" s_breaks f fd) : FnOk P w K mg base CX0 1 f fd ["how", "change"] spBreaks := by
  refine F.ok sc_breaks (fun vs H Q E h => ?_) (fun cdv A outer s H vs Q E hr h => ?_)
  · obtain ⟨z, x, rfl, _⟩ := h
    rfl
  obtain ⟨z, x, rfl, q⟩ := h
  refine ⟨_, (pss_cons (ps_if (pt_cmpR op_eq (pv 0) pe_str (nomark _))
  (pss_one (ps_ret (pe_cmpR op_ne (pv 1) pe_int (nomark _))))
  pss_nil)
  (pss_cons (ps_if (pt_cmpR op_eq (pv 0) pe_str (nomark _))
  (pss_one (ps_ret (pe_cmpR op_gt (pv 1) pe_int (nomark _))))
  pss_nil)
  (pss_one (ps_ret (pe_cmpR op_lt (pv 1) pe_int (nomark _)))))), ?_⟩
  unfold brk at q
  refine ⟨_, rfl, rfl, _, rfl, ite2 (fun k => ?_) (fun k => ?_)⟩
  · rw [if_pos k] at q
    exact ⟨_, rfl, rfl, q⟩
  · rw [if_neg k] at q
    refine ⟨_, rfl, rfl, _, rfl, ite2 (fun k => ?_) (fun k => ?_)⟩
    · rw [if_pos k] at q
      exact ⟨_, rfl, _, _, rfl, rfl, q⟩
    · rw [if_neg k] at q
      exact ⟨_, rfl, _, _, rfl, rfl, q⟩
theorem sc_breaker : FnScope ["book", "how", "numbers", "number", "row"] ["book", "how", "numbers"] (defScope s_breaker) := ⟨rfl, rfl, rfl, by decide +kernel, rfl, by decide +kernel, by decide +kernel⟩
theorem ok_breaker (F : Fun K "breaker" "breaker" s_breaker f fd) (c_effects : Cal P w K mg base "effects" 4 ["book"] (spEffs K c)) (c_row_sum : Cal P w K mg base "row_sum" 1 ["row", "numbers"] spSumR) (c_breaks : Cal P w K mg base "breaks" 1 ["how", "change"] spBreaks) (m_enumerate : mg "enumerate" = none) : FnOk P w K mg base CX0 5 f fd ["book", "how", "numbers"] (spBreaker K c) := by
  refine F.ok sc_breaker (fun vs H Q E h => ?_) (fun cdv A outer s H vs Q E hr h => ?_)
  · obtain ⟨v, H0, ks, rs, z, b, ys, rfl, _⟩ := h
    rfl
  obtain ⟨v, H0, ks, rs, z, b, ys, rfl, B, hk, hr2, hrb, hb, hy, q⟩ := h
  refine ⟨_, (pss_cons (ps_for PassesOwn.never rfl (pi_enum (pe_callC c_effects (hr.mono (by decide)) rfl (pa_cons (pv 0) pa_nil)) rfl m_enumerate PyProof.Rows.boot_enumerate) (pg_tup rfl (pgs_cons (pg_name (i := 3) sc_breaker.nd rfl (Or.inl rfl)) (pgs_cons (pg_name (i := 4) sc_breaker.nd rfl (Or.inl rfl)) pgs_nil)))
  (pss_one (ps_if (pt_val (pe_callC c_breaks (hr.mono (by decide)) rfl (pa_cons (pv 1) (pa_cons (pe_callC c_row_sum (hr.mono (by decide)) rfl (pa_cons (pv 4) (pa_cons (pv 2) pa_nil))) pa_nil))))
  (pss_one (ps_ret (pv 3)))
  pss_nil)))
  (pss_one (ps_ret pe_non))), ?_⟩
  refine ⟨_, rfl, v, H0, ks, rs, rfl, B, by omega, by omega, hrb, fun u H1 s1 TE => ?_⟩
  obtain ⟨l, vs, rfl, nl, hl, pv⟩ := TE
  have hp : (Bk.passing ks).length ≤ 1000 := by
    unfold Bk.passing
    rw [List.length_map]
    exact Nat.le_trans (List.length_filter_le _ _) hk
  have zv := Paired.length pv
  have hrow : ∀ row ∈ effT ks rs, row.length = ys.length ∧ ∀ i ∈ row, sm i := fun row h => by
    obtain ⟨r, hr, rfl⟩ := List.mem_map.mp h
    refine ⟨by rw [List.length_map, hy], fun i hi => ?_⟩
    obtain ⟨z, _, rfl⟩ := List.mem_map.mp hi
    exact eff_sm (hrb r hr).1 (hrb r hr).2
  refine ⟨l, rfl, ⟨_, SqL.of hl⟩, for_enum (K := K) (a := l) (xs := vs) (fun i σ H' => ∃ o3 o4, σ = [some v, some (.str z), some (.ref b), o3, o4] ∧ Same H1 H' ∧ firstV (fun row => brk z (dot row ys)) (effT ks rs) 0 = firstV (fun row => brk z (dot row ys)) ((effT ks rs).drop i) i)
    ⟨none, none, rfl, Same.refl _, rfl⟩ (fun i σ H' _ ⟨_, _, _, sm, _⟩ => SqL.of (sm _ _ hl)) ?_ ?_⟩
  · rintro i y σ H' t hi ⟨o3, o4, rfl, sm, e⟩ ht
    obtain ⟨hiv, ey⟩ := get_of hi
    have hiR : i < (effT ks rs).length := by omega
    have hI := paired_at pv i hiR hiv
    rw [ey] at hI
    obtain ⟨a, rfl, _, ha⟩ := hI
    have hw := hrow _ (List.getElem_mem hiR)
    rw [firstV_at hiR] at e
    generalize (effT ks rs)[i] = row at ha hw e
    have st := same_new ht (.tup [.int (i : Int), .ref a])
    have s2 := Same.trans sm st
    refine ⟨t, _, rfl, SqT.of upd_same, rfl, _, _, rfl, _, _, rfl, rfl, ?_⟩
    refine ⟨_, rfl, _, rfl, _, rfl, a, b, row, ys, rfl, s2 _ _ ha, s2 _ _ (s1 _ _ hb), hw.1, by rw [hw.1, hy]; exact hp, hw.2, fun H3 s3 => ?_⟩
    refine ⟨z, _, rfl, _, rfl, ite2 (fun k => ?_) (fun k => ?_)⟩
    · rw [if_pos k] at e
      refine ⟨_, rfl, ?_⟩
      have z := q H3 (Same.trans s1 (Same.trans s2 s3))
      rw [e] at z
      exact z
    · rw [if_neg k] at e
      exact ⟨_, _, rfl, Same.trans s2 s3, e⟩
  · rintro σ H' ⟨o3, o4, rfl, sm, e⟩
    rw [← zv, List.drop_length] at e
    have z := q H' (Same.trans s1 sm)
    rw [e] at z
    exact z
end
end K32
namespace K32
open PySem L2 K02 Bk
set_option maxHeartbeats 4000000
section
variable {P : Program} {w : World} {K : PySem.W.Frag} {mg : Str → Option Value} {base : Heap} {f : Addr} {fd : FuncData} {c : Cl}
theorem sc__law_sum : FnScope ["_law_row", "_law_numbers_here", "_law_total", "_law_at"] ["_law_row", "_law_numbers_here"] (defScope s__law_sum) := ⟨rfl, rfl, rfl, by decide +kernel, rfl, by decide +kernel, by decide +kernel⟩
theorem ok__law_sum (F : Fun K "_law_sum" "_law_sum" s__law_sum f fd) (m_range : mg "range" = none) (m_len : mg "len" = none) : FnOk P w K mg base CX0 1 f fd ["_law_row", "_law_numbers_here"] spSumR := by
  refine F.ok sc__law_sum (fun vs H Q E h => ?_) (fun cdv A outer s H vs Q E hr h => ?_)
  · obtain ⟨a, b, xs, ys, rfl, _⟩ := h
    rfl
  obtain ⟨a, b, xs, ys, rfl, ha, hb, hl, hz, hs, q⟩ := h
  refine ⟨_, (pss_cons (ps_set (i := 2) sc__law_sum.nd rfl (Or.inl rfl) pe_int)
  (pss_cons (ps_for PassesOwn.never rfl (pi_range1 rfl m_range (pa_cons (pe_callB call_len_seq rfl m_len PySem.boot_len (pa_cons (pv 0) pa_nil)) pa_nil)) (pg_name (i := 3) sc__law_sum.nd rfl (Or.inl rfl))
  (pss_one (ps_set (i := 2) sc__law_sum.nd rfl (Or.inl rfl) (pe_op op_add (pv 2) (pe_op op_mul (pe_ix ix_list (pv 0) (pv 3) (fun _ _ => rfl)) (pe_ix ix_list (pv 1) (pv 3) (fun _ _ => rfl)))))))
  (pss_one (ps_ret (pv 2))))), ?_⟩
  refine ⟨_, rfl, a, _, rfl, .inl (SqL.of ha), _, rfl, by rw [List.length_map]; omega, by rw [List.length_map]; omega, ?_⟩
  have en : ((((xs.map V.int).length : Nat) : Int)).toNat = xs.length := by rw [List.length_map]; omega
  rw [en]
  refine for_range (lo := 0) (n := xs.length) (fun i σ H' => H' = H ∧ ∃ o3, σ = [some (.ref a), some (.ref b), some (.int (dot (xs.take i) (ys.take i))), o3]) ⟨rfl, none, by rw [List.take_zero]; rfl⟩ ?_ ?_
  · rintro i σ H' hi ⟨rfl, o3, rfl⟩
    have hiy : i < ys.length := by omega
    have i1 : atI (xs.map V.int) (0 + (i : Int)) = some (V.int xs[i]) := by rw [Int.zero_add]; exact atI_nat (by rw [List.getElem?_map, List.getElem?_eq_getElem hi]; rfl)
    have i2 : atI (ys.map V.int) (0 + (i : Int)) = some (V.int ys[i]) := by rw [Int.zero_add]; exact atI_nat (by rw [List.getElem?_map, List.getElem?_eq_getElem hiy]; rfl)
    refine ⟨_, rfl, _, rfl, _, rfl, a, _, _, _, rfl, rfl, SqL.of ha, i1, _, rfl, _, rfl, b, _, _, _, rfl, rfl, SqL.of hb, i2, _, _, rfl, rfl, .inl (hs _ (List.getElem_mem hi)), _, _, rfl, rfl, rfl, some (.int (0 + (i : Int))), ?_⟩
    rw [dot_take hi hiy]
    rfl
  · rintro σ H' ⟨rfl, o3, rfl⟩
    rw [List.take_length, hl, List.take_length]
    exact ⟨_, rfl, q _ (Same.refl _)⟩
theorem sc__law_first : FnScope ["_law_table", "_law_how", "_law_numbers_here", "_law_number", "_law_row", "_law_total"] ["_law_table", "_law_how", "_law_numbers_here"] (defScope s__law_first) := ⟨rfl, rfl, rfl, by decide +kernel, rfl, by decide +kernel, by decide +kernel⟩
theorem ok__law_first (F : Fun K "_law_first" "_law_first" s__law_first f fd) (c__law_sum : Cal P w K mg base "_law_sum" 1 ["_law_row", "_law_numbers_here"] spSumR) (m_enumerate : mg "enumerate" = none) : FnOk P w K mg base CX0 2 f fd ["_law_table", "_law_how", "_law_numbers_here"] spFirst := by
  refine F.ok sc__law_first (fun vs H Q E h => ?_) (fun cdv A outer s H vs Q E hr h => ?_)
  · obtain ⟨l, b, H0, z, rows, ws, ys, rfl, _⟩ := h
    rfl
  obtain ⟨l, b, H0, z, rows, ws, ys, rfl, hl, pw, hb, hrow, hy, hrl, q⟩ := h
  refine ⟨_, (pss_cons (ps_for PassesOwn.never rfl (pi_enum (pv 0) rfl m_enumerate PyProof.Rows.boot_enumerate) (pg_tup rfl (pgs_cons (pg_name (i := 3) sc__law_first.nd rfl (Or.inl rfl)) (pgs_cons (pg_name (i := 4) sc__law_first.nd rfl (Or.inl rfl)) pgs_nil)))
  (pss_cons (ps_set (i := 5) sc__law_first.nd rfl (Or.inl rfl) (pe_callC c__law_sum (hr.mono (by decide)) rfl (pa_cons (pv 4) (pa_cons (pv 2) pa_nil))))
  (pss_cons (ps_if (PW.pt (pw_and (pt_cmpR op_gt (pv 5) pe_int (nomark _)) (pw_and1 (pt_cmpR op_ne (pv 1) pe_str (nomark _)))))
  (pss_one (ps_ret (pv 3)))
  pss_nil)
  (pss_one (ps_if (PW.pt (pw_and (pt_cmpR op_lt (pv 5) pe_int (nomark _)) (pw_and1 (pt_cmpR op_ne (pv 1) pe_str (nomark _)))))
  (pss_one (ps_ret (pv 3)))
  pss_nil)))))
  (pss_one (ps_ret pe_non))), ?_⟩
  have zv := Paired.length pw
  refine ⟨_, rfl, l, rfl, ⟨_, SqL.of hl⟩, for_enum (K := K) (a := l) (xs := ws) (fun i σ H' => ∃ o3 o4 o5, σ = [some (.ref l), some (.str z), some (.ref b), o3, o4, o5] ∧ Same H H' ∧ firstV (fun row => brk2 z (dot row ys)) rows 0 = firstV (fun row => brk2 z (dot row ys)) (rows.drop i) i)
    ⟨none, none, none, rfl, Same.refl _, rfl⟩ (fun i σ H' _ ⟨_, _, _, _, sm, _⟩ => SqL.of (sm _ _ hl)) ?_ ?_⟩
  · rintro i y σ H' t hi ⟨o3, o4, o5, rfl, sm, e⟩ ht
    obtain ⟨hiv, ey⟩ := get_of hi
    have hiR : i < rows.length := by omega
    have hI := paired_at pw i hiR hiv
    rw [ey] at hI
    obtain ⟨a, rfl, _, ha⟩ := hI
    have hw := hrow _ (List.getElem_mem hiR)
    rw [firstV_at hiR] at e
    generalize rows[i] = row at ha hw e
    have st := same_new ht (.tup [.int (i : Int), .ref a])
    have s2 := Same.trans sm st
    refine ⟨t, _, rfl, SqT.of upd_same, rfl, _, _, rfl, _, _, rfl, rfl, ?_⟩
    refine ⟨_, rfl, _, rfl, a, b, row, ys, rfl, s2 _ _ ha, s2 _ _ hb, hw.1, by rw [hw.1]; exact hy, hw.2, fun H3 s3 => ?_⟩
    have sA := Same.trans s2 s3
    have found : brk2 z (dot row ys) = true → Q (.int (i : Int)) H3 := fun k => by
      rw [if_pos k] at e
      have y := q H3 sA
      rw [e] at y
      exact y
    have miss : brk2 z (dot row ys) = false → ∃ o3 o4 o5, [some (V.ref l), some (.str z), some (.ref b), some (.int (i : Int)), some (.ref a), some (.int (dot row ys))] = [some (.ref l), some (.str z), some (.ref b), o3, o4, o5] ∧ Same H H3 ∧ firstV (fun row => brk2 z (dot row ys)) rows 0 = firstV (fun row => brk2 z (dot row ys)) (rows.drop (i + 1)) (i + 1) := fun k => by
      rw [if_neg (by rw [k]; decide)] at e
      exact ⟨_, _, _, rfl, sA, e⟩
    unfold brk2 at found miss
    refine ⟨_, rfl, _, _, rfl, rfl, _, rfl, ite2 (fun k1 => ⟨_, rfl, rfl, _, rfl, ite2 (fun k2 => ⟨_, rfl, found (by rw [show decide (0 < dot row ys) = true from k1, show (!decide (V.str z = V.str sFalls)) = true from k2]; rfl)⟩) (fun k2 => ?_)⟩) (fun k1 => iteF ?_)⟩
    · exact ⟨_, rfl, _, _, rfl, rfl, _, rfl, ite2 (fun k3 => ⟨_, rfl, rfl, _, rfl, ite2 (fun k4 => ⟨_, rfl, found (by rw [show decide (dot row ys < 0) = true from k3, show (!decide (V.str z = V.str sGrows)) = true from k4, Bool.and_true, Bool.or_true])⟩) (fun k4 => miss (by rw [Bool.eq_false_iff.mpr (show ¬ (!decide (V.str z = V.str sFalls)) = true from k2), Bool.and_false, Bool.eq_false_iff.mpr (show ¬ (!decide (V.str z = V.str sGrows)) = true from k4), Bool.and_false, Bool.or_false]))⟩) (fun k3 => iteF (miss (by rw [Bool.eq_false_iff.mpr (show ¬ (!decide (V.str z = V.str sFalls)) = true from k2), Bool.and_false, Bool.eq_false_iff.mpr (show ¬ decide (dot row ys < 0) = true from k3), Bool.false_and, Bool.or_false])))⟩
    · exact ⟨_, rfl, _, _, rfl, rfl, _, rfl, ite2 (fun k3 => ⟨_, rfl, rfl, _, rfl, ite2 (fun k4 => ⟨_, rfl, found (by rw [show decide (dot row ys < 0) = true from k3, show (!decide (V.str z = V.str sGrows)) = true from k4, Bool.and_true, Bool.or_true])⟩) (fun k4 => miss (by rw [Bool.eq_false_iff.mpr (show ¬ decide (0 < dot row ys) = true from k1), Bool.false_and, Bool.eq_false_iff.mpr (show ¬ (!decide (V.str z = V.str sGrows)) = true from k4), Bool.and_false, Bool.or_false]))⟩) (fun k3 => iteF (miss (by rw [Bool.eq_false_iff.mpr (show ¬ decide (0 < dot row ys) = true from k1), Bool.false_and, Bool.eq_false_iff.mpr (show ¬ decide (dot row ys < 0) = true from k3), Bool.false_and, Bool.or_false])))⟩
  · rintro σ H' ⟨o3, o4, o5, rfl, sm, e⟩
    rw [← zv, List.drop_length] at e
    have z := q H' sm
    rw [e] at z
    exact z
theorem sc__law_numbers : FnScope ["_law_script", "_law_many", "_law_numbers_here", "_law_at", "_law_cell_here", "_law_old"] ["_law_script", "_law_many"] (defScope s__law_numbers) := ⟨rfl, rfl, rfl, by decide +kernel, rfl, by decide +kernel, by decide +kernel⟩
theorem ok__law_numbers (F : Fun K "_law_numbers" "_law_numbers" s__law_numbers f fd) (c__law_cell : Cal P w K mg base "_law_cell" 1 ["_law_script", "_law_k"] (spCell K)) (m_enumerate : mg "enumerate" = none) : FnOk P w K mg base CX0 2 f fd ["_law_script", "_law_many"] (spNums K) := by
  refine F.ok sc__law_numbers (fun vs H Q E h => ?_) (fun cdv A outer s H vs Q E hr h => ?_)
  · obtain ⟨s0, ns, m, rfl, _⟩ := h
    rfl
  obtain ⟨s0, ns, m, rfl, hS, hns, hm, q⟩ := h
  refine ⟨_, (pss_cons (ps_set (i := 2) sc__law_numbers.nd rfl (Or.inl rfl) (pe_op op_rep (pe_lst (pa_cons pe_int pa_nil)) (pv 1)))
  (pss_cons (ps_for PassesOwn.never rfl (pi_enum (pe_slice sl_list (pv 0) (po_some pe_int) (po_some pe_int)) rfl m_enumerate PyProof.Rows.boot_enumerate) (pg_tup rfl (pgs_cons (pg_name (i := 3) sc__law_numbers.nd rfl (Or.inl rfl)) (pgs_cons (pg_name (i := 4) sc__law_numbers.nd rfl (Or.inl rfl)) pgs_nil)))
  (pss_cons (ps_if (pt_cmpR op_eq (pv 1) pe_int (nomark _))
  (pss_one ps_break)
  pss_nil)
  (pss_cons (ps_set (i := 5) sc__law_numbers.nd rfl (Or.inl rfl) (pe_ix ix_list (pv 2) (pe_op op_mod (pv 3) (pv 1)) (fun _ _ => rfl)))
  (pss_one (ps_asg (pe_op op_sub (pe_op op_add (pv 5) (pe_op op_mod (pv 4) (pe_op op_pow pe_int pe_int))) (pe_op op_mul pe_int (pe_op op_pow pe_int pe_int))) (pg_sub (pv 2) (pe_op op_mod (pv 3) (pv 1)) set_list))))))
  (pss_cons (ps_if (pt_cmpR op_eq (pe_op op_mod (pe_callC c__law_cell (hr.mono (by decide)) rfl (pa_cons (pv 0) (pa_cons pe_int pa_nil))) pe_int) pe_int (nomark _))
  (pss_one (ps_setc (i := 2) [] sc__law_numbers.nd rfl (Or.inl rfl) rfl (by kernel_rfl) (pi_list (pv 2)) (fun _ _ _ _ _ => pts_nil) (fun _ _ _ _ _ => (pe_op op_sub (pe_op op_mod (pv 0) pe_int) pe_int))))
  pss_nil)
  (pss_one (ps_ret (pv 2)))))), ?_⟩
  refine ⟨(by show 1 ≤ sizeLine; decide), fun p hp => ?_⟩
  have sp := same_new hp (.lst [V.int 0])
  refine ⟨_, rfl, p, _, _, rfl, rfl, upd_same, by omega, by omega, ?_, fun D hD => ?_⟩
  · exact sz (by show 1 * _ ≤ _; omega)
  have sD := same_new hD (.lst (List.replicate ((m : Int)).toNat [V.int 0]).flatten)
  have hD0 : H D = none := sp.free hD
  have sB := Same.trans sp sD
  have hDD : (upd (upd H p (.lst [V.int 0])) D (.lst (List.replicate ((m : Int)).toNat [V.int 0]).flatten)) D = some (.lst ((List.replicate m (0 : Int)).map V.int)) := by
    rw [upd_same, rep_ints]
    rfl
  generalize upd (upd H p (.lst [V.int 0])) D (.lst (List.replicate ((m : Int)).toNat [V.int 0]).flatten) = H1 at sB hDD
  refine ⟨_, rfl, _, rfl, _, rfl, s0, _, rfl, sB.seq hS, fun p1 hp1 => ?_⟩
  obtain ⟨ms, ems, hms⟩ := cut_ints ns (some 1) (some 63)
  rw [ems]
  have sp1 := same_new hp1 (.lst (ms.map V.int))
  have p1D : p1 ≠ D := fun z => by rw [z, hDD] at hp1; cases hp1
  have p1H : H p1 = none := sB.free hp1
  refine (fun fin => ⟨p1, rfl, ⟨_, SqL.of upd_same⟩, for_enum (K := K) (a := p1) (xs := ms.map V.int) (fun i σ H' => ∃ o3 o4 o5, σ = [some (.ref s0), some (.int (m : Int)), some (.ref D), o3, o4, o5] ∧ Same H H' ∧ H' p1 = some (.lst (ms.map V.int)) ∧ ∃ ys : List Int, H' D = some (.lst (ys.map V.int)) ∧ ys.length = m)
    ⟨none, none, none, rfl, Same.trans sB sp1, upd_same, List.replicate m 0, sp1 _ _ hDD, List.length_replicate⟩ (fun i σ H' _ ⟨_, _, _, _, _, h, _⟩ => SqL.of h) ?hs fin⟩) ?fin
  rotate_left
  · rintro i y σ H' t hi ⟨o3, o4, o5, rfl, sm, hp', ys, hD', hyl⟩ ht
    rw [List.getElem?_map] at hi
    cases hq : ms[i]? with
    | none => rw [hq] at hi; cases hi
    | some x =>
      rw [hq] at hi
      obtain rfl : V.int x = y := Option.some.inj hi
      have st := same_new ht (.tup [.int (i : Int), .int x])
      refine ⟨t, _, rfl, SqT.of upd_same, rfl, _, _, rfl, _, _, rfl, rfl, ?_⟩
      refine ⟨_, rfl, rfl, _, rfl, ite2 (fun k => ?_) (fun k => ?_)⟩
      · exact fin _ _ ⟨_, _, _, rfl, Same.trans sm st, st _ _ hp', ys, st _ _ hD', hyl⟩
      · have hm0 : m ≠ 0 := fun z => k (decide_eq_true (by rw [z]; rfl))
        have hpos : (0 : Int) < (m : Int) := by omega
        have md := mid (a := (i : Int)) (b := (m : Int)) hpos
        obtain ⟨j, ej⟩ : ∃ j : Nat, ((i : Int) % (m : Int)) = (j : Int) := ⟨((i : Int) % (m : Int)).toNat, by omega⟩
        have hj : j < ys.length := by omega
        have hat : atI (ys.map V.int) ((i : Int) % (m : Int)) = some (V.int ys[j]) := by rw [ej]; exact atI_nat (by rw [List.getElem?_map, List.getElem?_eq_getElem hj]; rfl)
        have hix : ixN (ys.map V.int).length ((i : Int) % (m : Int)) = some j := by
          rw [ej, List.length_map]
          unfold ixN
          rw [if_pos (by omega), if_pos (by omega), Int.toNat_natCast]
        refine ⟨_, rfl, _, rfl, _, rfl, _, _, rfl, rfl, hpos, D, _, _, _, rfl, rfl, SqL.of (st _ _ hD'), hat, ?_⟩
        refine ⟨_, rfl, _, rfl, _, _, rfl, rfl, ⟨by decide, by decide, by decide⟩, _, _, rfl, rfl, (by show (0 : Int) < 10 ^ 58; decide), _, _, rfl, rfl, _, _, rfl, rfl, ⟨by decide, by decide, by decide⟩, _, _, rfl, rfl, .inl ⟨by decide, by decide⟩, _, _, rfl, rfl, ?_⟩
        refine ⟨_, rfl, _, rfl, _, rfl, _, _, rfl, rfl, hpos, D, _, _, j, rfl, rfl, st _ _ hD', hix, _, _, _, rfl, Same.upd_new (Same.trans sm st) hD0 _, ?_, _, upd_same.trans (congrArg (fun l => some (HO.lst l)) List.map_set.symm), ?_⟩
        · rw [upd_ne p1D]
          exact st _ _ hp'
        · rw [List.length_set]
          exact hyl
  · rintro σ H' ⟨o3, o4, o5, rfl, sm, hp', ys, hD', hyl⟩
    refine ⟨_, rfl, s0, ns, 0, rfl, sm.seq hS, by decide, fun v0 => ⟨_, _, rfl, rfl, (by show (0 : Int) < 2; decide), rfl, _, rfl, ite2 (fun k => ?_) (fun k => ?_)⟩⟩
    · refine ⟨_, rfl, D, rfl, ⟨_, SqL.of hD'⟩, fun D2 hD2 => ?_⟩
      refine comp_rel (K := K) (xs := ys.map V.int) (ys.map fun y => y % 5 - 2) (fun _ _ b y => y = V.int b) (fun _ _ _ _ _ _ h => h) (fun _ _ _ _ _ _ h => h) (szl (by rw [List.length_map]; omega)) hD2 (SqL.of hD') (by rw [List.length_map, List.length_map]) (fun i x b H2 R hx hb s2 hQ => ?_) (fun H2 zs s2 hL po => ?_)
      · obtain ⟨hi, ex⟩ := get_of hx
        obtain ⟨hib, eb⟩ := get_of hb
        rw [List.getElem_map] at ex eb
        subst ex
        exact ⟨_, rfl, _, _, rfl, rfl, (by show (0 : Int) < 5; decide), _, _, rfl, rfl, hQ _ _ (Same.refl _) (by rw [← eb])⟩
      · rw [paired_ints po] at hL
        exact ⟨_, rfl, q D2 _ _ (Same.trans sm s2) (sm.free hD2) hL (by rw [List.length_map]; exact hyl)⟩
    · exact ⟨_, rfl, q D ys _ sm hD0 hD' hyl⟩
end
end K32
namespace K32
open PySem L2 K02 Bk
set_option maxHeartbeats 4000000
section
variable {P : Program} {w : World} {K : PySem.W.Frag} {mg : Str → Option Value} {base : Heap} {f : Addr} {fd : FuncData} {c : Cl}
theorem sc_law : FnScope ["_law_script", "_law_names", "_law_place", "_law_rules", "_law_book", "_law_table", "_law_numbers_here", "_law_how", "_law_handed", "_law_found", "_law_due"] ["_law_script"] (defScope s_law) := ⟨rfl, rfl, rfl, by decide +kernel, rfl, by decide +kernel, by decide +kernel⟩
theorem ok_law (F : Fun K "law" "law" s_law f fd) (c__law_sheet : Cal P w K mg base "_law_sheet" 4 ["_law_script"] (spSheet K)) (c_read_book : Cal P w K mg base "read_book" 9 ["text"] (spBook K c)) (c__law_lines : Cal P w K mg base "_law_lines" 1 ["_law_names", "_law_place", "_law_rules"] (spLinesI K)) (c__law_effects : Cal P w K mg base "_law_effects" 1 ["_law_names", "_law_rules"] (spDue K))
    (c_breaker : Cal P w K mg base "breaker" 5 ["book", "how", "numbers"] (spBreaker K c)) (c__law_numbers : Cal P w K mg base "_law_numbers" 2 ["_law_script", "_law_many"] (spNums K)) (c__law_first : Cal P w K mg base "_law_first" 2 ["_law_table", "_law_how", "_law_numbers_here"] spFirst) (kib : PySem.W.kitOne K (.type "int") (.type "bool") = some false) (m_bool : mg "bool" = none) (m_isinstance : mg "isinstance" = none) (m_list : mg "list" = none) (m_len : mg "len" = none) : FnOk P w K mg base CX0 10 f fd ["_law_script"] (spLaw K) := by
  refine F.ok sc_law (fun vs H Q E h => ?_) (fun cdv A outer s H vs Q E hr h => ?_)
  · obtain ⟨a, ns, rfl, _⟩ := h
    rfl
  obtain ⟨s0, ns, rfl, hS, hns, q⟩ := h
  refine ⟨_, (pss_cons (ps_asg (pe_callC c__law_sheet (hr.mono (by decide)) rfl (pa_cons (pv 0) pa_nil)) (pg_tup rfl (pgs_cons (pg_name (i := 1) sc_law.nd rfl (Or.inl rfl)) (pgs_cons (pg_name (i := 2) sc_law.nd rfl (Or.inl rfl)) (pgs_cons (pg_name (i := 3) sc_law.nd rfl (Or.inl rfl)) pgs_nil)))))
  (pss_cons (ps_set (i := 4) sc_law.nd rfl (Or.inl rfl) (pe_callC c_read_book (hr.mono (by decide)) rfl (pa_cons (pe_callC c__law_lines (hr.mono (by decide)) rfl (pa_cons (pv 1) (pa_cons (pv 2) (pa_cons (pv 3) pa_nil)))) pa_nil)))
  (pss_cons (ps_set (i := 5) sc_law.nd rfl (Or.inl rfl) (pe_callC c__law_effects (hr.mono (by decide)) rfl (pa_cons (pv 1) (pa_cons (pv 3) pa_nil))))
  (pss_cons (ps_set (i := 6) sc_law.nd rfl (Or.inl rfl) (pe_callC c__law_numbers (hr.mono (by decide)) rfl (pa_cons (pv 0) (pa_cons (pe_callB call_len_seq rfl m_len PySem.boot_len (pa_cons (pv 1) pa_nil)) pa_nil))))
  (pss_cons (ps_for PassesOwn.never rfl (pi_tup (pe_tup (pa_cons pe_str (pa_cons pe_str (pa_cons pe_str pa_nil))))) (pg_name (i := 7) sc_law.nd rfl (Or.inl rfl))
  (pss_cons (ps_set (i := 8) sc_law.nd rfl (Or.inl rfl) (pe_callTy call_list_of rfl m_list PyProof.Rows.Boot.«list» (pa_cons (pv 6) pa_nil)))
  (pss_cons (ps_set (i := 9) sc_law.nd rfl (Or.inl rfl) (pe_callC c_breaker (hr.mono (by decide)) rfl (pa_cons (pv 4) (pa_cons (pv 7) (pa_cons (pv 8) pa_nil)))))
  (pss_cons (ps_set (i := 10) sc_law.nd rfl (Or.inl rfl) (pe_callC c__law_first (hr.mono (by decide)) rfl (pa_cons (pv 5) (pa_cons (pv 7) (pa_cons (pv 6) pa_nil)))))
  (pss_cons (ps_if (PW.pt (pw_or (pt_val (pe_callB call_isinst rfl m_isinstance PyProof.Rows.boot_isinstance (pa_cons (pv 9) (pa_cons (pe_bltn rfl m_bool PyProof.Rows.boot_bool (v := .ty "bool") rfl) pa_nil)))) (pw_or (pt_cmpR op_ne (pv 9) (pv 10) (nomark _)) (pw_or1 (pt_cmpR (op_neI hr.units) (pv 8) (pv 6) (nomark _))))))
  (pss_one (ps_ret pe_bl))
  pss_nil)
  (pss_one (ps_if (pt_cmpR op_notN (pe_callC c_breaker (hr.mono (by decide)) rfl (pa_cons (pv 4) (pa_cons (pv 7) (pa_cons (pe_op op_rep (pe_lst (pa_cons pe_int pa_nil)) (pe_callB call_len_seq rfl m_len PySem.boot_len (pa_cons (pv 1) pa_nil))) pa_nil)))) pe_non (nomark _))
  (pss_one (ps_ret pe_bl))
  pss_nil)))))))
  (pss_one (ps_ret pe_bl))))))), ?_⟩
  refine ⟨_, rfl, s0, ns, rfl, hS, hns, fun t ln lr zs place rs us H1 s1 ht hln hlr pr T => ?_⟩
  refine ⟨t, _, rfl, SqT.of ht, rfl, _, _, rfl, _, _, rfl, _, _, rfl, rfl, ?_⟩
  refine ⟨_, rfl, _, rfl, _, rfl, ln, lr, zs, place, rs, us, rfl, hln, hlr, pr, T, fun H2 s2 => ?_⟩
  have hfew := T.few
  have hmany := T.many
  have lR : (rulesI zs rs rs.length).length = rs.length := by unfold rulesI; rw [List.length_map, List.length_range]
  have lK : (ksI zs place).length = zs.length + 1 := by
    unfold ksI
    rw [List.length_append, List.length_append, List.length_map, List.length_map, List.length_take, List.length_drop]
    have := T.pl
    show _ + 1 + _ = _
    omega
  have lL : (linesI zs place rs).length = zs.length + 1 + rs.length := by unfold linesI; rw [List.length_append, List.length_map, lK, lR]
  have hJ := joinN_le (linesI zs place rs) 250 (lines_le T)
  refine ⟨linesI zs place rs, itsI zs place rs, rfl, fun e => ?_, fun l hl => no10_of (ls_all T al_no10 (by decide) (by decide) (by decide) (by decide) l hl), ?_, book_of T, fun bk H3 s3 B => ?_⟩
  · rw [e] at lL
    have lL : 0 = zs.length + 1 + rs.length := lL
    omega
  · rw [lL] at hJ
    have : (zs.length + 1 + rs.length) * (250 + 1) ≤ 14 * 251 := Nat.mul_le_mul (by omega) (by omega)
    omega
  rw [(its_snd zs place rs).1, (its_snd zs place rs).2] at B
  have s13 := Same.trans s2 s3
  refine ⟨_, rfl, _, rfl, ln, lr, zs, rs, us, rfl, s13 _ _ hln, s13 _ _ hlr, L2.Paired.mapP pr fun _ _ z => z.same s13, hfew, hmany, fun r hr => ⟨(T.ok r hr).l1, (T.ok r hr).l2⟩, fun du H4 s4 TD => ?_⟩
  obtain ⟨ld, ws, rfl, nld, hld, pd⟩ := TD
  have hln4 := s4 _ _ (s13 _ _ hln)
  have B4 := B.keep (Kp.same s4)
  have zd := Paired.length pd
  rw [List.length_map] at zd
  have lRs : (rsI zs rs).length = rs.length := by unfold rsI; rw [List.length_map, List.length_range]
  have hrb : ∀ r ∈ rsI zs rs, r.put.length ≤ 10000 ∧ r.take.length ≤ 10000 := fun r hr => by
    unfold rsI at hr
    obtain ⟨i, hi, rfl⟩ := List.mem_map.mp hr
    have hP := parts_ok (i := i) T.sm (row_ok T (List.mem_range.mp hi))
    show (rlOf (titleI i) ((partsI zs i (rowAt rs i)).map pnPr)).put.length ≤ _ ∧ (rlOf (titleI i) ((partsI zs i (rowAt rs i)).map pnPr)).take.length ≤ _
    rw [rlOf_pn]
    have z3 := (nmOf_few (n := 3) hP).1
    have z0 := (nmOf_few (n := 0) hP).1
    show ((nmOf 3 _).map bare).length ≤ _ ∧ ((nmOf 0 _).map bare).length ≤ _
    rw [List.length_map, List.length_map]
    exact ⟨by omega, by omega⟩
  have eD : effT (ksI zs place) (rsI zs rs) = rs.map (dueR zs.length) := (due_all T).symm
  have lrow : ∀ row ∈ rs.map (dueR zs.length), row.length = zs.length := fun row hrow => by
    obtain ⟨r, _, rfl⟩ := List.mem_map.mp hrow
    unfold dueR
    split <;> simp
  have lrow' : ∀ row ∈ rs.map (dueR zs.length), row.length = zs.length ∧ ∀ i ∈ row, sm i := fun row hrow => ⟨lrow row hrow, fun i hi => by
    rw [← eD] at hrow
    obtain ⟨r, hr, rfl⟩ := List.mem_map.mp hrow
    obtain ⟨z, _, rfl⟩ := List.mem_map.mp hi
    exact eff_sm (hrb r hr).1 (hrb r hr).2⟩
  refine ⟨_, rfl, _, rfl, ln, _, rfl, .inl (SqL.of hln4), s0, ns, zs.length, (by rw [List.length_map]; rfl), (Same.trans s1 (Same.trans s13 s4)).seq hS, hns, hfew, fun pn ys H5 s5 npn hpn hyl => ?_⟩
  refine ⟨(by show 3 ≤ sizeLine; decide), fun tp htp => ?_⟩
  have stp := same_new htp (.tup [V.str sStays, V.str sGrows, V.str sFalls])
  refine ⟨tp, rfl, ⟨_, SqT.of upd_same⟩, for_tup (K := K) (a := tp) (xs := [V.str sStays, V.str sGrows, V.str sFalls]) (fun i σ H' => ∃ o7 o8 o9 o10, σ = [some (.ref s0), some (.ref ln), some (.int (place : Int)), some (.ref lr), some bk, some (.ref ld), some (.ref pn), o7, o8, o9, o10] ∧ Same H5 H' ∧ H' tp = some (.tup [V.str sStays, V.str sGrows, V.str sFalls])) ⟨none, none, none, none, rfl, stp, upd_same⟩ (fun i σ H' _ ⟨_, _, _, _, _, _, h⟩ => SqT.of h) ?_ ?_⟩
  · rintro i y σ H' hi ⟨o7, o8, o9, o10, rfl, sm, htp'⟩
    obtain ⟨z, rfl, hz⟩ : ∃ z, y = V.str z ∧ (z = sStays ∨ z = sGrows ∨ z = sFalls) := by
      have hy := List.mem_of_getElem? hi
      simp only [List.mem_cons, List.not_mem_nil, or_false] at hy
      rcases hy with e | e | e
      · exact ⟨_, e, .inl rfl⟩
      · exact ⟨_, e, .inr (.inl rfl)⟩
      · exact ⟨_, e, .inr (.inr rfl)⟩
    refine ⟨_, rfl, pn, _, rfl, .inl (SqL.of (sm _ _ hpn)), fun lh hlh => ?_⟩
    have slh := same_new hlh (.lst (ys.map V.int))
    have s4h := Same.trans s5 (Same.trans sm slh)
    refine ⟨_, rfl, _, rfl, _, rfl, bk, H2, ksI zs place, rsI zs rs, z, lh, ys, rfl, B4.keep (Kp.same s4h), by omega, by omega, hrb, upd_same, by rw [ks_pass, hyl], fun H7 s7 => ?_⟩
    have s47 := Same.trans s4h s7
    have hlh7 := s7 _ _ (upd_same (H := H') (a := lh) (o := .lst (ys.map V.int)))
    refine ⟨_, rfl, _, rfl, _, rfl, ld, pn, H3, z, rs.map (dueR zs.length), ws, ys, rfl, s47 _ _ hld, L2.Paired.mapP pd fun _ _ z => z.keep (Kp.same s47), s7 _ _ (slh _ _ (sm _ _ hpn)), fun row h => ⟨(lrow' row h).1.trans hyl.symm, (lrow' row h).2⟩, by omega, by rw [List.length_map]; omega, fun H8 s8 => ?_⟩
    have efv : firstV (fun row => brk2 z (dot row ys)) (rs.map (dueR zs.length)) 0 = firstV (fun row => brk z (dot row ys)) (effT (ksI zs place) (rsI zs rs)) 0 := by
      rw [← eD]
      exact (firstV_congr fun r _ => brk_eq hz _).symm
    rw [efv]
    have hk := firstV_kind (p := fun row => brk z (dot row ys)) (rs := effT (ksI zs place) (rsI zs rs)) (n := 0)
    generalize firstV (fun row => brk z (dot row ys)) (effT (ksI zs place) (rsI zs rs)) 0 = fv at hk
    have hty : ∃ T : String, TyOf K H8 fv (.type T) ∧ PySem.W.kitOne K (.type T) (.type "bool") = some false := by
      rcases hk with e | ⟨i, e⟩ <;> subst e
      · exact ⟨_, .non, kit_non_bool⟩
      · exact ⟨_, .int _, kib⟩
    have hsc : scal fv fv = true := by rcases hk with e | ⟨i, e⟩ <;> subst e <;> rfl
    obtain ⟨T0, hT, hkit⟩ := hty
    refine ⟨_, rfl, _, "bool", _, false, rfl, hT, hkit, _, rfl, iteF ?_⟩
    refine ⟨_, rfl, _, rfl, hsc, _, rfl, ?_⟩
    rw [decide_eq_true (rfl : fv = fv)]
    refine iteF ⟨_, rfl, _, rfl, lh, pn, ys, ys, rfl, rfl, SqL.of (s8 _ _ hlh7), SqL.of (s8 _ _ (s7 _ _ (slh _ _ (sm _ _ hpn)))), _, rfl, ?_⟩
    rw [show decide (ys ≠ ys) = false from decide_eq_false fun h => h rfl]
    have s48 := Same.trans s47 s8
    refine iteF ⟨_, rfl, _, rfl, (by show 1 ≤ sizeLine; decide), fun p hp => ?_⟩
    have sp := same_new hp (.lst [V.int 0])
    refine ⟨_, rfl, ln, _, rfl, .inl (SqL.of (sp _ _ (s48 _ _ hln4))), p, _, _, rfl, rfl, upd_same, by rw [List.length_map]; omega, by rw [List.length_map]; omega, ?_, fun p2 hp2 => ?_⟩
    · rw [List.length_map]
      exact sz (by show 1 * _ ≤ _; omega)
    have sp2 := same_new hp2 (.lst (List.replicate ((((zs.map tx).length : Nat) : Int)).toNat [V.int 0]).flatten)
    have s4p := Same.trans s48 (Same.trans sp sp2)
    refine ⟨bk, H2, ksI zs place, rsI zs rs, z, p2, List.replicate zs.length 0, rfl, B4.keep (Kp.same s4p), by omega, by omega, hrb, ?_, by rw [ks_pass, List.length_replicate], fun H9 s9 => ?_⟩
    · rw [upd_same, rep_ints, List.length_map]
      rfl
    rw [firstV_non fun r _ => by rw [dot_zero]; exact brk_zero z]
    have s59 : Same H5 H9 := Same.trans sm (Same.trans slh (Same.trans s7 (Same.trans s8 (Same.trans (Same.trans sp sp2) s9))))
    refine ⟨rfl, _, rfl, iteF ⟨_, _, _, _, rfl, s59, ?_⟩⟩
    exact (Same.trans slh (Same.trans s7 (Same.trans s8 (Same.trans (Same.trans sp sp2) s9)))) _ _ htp'
  · rintro σ H' _
    exact q _
end
end K32
namespace K32
open PySem L2 K02 Bk
open PySem.W (nsIn findIn keepIn mg_of isFn mroIn)
set_option maxHeartbeats 4000000
theorem all_mk {l : PySem.W.OpenLaw} {w : World} {K : PySem.W.Frag} {h : Heap} {mg : Str → Option Value} {fa C_Same C_Unlike C_Rule C_Book f_0 f_1 f_2 f_3 f_4 f_5 f_6 f_7 f_8 f_9 f_10 f_11 f_12 f_13 f_14 f_15 f_16 f_17 f_18 f_19 f_20 f_21 f_22 f_23 f_24 f_25 f_26 f_27 f_28 f_29 f_30 f_31 f_32 f_33 f_34 f_35 f_36 f_37 f_38 f_39 f_40 f_41 f_42 f_43 f_44 f_45 f_46 f_m_Look_init f_m_Rule_init f_m_Rule_calls f_m_Book_init : Addr} (X : K.In h) (G : h.Ns mainGlobals mg) (hfa : mg "law" = some (.ref fa))
    {d_is_name_sign d_is_name d_is_small_word d_name_end d_pieces d_piece_at d_arguments_at d_fact_at d_row_of_facts d_is_told d_told_lines d_line_pieces d_read_kind d_parted d_check_two_names d_read_look d_read_pair d_read_looks d_read_pairs d_read_part d_read_rule d_is_great d_open_names d_hear_line d_check_facts d_check_taken d_check_call d_said_names d_check_names d_whole_book d_read_book d_passing_kinds d_effect d_effects d__law_cell d__law_digits d__law_name d__law_sheet d__law_lines d__law_effects d_row_sum d_breaks d_breaker d__law_sum d__law_first d__law_numbers d_m_Look_init d_m_Rule_init d_m_Rule_calls d_m_Book_init : FuncData} {od_law an_law : Option Addr} {sl_law : Array (Option Value)} {oc_law kV_law dc_law pm_law cd_law ct_law : Value}
    {t_GREAT t_SMALL t_FIGURES t_LONGEST t_LINE_MARKS t_RULE_WORD : Tok}
    {a_KIND_WORDS a_PART_WORDS a_COUNTS : Addr}
    {t_KIND_WORDS_0 t_KIND_WORDS_1 t_PART_WORDS_0 t_PART_WORDS_1 t_PART_WORDS_2 t_PART_WORDS_3 t_PART_WORDS_4 t_COUNTS_0 t_COUNTS_1 t_COUNTS_2 t_COUNTS_3 t_COUNTS_4 : Tok}
    {tn_KIND_WORDS tn_PART_WORDS tn_COUNTS : Nat}
    {sl_KIND_WORDS sl_PART_WORDS sl_COUNTS : Array (Option Value)}
    (aC_Same : nsIn K mainGlobals "Same" = some (some (.ref C_Same)))
    (aC_Unlike : nsIn K mainGlobals "Unlike" = some (some (.ref C_Unlike)))
    (aC_Rule : nsIn K mainGlobals "Rule" = some (some (.ref C_Rule)))
    (aC_Book : nsIn K mainGlobals "Book" = some (some (.ref C_Book)))
    (a_is_name_sign : nsIn K mainGlobals "is_name_sign" = some (some (.ref f_0)))
    (a_is_name : nsIn K mainGlobals "is_name" = some (some (.ref f_1)))
    (a_is_small_word : nsIn K mainGlobals "is_small_word" = some (some (.ref f_2)))
    (a_name_end : nsIn K mainGlobals "name_end" = some (some (.ref f_3)))
    (a_pieces : nsIn K mainGlobals "pieces" = some (some (.ref f_4)))
    (a_piece_at : nsIn K mainGlobals "piece_at" = some (some (.ref f_5)))
    (a_arguments_at : nsIn K mainGlobals "arguments_at" = some (some (.ref f_6)))
    (a_fact_at : nsIn K mainGlobals "fact_at" = some (some (.ref f_7)))
    (a_row_of_facts : nsIn K mainGlobals "row_of_facts" = some (some (.ref f_8)))
    (a_is_told : nsIn K mainGlobals "is_told" = some (some (.ref f_9)))
    (a_told_lines : nsIn K mainGlobals "told_lines" = some (some (.ref f_10)))
    (a_line_pieces : nsIn K mainGlobals "line_pieces" = some (some (.ref f_11)))
    (a_read_kind : nsIn K mainGlobals "read_kind" = some (some (.ref f_12)))
    (a_parted : nsIn K mainGlobals "parted" = some (some (.ref f_13)))
    (a_check_two_names : nsIn K mainGlobals "check_two_names" = some (some (.ref f_14)))
    (a_read_look : nsIn K mainGlobals "read_look" = some (some (.ref f_15)))
    (a_read_pair : nsIn K mainGlobals "read_pair" = some (some (.ref f_16)))
    (a_read_looks : nsIn K mainGlobals "read_looks" = some (some (.ref f_17)))
    (a_read_pairs : nsIn K mainGlobals "read_pairs" = some (some (.ref f_18)))
    (a_read_part : nsIn K mainGlobals "read_part" = some (some (.ref f_19)))
    (a_read_rule : nsIn K mainGlobals "read_rule" = some (some (.ref f_20)))
    (a_is_great : nsIn K mainGlobals "is_great" = some (some (.ref f_21)))
    (a_open_names : nsIn K mainGlobals "open_names" = some (some (.ref f_22)))
    (a_hear_line : nsIn K mainGlobals "hear_line" = some (some (.ref f_23)))
    (a_check_facts : nsIn K mainGlobals "check_facts" = some (some (.ref f_24)))
    (a_check_taken : nsIn K mainGlobals "check_taken" = some (some (.ref f_25)))
    (a_check_call : nsIn K mainGlobals "check_call" = some (some (.ref f_26)))
    (a_said_names : nsIn K mainGlobals "said_names" = some (some (.ref f_27)))
    (a_check_names : nsIn K mainGlobals "check_names" = some (some (.ref f_28)))
    (a_whole_book : nsIn K mainGlobals "whole_book" = some (some (.ref f_29)))
    (a_read_book : nsIn K mainGlobals "read_book" = some (some (.ref f_30)))
    (a_passing_kinds : nsIn K mainGlobals "passing_kinds" = some (some (.ref f_31)))
    (a_effect : nsIn K mainGlobals "effect" = some (some (.ref f_32)))
    (a_effects : nsIn K mainGlobals "effects" = some (some (.ref f_33)))
    (a__law_cell : nsIn K mainGlobals "_law_cell" = some (some (.ref f_34)))
    (a__law_digits : nsIn K mainGlobals "_law_digits" = some (some (.ref f_35)))
    (a__law_name : nsIn K mainGlobals "_law_name" = some (some (.ref f_36)))
    (a__law_sheet : nsIn K mainGlobals "_law_sheet" = some (some (.ref f_37)))
    (a__law_lines : nsIn K mainGlobals "_law_lines" = some (some (.ref f_38)))
    (a__law_effects : nsIn K mainGlobals "_law_effects" = some (some (.ref f_39)))
    (a_row_sum : nsIn K mainGlobals "row_sum" = some (some (.ref f_40)))
    (a_breaks : nsIn K mainGlobals "breaks" = some (some (.ref f_41)))
    (a_breaker : nsIn K mainGlobals "breaker" = some (some (.ref f_42)))
    (a__law_sum : nsIn K mainGlobals "_law_sum" = some (some (.ref f_43)))
    (a__law_first : nsIn K mainGlobals "_law_first" = some (some (.ref f_44)))
    (a__law_numbers : nsIn K mainGlobals "_law_numbers" = some (some (.ref f_45)))
    (a_law : nsIn K mainGlobals "law" = some (some (.ref f_46)))
    (fi_Same_init : findIn K (.ref C_Same) "__init__" = some (some (.ref f_m_Look_init)))
    (fi_Unlike_init : findIn K (.ref C_Unlike) "__init__" = some (some (.ref f_m_Look_init)))
    (fi_Rule_init : findIn K (.ref C_Rule) "__init__" = some (some (.ref f_m_Rule_init)))
    (fi_Rule_calls : findIn K (.ref C_Rule) "calls" = some (some (.ref f_m_Rule_calls)))
    (fi_Book_init : findIn K (.ref C_Book) "__init__" = some (some (.ref f_m_Book_init)))
    (i_m_Look_init : isFn K (.ref f_m_Look_init) = true)
    (i_m_Rule_init : isFn K (.ref f_m_Rule_init) = true)
    (i_m_Rule_calls : isFn K (.ref f_m_Rule_calls) = true)
    (i_m_Book_init : isFn K (.ref f_m_Book_init) = true)
    (F_is_name_sign : Fun K "is_name_sign" "is_name_sign" s_is_name_sign f_0 d_is_name_sign)
    (F_is_name : Fun K "is_name" "is_name" s_is_name f_1 d_is_name)
    (F_is_small_word : Fun K "is_small_word" "is_small_word" s_is_small_word f_2 d_is_small_word)
    (F_name_end : Fun K "name_end" "name_end" s_name_end f_3 d_name_end)
    (F_pieces : Fun K "pieces" "pieces" s_pieces f_4 d_pieces)
    (F_piece_at : Fun K "piece_at" "piece_at" s_piece_at f_5 d_piece_at)
    (F_arguments_at : Fun K "arguments_at" "arguments_at" s_arguments_at f_6 d_arguments_at)
    (F_fact_at : Fun K "fact_at" "fact_at" s_fact_at f_7 d_fact_at)
    (F_row_of_facts : Fun K "row_of_facts" "row_of_facts" s_row_of_facts f_8 d_row_of_facts)
    (F_is_told : Fun K "is_told" "is_told" s_is_told f_9 d_is_told)
    (F_told_lines : Fun K "told_lines" "told_lines" s_told_lines f_10 d_told_lines)
    (F_line_pieces : Fun K "line_pieces" "line_pieces" s_line_pieces f_11 d_line_pieces)
    (F_read_kind : Fun K "read_kind" "read_kind" s_read_kind f_12 d_read_kind)
    (F_parted : Fun K "parted" "parted" s_parted f_13 d_parted)
    (F_check_two_names : Fun K "check_two_names" "check_two_names" s_check_two_names f_14 d_check_two_names)
    (F_read_look : Fun K "read_look" "read_look" s_read_look f_15 d_read_look)
    (F_read_pair : Fun K "read_pair" "read_pair" s_read_pair f_16 d_read_pair)
    (F_read_looks : Fun K "read_looks" "read_looks" s_read_looks f_17 d_read_looks)
    (F_read_pairs : Fun K "read_pairs" "read_pairs" s_read_pairs f_18 d_read_pairs)
    (F_read_part : Fun K "read_part" "read_part" s_read_part f_19 d_read_part)
    (F_read_rule : Fun K "read_rule" "read_rule" s_read_rule f_20 d_read_rule)
    (F_is_great : Fun K "is_great" "is_great" s_is_great f_21 d_is_great)
    (F_open_names : Fun K "open_names" "open_names" s_open_names f_22 d_open_names)
    (F_hear_line : Fun K "hear_line" "hear_line" s_hear_line f_23 d_hear_line)
    (F_check_facts : Fun K "check_facts" "check_facts" s_check_facts f_24 d_check_facts)
    (F_check_taken : Fun K "check_taken" "check_taken" s_check_taken f_25 d_check_taken)
    (F_check_call : Fun K "check_call" "check_call" s_check_call f_26 d_check_call)
    (F_said_names : Fun K "said_names" "said_names" s_said_names f_27 d_said_names)
    (F_check_names : Fun K "check_names" "check_names" s_check_names f_28 d_check_names)
    (F_whole_book : Fun K "whole_book" "whole_book" s_whole_book f_29 d_whole_book)
    (F_read_book : Fun K "read_book" "read_book" s_read_book f_30 d_read_book)
    (F_passing_kinds : Fun K "passing_kinds" "passing_kinds" s_passing_kinds f_31 d_passing_kinds)
    (F_effect : Fun K "effect" "effect" s_effect f_32 d_effect)
    (F_effects : Fun K "effects" "effects" s_effects f_33 d_effects)
    (F__law_cell : Fun K "_law_cell" "_law_cell" s__law_cell f_34 d__law_cell)
    (F__law_digits : Fun K "_law_digits" "_law_digits" s__law_digits f_35 d__law_digits)
    (F__law_name : Fun K "_law_name" "_law_name" s__law_name f_36 d__law_name)
    (F__law_sheet : Fun K "_law_sheet" "_law_sheet" s__law_sheet f_37 d__law_sheet)
    (F__law_lines : Fun K "_law_lines" "_law_lines" s__law_lines f_38 d__law_lines)
    (F__law_effects : Fun K "_law_effects" "_law_effects" s__law_effects f_39 d__law_effects)
    (F_row_sum : Fun K "row_sum" "row_sum" s_row_sum f_40 d_row_sum)
    (F_breaks : Fun K "breaks" "breaks" s_breaks f_41 d_breaks)
    (F_breaker : Fun K "breaker" "breaker" s_breaker f_42 d_breaker)
    (F__law_sum : Fun K "_law_sum" "_law_sum" s__law_sum f_43 d__law_sum)
    (F__law_first : Fun K "_law_first" "_law_first" s__law_first f_44 d__law_first)
    (F__law_numbers : Fun K "_law_numbers" "_law_numbers" s__law_numbers f_45 d__law_numbers)
    (l_law : K.lookup f_46 = some ⟨oc_law, od_law, .func (PySem.W.fnOf "law" "law" (defArgs s_law) (defBody s_law) (defScope s_law) .none kV_law dc_law pm_law an_law cd_law ct_law), sl_law⟩)
    (c_law : PySem.W.codeIn K cd_law "law" = true)
    (k_law : keepIn K (.ref f_46) = true)
    (F_m_Look_init : Fun K "__init__" "Look.__init__" s_Look_init f_m_Look_init d_m_Look_init)
    (F_m_Rule_init : Fun K "__init__" "Rule.__init__" s_Rule_init f_m_Rule_init d_m_Rule_init)
    (F_m_Rule_calls : Fun K "calls" "Rule.calls" s_Rule_calls f_m_Rule_calls d_m_Rule_calls)
    (F_m_Book_init : Fun K "__init__" "Book.__init__" s_Book_init f_m_Book_init d_m_Book_init)
    (pg_Same : PySem.W.plainGet K C_Same Str.empty = true)
    (hd_Same : PySem.W.hasDictIn K C_Same = true)
    (po_Same : PySem.W.plainOver K C_Same = true)
    (sa_Same : findIn K (.ref C_Same) "__setattr__" = some (some (.builtin "object.__setattr__")))
    (mk_Same : PySem.W.makesIn K C_Same = true)
    (kc_Same : keepIn K (.ref C_Same) = true)
    (n_Same_left : findIn K (.ref C_Same) "left" = some none)
    (n_Same_right : findIn K (.ref C_Same) "right" = some none)
    (ha_Same : findIn K (.ref C_Same) "__class__" = some (some (.builtin "object.__class__")))
    (hm_Same : mroIn K C_Same (.type "object") = some true)
    (pg_Unlike : PySem.W.plainGet K C_Unlike Str.empty = true)
    (hd_Unlike : PySem.W.hasDictIn K C_Unlike = true)
    (po_Unlike : PySem.W.plainOver K C_Unlike = true)
    (sa_Unlike : findIn K (.ref C_Unlike) "__setattr__" = some (some (.builtin "object.__setattr__")))
    (mk_Unlike : PySem.W.makesIn K C_Unlike = true)
    (kc_Unlike : keepIn K (.ref C_Unlike) = true)
    (n_Unlike_left : findIn K (.ref C_Unlike) "left" = some none)
    (n_Unlike_right : findIn K (.ref C_Unlike) "right" = some none)
    (ha_Unlike : findIn K (.ref C_Unlike) "__class__" = some (some (.builtin "object.__class__")))
    (hm_Unlike : mroIn K C_Unlike (.type "object") = some true)
    (pg_Rule : PySem.W.plainGet K C_Rule Str.empty = true)
    (hd_Rule : PySem.W.hasDictIn K C_Rule = true)
    (po_Rule : PySem.W.plainOver K C_Rule = true)
    (sa_Rule : findIn K (.ref C_Rule) "__setattr__" = some (some (.builtin "object.__setattr__")))
    (mk_Rule : PySem.W.makesIn K C_Rule = true)
    (kc_Rule : keepIn K (.ref C_Rule) = true)
    (n_Rule_title : findIn K (.ref C_Rule) "title" = some none)
    (n_Rule_taken : findIn K (.ref C_Rule) "taken" = some none)
    (n_Rule_kept : findIn K (.ref C_Rule) "kept" = some none)
    (n_Rule_looks : findIn K (.ref C_Rule) "looks" = some none)
    (n_Rule_given : findIn K (.ref C_Rule) "given" = some none)
    (n_Rule_told : findIn K (.ref C_Rule) "told" = some none)
    (n_Rule_names : findIn K (.ref C_Rule) "names" = some none)
    (ha_Rule : findIn K (.ref C_Rule) "__class__" = some (some (.builtin "object.__class__")))
    (hm_Rule : mroIn K C_Rule (.type "object") = some true)
    (pg_Book : PySem.W.plainGet K C_Book Str.empty = true)
    (hd_Book : PySem.W.hasDictIn K C_Book = true)
    (po_Book : PySem.W.plainOver K C_Book = true)
    (sa_Book : findIn K (.ref C_Book) "__setattr__" = some (some (.builtin "object.__setattr__")))
    (mk_Book : PySem.W.makesIn K C_Book = true)
    (kc_Book : keepIn K (.ref C_Book) = true)
    (n_Book_kinds : findIn K (.ref C_Book) "kinds" = some none)
    (n_Book_rules : findIn K (.ref C_Book) "rules" = some none)
    (ha_Book : findIn K (.ref C_Book) "__class__" = some (some (.builtin "object.__class__")))
    (hm_Book : mroIn K C_Book (.type "object") = some true)
    (hn : PySem.W.specialIn K (.builtin "object.__class__") "__get__" = some (some (.builtin "getset_descriptor.__get__")))
    (htk : PySem.W.takesIn K (.builtin "object.__class__") = some true)
    (g_GREAT : nsIn K mainGlobals "GREAT" = some (some (.str aGreat t_GREAT)))
    (g_SMALL : nsIn K mainGlobals "SMALL" = some (some (.str aSmall t_SMALL)))
    (g_FIGURES : nsIn K mainGlobals "FIGURES" = some (some (.str aFig t_FIGURES)))
    (g_LONGEST : nsIn K mainGlobals "LONGEST" = some (some (.int 12 t_LONGEST)))
    (g_LINE_MARKS : nsIn K mainGlobals "LINE_MARKS" = some (some (.str aLine t_LINE_MARKS)))
    (g_RULE_WORD : nsIn K mainGlobals "RULE_WORD" = some (some (.str (S kwRule) t_RULE_WORD)))
    (z_all : nsIn K mainGlobals "all" = some none)
    (z_bool : nsIn K mainGlobals "bool" = some none)
    (z_dict : nsIn K mainGlobals "dict" = some none)
    (z_enumerate : nsIn K mainGlobals "enumerate" = some none)
    (z_int : nsIn K mainGlobals "int" = some none)
    (z_isinstance : nsIn K mainGlobals "isinstance" = some none)
    (z_len : nsIn K mainGlobals "len" = some none)
    (z_list : nsIn K mainGlobals "list" = some none)
    (z_range : nsIn K mainGlobals "range" = some none)
    (z_reversed : nsIn K mainGlobals "reversed" = some none)
    (z_str : nsIn K mainGlobals "str" = some none)
    (z_sum : nsIn K mainGlobals "sum" = some none)
    (z_tuple : nsIn K mainGlobals "tuple" = some none)
    (z_zip : nsIn K mainGlobals "zip" = some none)
    (g_KIND_WORDS : PySem.W.nsIn K mainGlobals "KIND_WORDS" = some (some (.ref a_KIND_WORDS)))
    (l_KIND_WORDS : K.lookup a_KIND_WORDS = some ⟨.type "tuple", none, .seq #[Value.str "passing" t_KIND_WORDS_0, Value.str "lasting" t_KIND_WORDS_1] tn_KIND_WORDS, sl_KIND_WORDS⟩)
    (g_PART_WORDS : PySem.W.nsIn K mainGlobals "PART_WORDS" = some (some (.ref a_PART_WORDS)))
    (l_PART_WORDS : K.lookup a_PART_WORDS = some ⟨.type "tuple", none, .seq #[Value.str "take" t_PART_WORDS_0, Value.str "keep" t_PART_WORDS_1, Value.str "look" t_PART_WORDS_2, Value.str "put" t_PART_WORDS_3, Value.str "tell" t_PART_WORDS_4] tn_PART_WORDS, sl_PART_WORDS⟩)
    (g_COUNTS : PySem.W.nsIn K mainGlobals "COUNTS" = some (some (.ref a_COUNTS)))
    (l_COUNTS : K.lookup a_COUNTS = some ⟨.type "tuple", none, .seq #[Value.str "0" t_COUNTS_0, Value.str "1" t_COUNTS_1, Value.str "2" t_COUNTS_2, Value.str "3" t_COUNTS_3, Value.str "4" t_COUNTS_4] tn_COUNTS, sl_COUNTS⟩)
    : ∃ fd : FuncData, (∀ (s : Shared) (v : Value), BindsTo s fd ⟨[v], []⟩ [("_law_script", v)]) ∧ ∀ base : Heap, K.In base → base.Ns mainGlobals mg → FnOk l.prog w K mg base CX0 10 fa fd ["_law_script"] (spLaw K) := by
  have e := hfa.symm.trans (mg_of X G a_law)
  cases e
  have b_is_name_sign := F_is_name_sign.binds (ps := ["sign"]) fun _ _ _ _ _ _ us hl => match us, hl with | [_], _ => rfl
  have M_is_name_sign := mg_of X G a_is_name_sign
  have b_is_name := F_is_name.binds (ps := ["text"]) fun _ _ _ _ _ _ us hl => match us, hl with | [_], _ => rfl
  have M_is_name := mg_of X G a_is_name
  have b_is_small_word := F_is_small_word.binds (ps := ["text"]) fun _ _ _ _ _ _ us hl => match us, hl with | [_], _ => rfl
  have M_is_small_word := mg_of X G a_is_small_word
  have b_name_end := F_name_end.binds (ps := ["text", "start"]) fun _ _ _ _ _ _ us hl => match us, hl with | [_, _], _ => rfl
  have M_name_end := mg_of X G a_name_end
  have b_pieces := F_pieces.binds (ps := ["text", "marks"]) fun _ _ _ _ _ _ us hl => match us, hl with | [_, _], _ => rfl
  have M_pieces := mg_of X G a_pieces
  have b_piece_at := F_piece_at.binds (ps := ["found", "place"]) fun _ _ _ _ _ _ us hl => match us, hl with | [_, _], _ => rfl
  have M_piece_at := mg_of X G a_piece_at
  have b_arguments_at := F_arguments_at.binds (ps := ["found", "place"]) fun _ _ _ _ _ _ us hl => match us, hl with | [_, _], _ => rfl
  have M_arguments_at := mg_of X G a_arguments_at
  have b_fact_at := F_fact_at.binds (ps := ["found", "place"]) fun _ _ _ _ _ _ us hl => match us, hl with | [_, _], _ => rfl
  have M_fact_at := mg_of X G a_fact_at
  have b_row_of_facts := F_row_of_facts.binds (ps := ["found"]) fun _ _ _ _ _ _ us hl => match us, hl with | [_], _ => rfl
  have M_row_of_facts := mg_of X G a_row_of_facts
  have b_is_told := F_is_told.binds (ps := ["line"]) fun _ _ _ _ _ _ us hl => match us, hl with | [_], _ => rfl
  have M_is_told := mg_of X G a_is_told
  have b_told_lines := F_told_lines.binds (ps := ["text"]) fun _ _ _ _ _ _ us hl => match us, hl with | [_], _ => rfl
  have M_told_lines := mg_of X G a_told_lines
  have b_line_pieces := F_line_pieces.binds (ps := ["line"]) fun _ _ _ _ _ _ us hl => match us, hl with | [_], _ => rfl
  have M_line_pieces := mg_of X G a_line_pieces
  have b_read_kind := F_read_kind.binds (ps := ["found"]) fun _ _ _ _ _ _ us hl => match us, hl with | [_], _ => rfl
  have M_read_kind := mg_of X G a_read_kind
  have b_parted := F_parted.binds (ps := ["found", "mark"]) fun _ _ _ _ _ _ us hl => match us, hl with | [_, _], _ => rfl
  have M_parted := mg_of X G a_parted
  have b_check_two_names := F_check_two_names.binds (ps := ["found"]) fun _ _ _ _ _ _ us hl => match us, hl with | [_], _ => rfl
  have M_check_two_names := mg_of X G a_check_two_names
  have b_read_look := F_read_look.binds (ps := ["found"]) fun _ _ _ _ _ _ us hl => match us, hl with | [_], _ => rfl
  have M_read_look := mg_of X G a_read_look
  have b_read_pair := F_read_pair.binds (ps := ["found"]) fun _ _ _ _ _ _ us hl => match us, hl with | [_], _ => rfl
  have M_read_pair := mg_of X G a_read_pair
  have b_read_looks := F_read_looks.binds (ps := ["found"]) fun _ _ _ _ _ _ us hl => match us, hl with | [_], _ => rfl
  have M_read_looks := mg_of X G a_read_looks
  have b_read_pairs := F_read_pairs.binds (ps := ["found"]) fun _ _ _ _ _ _ us hl => match us, hl with | [_], _ => rfl
  have M_read_pairs := mg_of X G a_read_pairs
  have b_read_part := F_read_part.binds (ps := ["word", "found"]) fun _ _ _ _ _ _ us hl => match us, hl with | [_, _], _ => rfl
  have M_read_part := mg_of X G a_read_part
  have b_read_rule := F_read_rule.binds (ps := ["found"]) fun _ _ _ _ _ _ us hl => match us, hl with | [_], _ => rfl
  have M_read_rule := mg_of X G a_read_rule
  have b_is_great := F_is_great.binds (ps := ["name"]) fun _ _ _ _ _ _ us hl => match us, hl with | [_], _ => rfl
  have M_is_great := mg_of X G a_is_great
  have b_open_names := F_open_names.binds (ps := ["facts"]) fun _ _ _ _ _ _ us hl => match us, hl with | [_], _ => rfl
  have M_open_names := mg_of X G a_open_names
  have b_hear_line := F_hear_line.binds (ps := ["kinds", "rules", "line"]) fun _ _ _ _ _ _ us hl => match us, hl with | [_, _, _], _ => rfl
  have M_hear_line := mg_of X G a_hear_line
  have b_check_facts := F_check_facts.binds (ps := ["kinds", "facts"]) fun _ _ _ _ _ _ us hl => match us, hl with | [_, _], _ => rfl
  have M_check_facts := mg_of X G a_check_facts
  have b_check_taken := F_check_taken.binds (ps := ["lasts", "taken"]) fun _ _ _ _ _ _ us hl => match us, hl with | [_, _], _ => rfl
  have M_check_taken := mg_of X G a_check_taken
  have b_check_call := F_check_call.binds (ps := ["lasts", "rule"]) fun _ _ _ _ _ _ us hl => match us, hl with | [_, _], _ => rfl
  have M_check_call := mg_of X G a_check_call
  have b_said_names := F_said_names.binds (ps := ["rule"]) fun _ _ _ _ _ _ us hl => match us, hl with | [_], _ => rfl
  have M_said_names := mg_of X G a_said_names
  have b_check_names := F_check_names.binds (ps := ["rule"]) fun _ _ _ _ _ _ us hl => match us, hl with | [_], _ => rfl
  have M_check_names := mg_of X G a_check_names
  have b_whole_book := F_whole_book.binds (ps := ["kinds", "rules"]) fun _ _ _ _ _ _ us hl => match us, hl with | [_, _], _ => rfl
  have M_whole_book := mg_of X G a_whole_book
  have b_read_book := F_read_book.binds (ps := ["text"]) fun _ _ _ _ _ _ us hl => match us, hl with | [_], _ => rfl
  have M_read_book := mg_of X G a_read_book
  have b_passing_kinds := F_passing_kinds.binds (ps := ["book"]) fun _ _ _ _ _ _ us hl => match us, hl with | [_], _ => rfl
  have M_passing_kinds := mg_of X G a_passing_kinds
  have b_effect := F_effect.binds (ps := ["rule", "kind"]) fun _ _ _ _ _ _ us hl => match us, hl with | [_, _], _ => rfl
  have M_effect := mg_of X G a_effect
  have b_effects := F_effects.binds (ps := ["book"]) fun _ _ _ _ _ _ us hl => match us, hl with | [_], _ => rfl
  have M_effects := mg_of X G a_effects
  have b__law_cell := F__law_cell.binds (ps := ["_law_script", "_law_k"]) fun _ _ _ _ _ _ us hl => match us, hl with | [_, _], _ => rfl
  have M__law_cell := mg_of X G a__law_cell
  have b__law_digits := F__law_digits.binds (ps := ["_law_cell_here", "_law_sizes"]) fun _ _ _ _ _ _ us hl => match us, hl with | [_, _], _ => rfl
  have M__law_digits := mg_of X G a__law_digits
  have b__law_name := F__law_name.binds (ps := ["_law_style", "_law_k"]) fun _ _ _ _ _ _ us hl => match us, hl with | [_, _], _ => rfl
  have M__law_name := mg_of X G a__law_name
  have b__law_sheet := F__law_sheet.binds (ps := ["_law_script"]) fun _ _ _ _ _ _ us hl => match us, hl with | [_], _ => rfl
  have M__law_sheet := mg_of X G a__law_sheet
  have b__law_lines := F__law_lines.binds (ps := ["_law_names", "_law_place", "_law_rules"]) fun _ _ _ _ _ _ us hl => match us, hl with | [_, _, _], _ => rfl
  have M__law_lines := mg_of X G a__law_lines
  have b__law_effects := F__law_effects.binds (ps := ["_law_names", "_law_rules"]) fun _ _ _ _ _ _ us hl => match us, hl with | [_, _], _ => rfl
  have M__law_effects := mg_of X G a__law_effects
  have b_row_sum := F_row_sum.binds (ps := ["row", "numbers"]) fun _ _ _ _ _ _ us hl => match us, hl with | [_, _], _ => rfl
  have M_row_sum := mg_of X G a_row_sum
  have b_breaks := F_breaks.binds (ps := ["how", "change"]) fun _ _ _ _ _ _ us hl => match us, hl with | [_, _], _ => rfl
  have M_breaks := mg_of X G a_breaks
  have b_breaker := F_breaker.binds (ps := ["book", "how", "numbers"]) fun _ _ _ _ _ _ us hl => match us, hl with | [_, _, _], _ => rfl
  have M_breaker := mg_of X G a_breaker
  have b__law_sum := F__law_sum.binds (ps := ["_law_row", "_law_numbers_here"]) fun _ _ _ _ _ _ us hl => match us, hl with | [_, _], _ => rfl
  have M__law_sum := mg_of X G a__law_sum
  have b__law_first := F__law_first.binds (ps := ["_law_table", "_law_how", "_law_numbers_here"]) fun _ _ _ _ _ _ us hl => match us, hl with | [_, _, _], _ => rfl
  have M__law_first := mg_of X G a__law_first
  have b__law_numbers := F__law_numbers.binds (ps := ["_law_script", "_law_many"]) fun _ _ _ _ _ _ us hl => match us, hl with | [_, _], _ => rfl
  have M__law_numbers := mg_of X G a__law_numbers
  have F_law := fun_mk (st := s_law) l_law c_law k_law
  have M_law := mg_of X G a_law
  have b_m_Look_init := F_m_Look_init.binds (ps := ["self", "left", "right"]) fun _ _ _ _ _ _ us hl => match us, hl with | [_, _, _], _ => rfl
  have b_m_Rule_init := F_m_Rule_init.binds (ps := ["self", "title", "parts"]) fun _ _ _ _ _ _ us hl => match us, hl with | [_, _, _], _ => rfl
  have b_m_Rule_calls := F_m_Rule_calls.binds (ps := ["self"]) fun _ _ _ _ _ _ us hl => match us, hl with | [_], _ => rfl
  have b_m_Book_init := F_m_Book_init.binds (ps := ["self", "kinds", "rules"]) fun _ _ _ _ _ _ us hl => match us, hl with | [_, _, _], _ => rfl
  have MC_Same := mg_of X G aC_Same
  have MC_Unlike := mg_of X G aC_Unlike
  have MC_Rule := mg_of X G aC_Rule
  have MC_Book := mg_of X G aC_Book
  have Z_all := PySem.W.mg_none_of X G z_all
  have Z_bool := PySem.W.mg_none_of X G z_bool
  have Z_dict := PySem.W.mg_none_of X G z_dict
  have Z_enumerate := PySem.W.mg_none_of X G z_enumerate
  have Z_int := PySem.W.mg_none_of X G z_int
  have Z_isinstance := PySem.W.mg_none_of X G z_isinstance
  have Z_len := PySem.W.mg_none_of X G z_len
  have Z_list := PySem.W.mg_none_of X G z_list
  have Z_range := PySem.W.mg_none_of X G z_range
  have Z_reversed := PySem.W.mg_none_of X G z_reversed
  have Z_str := PySem.W.mg_none_of X G z_str
  have Z_sum := PySem.W.mg_none_of X G z_sum
  have Z_tuple := PySem.W.mg_none_of X G z_tuple
  have Z_zip := PySem.W.mg_none_of X G z_zip
  have G_GREAT := mg_of X G g_GREAT
  have G_SMALL := mg_of X G g_SMALL
  have G_FIGURES := mg_of X G g_FIGURES
  have G_LONGEST := mg_of X G g_LONGEST
  have G_LINE_MARKS := mg_of X G g_LINE_MARKS
  have G_RULE_WORD := mg_of X G g_RULE_WORD
  refine ⟨PySem.W.fnOf "law" "law" (defArgs s_law) (defBody s_law) (defScope s_law) .none kV_law dc_law pm_law an_law cd_law ct_law, fun s v => .of_eq rfl, fun base _ _ => ?_⟩
  let cc : Cl := ⟨C_Same, C_Unlike, C_Rule, C_Book⟩
  have T_same : LTxt K cc.same := ⟨⟨pg_Same, hd_Same, po_Same, sa_Same⟩, n_Same_left, n_Same_right⟩
  have T_unlike : LTxt K cc.unlike := ⟨⟨pg_Unlike, hd_Unlike, po_Unlike, sa_Unlike⟩, n_Unlike_left, n_Unlike_right⟩
  have T_rule : RTxt K cc.rule := ⟨⟨pg_Rule, hd_Rule, po_Rule, sa_Rule⟩, n_Rule_title, n_Rule_taken, n_Rule_kept, n_Rule_looks, n_Rule_given, n_Rule_told, n_Rule_names⟩
  have T_book : BTxt K cc.book := ⟨⟨pg_Book, hd_Book, po_Book, sa_Book⟩, n_Book_kinds, n_Book_rules⟩
  have G_KIND_WORDS := PySem.W.mg_of X G g_KIND_WORDS
  have kk_KIND_WORDS : ∀ H : Hp, SqT K H a_KIND_WORDS [tx [112, 97, 115, 115, 105, 110, 103], tx [108, 97, 115, 116, 105, 110, 103]] := fun H => .inr ⟨_, _, tn_KIND_WORDS, l_KIND_WORDS, rfl, rfl, (by show 2 ≤ sizeLine; decide), .cons (rel_tx (by decide +kernel)) (.cons (rel_tx (by decide +kernel)) (.nil))⟩
  have G_PART_WORDS := PySem.W.mg_of X G g_PART_WORDS
  have kk_PART_WORDS : ∀ H : Hp, SqT K H a_PART_WORDS [tx [116, 97, 107, 101], tx [107, 101, 101, 112], tx [108, 111, 111, 107], tx [112, 117, 116], tx [116, 101, 108, 108]] := fun H => .inr ⟨_, _, tn_PART_WORDS, l_PART_WORDS, rfl, rfl, (by show 5 ≤ sizeLine; decide), .cons (rel_tx (by decide +kernel)) (.cons (rel_tx (by decide +kernel)) (.cons (rel_tx (by decide +kernel)) (.cons (rel_tx (by decide +kernel)) (.cons (rel_tx (by decide +kernel)) (.nil)))))⟩
  have G_COUNTS := PySem.W.mg_of X G g_COUNTS
  have kk_COUNTS : ∀ H : Hp, SqT K H a_COUNTS [tx [48], tx [49], tx [50], tx [51], tx [52]] := fun H => .inr ⟨_, _, tn_COUNTS, l_COUNTS, rfl, rfl, (by show 5 ≤ sizeLine; decide), .cons (rel_tx (by decide +kernel)) (.cons (rel_tx (by decide +kernel)) (.cons (rel_tx (by decide +kernel)) (.cons (rel_tx (by decide +kernel)) (.cons (rel_tx (by decide +kernel)) (.nil)))))⟩
  have c_is_name_sign : Cal l.prog w K mg base "is_name_sign" 1 ["sign"] spSign := ⟨_, _, ok_is_name_sign F_is_name_sign G_SMALL ⟨t_SMALL, rfl⟩ G_GREAT ⟨t_GREAT, rfl⟩ G_FIGURES ⟨t_FIGURES, rfl⟩, b_is_name_sign, F_is_name_sign.2, M_is_name_sign⟩
  have c_is_name : Cal l.prog w K mg base "is_name" 2 ["text"] (spBl nameB) := ⟨_, _, ok_is_name F_is_name c_is_name_sign Z_len Z_all G_LONGEST ⟨t_LONGEST, rfl⟩, b_is_name, F_is_name.2, M_is_name⟩
  have c_is_small_word : Cal l.prog w K mg base "is_small_word" 3 ["text"] (spBl smallB) := ⟨_, _, ok_is_small_word F_is_small_word c_is_name G_SMALL ⟨t_SMALL, rfl⟩, b_is_small_word, F_is_small_word.2, M_is_small_word⟩
  have c_name_end : Cal l.prog w K mg base "name_end" 2 ["text", "start"] spEnd := ⟨_, _, ok_name_end F_name_end c_is_name_sign Z_len, b_name_end, F_name_end.2, M_name_end⟩
  have c_pieces : Cal l.prog w K mg base "pieces" 3 ["text", "marks"] spPieces := ⟨_, _, ok_pieces F_pieces c_name_end Z_len, b_pieces, F_pieces.2, M_pieces⟩
  have c_piece_at : Cal l.prog w K mg base "piece_at" 1 ["found", "place"] spPiece := ⟨_, _, ok_piece_at F_piece_at Z_len, b_piece_at, F_piece_at.2, M_piece_at⟩
  have c_arguments_at : Cal l.prog w K mg base "arguments_at" 3 ["found", "place"] spArgs := ⟨_, _, ok_arguments_at F_arguments_at c_piece_at c_is_name Z_tuple, b_arguments_at, F_arguments_at.2, M_arguments_at⟩
  have c_fact_at : Cal l.prog w K mg base "fact_at" 4 ["found", "place"] spFactAt := ⟨_, _, ok_fact_at F_fact_at c_piece_at c_is_small_word c_arguments_at, b_fact_at, F_fact_at.2, M_fact_at⟩
  have c_row_of_facts : Cal l.prog w K mg base "row_of_facts" 5 ["found"] (spRow K) := ⟨_, _, ok_row_of_facts F_row_of_facts c_fact_at Z_len, b_row_of_facts, F_row_of_facts.2, M_row_of_facts⟩
  have c_is_told : Cal l.prog w K mg base "is_told" 1 ["line"] spTold := ⟨_, _, ok_is_told F_is_told, b_is_told, F_is_told.2, M_is_told⟩
  have c_told_lines : Cal l.prog w K mg base "told_lines" 2 ["text"] spLines := ⟨_, _, ok_told_lines F_told_lines c_is_told, b_told_lines, F_told_lines.2, M_told_lines⟩
  have c_line_pieces : Cal l.prog w K mg base "line_pieces" 4 ["line"] spLine := ⟨_, _, ok_line_pieces F_line_pieces c_pieces G_LINE_MARKS ⟨t_LINE_MARKS, rfl⟩, b_line_pieces, F_line_pieces.2, M_line_pieces⟩
  have c_read_kind : Cal l.prog w K mg base "read_kind" 4 ["found"] (spKind K) := ⟨_, _, ok_read_kind F_read_kind c_is_small_word Z_len Z_int G_KIND_WORDS kk_KIND_WORDS G_COUNTS kk_COUNTS, b_read_kind, F_read_kind.2, M_read_kind⟩
  have c_parted : Cal l.prog w K mg base "parted" 1 ["found", "mark"] spParted := ⟨_, _, ok_parted F_parted, b_parted, F_parted.2, M_parted⟩
  have c_check_two_names : Cal l.prog w K mg base "check_two_names" 3 ["found"] spTwo := ⟨_, _, ok_check_two_names F_check_two_names c_is_name Z_len, b_check_two_names, F_check_two_names.2, M_check_two_names⟩
  have O_m_Look_init : FnOk l.prog w K mg base CX0 1 _ _ ["self", "left", "right"] (spLInit K) := ok_Look_init F_m_Look_init
  have c_Same : Mak l.prog w K mg base "Same" C_Same 1 ["self", "left", "right"] (spLInit K) := ⟨_, _, ⟨mk_Same, fi_Same_init, i_m_Look_init, kc_Same⟩, O_m_Look_init, b_m_Look_init, MC_Same⟩
  have c_Unlike : Mak l.prog w K mg base "Unlike" C_Unlike 1 ["self", "left", "right"] (spLInit K) := ⟨_, _, ⟨mk_Unlike, fi_Unlike_init, i_m_Look_init, kc_Unlike⟩, O_m_Look_init, b_m_Look_init, MC_Unlike⟩
  have c_read_look : Cal l.prog w K mg base "read_look" 4 ["found"] (spLook cc) := ⟨_, _, ok_read_look (c := cc) F_read_look c_check_two_names T_same T_unlike c_Same c_Unlike, b_read_look, F_read_look.2, M_read_look⟩
  have c_read_pair : Cal l.prog w K mg base "read_pair" 4 ["found"] (spPair K) := ⟨_, _, ok_read_pair F_read_pair c_check_two_names, b_read_pair, F_read_pair.2, M_read_pair⟩
  have c_read_looks : Cal l.prog w K mg base "read_looks" 5 ["found"] (spLooks cc) := ⟨_, _, ok_read_looks (c := cc) F_read_looks c_parted c_read_look, b_read_looks, F_read_looks.2, M_read_looks⟩
  have c_read_pairs : Cal l.prog w K mg base "read_pairs" 5 ["found"] (spPairs K) := ⟨_, _, ok_read_pairs F_read_pairs c_parted c_read_pair, b_read_pairs, F_read_pairs.2, M_read_pairs⟩
  have c_read_part : Cal l.prog w K mg base "read_part" 6 ["word", "found"] (spPart K cc) := ⟨_, _, ok_read_part (c := cc) F_read_part c_read_looks c_read_pairs c_row_of_facts, b_read_part, F_read_part.2, M_read_part⟩
  have c_read_rule : Cal l.prog w K mg base "read_rule" 7 ["found"] (spRule K cc) := ⟨_, _, ok_read_rule (c := cc) F_read_rule c_piece_at c_is_small_word c_parted c_read_part G_RULE_WORD ⟨t_RULE_WORD, rfl⟩ G_PART_WORDS kk_PART_WORDS ⟨_, l_PART_WORDS, rfl, rfl⟩, b_read_rule, F_read_rule.2, M_read_rule⟩
  have c_is_great : Cal l.prog w K mg base "is_great" 1 ["name"] spGreat := ⟨_, _, ok_is_great F_is_great G_GREAT ⟨t_GREAT, rfl⟩, b_is_great, F_is_great.2, M_is_great⟩
  have c_open_names : Cal l.prog w K mg base "open_names" 2 ["facts"] (spOpens K) := ⟨_, _, ok_open_names F_open_names c_is_great Z_list, b_open_names, F_open_names.2, M_open_names⟩
  have O_m_Rule_init : FnOk l.prog w K mg base CX0 3 _ _ ["self", "title", "parts"] (spRInit K cc) := ok_Rule_init (c := cc) F_m_Rule_init T_rule c_open_names
  have c_Rule : Mak l.prog w K mg base "Rule" C_Rule 3 ["self", "title", "parts"] (spRInit K cc) := ⟨_, _, ⟨mk_Rule, fi_Rule_init, i_m_Rule_init, kc_Rule⟩, O_m_Rule_init, b_m_Rule_init, MC_Rule⟩
  have c_m_calls : Met l.prog w K mg base C_Rule "calls" 1 ["self"] (spCalls K cc) := ⟨_, _, T_rule.cl, ⟨fi_Rule_calls, i_m_Rule_calls, F_m_Rule_calls.2⟩, ok_Rule_calls (c := cc) F_m_Rule_calls T_rule Z_len, b_m_Rule_calls⟩
  have O_m_Book_init : FnOk l.prog w K mg base CX0 1 _ _ ["self", "kinds", "rules"] (spBInit K cc) := ok_Book_init (c := cc) F_m_Book_init T_book
  have c_Book : Mak l.prog w K mg base "Book" C_Book 1 ["self", "kinds", "rules"] (spBInit K cc) := ⟨_, _, ⟨mk_Book, fi_Book_init, i_m_Book_init, kc_Book⟩, O_m_Book_init, b_m_Book_init, MC_Book⟩
  have c_hear_line : Cal l.prog w K mg base "hear_line" 8 ["kinds", "rules", "line"] (spHear K cc) := ⟨_, _, ok_hear_line (c := cc) F_hear_line T_rule c_line_pieces c_read_rule c_read_kind c_Rule G_RULE_WORD ⟨t_RULE_WORD, rfl⟩, b_hear_line, F_hear_line.2, M_hear_line⟩
  have c_check_facts : Cal l.prog w K mg base "check_facts" 1 ["kinds", "facts"] (spCheckF K) := ⟨_, _, ok_check_facts F_check_facts Z_dict Z_len, b_check_facts, F_check_facts.2, M_check_facts⟩
  have c_check_taken : Cal l.prog w K mg base "check_taken" 1 ["lasts", "taken"] (spCheckT K) := ⟨_, _, ok_check_taken F_check_taken, b_check_taken, F_check_taken.2, M_check_taken⟩
  have c_check_call : Cal l.prog w K mg base "check_call" 2 ["lasts", "rule"] (spCheckC K cc) := ⟨_, _, ok_check_call (c := cc) F_check_call T_rule c_m_calls, b_check_call, F_check_call.2, M_check_call⟩
  have c_said_names : Cal l.prog w K mg base "said_names" 1 ["rule"] (spSaid K cc) := ⟨_, _, ok_said_names (c := cc) F_said_names T_rule T_same T_unlike, b_said_names, F_said_names.2, M_said_names⟩
  have c_check_names : Cal l.prog w K mg base "check_names" 2 ["rule"] (spCheckN K cc) := ⟨_, _, ok_check_names (c := cc) F_check_names T_rule c_said_names c_is_great, b_check_names, F_check_names.2, M_check_names⟩
  have c_whole_book : Cal l.prog w K mg base "whole_book" 3 ["kinds", "rules"] (spWhole K cc) := ⟨_, _, ok_whole_book (c := cc) F_whole_book T_rule c_check_facts c_check_taken c_check_call c_check_names c_Book, b_whole_book, F_whole_book.2, M_whole_book⟩
  have c_read_book : Cal l.prog w K mg base "read_book" 9 ["text"] (spBook K cc) := ⟨_, _, ok_read_book (c := cc) F_read_book c_told_lines c_hear_line c_whole_book, b_read_book, F_read_book.2, M_read_book⟩
  have c_passing_kinds : Cal l.prog w K mg base "passing_kinds" 1 ["book"] (spPass K cc) := ⟨_, _, ok_passing_kinds (c := cc) F_passing_kinds T_book, b_passing_kinds, F_passing_kinds.2, M_passing_kinds⟩
  have c_effect : Cal l.prog w K mg base "effect" 1 ["rule", "kind"] (spEff K cc) := ⟨_, _, ok_effect (c := cc) F_effect T_rule Z_len, b_effect, F_effect.2, M_effect⟩
  have c_effects : Cal l.prog w K mg base "effects" 4 ["book"] (spEffs K cc) := ⟨_, _, ok_effects (c := cc) F_effects T_book c_passing_kinds c_effect, b_effects, F_effects.2, M_effects⟩
  have c__law_cell : Cal l.prog w K mg base "_law_cell" 1 ["_law_script", "_law_k"] (spCell K) := ⟨_, _, ok__law_cell F__law_cell Z_len, b__law_cell, F__law_cell.2, M__law_cell⟩
  have c__law_digits : Cal l.prog w K mg base "_law_digits" 1 ["_law_cell_here", "_law_sizes"] (spDig K) := ⟨_, _, ok__law_digits F__law_digits, b__law_digits, F__law_digits.2, M__law_digits⟩
  have c__law_name : Cal l.prog w K mg base "_law_name" 1 ["_law_style", "_law_k"] spName := ⟨_, _, ok__law_name F__law_name, b__law_name, F__law_name.2, M__law_name⟩
  have c__law_sheet : Cal l.prog w K mg base "_law_sheet" 4 ["_law_script"] (spSheet K) := ⟨_, _, ok__law_sheet F__law_sheet c__law_cell c__law_digits c__law_name Z_range Z_len Z_list Z_reversed Z_enumerate, b__law_sheet, F__law_sheet.2, M__law_sheet⟩
  have c__law_lines : Cal l.prog w K mg base "_law_lines" 1 ["_law_names", "_law_place", "_law_rules"] (spLinesI K) := ⟨_, _, ok__law_lines F__law_lines Z_len Z_str Z_enumerate, b__law_lines, F__law_lines.2, M__law_lines⟩
  have c__law_effects : Cal l.prog w K mg base "_law_effects" 1 ["_law_names", "_law_rules"] (spDue K) := ⟨_, _, ok__law_effects F__law_effects Z_len Z_range, b__law_effects, F__law_effects.2, M__law_effects⟩
  have c_row_sum : Cal l.prog w K mg base "row_sum" 1 ["row", "numbers"] spSumR := ⟨_, _, ok_row_sum F_row_sum Z_sum Z_zip, b_row_sum, F_row_sum.2, M_row_sum⟩
  have c_breaks : Cal l.prog w K mg base "breaks" 1 ["how", "change"] spBreaks := ⟨_, _, ok_breaks F_breaks, b_breaks, F_breaks.2, M_breaks⟩
  have c_breaker : Cal l.prog w K mg base "breaker" 5 ["book", "how", "numbers"] (spBreaker K cc) := ⟨_, _, ok_breaker (c := cc) F_breaker c_effects c_row_sum c_breaks Z_enumerate, b_breaker, F_breaker.2, M_breaker⟩
  have c__law_sum : Cal l.prog w K mg base "_law_sum" 1 ["_law_row", "_law_numbers_here"] spSumR := ⟨_, _, ok__law_sum F__law_sum Z_range Z_len, b__law_sum, F__law_sum.2, M__law_sum⟩
  have c__law_first : Cal l.prog w K mg base "_law_first" 2 ["_law_table", "_law_how", "_law_numbers_here"] spFirst := ⟨_, _, ok__law_first F__law_first c__law_sum Z_enumerate, b__law_first, F__law_first.2, M__law_first⟩
  have c__law_numbers : Cal l.prog w K mg base "_law_numbers" 2 ["_law_script", "_law_many"] (spNums K) := ⟨_, _, ok__law_numbers F__law_numbers c__law_cell Z_enumerate, b__law_numbers, F__law_numbers.2, M__law_numbers⟩
  exact ok_law (c := cc) F_law c__law_sheet c_read_book c__law_lines c__law_effects c_breaker c__law_numbers c__law_first kit_int_bool Z_bool Z_isinstance Z_list Z_len
theorem walk {l : PySem.W.OpenLaw} {q : Program} {loose : List Str} {XP : (Str → Option Value) → Heap → Prop} {YP : World → Heap → Prop} {d : DefRec} {K : Params → PySem.W.Frag} (hn : l.most = some 63) (hdf : d.params.defaults = [])
    (hY : ∀ (w : World) (h : Heap), YP w h → (K w.params).In h)
    (F : ∀ (w : World) (mg : Str → Option Value) (fa : Addr) (h : Heap), (K w.params).In h → h.Ns mainGlobals mg → mg d.name = some (.ref fa) →
      ∃ fd : FuncData, (∀ (s : Shared) (u : Value), BindsTo s fd ⟨[u], []⟩ [("_law_script", u)]) ∧ ∀ base : Heap, (K w.params).In base → base.Ns mainGlobals mg → FnOk l.prog w (K w.params) mg base CX0 10 fa fd ["_law_script"] (spLaw (K w.params))) :
    PySem.W.WalkO q loose XP YP l.row.toRowW d [] (fun f vs => PySem.call f vs) :=
  L2.walk_of (n := 63) (k := 10) (x := "_law_script") (CX := fun _ => CX0) (sp := fun w => spLaw (K w.params)) hn (by decide) hdf ⟨rfl, by decide, by decide⟩ hY F (fun _ _ a ns hl _ hS => ⟨a, ns, rfl, hS, hl, fun _ => rfl⟩) fun _ _ _ _ _ z => z
end K32
open PySem PySem.W PyProof.Rows
def PySem.W.Fast.tw9624065659201312961 : Nat := 0
def PySem.W.Fast.tw12884436681534280134 : Nat := 0
def PySem.W.Fast.tw6062375377502107719 : Nat := 0
def PySem.W.Fast.tw8195631443122392479 : Nat := 0
def PySem.W.Fast.tw3181614724420926713 : Nat := 0
def PySem.W.Fast.tw8832180482167610561 : Nat := 0
def PySem.W.Fast.tw9779553365345067934 : Nat := 0
def PySem.W.Fast.tw12365062446228374317 : Nat := 0
def PySem.W.Fast.tw18432022564813789517 : Nat := 0
def PySem.W.Fast.tw15752297884782225614 : Nat := 0
def PySem.W.Fast.tw11383565323984998296 : Nat := 0
def PySem.W.Fast.tw15399409261437969371 : Nat := 0
def PySem.W.Fast.tw9670638551667679375 : Nat := 0
def PySem.W.Fast.tw4408896218204961940 : Nat := 0
def PySem.W.Fast.tw14277574940523077884 : Nat := 0
def PySem.W.Fast.tw17625200502970657766 : Nat := 0
def PySem.W.Fast.tw14429440580531426010 : Nat := 0
def PySem.W.Fast.tw14508930721537900877 : Nat := 0
def PySem.W.Fast.tw15645905468420830619 : Nat := 0
def PySem.W.Fast.tw9252505548417799861 : Nat := 0
def PySem.W.Fast.tw7527511178869812552 : Nat := 0
def PySem.W.Fast.tw7628141397381697925 : Nat := 0
def PySem.W.Fast.tw7011551824936097158 : Nat := 0
def PySem.W.Fast.tw5218204430651415276 : Nat := 0
def PySem.W.Fast.tw9947925012631168589 : Nat := 0
def PySem.W.Fast.tw12586344736734455711 : Nat := 0
def PySem.W.Fast.tw16779035051443493491 : Nat := 0
def PySem.W.Fast.tw9234221735906926593 : Nat := 0
def PySem.W.Fast.tw123111797980058793 : Nat := 0
def PySem.W.Fast.tw9837425919556935024 : Nat := 0
def PySem.W.Fast.tw716010940644595685 : Nat := 0
def PySem.W.Fast.tw10922549597083060278 : Nat := 0
def PySem.W.Fast.tw6718203854075243042 : Nat := 0
def PySem.W.Fast.tw17133310053518220200 : Nat := 0
def PySem.W.Fast.tw4640749326242184066 : Nat := 0
def PySem.W.Fast.tw13676727330932548364 : Nat := 0
def PySem.W.Fast.tw4577554249586266376 : Nat := 0
def PySem.W.Fast.tw4633026326677093618 : Nat := 0
def PySem.W.Fast.tw11669702181598419875 : Nat := 0
def PySem.W.Fast.tw5856746154881850862 : Nat := 0
def PySem.W.Fast.tw2665968260019110943 : Nat := 0
def PySem.W.Fast.tw6664631874942966390 : Nat := 0
def PySem.W.Fast.tw15415162077702445691 : Nat := 0
def PySem.W.Fast.tw6447578954846428486 : Nat := 0
def PySem.W.Fast.tw1253752379041800088 : Nat := 0
def PySem.W.Fast.tw805763580777215900 : Nat := 0
def PySem.W.Fast.tw3932163319142484513 : Nat := 0
def PySem.W.Fast.tw11222454071972463248 : Nat := 0
def PySem.W.Fast.tw599632832081968908 : Nat := 0
def PySem.W.Fast.tw9656847488617888555 : Nat := 0
def PySem.W.Fast.tw10245939338655803113 : Nat := 0
def PySem.W.Fast.tw6875646821555111463 : Nat := 0
def PySem.W.Fast.tw6825246980774298770 : Nat := 0
def PySem.W.Fast.tw17324181580802250277 : Nat := 0
def PySem.W.Fast.tw6934346733845027698 : Nat := 0
def PySem.W.Fast.tw1963543034130686590 : Nat := 0
def PySem.W.Fast.tw6520879528746784032 : Nat := 0
def PySem.W.Fast.tw1752634308120812805 : Nat := 0
def PySem.W.Fast.tw6070744629435301161 : Nat := 0
def PySem.W.Fast.tw8727813550095099379 : Nat := 0
def PySem.W.Fast.tw15649339975708507864 : Nat := 0
def PySem.W.Fast.tw12484881647865936602 : Nat := 0
def PySem.W.Fast.tw7650976653591159984 : Nat := 0
def PySem.W.Fast.tw641518187936533786 : Nat := 0
def PySem.W.Fast.tw14943070155757667178 : Nat := 0
def PySem.W.Fast.tw3496475298851198319 : Nat := 0
def PySem.W.Fast.tw12627036217163548804 : Nat := 0
def PySem.W.Fast.tw3549294037383626632 : Nat := 0
def PySem.W.Fast.tw14522216208045921411 : Nat := 0
def PySem.W.Fast.tw16285399458626123655 : Nat := 0
def PySem.W.Fast.tw6480199878156989322 : Nat := 0
def PySem.W.Fast.tw1857756991120384650 : Nat := 0
def PySem.W.Fast.tw2215108146368319602 : Nat := 0
def PySem.W.Fast.tw9377475793427807614 : Nat := 0
def PySem.W.Fast.tw6244701081334131376 : Nat := 0
def PySem.W.Fast.tw14340682016329670206 : Nat := 0
def PySem.W.Fast.tw15804582923660981035 : Nat := 0
def PySem.W.Fast.tw5182249170881753542 : Nat := 0
def PySem.W.Fast.tw17593579153249831294 : Nat := 0
def PySem.W.Fast.tw361002873864383255 : Nat := 0
def PySem.W.Fast.tw8941075977355833258 : Nat := 0
def PySem.W.Fast.tw856536323787840944 : Nat := 0
def PySem.W.Fast.tw7697279406792878616 : Nat := 0
def PySem.W.Fast.tw14879996478772743421 : Nat := 0
def PySem.W.Fast.tw11457080779688558323 : Nat := 0
def PySem.W.Fast.tw11148293258288576851 : Nat := 0
def PySem.W.Fast.tw5721316418220483624 : Nat := 0
def PySem.W.Fast.tw807107405973196475 : Nat := 0
def PySem.W.Fast.tw12421599232993651329 : Nat := 0
def PySem.W.Fast.tw9787934452078443145 : Nat := 0
def PySem.W.Fast.tw12518463176727902437 : Nat := 0
def PySem.W.Fast.tw4428924038137692715 : Nat := 0
def PySem.W.Fast.tw5868005329052913741 : Nat := 0
def PySem.W.Fast.tw2591297825179099351 : Nat := 0
def PySem.W.Fast.tw306629305420141364 : Nat := 0
def PySem.W.Fast.tw18160422933477982049 : Nat := 0
def PySem.W.Fast.tw9674561393630615762 : Nat := 0
def PySem.W.Fast.tw2046310173791608948 : Nat := 0
def PySem.W.Fast.tw12650201256120926503 : Nat := 0
def PySem.W.Fast.tw17687004642092029244 : Nat := 0
def PySem.W.Fast.tw12237748905420475331 : Nat := 0
def PySem.W.Fast.tw5638030149976226363 : Nat := 0
def PySem.W.Fast.tw5644524636797676123 : Nat := 0
def PySem.W.Fast.tw12360373845211181962 : Nat := 0
def PySem.W.Fast.tw3948739871271960264 : Nat := 0
def PySem.W.Fast.tw18265235952489970411 : Nat := 0
def PySem.W.Fast.tw8777702515447932884 : Nat := 0
def PySem.W.Fast.tw9115991778708738158 : Nat := 0
set_option maxRecDepth 100000 in
set_option maxHeartbeats 0 in
theorem PySem.Challenge.cw_poolrules_k32_the_first_breaker_holds : PySem.Challenge.rw_poolrules_k32_the_first_breaker.Holds := by
  w_on; o_law; k_head; (case hw => w_witness2)
  k_fill
  refine K32.walk (l := PySem.Challenge.rw_poolrules_k32_the_first_breaker) rfl rfl (fun w h Y => PySem.W.kIn_of Y) ?F
  case F =>
    intro w mg fa h KX G hmg
    refine' K32.all_mk KX G hmg ?aC_Same ?aC_Unlike ?aC_Rule ?aC_Book ?a_is_name_sign ?a_is_name ?a_is_small_word ?a_name_end ?a_pieces ?a_piece_at ?a_arguments_at ?a_fact_at ?a_row_of_facts ?a_is_told ?a_told_lines ?a_line_pieces ?a_read_kind ?a_parted ?a_check_two_names ?a_read_look ?a_read_pair ?a_read_looks ?a_read_pairs ?a_read_part ?a_read_rule ?a_is_great ?a_open_names ?a_hear_line ?a_check_facts ?a_check_taken ?a_check_call ?a_said_names ?a_check_names ?a_whole_book ?a_read_book ?a_passing_kinds ?a_effect ?a_effects ?a__law_cell ?a__law_digits ?a__law_name ?a__law_sheet ?a__law_lines ?a__law_effects ?a_row_sum ?a_breaks ?a_breaker ?a__law_sum ?a__law_first ?a__law_numbers ?a_law ?fi_Same_init ?fi_Unlike_init ?fi_Rule_init ?fi_Rule_calls ?fi_Book_init ?i_m_Look_init ?i_m_Rule_init ?i_m_Rule_calls ?i_m_Book_init ?F_is_name_sign ?F_is_name ?F_is_small_word ?F_name_end ?F_pieces ?F_piece_at ?F_arguments_at ?F_fact_at ?F_row_of_facts ?F_is_told ?F_told_lines ?F_line_pieces ?F_read_kind ?F_parted ?F_check_two_names ?F_read_look ?F_read_pair ?F_read_looks ?F_read_pairs ?F_read_part ?F_read_rule ?F_is_great ?F_open_names ?F_hear_line ?F_check_facts ?F_check_taken ?F_check_call ?F_said_names ?F_check_names ?F_whole_book ?F_read_book ?F_passing_kinds ?F_effect ?F_effects ?F__law_cell ?F__law_digits ?F__law_name ?F__law_sheet ?F__law_lines ?F__law_effects ?F_row_sum ?F_breaks ?F_breaker ?F__law_sum ?F__law_first ?F__law_numbers ?l_law ?c_law ?k_law ?F_m_Look_init ?F_m_Rule_init ?F_m_Rule_calls ?F_m_Book_init ?pg_Same ?hd_Same ?po_Same ?sa_Same ?mk_Same ?kc_Same ?n_Same_left ?n_Same_right ?ha_Same ?hm_Same ?pg_Unlike ?hd_Unlike ?po_Unlike ?sa_Unlike ?mk_Unlike ?kc_Unlike ?n_Unlike_left ?n_Unlike_right ?ha_Unlike ?hm_Unlike ?pg_Rule ?hd_Rule ?po_Rule ?sa_Rule ?mk_Rule ?kc_Rule ?n_Rule_title ?n_Rule_taken ?n_Rule_kept ?n_Rule_looks ?n_Rule_given ?n_Rule_told ?n_Rule_names ?ha_Rule ?hm_Rule ?pg_Book ?hd_Book ?po_Book ?sa_Book ?mk_Book ?kc_Book ?n_Book_kinds ?n_Book_rules ?ha_Book ?hm_Book ?hn ?htk ?g_GREAT ?g_SMALL ?g_FIGURES ?g_LONGEST ?g_LINE_MARKS ?g_RULE_WORD ?z_all ?z_bool ?z_dict ?z_enumerate ?z_int ?z_isinstance ?z_len ?z_list ?z_range ?z_reversed ?z_str ?z_sum ?z_tuple ?z_zip ?g_KIND_WORDS ?l_KIND_WORDS ?g_PART_WORDS ?l_PART_WORDS ?g_COUNTS ?l_COUNTS
    (case aC_Same => k_is)
    (case aC_Unlike => k_is)
    (case aC_Rule => k_is)
    (case aC_Book => k_is)
    (case a_is_name_sign => k_is)
    (case a_is_name => k_is)
    (case a_is_small_word => k_is)
    (case a_name_end => k_is)
    (case a_pieces => k_is)
    (case a_piece_at => k_is)
    (case a_arguments_at => k_is)
    (case a_fact_at => k_is)
    (case a_row_of_facts => k_is)
    (case a_is_told => k_is)
    (case a_told_lines => k_is)
    (case a_line_pieces => k_is)
    (case a_read_kind => k_is)
    (case a_parted => k_is)
    (case a_check_two_names => k_is)
    (case a_read_look => k_is)
    (case a_read_pair => k_is)
    (case a_read_looks => k_is)
    (case a_read_pairs => k_is)
    (case a_read_part => k_is)
    (case a_read_rule => k_is)
    (case a_is_great => k_is)
    (case a_open_names => k_is)
    (case a_hear_line => k_is)
    (case a_check_facts => k_is)
    (case a_check_taken => k_is)
    (case a_check_call => k_is)
    (case a_said_names => k_is)
    (case a_check_names => k_is)
    (case a_whole_book => k_is)
    (case a_read_book => k_is)
    (case a_passing_kinds => k_is)
    (case a_effect => k_is)
    (case a_effects => k_is)
    (case a__law_cell => k_is)
    (case a__law_digits => k_is)
    (case a__law_name => k_is)
    (case a__law_sheet => k_is)
    (case a__law_lines => k_is)
    (case a__law_effects => k_is)
    (case a_row_sum => k_is)
    (case a_breaks => k_is)
    (case a_breaker => k_is)
    (case a__law_sum => k_is)
    (case a__law_first => k_is)
    (case a__law_numbers => k_is)
    (case a_law => k_is)
    (case fi_Same_init => k_is)
    (case fi_Unlike_init => k_is)
    (case fi_Rule_init => k_is)
    (case fi_Rule_calls => k_is)
    (case fi_Book_init => k_is)
    (case i_m_Look_init => k_is)
    (case i_m_Rule_init => k_is)
    (case i_m_Rule_calls => k_is)
    (case i_m_Book_init => k_is)
    (case F_is_name_sign => exact L2.fun_mk (by k_is) (by k_is) (by k_is))
    (case F_is_name => exact L2.fun_mk (by k_is) (by k_is) (by k_is))
    (case F_is_small_word => exact L2.fun_mk (by k_is) (by k_is) (by k_is))
    (case F_name_end => exact L2.fun_mk (by k_is) (by k_is) (by k_is))
    (case F_pieces => exact L2.fun_mk (by k_is) (by k_is) (by k_is))
    (case F_piece_at => exact L2.fun_mk (by k_is) (by k_is) (by k_is))
    (case F_arguments_at => exact L2.fun_mk (by k_is) (by k_is) (by k_is))
    (case F_fact_at => exact L2.fun_mk (by k_is) (by k_is) (by k_is))
    (case F_row_of_facts => exact L2.fun_mk (by k_is) (by k_is) (by k_is))
    (case F_is_told => exact L2.fun_mk (by k_is) (by k_is) (by k_is))
    (case F_told_lines => exact L2.fun_mk (by k_is) (by k_is) (by k_is))
    (case F_line_pieces => exact L2.fun_mk (by k_is) (by k_is) (by k_is))
    (case F_read_kind => exact L2.fun_mk (by k_is) (by k_is) (by k_is))
    (case F_parted => exact L2.fun_mk (by k_is) (by k_is) (by k_is))
    (case F_check_two_names => exact L2.fun_mk (by k_is) (by k_is) (by k_is))
    (case F_read_look => exact L2.fun_mk (by k_is) (by k_is) (by k_is))
    (case F_read_pair => exact L2.fun_mk (by k_is) (by k_is) (by k_is))
    (case F_read_looks => exact L2.fun_mk (by k_is) (by k_is) (by k_is))
    (case F_read_pairs => exact L2.fun_mk (by k_is) (by k_is) (by k_is))
    (case F_read_part => exact L2.fun_mk (by k_is) (by k_is) (by k_is))
    (case F_read_rule => exact L2.fun_mk (by k_is) (by k_is) (by k_is))
    (case F_is_great => exact L2.fun_mk (by k_is) (by k_is) (by k_is))
    (case F_open_names => exact L2.fun_mk (by k_is) (by k_is) (by k_is))
    (case F_hear_line => exact L2.fun_mk (by k_is) (by k_is) (by k_is))
    (case F_check_facts => exact L2.fun_mk (by k_is) (by k_is) (by k_is))
    (case F_check_taken => exact L2.fun_mk (by k_is) (by k_is) (by k_is))
    (case F_check_call => exact L2.fun_mk (by k_is) (by k_is) (by k_is))
    (case F_said_names => exact L2.fun_mk (by k_is) (by k_is) (by k_is))
    (case F_check_names => exact L2.fun_mk (by k_is) (by k_is) (by k_is))
    (case F_whole_book => exact L2.fun_mk (by k_is) (by k_is) (by k_is))
    (case F_read_book => exact L2.fun_mk (by k_is) (by k_is) (by k_is))
    (case F_passing_kinds => exact L2.fun_mk (by k_is) (by k_is) (by k_is))
    (case F_effect => exact L2.fun_mk (by k_is) (by k_is) (by k_is))
    (case F_effects => exact L2.fun_mk (by k_is) (by k_is) (by k_is))
    (case F__law_cell => exact L2.fun_mk (by k_is) (by k_is) (by k_is))
    (case F__law_digits => exact L2.fun_mk (by k_is) (by k_is) (by k_is))
    (case F__law_name => exact L2.fun_mk (by k_is) (by k_is) (by k_is))
    (case F__law_sheet => exact L2.fun_mk (by k_is) (by k_is) (by k_is))
    (case F__law_lines => exact L2.fun_mk (by k_is) (by k_is) (by k_is))
    (case F__law_effects => exact L2.fun_mk (by k_is) (by k_is) (by k_is))
    (case F_row_sum => exact L2.fun_mk (by k_is) (by k_is) (by k_is))
    (case F_breaks => exact L2.fun_mk (by k_is) (by k_is) (by k_is))
    (case F_breaker => exact L2.fun_mk (by k_is) (by k_is) (by k_is))
    (case F__law_sum => exact L2.fun_mk (by k_is) (by k_is) (by k_is))
    (case F__law_first => exact L2.fun_mk (by k_is) (by k_is) (by k_is))
    (case F__law_numbers => exact L2.fun_mk (by k_is) (by k_is) (by k_is))
    (case l_law => k_is)
    (case c_law => k_is)
    (case k_law => k_is)
    (case F_m_Look_init => exact L2.fun_mk (by k_is) (by k_is) (by k_is))
    (case F_m_Rule_init => exact L2.fun_mk (by k_is) (by k_is) (by k_is))
    (case F_m_Rule_calls => exact L2.fun_mk (by k_is) (by k_is) (by k_is))
    (case F_m_Book_init => exact L2.fun_mk (by k_is) (by k_is) (by k_is))
    (case pg_Same => k_is)
    (case hd_Same => k_is)
    (case po_Same => k_is)
    (case sa_Same => k_is)
    (case mk_Same => k_is)
    (case kc_Same => k_is)
    (case n_Same_left => k_is)
    (case n_Same_right => k_is)
    (case ha_Same => k_is)
    (case hm_Same => k_is)
    (case pg_Unlike => k_is)
    (case hd_Unlike => k_is)
    (case po_Unlike => k_is)
    (case sa_Unlike => k_is)
    (case mk_Unlike => k_is)
    (case kc_Unlike => k_is)
    (case n_Unlike_left => k_is)
    (case n_Unlike_right => k_is)
    (case ha_Unlike => k_is)
    (case hm_Unlike => k_is)
    (case pg_Rule => k_is)
    (case hd_Rule => k_is)
    (case po_Rule => k_is)
    (case sa_Rule => k_is)
    (case mk_Rule => k_is)
    (case kc_Rule => k_is)
    (case n_Rule_title => k_is)
    (case n_Rule_taken => k_is)
    (case n_Rule_kept => k_is)
    (case n_Rule_looks => k_is)
    (case n_Rule_given => k_is)
    (case n_Rule_told => k_is)
    (case n_Rule_names => k_is)
    (case ha_Rule => k_is)
    (case hm_Rule => k_is)
    (case pg_Book => k_is)
    (case hd_Book => k_is)
    (case po_Book => k_is)
    (case sa_Book => k_is)
    (case mk_Book => k_is)
    (case kc_Book => k_is)
    (case n_Book_kinds => k_is)
    (case n_Book_rules => k_is)
    (case ha_Book => k_is)
    (case hm_Book => k_is)
    (case hn => k_is)
    (case htk => k_is)
    (case g_GREAT => k_is)
    (case g_SMALL => k_is)
    (case g_FIGURES => k_is)
    (case g_LONGEST => k_is)
    (case g_LINE_MARKS => k_is)
    (case g_RULE_WORD => k_is)
    (case z_all => k_is)
    (case z_bool => k_is)
    (case z_dict => k_is)
    (case z_enumerate => k_is)
    (case z_int => k_is)
    (case z_isinstance => k_is)
    (case z_len => k_is)
    (case z_list => k_is)
    (case z_range => k_is)
    (case z_reversed => k_is)
    (case z_str => k_is)
    (case z_sum => k_is)
    (case z_tuple => k_is)
    (case z_zip => k_is)
    (case g_KIND_WORDS => k_is)
    (case l_KIND_WORDS => k_is)
    (case g_PART_WORDS => k_is)
    (case l_PART_WORDS => k_is)
    (case g_COUNTS => k_is)
    (case l_COUNTS => k_is)
#print axioms PySem.Challenge.cw_poolrules_k32_the_first_breaker_holds
