import PyProof.Rows.All
import Wide.All
import OpenK.AllK
import Wide.FinOn
import Lean
import PyProof.EqAt
import PyProof.EqKinds
import PyProof.TupleCall
import KE.KIntText
import KE.KDictList
import KE.KDictOf
import PyProof.AttrMissHeap
import PyProof.DictUpdate
import PyProof.ToksMono
import PyProof.NeKinds
import PyProof.EnumFor
import PyProof.EnumStmt
import PyProof.EnumMake
import KE.KRevIter
import PyProof.StrOps2
import PyProof.ZipIter
import PyProof.SumWalkG
import KE.KMinKey
import KE.KTryMore
import KE.KSortAsk
import KE.KSortTup
import KE.KDictLaws
import KE.KItemsList
import KE.RegKTryMore
import KE.KIsNot
import PyProof.WalkInts
import PyProof.SeqI3
import PySem.Challenge.RW_poolrules_k03_rows_of_facts_read
set_option Elab.async false
set_option linter.all false
set_option maxRecDepth 100000
/-! THE HAND LAYER, for ints, bools, texts, own classes, LISTS and tuples (index, slices, in, append, pop ..), calls, loops. Paste it whole ahead of your own text; what your proof does not reach may be deleted. -/
namespace L2
open PySem PySem.Spec PyProof.Rows
/-- a key: an int or a str -/
abbrev Key := Sum Int Str
def keyIs : Key → Value → Bool
  | .inl k, v => Value.isInt k v
  | .inr x, v => Value.isStrOf x v
def keyH (w : World) : Key → Int
  | .inl k => hashInt k
  | .inr x => hashStr w x
theorem keyIs_shape : ∀ {k : Key} {v : Value}, keyIs k v = true → (∃ i t, k = Sum.inl i ∧ v = Value.int i t) ∨ (∃ x t, k = Sum.inr x ∧ v = Value.str x t)
  | .inl i, v, h => by
    obtain ⟨t, e⟩ := Value.isInt_shape (k := i) (v := v) h
    exact .inl ⟨i, t, rfl, e⟩
  | .inr x, v, h => by
    obtain ⟨t, e⟩ := Value.isStrOf_shape (x := x) (v := v) h
    exact .inr ⟨x, t, rfl, e⟩
theorem key_ll (a b : Int) : decide ((Sum.inl a : Key) = Sum.inl b) = (a == b) := by
  by_cases e : a = b
  · subst e; simp
  · have h : ¬ (Sum.inl a : Key) = Sum.inl b := fun q => e (Sum.inl.inj q)
    rw [decide_eq_false h]
    exact (beq_eq_false_iff_ne.mpr e).symm
theorem key_rr (a b : Str) : decide ((Sum.inr a : Key) = Sum.inr b) = decide (a = b) := by
  by_cases e : a = b
  · subst e; simp
  · have h : ¬ (Sum.inr a : Key) = Sum.inr b := fun q => e (Sum.inr.inj q)
    rw [decide_eq_false h, decide_eq_false e]
theorem key_lr (a : Int) (b : Str) : decide ((Sum.inl a : Key) = Sum.inr b) = false := decide_eq_false (fun q => nomatch q)
theorem key_rl (a : Str) (b : Int) : decide ((Sum.inr a : Key) = Sum.inl b) = false := decide_eq_false (fun q => nomatch q)
def mixKind (prog : Program) (w : World) : PySem.KeyKind prog w Key where
  is := keyIs
  hash := keyH w
  inj := fun v a b ha hb => by
    rcases keyIs_shape ha with ⟨i, t, rfl, rfl⟩ | ⟨x, t, rfl, rfl⟩
    · rcases keyIs_shape hb with ⟨j, u, rfl, e⟩ | ⟨y, u, rfl, e⟩
      · injection e with e1 _; rw [e1]
      · exact nomatch e
    · rcases keyIs_shape hb with ⟨j, u, rfl, e⟩ | ⟨y, u, rfl, e⟩
      · exact nomatch e
      · injection e with e1 _; rw [e1]
  byValue := fun k v h => by
    rcases keyIs_shape h with ⟨i, t, rfl, rfl⟩ | ⟨x, t, rfl, rfl⟩ <;> rfl
  pyHash := fun hv h => by
    rcases keyIs_shape hv with ⟨i, t, rfl, rfl⟩ | ⟨x, t, rfl, rfl⟩
    · exact wpAny_pyHash_int h
    · exact wpAny_pyHash_str h
  eqBool := fun hu hv h => by
    rcases keyIs_shape hu with ⟨i, t, rfl, rfl⟩ | ⟨x, t, rfl, rfl⟩
    · rcases keyIs_shape hv with ⟨j, u, rfl, rfl⟩ | ⟨y, u, rfl, rfl⟩
      · rw [key_ll] at h; exact wpAny_eqBool_int h
      · rw [key_lr] at h; exact SeqAt.EqAt.int_str i t y u _ _ _ _ h
    · rcases keyIs_shape hv with ⟨j, u, rfl, rfl⟩ | ⟨y, u, rfl, rfl⟩
      · rw [key_rl] at h; exact SeqAt.EqAt.str_int x t j u _ _ _ _ h
      · rw [key_rr] at h; exact wpAny_eqBool_str h
  «strs» := fun k x t v h => by
    rcases keyIs_shape h with ⟨i, u, rfl, e⟩ | ⟨y, u, rfl, e⟩
    · exact nomatch e
    · injection e with e1 _
      subst e1
      cases v <;> rfl
end L2
namespace L2
open PySem PySem.Spec PyProof.Rows
/-- a value, without the heap -/
inductive V where
  | non | bl (b : Bool) | int (i : Int) | str (x : Str) | byt (b : Array UInt8) | flt (b : UInt64) | ref (a : Addr) | ty (n : String)
  deriving DecidableEq
def RelV : V → Value → Prop
  | .non, u => u = Value.none
  | .bl b, u => u = Value.bool b
  | .int i, u => ∃ t, u = Value.int i t
  | .str x, u => ∃ t, u = Value.str x t
  | .byt b, u => ∃ t, u = Value.bytes b t
  | .flt b, u => ∃ t, u = Value.float b t
  | .ref a, u => u = Value.ref a
  | .ty n, u => u = Value.type n
abbrev Vals : List V → List Value → Prop := Paired RelV
theorem Vals.length {xs : List V} {us : List Value} (r : Vals xs us) : xs.length = us.length := Paired.length r
theorem Vals.get : ∀ {xs : List V} {us : List Value} {i : Nat} {x : V}, Vals xs us → xs[i]? = some x → ∃ u, us[i]? = some u ∧ RelV x u
  | _, _, _, _, .nil, e => by simp at e
  | _, _, 0, _, .cons r _, e => by simp at e; subst e; exact ⟨_, rfl, r⟩
  | _, _, i + 1, x, .cons _ t, e => by
    obtain ⟨u, h1, h2⟩ := Vals.get (i := i) (x := x) t (by simpa using e)
    exact ⟨u, by simpa using h1, h2⟩
theorem Vals.set {x : V} {u : Value} (r : RelV x u) : ∀ {xs : List V} {us : List Value} (i : Nat), Vals xs us → Vals (xs.set i x) (us.set i u)
  | _, _, _, .nil => .nil
  | _, _, 0, .cons _ t => .cons r t
  | _, _, i + 1, .cons q t => .cons q (Vals.set r i t)
theorem Vals.append : ∀ {xs ys : List V} {us ws : List Value}, Vals xs us → Vals ys ws → Vals (xs ++ ys) (us ++ ws)
  | _, _, _, _, .nil, s => s
  | _, _, _, _, .cons r t, s => .cons r (Vals.append t s)
theorem Vals.take : ∀ {xs : List V} {us : List Value} (n : Nat), Vals xs us → Vals (xs.take n) (us.take n)
  | _, _, 0, _ => .nil
  | _, _, _ + 1, .nil => .nil
  | _, _, n + 1, .cons r t => .cons r (Vals.take n t)
theorem Vals.drop : ∀ {xs : List V} {us : List Value} (n : Nat), Vals xs us → Vals (xs.drop n) (us.drop n)
  | _, _, 0, r => r
  | _, _, _ + 1, .nil => .nil
  | _, _, n + 1, .cons _ t => Vals.drop n t
def RelO : Option V → Option Value → Prop
  | some v, some u => RelV v u
  | none, none => True
  | _, _ => False
def KV {κ : Type} : List (κ × V) → List (κ × Value) → Prop := Paired fun (p : κ × V) (q : κ × Value) => p.1 = q.1 ∧ RelV p.2 q.2
/-- a key of a dict (00_mix): an int or a text -/
def kV : Key → V
  | .inl i => .int i
  | .inr x => .str x
/-- what stands at a tracked address -/
inductive HO where
  /-- a list -/
  | lst (xs : List V)
  /-- a tuple (never changes) -/
  | tup (xs : List V)
  /-- a dict whose keys are ints and texts; one whose keys are tuples of ints and texts (the empty one is both) -/
  | dK (kvs : List (Key × V)) | dT (kvs : List (List Key × V))
  /-- a set of ints: its members, its size -/
  | set (S : Int → Bool) (n : Nat)
  /-- an instance of the class at C, its dict at dx, its attributes -/
  | ins (C dx : Addr) (fs : List (Str × V))
  /-- the dict of the instance at x -/
  | own (x : Addr)
  /-- the dict of an exception -/
  | xd (fs : List (Str × V))
  /-- a bound method, f of x -/
  | met (f x : Addr)
  /-- a range object lo, lo + 1, .. below hi -/
  | rng (lo hi : Int)
  /-- a thing that is known to the object (the script; a dict while a loop walks it): read, never written while it is so -/
  | frz (o : Obj) (u : HO)
  /-- a code object's table -/
  | tbl (ps : Array Value)
  /-- any other thing, by what is true of its one object (a def of one's own: SetO a S n := HO.ext fun h => ..) -/
  | ext (φ : Heap → Prop)
abbrev Hp := Addr → Option HO
def upd (H : Hp) (a : Addr) (o : HO) : Hp := fun b => if b = a then some o else H b
theorem upd_same {H : Hp} {a : Addr} {o : HO} : upd H a o a = some o := by unfold upd; rw [if_pos rfl]
theorem upd_ne {H : Hp} {a b : Addr} {o : HO} (h : b ≠ a) : upd H a o b = H b := by unfold upd; rw [if_neg h]
/-- two objects of different content stand apart -/
theorem ne_of {H : Hp} {a b : Addr} {o u : HO} (h : H a = some o) (h' : H b = some u) (d : o ≠ u) : a ≠ b := by
  intro e; subst e; rw [h] at h'; exact d (Option.some.inj h')
theorem ne_of_none {H : Hp} {a b : Addr} {o : HO} (h : H a = some o) (h' : H b = none) : a ≠ b := by
  intro e; subst e; rw [h] at h'; cases h'
section
variable (P : Program) (w : World)
def ObjOk (H : Hp) (h : Heap) (a : Addr) : HO → Prop
  | .lst xs => xs.length ≤ sizeLine ∧ ∃ (its : List Value) (n : Nat), Vals xs its ∧ h.get? a = some { cls := .type "list", data := .seq its.toArray n }
  | .tup xs => xs.length ≤ sizeLine ∧ ∃ its : List Value, Vals xs its ∧ IsTup h a its.toArray
  | .dK kvs => kvs.length ≤ sizeLine ∧ (a == sysModules) = false ∧ ∃ vs, KV kvs vs ∧ h.DictOf (mixKind P w) a vs
  | .dT kvs => kvs.length ≤ sizeLine ∧ (a == sysModules) = false ∧ ∃ xs : List (List Key × Addr × Value),
      Paired (fun (p : List Key × V) (q : List Key × Addr × Value) => p.1 = q.1 ∧ H q.2.1 = some (.tup (p.1.map kV)) ∧ RelV p.2 q.2.2) kvs xs ∧
      ∃ o es ep, h.get? a = some o ∧ o.ExactDict ∧ o.data = .dict es ep ∧ es.toList = xs.map (entryOfKey (tupleKind (mixKind P w))) ∧ (xs.map (·.1)).Nodup
  | .set S n => h.SetOf (intKind P w) a S n
  | .ins C dx fs => H dx = some (.own a) ∧ fs.length ≤ 1000 ∧ dx ≠ a ∧ h.get? a = some (PySem.W.instObj C dx) ∧
      ∃ mA, h.Ns1 dx mA ∧ (∀ f, RelO (fs.lookup f) (mA f)) ∧ PySem.Within mA (fs.map (·.1))
  | .own _ => ∃ o, h.get? a = some o
  | .xd fs => ∃ mA, h.Ns1 a mA ∧ ∀ f, RelO (fs.lookup f) (mA f)
  | .rng lo hi => ∃ t u v, h.get? a = some { cls := .type "range", data := .fields #[.int lo t, .int hi u, .int 1 v] }
  | .frz o u => h.get? a = some o ∧ ObjOk H h a u
  | .tbl ps => h.get? a = some { cls := .none, data := .fields ps }
  | .met f x => h.get? a = some (PySem.W.methodObj (.ref f) (.ref x))
  | .ext φ => φ h ∧ (∃ o, h.get? a = some o) ∧ ∀ h1 h2 : Heap, φ h1 → (∀ o, h1.get? a = some o → h2.get? a = some o) → φ h2
/-- the abstract heap is held -/
def HOk (H : Hp) (h : Heap) : Prop := ∀ a o, H a = some o → ObjOk P w H h a o
end
section
variable {P : Program} {w : World} {H H' : Hp} {h h' : Heap} {a : Addr} {o : HO}
theorem ObjOk.lt (x : ObjOk P w H h a o) : a < h.objs.size := by
  cases o with
  | lst xs => obtain ⟨_, _, _, _, e⟩ := x; exact Heap.lt_size e
  | tup xs => obtain ⟨_, _, _, p⟩ := x; exact p.lt
  | dK kvs => obtain ⟨_, _, _, _, o, _, _, e, _⟩ := x; exact Heap.lt_size e
  | dT kvs => obtain ⟨_, _, _, _, o, _, _, e, _⟩ := x; exact Heap.lt_size e
  | set S n => obtain ⟨o, _, _, _, e, _⟩ := x; exact Heap.lt_size e
  | ins C dx fs => obtain ⟨_, _, _, e, _⟩ := x; exact Heap.lt_size e
  | own y => obtain ⟨_, e⟩ := x; exact Heap.lt_size e
  | xd fs => obtain ⟨_, ⟨_, _, _, e, _⟩, _⟩ := x; exact Heap.lt_size e
  | rng lo hi => obtain ⟨_, _, _, e⟩ := x; exact Heap.lt_size e
  | frz ob u => obtain ⟨e, _⟩ := x; exact Heap.lt_size e
  | tbl ps => exact Heap.lt_size (show h.get? a = some _ from x)
  | met f y => exact Heap.lt_size (show h.get? a = some _ from x)
  | ext φ => obtain ⟨_, ⟨_, e⟩, _⟩ := x; exact Heap.lt_size e
theorem Paired.mapP {α β : Type} {F G : α → β → Prop} : ∀ {l₁ : List α} {l₂ : List β}, Paired F l₁ l₂ → (∀ a b, F a b → G a b) → Paired G l₁ l₂
  | _, _, .nil, _ => .nil
  | _, _, .cons r t, f => .cons (f _ _ r) (Paired.mapP t f)
/-- what an object's description leans on: its own object, its own dict, the tuples -/
theorem ObjOk.stay (x : ObjOk P w H h a o) (k : ∀ b u, (b = a ∨ H b = some (.own a)) → h.get? b = some u → h'.get? b = some u)
    (ho : ∀ b, H b = some (.own a) → H' b = some (.own a)) (ht : ∀ b xs, H b = some (.tup xs) → H' b = some (.tup xs)) : ObjOk P w H' h' a o := by
  induction o with
  | lst xs => obtain ⟨z, its, n, r, e⟩ := x; exact ⟨z, its, n, r, k _ _ (.inl rfl) e⟩
  | tup xs => obtain ⟨z, its, r, ob, e, c⟩ := x; exact ⟨z, its, r, ob, k _ _ (.inl rfl) e, c⟩
  | dK kvs => obtain ⟨z, y, vs, r, ob, es, ep, e, c⟩ := x; exact ⟨z, y, vs, r, ob, es, ep, k _ _ (.inl rfl) e, c⟩
  | dT kvs =>
    obtain ⟨z, y, xs, r, ob, es, ep, e, c⟩ := x
    exact ⟨z, y, xs, Paired.mapP r fun p q z => ⟨z.1, ht _ _ z.2.1, z.2.2⟩, ob, es, ep, k _ _ (.inl rfl) e, c⟩
  | set S n => obtain ⟨ob, es, ep, t, e, c⟩ := x; exact ⟨ob, es, ep, t, k _ _ (.inl rfl) e, c⟩
  | ins C dx fs =>
    obtain ⟨d, z, ne, e, mA, ⟨od, es, ep, e2, c⟩, r⟩ := x
    exact ⟨ho _ d, z, ne, k _ _ (.inl rfl) e, mA, ⟨od, es, ep, k _ _ (.inr d) e2, c⟩, r⟩
  | own y => obtain ⟨ob, e⟩ := x; exact ⟨ob, k _ _ (.inl rfl) e⟩
  | xd fs => obtain ⟨mA, ⟨od, es, ep, e, c⟩, r⟩ := x; exact ⟨mA, ⟨od, es, ep, k _ _ (.inl rfl) e, c⟩, r⟩
  | rng lo hi => obtain ⟨t, u, v, e⟩ := x; exact ⟨t, u, v, k _ _ (.inl rfl) e⟩
  | frz ob u ih => obtain ⟨e, q⟩ := x; exact ⟨k _ _ (.inl rfl) e, ih q⟩
  | tbl ps =>
    have e : h.get? a = some { cls := .none, data := .fields ps } := x
    show h'.get? a = some { cls := .none, data := .fields ps }
    exact k a _ (.inl rfl) e
  | met f y =>
    have e : h.get? a = some (PySem.W.methodObj (.ref f) (.ref y)) := x
    show h'.get? a = some (PySem.W.methodObj (.ref f) (.ref y))
    exact k a _ (.inl rfl) e
  | ext φ => obtain ⟨p, ⟨o, e⟩, st⟩ := x; exact ⟨st _ _ p fun o q => k _ _ (.inl rfl) q, ⟨o, k _ _ (.inl rfl) e⟩, st⟩
theorem HOk.lt (x : HOk P w H h) (e : H a = some o) : a < h.objs.size := (x a o e).lt
theorem HOk.fresh (x : HOk P w H h) (e : h.objs.size ≤ a) : H a = none := by
  cases q : H a with
  | none => rfl
  | some u => exact absurd (Nat.lt_of_lt_of_le (x.lt q) e) (Nat.lt_irrefl _)
/-- every object of the heap is kept -/
theorem HOk.kept (x : HOk P w H h) (k : ∀ b u, h.get? b = some u → h'.get? b = some u) : HOk P w H h' := fun a o e =>
  (x a o e).stay (fun b u _ q => k b u q) (fun _ q => q) fun _ _ q => q
/-- a new object is laid and tracked -/
theorem HOk.laid (x : HOk P w H h) (k : ∀ b u, h.get? b = some u → h'.get? b = some u) (hp : h.objs.size ≤ a) (new : ObjOk P w (upd H a o) h' a o) : HOk P w (upd H a o) h' := fun b u e => by
  have hn := x.fresh hp
  by_cases hb : b = a
  · subst hb; rw [upd_same] at e; cases e; exact new
  · rw [upd_ne hb] at e
    exact (x b u e).stay (fun c v _ q => k c v q) (fun c q => by rw [upd_ne (ne_of_none q hn)]; exact q) fun c xs q => by rw [upd_ne (ne_of_none q hn)]; exact q
end
/-- what may be read as u: it is u, or a known u -/
def Rd (H : Hp) (a : Addr) (u : HO) : Prop := H a = some u ∨ ∃ o, H a = some (.frz o u)
theorem Rd.ok {P : Program} {w : World} {H : Hp} {h : Heap} {a : Addr} {u : HO} (r : Rd H a u) (x : HOk P w H h) : ObjOk P w H h a u := by
  rcases r with r | ⟨o, r⟩
  · exact x a u r
  · obtain ⟨_, q⟩ := x a _ r
    exact q
/-- what may be written -/
def Mut : Option HO → Prop
  | some (.lst _) => True
  | some (.dK _) => True
  | some (.dT _) => True
  | some (.set _ _) => True
  | some (.ins _ _ _) => True
  | some (.ext _) => True
  | _ => False
section
variable {P : Program} {w : World} {H : Hp} {h h' : Heap} {x e : Addr} {o' : HO}
/-- the object at e is changed: x itself, or the dict of the instance x -/
theorem HOk.write (ok : HOk P w H h) (mu : Mut (H x)) (he : e = x ∨ H e = some (.own x)) (k : ∀ b u, b ≠ e → h.get? b = some u → h'.get? b = some u) (heo : ∃ u, h'.get? e = some u)
    (new : ObjOk P w (upd H x o') h' x o') : HOk P w (upd H x o') h' := fun b u q => by
  have nown : ∀ c y, H c = some (.own y) → c ≠ x := fun c y r z => by subst z; rw [r] at mu; exact mu
  have ntup : ∀ c xs, H c = some (.tup xs) → c ≠ x := fun c xs r z => by subst z; rw [r] at mu; exact mu
  by_cases hb : b = x
  · subst hb; rw [upd_same] at q; cases q; exact new
  · rw [upd_ne hb] at q
    by_cases hbe : b = e
    · have q' : H b = some (.own x) := by
        rcases he with z | z
        · exact absurd (hbe.trans z) hb
        · rw [hbe]; exact z
      rw [q] at q'; cases q'
      obtain ⟨v, hv⟩ := heo
      exact ⟨v, by rw [hbe]; exact hv⟩
    · refine (ok b u q).stay (fun c v hc r => k c v ?_ r) (fun c r => by rw [upd_ne (nown c b r)]; exact r) fun c xs r => by rw [upd_ne (ntup c xs r)]; exact r
      rcases hc with rfl | hc
      · exact hbe
      · rintro rfl
        rcases he with z | z
        · exact nown c b hc z
        · rw [hc] at z; cases z; exact hb rfl
end
/-! ### kept unless tracked; of the frames at fs (the callers') the slots may change (an exception that passes writes there); of the records at ex (iterators) nothing is said -/
structure Un (fs ex : List Addr) (H H' : Hp) (h h' : Heap) : Prop where
  keep : ∀ b o, h.get? b = some o → H b = none → b ∉ fs → b ∉ ex → h'.get? b = some o
  slot : ∀ b o, h.get? b = some o → H b = none → b ∈ fs → b ∉ ex → ∃ sl, h'.get? b = some { o with slots := sl }
  free : ∀ b o, h.get? b = some o → H b = none → b ∉ ex → H' b = none
  there : ∀ b o, h.get? b = some o → b ∉ ex → ∃ o', h'.get? b = some o'
  tups : ∀ b xs, H b = some (.tup xs) → H' b = some (.tup xs)
  frzs : ∀ b o u, H b = some (.frz o u) → H' b = some (.frz o u)
  tbls : ∀ b ps, H b = some (.tbl ps) → ∃ more, H' b = some (.tbl (ps ++ more))
section
variable {fs fs' ex ex' : List Addr} {H H1 H2 : Hp} {h h1 h2 h' : Heap} {a x e : Addr} {o : HO}
theorem Un.any (u : Un fs ex H H1 h h1) {b : Addr} {ob : Obj} (q : h.get? b = some ob) (n : H b = none) (hx : b ∉ ex) : ∃ sl, h1.get? b = some { ob with slots := sl } := by
  by_cases hb : b ∈ fs
  · exact u.slot b ob q n hb hx
  · exact ⟨ob.slots, u.keep b ob q n hb hx⟩
theorem Un.trans (a : Un fs ex H H1 h h1) (b : Un fs ex H1 H2 h1 h2) : Un fs ex H H2 h h2 where
  keep := fun c ob q n hc hx => b.keep c ob (a.keep c ob q n hc hx) (a.free c ob q n hx) hc hx
  slot := fun c ob q n hc hx => by
    obtain ⟨sl, e1⟩ := a.slot c ob q n hc hx
    obtain ⟨sl', e2⟩ := b.slot c _ e1 (a.free c ob q n hx) hc hx
    exact ⟨sl', e2⟩
  free := fun c ob q n hx => by
    obtain ⟨o', e1⟩ := a.there c ob q hx
    exact b.free c o' e1 (a.free c ob q n hx) hx
  there := fun c ob q hx => by
    obtain ⟨o', e1⟩ := a.there c ob q hx
    exact b.there c o' e1 hx
  tups := fun c xs q => b.tups c xs (a.tups c xs q)
  frzs := fun c ob xs q => b.frzs c ob xs (a.frzs c ob xs q)
  tbls := fun c ps q => by
    obtain ⟨m1, e1⟩ := a.tbls c ps q
    obtain ⟨m2, e2⟩ := b.tbls c _ e1
    exact ⟨m1 ++ m2, by rw [e2, Array.append_assoc]⟩
theorem Un.kept (k : ∀ b u, h.get? b = some u → h'.get? b = some u) : Un fs ex H H h h' :=
  ⟨fun b ob q _ _ _ => k b ob q, fun b ob q _ _ _ => ⟨ob.slots, k b ob q⟩, fun _ _ _ n _ => n, fun b ob q _ => ⟨ob, k b ob q⟩, fun _ _ q => q, fun _ _ _ q => q, fun _ ps q => ⟨#[], by rw [q]; simp⟩⟩
theorem Un.refl : Un fs ex H H h h := Un.kept fun _ _ q => q
theorem Un.laid (k : ∀ b u, h.get? b = some u → h'.get? b = some u) (hp : h.objs.size ≤ a) (hn : H a = none) : Un fs ex H (upd H a o) h h' where
  keep := fun b u q _ _ _ => k b u q
  slot := fun b u q _ _ _ => ⟨u.slots, k b u q⟩
  free := fun b u q n _ => by rw [upd_ne (Nat.ne_of_lt (Nat.lt_of_lt_of_le (Heap.lt_size q) hp))]; exact n
  there := fun b u q _ => ⟨u, k b u q⟩
  tups := fun b xs q => by rw [upd_ne (ne_of_none q hn)]; exact q
  frzs := fun b u xs q => by rw [upd_ne (ne_of_none q hn)]; exact q
  tbls := fun b ps q => ⟨#[], by rw [upd_ne (ne_of_none q hn), q]; simp⟩
theorem Un.write (mu : Mut (H x)) (he : e = x ∨ H e = some (.own x)) (k : ∀ b u, b ≠ e → h.get? b = some u → h'.get? b = some u) (heo : ∃ u, h'.get? e = some u) : Un fs ex H (upd H x o) h h' := by
  have hx : ∀ b, H b = none → b ≠ x := fun b n z => by subst z; rw [n] at mu; exact mu
  have hb : ∀ b, H b = none → b ≠ e := fun b n z => by
    subst z
    rcases he with r | r
    · exact hx b n r
    · rw [n] at r; cases r
  have hm : ∀ b u, H b = some u → ¬ Mut (some u) → b ≠ x := fun b u q nm z => by subst z; rw [q] at mu; exact nm mu
  refine ⟨fun b u q n _ _ => k b u (hb b n) q, fun b u q n _ _ => ⟨u.slots, k b u (hb b n) q⟩, fun b u q n _ => by rw [upd_ne (hx b n)]; exact n, fun b u q _ => ?_,
    fun b xs q => by rw [upd_ne (hm b _ q fun z => z)]; exact q, fun b u xs q => by rw [upd_ne (hm b _ q fun z => z)]; exact q, fun b ps q => ⟨#[], by rw [upd_ne (hm b _ q fun z => z), q]; simp⟩⟩
  by_cases hbe : b = e
  · subst hbe; exact heo
  · exact ⟨u, k b u hbe q⟩
end
/-! ### the heap without what is tracked -/
def trk (h : Heap) (H : Hp) : List Addr := (List.range h.objs.size).filter fun a => (H a).isSome
def hidT (h : Heap) (H : Hp) : Heap := PySem.W.hideAll h (trk h H)
theorem hidT_size (h : Heap) (H : Hp) : (hidT h H).objs.size = h.objs.size := PySem.W.hideAll_size _ _
theorem hidT_get {h : Heap} {H : Hp} {b : Addr} {o : Obj} (e : h.get? b = some o) (n : H b = none) : (hidT h H).get? b = some o :=
  PySem.W.hideAll_get _ e fun hm => by
    have q : (H b).isSome = true := (List.mem_filter.mp hm).2
    rw [n] at q; simp at q
theorem of_hidT {h : Heap} {H : Hp} {b : Addr} {o : Obj} (e : (hidT h H).get? b = some o) : h.get? b = some o ∧ H b = none := by
  have e' : h.get? b = some o := PySem.W.of_hideAll (trk h H) e
  refine ⟨e', ?_⟩
  cases q : H b with
  | none => rfl
  | some x =>
    have hm : b ∈ trk h H := List.mem_filter.mpr ⟨List.mem_range.mpr (Heap.lt_size e'), by simp [q]⟩
    have z : (hidT h H).get? b = none := PySem.W.hideAll_none (trk h H) hm
    rw [z] at e; cases e
/-! ### OpenK's ledger, filled with every new object but one -/
def allNews (g h : Heap) (L : Addr) : List (Addr × Obj) := (List.range h.objs.size).filterMap fun a => if a = L ∨ (g.get? a).isSome = true then none else (h.get? a).map fun o => (a, o)
def rest (g h : Heap) (L d : Addr) : List (Addr × Obj) := (allNews g h L).filter fun p => decide (p.1 ≠ d)
end L2
namespace L2
open PySem PySem.Spec PyProof.Rows
/-- the module's facts, over the base: the heap at the law's entry without what is tracked there -/
structure Mod (K : PySem.W.Frag) (mg : Str → Option Value) (base : Heap) : Prop where
  kin : K.In base
  glob : base.Ns mainGlobals mg
  blt : ∃ mb, base.Ns builtinsNs mb ∧ ∀ x : Str, x ≠ "__name__" → mb x = bootBuiltins x
  nolimit : base.NoLimit
/-- the context: a def's body (or a comprehension's block) running. base: fixed through the whole law; s₀, H₀: the entry; outer: the frames whose slots others may change (a def's callers); stack: all frames that run;
   ex: iterators that were made ahead of the entry and are walked here (a comprehension's); fn: the names whose cells were made at the entry (a def: all; a comprehension's block: its own); calm: not within an except suite; pn: pins that every state bears; xe: what is wanted of an exception that leaves the code -/
structure Cx where
  prog : Program
  w : World
  K : PySem.W.Frag
  mg : Str → Option Value
  base : Heap
  A : Around
  N : List Str
  s₀ : Shared
  H₀ : Hp
  env : Env
  outer : List Env
  stack : List Env
  ex : List Addr
  fn : Str → Bool
  calm : Bool
  pn : List (Addr × Obj)
  xe : Value → Shared → Prop
/-- the callers' frames -/
def frs (l : List Env) : List Addr := l.filterMap (·.frame)
abbrev Cx.fs (X : Cx) : List Addr := frs X.outer
def Vis (sc : Scope) (x : Str) : Prop := sc.names.lookup x = some .local ∨ sc.names.lookup x = some .cell ∨ sc.names.lookup x = some .free
def Loc (sc : Scope) (x : Str) : Prop := sc.names.lookup x = some .local ∨ sc.names.lookup x = some .cell
def Look (env : Env) (h : Heap) (m : Str → Option Value) (x : Str) (u : Value) : Prop :=
  (env.kindOf x = some .local ∧ m x = some u) ∨ ((env.kindOf x = some .cell ∨ env.kindOf x = some .free) ∧ ∃ c, env.cells.lookup x = some c ∧ h.IsCell c (some u))
structure Cx.Ok (X : Cx) : Prop where
  mod : Mod X.K X.mg X.base
  kind : X.env.scope.kind = .function
  glob : X.env.globals = mainGlobals
  blt : X.env.builtins = builtinsNs
  above : X.s₀.heap.objs.size ≤ X.env.locals
  inj : ∀ x y c, X.env.cells.lookup x = some c → X.env.cells.lookup y = some c → x = y
  has : ∀ x, (X.env.kindOf x = some .cell ∨ X.env.kindOf x = some .free) → ∃ c, X.env.cells.lookup x = some c
  cab : ∀ x c, X.fn x = true → X.env.cells.lookup x = some c → X.s₀.heap.objs.size ≤ c
  hd : X.calm = true → X.A.handled = none
  frames : X.A.frames = some X.stack
  stk : X.stack = X.outer ∨ (X.stack = X.env :: X.outer ∧ X.env.frame = some X.env.locals)
  exf : ∀ b ∈ X.ex, b ≠ X.env.locals ∧ ∀ x c, X.env.cells.lookup x = some c → c ≠ b
  bs : ∀ b o, X.base.get? b = some o → X.s₀.heap.get? b = some o ∧ X.H₀ b = none
  bsz : X.base.objs.size ≤ X.s₀.heap.objs.size
  noex : ∀ b o, X.base.get? b = some o → b ∉ X.ex
  exfs : ∀ b ∈ X.ex, b ∉ X.fs
  funs : X.s₀.heap.FunFrames X.base X.outer
  frf : ∀ b ∈ X.fs, X.H₀ b = none
structure Inv (X : Cx) (pins : List (Addr × Obj)) (σ : List (Option V)) (H : Hp) (s : Shared) : Prop where
  ok : X.Ok
  os : s.os = X.s₀.os
  bare : AllBare s.gens
  base : Un X.fs X.ex X.H₀ H X.s₀.heap s.heap
  loc : ∃ m, s.heap.Ns X.env.locals m ∧ ∀ (i : Nat) (x : Str) (v : V), X.N[i]? = some x → σ[i]? = some (some v) → Vis X.env.scope x → ∃ u, RelV v u ∧ Look X.env s.heap m x u
  cell : ∀ x c, X.env.cells.lookup x = some c → ∃ v, s.heap.IsCell c v
  free : H X.env.locals = none
  freeC : ∀ x c, X.env.cells.lookup x = some c → H c = none
  pin : ∀ p ∈ X.pn ++ pins, s.heap.get? p.1 = some p.2 ∧ H p.1 = none ∧ p.1 ≠ X.env.locals ∧ p.1 ∉ X.fs ∧ ∀ v, p.2.data ≠ .cell v
  hok : HOk X.prog X.w H s.heap
  len : σ.length = X.N.length
section
variable {X : Cx} {pins : List (Addr × Obj)} {σ : List (Option V)} {H H' : Hp} {s : Shared} {h' : Heap}
theorem Cx.Ok.nofr (ok : X.Ok) {b : Addr} {o : Obj} (e : X.base.get? b = some o) : b ∉ X.fs := fun hb => by
  have := (ok.funs.mem hb).1
  rw [e] at this; cases this
theorem Inv.bs (I : Inv X pins σ H s) : ∀ b o, X.base.get? b = some o → s.heap.get? b = some o ∧ H b = none := fun b o e =>
  ⟨I.base.keep b o (I.ok.bs b o e).1 (I.ok.bs b o e).2 (I.ok.nofr e) (I.ok.noex b o e), I.base.free b o (I.ok.bs b o e).1 (I.ok.bs b o e).2 (I.ok.noex b o e)⟩
theorem Inv.bk (I : Inv X pins σ H s) : ∀ b o, X.base.get? b = some o → s.heap.get? b = some o := fun b o e => (I.bs b o e).1
theorem Inv.mod (I : Inv X pins σ H s) : Mod X.K X.mg X.base := I.ok.mod
theorem Inv.kIn (I : Inv X pins σ H s) : X.K.In s.heap := I.ok.mod.kin.keeps I.bk
theorem Inv.nolimit (I : Inv X pins σ H s) : s.heap.NoLimit := I.ok.mod.nolimit.keeps I.bk
theorem Inv.lt (I : Inv X pins σ H s) : X.env.locals < s.heap.objs.size := let ⟨_, hn, _⟩ := I.loc; hn.lt
theorem Inv.sz (I : Inv X pins σ H s) : X.s₀.heap.objs.size ≤ s.heap.objs.size := Nat.le_trans I.ok.above (Nat.le_of_lt I.lt)
theorem Inv.nofs (I : Inv X pins σ H s) {a : Addr} (h : s.heap.objs.size ≤ a) : a ∉ X.fs := fun hb => by
  obtain ⟨_, o, ho, _⟩ := I.ok.funs.mem hb
  exact absurd (Nat.lt_of_lt_of_le (Heap.lt_size ho) (Nat.le_trans I.sz h)) (Nat.lt_irrefl _)
theorem Inv.cne (I : Inv X pins σ H s) : ∀ x c, X.env.cells.lookup x = some c → c ≠ X.env.locals := fun x c e z => by
  obtain ⟨v, o, ho, hd⟩ := I.cell x c e
  obtain ⟨m, ⟨o', es, ep, ho', hd', _⟩, _⟩ := I.loc
  rw [z, ho'] at ho; cases ho; rw [hd'] at hd; cases hd
theorem Inv.funs (I : Inv X pins σ H s) : s.heap.FunFrames X.base X.outer := by
  have all : ∀ (l : List Env), (∀ b ∈ frs l, b ∈ X.fs) → X.s₀.heap.FunFrames X.base l → s.heap.FunFrames X.base l := by
    intro l
    induction l with
    | nil => intro _ _; trivial
    | cons env r ih =>
      intro hs hl
      obtain ⟨hk, ⟨L, o, hf, hn, ho, hd⟩, hr⟩ := hl
      have hL : L ∈ X.fs := hs L (by unfold frs; rw [List.filterMap_cons, hf]; exact List.mem_cons_self)
      obtain ⟨sl, e⟩ := I.base.slot L o ho (I.ok.frf L hL) hL fun z => I.ok.exfs L z hL
      exact ⟨hk, ⟨L, _, hf, hn, e, hd⟩, ih (fun b hb => hs b (by unfold frs; rw [List.filterMap_cons, hf]; exact List.mem_cons_of_mem _ hb)) hr⟩
  exact all X.outer (fun _ hb => hb) I.ok.funs
/-- the frames that run, for a call -/
theorem Inv.stack (I : Inv X pins σ H s) : s.heap.FunFrames X.base X.stack := by
  rcases I.ok.stk with e | ⟨e, hf⟩
  · rw [e]; exact I.funs
  · rw [e]
    obtain ⟨m, hn, _⟩ := I.loc
    refine .cons (by rw [I.ok.kind]; decide) hf hn ?_ I.funs
    exact Heap.get?_none_of_le (Nat.le_trans I.ok.bsz I.ok.above)
theorem Inv.stkSub (I : Inv X pins σ H s) : ∀ b ∈ frs X.stack, b ∈ X.env.locals :: X.fs := fun b hb => by
  rcases I.ok.stk with e | ⟨e, hf⟩
  · rw [e] at hb; exact List.mem_cons_of_mem _ hb
  · rw [e] at hb
    unfold frs at hb
    rw [List.filterMap_cons, hf] at hb
    exact hb
theorem Inv.stkFree (I : Inv X pins σ H s) : ∀ b ∈ frs X.stack, H b = none := fun b hb => by
  rcases List.mem_cons.mp (I.stkSub b hb) with e | hb
  · rw [e]; exact I.free
  · obtain ⟨_, o, ho, _⟩ := I.ok.funs.mem hb
    exact I.base.free b o ho (I.ok.frf b hb) fun z => I.ok.exfs b z hb
/-- THE STEP: the untracked objects but the frame and the records at ch are kept (the callers' frames up to slots), the frame's map is kept, the new abstract heap is held -/
theorem Inv.step {g' : Array GenState} {t' : Nat} {d' : Drawn} {ch : List Addr} (I : Inv X pins σ H s)
    (hch : ∀ b ∈ ch, (b ∈ X.ex ∨ X.s₀.heap.objs.size ≤ b) ∧ b ≠ X.env.locals ∧ (∀ x c, X.env.cells.lookup x = some c → c ≠ b) ∧ ∀ p ∈ X.pn ++ pins, p.1 ≠ b)
    (keep : ∀ b o, b ≠ X.env.locals → b ∉ X.fs → b ∉ ch → s.heap.get? b = some o → H b = none → h'.get? b = some o)
    (slot : ∀ b o, b ≠ X.env.locals → b ∈ X.fs → b ∉ ch → s.heap.get? b = some o → H b = none → ∃ sl, h'.get? b = some { o with slots := sl }) (free : ∀ b o, b ∉ ch → s.heap.get? b = some o → H b = none → H' b = none)
    (there : ∀ b o, b ∉ ch → s.heap.get? b = some o → ∃ o', h'.get? b = some o')
    (tups : ∀ b xs, H b = some (.tup xs) → H' b = some (.tup xs)) (frzs : ∀ b o u, H b = some (.frz o u) → H' b = some (.frz o u)) (tbls : ∀ b ps, H b = some (.tbl ps) → ∃ more, H' b = some (.tbl (ps ++ more)))
    (ns : ∀ m, s.heap.Ns X.env.locals m → h'.Ns X.env.locals m) (hok : HOk X.prog X.w H' h') (hg : AllBare g') :
    Inv X pins σ H' { s with heap := h', gens := g', drawn := d', toks := t' } := by
  have neL : ∀ b o, X.s₀.heap.get? b = some o → b ≠ X.env.locals := fun b o e => Nat.ne_of_lt (Nat.lt_of_lt_of_le (Heap.lt_size e) I.ok.above)
  have neC : ∀ b o, X.s₀.heap.get? b = some o → b ∉ X.ex → b ∉ ch := fun b o e hx hb => by
    rcases (hch b hb).1 with z | z
    · exact hx z
    · exact absurd (Nat.lt_of_lt_of_le (Heap.lt_size e) z) (Nat.lt_irrefl _)
  have cellK : ∀ x c, X.env.cells.lookup x = some c → ∀ v, s.heap.IsCell c v → h'.IsCell c v := fun x c e v ⟨o, ho, hd⟩ => by
    have nch : c ∉ ch := fun z => (hch c z).2.2.1 x c e rfl
    by_cases hc : c ∈ X.fs
    · obtain ⟨sl, q⟩ := slot c o (I.cne x c e) hc nch ho (I.freeC x c e)
      exact ⟨_, q, hd⟩
    · exact ⟨o, keep c o (I.cne x c e) hc nch ho (I.freeC x c e), hd⟩
  refine ⟨I.ok, I.os, hg, ⟨fun b o e n hb hx => ?_, fun b o e n hb hx => ?_, fun b o e n hx => ?_, fun b o e hx => ?_, fun b xs e => tups b xs (I.base.tups b xs e), fun b o xs e => frzs b o xs (I.base.frzs b o xs e), fun b ps e => ?_⟩, ?_, fun x c e => ?_, ?_, fun x c e => ?_, fun p hp => ?_, hok, I.len⟩
  · exact keep b o (neL b o e) hb (neC b o e hx) (I.base.keep b o e n hb hx) (I.base.free b o e n hx)
  · obtain ⟨sl, e1⟩ := I.base.slot b o e n hb hx
    obtain ⟨sl', e2⟩ := slot b _ (neL b o e) hb (neC b o e hx) e1 (I.base.free b o e n hx)
    exact ⟨sl', e2⟩
  · obtain ⟨o', e1⟩ := I.base.there b o e hx
    exact free b o' (neC b o e hx) e1 (I.base.free b o e n hx)
  · obtain ⟨o', e1⟩ := I.base.there b o e hx
    exact there b o' (neC b o e hx) e1
  · obtain ⟨m1, e1⟩ := I.base.tbls b ps e
    obtain ⟨m2, e2⟩ := tbls b _ e1
    exact ⟨m1 ++ m2, by rw [e2, Array.append_assoc]⟩
  · obtain ⟨m, hn, hl⟩ := I.loc
    refine ⟨m, ns m hn, fun i x v e1 e2 e3 => ?_⟩
    obtain ⟨u, r, l⟩ := hl i x v e1 e2 e3
    refine ⟨u, r, ?_⟩
    rcases l with l | ⟨k, c, e, z⟩
    · exact .inl l
    · exact .inr ⟨k, c, e, cellK x c e _ z⟩
  · obtain ⟨v, z⟩ := I.cell x c e
    exact ⟨v, cellK x c e v z⟩
  · obtain ⟨m, ⟨o, _, _, ho, _⟩, _⟩ := I.loc
    exact free _ o (fun z => (hch _ z).2.1 rfl) ho I.free
  · obtain ⟨v, o, ho, hd⟩ := I.cell x c e
    exact free c o (fun z => (hch c z).2.2.1 x c e rfl) ho (I.freeC x c e)
  · obtain ⟨e, n, ne, nf, d⟩ := I.pin p hp
    have nch : p.1 ∉ ch := fun z => (hch p.1 z).2.2.2 p hp rfl
    exact ⟨keep p.1 p.2 ne nf nch e n, free p.1 p.2 nch e n, ne, nf, d⟩
/-- .. where the frame's own object is kept too -/
theorem Inv.un {t' : Nat} (I : Inv X pins σ H s) (u : Un X.fs [] H H' s.heap h') (hok : HOk X.prog X.w H' h') : Inv X pins σ H' { s with heap := h', toks := t' } := by
  obtain ⟨m, ⟨o, es, ep, ho, r⟩, _⟩ := id I.loc
  obtain ⟨sl, hL⟩ := u.any ho I.free (by simp)
  exact I.step (g' := s.gens) (d' := s.drawn) (ch := []) (fun _ z => nomatch z) (fun b o _ hb _ e n => u.keep b o e n hb (by simp)) (fun b o _ hb _ e n => u.slot b o e n hb (by simp)) (fun b o _ e n => u.free b o e n (by simp)) (fun b o _ e => u.there b o e (by simp)) u.tups u.frzs u.tbls (fun m' hm => by
    obtain ⟨o', es', ep', ho', r'⟩ := hm
    rw [ho] at ho'; cases ho'
    exact ⟨_, es', ep', hL, r'⟩) hok I.bare
/-- behind a call (or a comprehension's block): the slots of this frame may have changed too, the records at ch may have turned -/
theorem Inv.call {g' : Array GenState} {t' : Nat} {d' : Drawn} {ch : List Addr} (I : Inv X pins σ H s) (u : Un (frs X.stack) ch H H' s.heap h') (hok : HOk X.prog X.w H' h') (hg : AllBare g')
    (hch : ∀ b ∈ ch, (b ∈ X.ex ∨ X.s₀.heap.objs.size ≤ b) ∧ b ≠ X.env.locals ∧ (∀ x c, X.env.cells.lookup x = some c → c ≠ b) ∧ ∀ p ∈ X.pn ++ pins, p.1 ≠ b) :
    Inv X pins σ H' { s with heap := h', gens := g', drawn := d', toks := t' } := by
  obtain ⟨m, ⟨o, es, ep, ho, r⟩, _⟩ := id I.loc
  obtain ⟨sl, hL⟩ := u.any ho I.free fun z => (hch _ z).2.1 rfl
  exact I.step (ch := ch) hch (fun b o hL hb hc e n => u.keep b o e n (fun z => (List.mem_cons.mp (I.stkSub b z)).elim hL hb) hc) (fun b o _ _ hc e n => u.any e n hc) (fun b o hc e n => u.free b o e n hc) (fun b o hc e => u.there b o e hc) u.tups u.frzs u.tbls (fun m' hm => by
    obtain ⟨o', es', ep', ho', r'⟩ := hm
    rw [ho] at ho'; cases ho'
    exact ⟨_, es', ep', hL, r'⟩) hok hg
/-- an untracked record of ours (an iterator) has turned -/
theorem Inv.turned {t' : Nat} {it : Addr} (I : Inv X pins σ H s) (k : ∀ b o, b ≠ it → s.heap.get? b = some o → h'.get? b = some o) (hn : H it = none) (hL : it ≠ X.env.locals)
    (h1 : it ∈ X.ex ∨ X.s₀.heap.objs.size ≤ it) (h2 : ∀ x c, X.env.cells.lookup x = some c → c ≠ it) (h3 : ∀ p ∈ X.pn ++ pins, p.1 ≠ it) : Inv X pins σ H { s with heap := h', toks := t' } := by
  have nit : ∀ b u, H b = some u → b ≠ it := fun b u e z => by rw [z, hn] at e; cases e
  refine I.step (g' := s.gens) (d' := s.drawn) (ch := [it]) (fun b hb => ?_) (fun b o _ _ hc e _ => k b o (fun z => hc (by simp [z])) e) (fun b o _ _ hc e _ => ⟨o.slots, k b o (fun z => hc (by simp [z])) e⟩) (fun _ _ _ _ n => n)
    (fun b o hc e => ⟨o, k b o (fun z => hc (by simp [z])) e⟩) (fun _ _ e => e) (fun _ _ _ e => e) (fun b ps e => ⟨#[], by rw [e]; simp⟩) (fun m hm => ?_) (fun b u e => ?_) I.bare
  · have e : b = it := by simpa using hb
    subst e
    exact ⟨h1, hL, h2, h3⟩
  · obtain ⟨o, es, ep, ho, r⟩ := hm
    exact ⟨o, es, ep, k _ o (Ne.symm hL) ho, r⟩
  · refine (I.hok b u e).stay (fun c v hc q => k c v ?_ q) (fun _ q => q) fun _ _ q => q
    rcases hc with z | z
    · rw [z]; exact nit b u e
    · exact nit c _ z
theorem Inv.tok (I : Inv X pins σ H s) (t : Nat) : Inv X pins σ H { s with toks := t } := I.un (h' := s.heap) (t' := t) Un.refl I.hok
/-- all objects kept -/
theorem Inv.kept {t' : Nat} (I : Inv X pins σ H s) (k : ∀ b u, s.heap.get? b = some u → h'.get? b = some u) : Inv X pins σ H { s with heap := h', toks := t' } := I.un (Un.kept k) (I.hok.kept k)
/-- a new object laid and tracked -/
theorem Inv.laid {a : Addr} {o : HO} {t' : Nat} (I : Inv X pins σ H s) (k : ∀ b u, s.heap.get? b = some u → h'.get? b = some u) (hp : s.heap.objs.size ≤ a) (new : ObjOk X.prog X.w (upd H a o) h' a o) :
    Inv X pins σ (upd H a o) { s with heap := h', toks := t' } := I.un (Un.laid k hp (I.hok.fresh hp)) (I.hok.laid k hp new)
/-- an object written -/
theorem Inv.write {x e : Addr} {o : HO} {t' : Nat} (I : Inv X pins σ H s) (mu : Mut (H x)) (he : e = x ∨ H e = some (.own x)) (k : ∀ b u, b ≠ e → s.heap.get? b = some u → h'.get? b = some u) (heo : ∃ u, h'.get? e = some u)
    (new : ObjOk X.prog X.w (upd H x o) h' x o) : Inv X pins σ (upd H x o) { s with heap := h', toks := t' } := I.un (Un.write mu he k heo) (I.hok.write mu he k heo new)
theorem Inv.pins_of {pins' : List (Addr × Obj)} (I : Inv X pins σ H s) (h : ∀ p ∈ pins', s.heap.get? p.1 = some p.2 ∧ H p.1 = none ∧ p.1 ≠ X.env.locals ∧ p.1 ∉ X.fs ∧ ∀ v, p.2.data ≠ .cell v) : Inv X pins' σ H s :=
  ⟨I.ok, I.os, I.bare, I.base, I.loc, I.cell, I.free, I.freeC, fun p hp => (List.mem_append.mp hp).elim (fun z => I.pin p (List.mem_append_left _ z)) (h p), I.hok, I.len⟩
theorem nodup_ix {N : List Str} (hN : N.Nodup) {i j : Nat} {x : Str} (a : N[i]? = some x) (b : N[j]? = some x) : i = j := by
  obtain ⟨h1, e1⟩ := List.getElem?_eq_some_iff.mp a
  obtain ⟨h2, e2⟩ := List.getElem?_eq_some_iff.mp b
  exact (List.getElem_inj hN).mp (e1.trans e2.symm)
/-- a name is stored; what changed -/
theorem store_ok2 {M : Model} {A : Around} {E : Value → Shared → Prop} {i : Nat} {x : Str} {v : V} {u : Value} {Q : Unit → Shared → Prop} (I : Inv X pins σ H s) (hN : X.N.Nodup) (hi : X.N[i]? = some x) (hx : Loc X.env.scope x) (r : RelV v u)
    (h : ∀ s', Inv X pins (σ.set i (some v)) H s' → (∃ a, Heap.SameBut a s.heap s'.heap ∧ (a = X.env.locals ∨ X.env.cells.lookup x = some a)) → Q () s') (hf : X.fn x = true ∨ X.env.scope.names.lookup x = some .local := by first | exact .inl rfl | exact .inr rfl | assumption) : wpAny M A (storeName X.env x u) Q E s := by
  obtain ⟨m, hn, hl⟩ := id I.loc
  have hcls : (X.env.scope.kind == .class || (X.env.scope.kind == .module && X.env.locals != X.env.globals)) = false := by rw [I.ok.kind]; rfl
  have hiσ : i < σ.length := by rw [I.len]; exact (List.getElem?_eq_some_iff.mp hi).1
  have cne := I.cne
  have tracked : ∀ {a : Addr} {h' : Heap}, (∃ o, s.heap.get? a = some o ∧ H a = none) → Heap.SameBut a s.heap h' → HOk X.prog X.w H h' := fun {a h'} ha hs b ob e => by
    obtain ⟨_, _, hfree⟩ := ha
    refine (I.hok b ob e).stay (fun c w' hc q => (hs.2 c ?_).trans q) (fun _ q => q) fun _ _ q => q
    rintro rfl
    rcases hc with rfl | hc
    · rw [hfree] at e; cases e
    · rw [hfree] at hc; cases hc
  rcases hx with hk | hk
  · refine wpAny_storeName_local hk hn (fun h' hn' hs => ?_) hcls
    obtain ⟨oL, _, _, hoL, _⟩ := id hn
    refine h _ ⟨I.ok, I.os, I.bare, ⟨fun b o e n hb hx => ?_, fun b o e n hb hx => ?_, I.base.free, fun b o e hx => ?_, I.base.tups, I.base.frzs, I.base.tbls⟩, ⟨_, hn', fun j y v' e1 e2 e3 => ?_⟩, fun y c e => ?_, I.free, I.freeC, fun p hp => ?_, tracked ⟨oL, hoL, I.free⟩ hs, by simpa using I.len⟩ ⟨_, hs, .inl rfl⟩
    · exact (hs.2 b (Nat.ne_of_lt (Nat.lt_of_lt_of_le (Heap.lt_size e) I.ok.above))).trans (I.base.keep b o e n hb hx)
    · obtain ⟨sl, e1⟩ := I.base.slot b o e n hb hx
      exact ⟨sl, (hs.2 b (Nat.ne_of_lt (Nat.lt_of_lt_of_le (Heap.lt_size e) I.ok.above))).trans e1⟩
    · obtain ⟨o', e1⟩ := I.base.there b o e hx
      exact ⟨o', (hs.2 b (Nat.ne_of_lt (Nat.lt_of_lt_of_le (Heap.lt_size e) I.ok.above))).trans e1⟩
    · by_cases hj : j = i
      · subst hj
        rw [hi] at e1; cases e1
        rw [List.getElem?_set_self hiσ] at e2
        cases e2
        exact ⟨u, r, .inl ⟨hk, by simp⟩⟩
      · rw [List.getElem?_set_ne (Ne.symm hj)] at e2
        obtain ⟨u', r', q⟩ := hl j y v' e1 e2 e3
        refine ⟨u', r', ?_⟩
        rcases q with ⟨k, e⟩ | ⟨k, c, e, z⟩
        · refine .inl ⟨k, ?_⟩
          have : y ≠ x := fun e => hj (nodup_ix hN e1 (e ▸ hi))
          simp [this, e]
        · exact .inr ⟨k, c, e, z.sameBut hs (cne y c e)⟩
    · obtain ⟨w', z⟩ := I.cell y c e
      exact ⟨w', z.sameBut hs (cne y c e)⟩
    · obtain ⟨e, n, ne, nf, d⟩ := I.pin p hp
      exact ⟨(hs.2 p.1 ne).trans e, n, ne, nf, d⟩
  · have hfn : X.fn x = true := by
      rcases hf with z | z
      · exact z
      · rw [z] at hk; cases hk
    obtain ⟨c, hc⟩ := I.ok.has x (.inl hk)
    obtain ⟨w', z⟩ := I.cell x c hc
    refine wpAny_storeName_cell I.ok.kind hk hc z (fun h' hc' hs => ?_)
    obtain ⟨oc, hoc, hocd⟩ := id z
    refine h { s with heap := h' } ⟨I.ok, I.os, I.bare, ⟨fun b o e n hb hx => ?_, fun b o e n hb hx => ?_, I.base.free, fun b o e hx => ?_, I.base.tups, I.base.frzs, I.base.tbls⟩, ⟨m, hn.sameBut hs (Ne.symm (cne x c hc)), fun j y v' e1 e2 e3 => ?_⟩, fun y c' e => ?_, I.free, I.freeC, fun p hp => ?_, tracked ⟨oc, hoc, I.freeC x c hc⟩ hs, by simpa using I.len⟩ ⟨c, hs, .inr hc⟩
    · exact (hs.2 b (Nat.ne_of_lt (Nat.lt_of_lt_of_le (Heap.lt_size e) (I.ok.cab x c hfn hc)))).trans (I.base.keep b o e n hb hx)
    · obtain ⟨sl, e1⟩ := I.base.slot b o e n hb hx
      exact ⟨sl, (hs.2 b (Nat.ne_of_lt (Nat.lt_of_lt_of_le (Heap.lt_size e) (I.ok.cab x c hfn hc)))).trans e1⟩
    · obtain ⟨o', e1⟩ := I.base.there b o e hx
      exact ⟨o', (hs.2 b (Nat.ne_of_lt (Nat.lt_of_lt_of_le (Heap.lt_size e) (I.ok.cab x c hfn hc)))).trans e1⟩
    · by_cases hj : j = i
      · subst hj
        rw [hi] at e1; cases e1
        rw [List.getElem?_set_self hiσ] at e2
        cases e2
        exact ⟨u, r, .inr ⟨.inl hk, c, hc, hc'⟩⟩
      · rw [List.getElem?_set_ne (Ne.symm hj)] at e2
        obtain ⟨u', r', q⟩ := hl j y v' e1 e2 e3
        refine ⟨u', r', ?_⟩
        rcases q with q | ⟨k, c', e, z'⟩
        · exact .inl q
        · refine .inr ⟨k, c', e, z'.sameBut hs ?_⟩
          rintro rfl
          exact hj (nodup_ix hN e1 (I.ok.inj _ _ _ e hc ▸ hi))
    · by_cases hcc : c' = c
      · subst hcc; exact ⟨_, hc'⟩
      · obtain ⟨w2, z2⟩ := I.cell y c' e
        exact ⟨w2, z2.sameBut hs hcc⟩
    · obtain ⟨e, n, ne, nf, d⟩ := I.pin p hp
      refine ⟨(hs.2 p.1 ?_).trans e, n, ne, nf, d⟩
      intro q
      rw [q, hoc] at e
      have q' : oc = p.2 := Option.some.inj e
      exact d w' (by rw [← q']; exact hocd)
theorem store_ok {M : Model} {A : Around} {E : Value → Shared → Prop} {i : Nat} {x : Str} {v : V} {u : Value} {Q : Unit → Shared → Prop} (I : Inv X pins σ H s) (hN : X.N.Nodup) (hi : X.N[i]? = some x) (hx : Loc X.env.scope x) (r : RelV v u)
    (h : ∀ s', Inv X pins (σ.set i (some v)) H s' → Q () s') (hf : X.fn x = true ∨ X.env.scope.names.lookup x = some .local := by first | exact .inl rfl | exact .inr rfl | assumption) : wpAny M A (storeName X.env x u) Q E s :=
  store_ok2 I hN hi hx r (fun s' I' _ => h s' I') hf
/-- behind a call or a block, the state as it is -/
theorem Inv.call' {s' : Shared} {ch : List Addr} (I : Inv X pins σ H s) (ho : s'.os = s.os) (u : Un (frs X.stack) ch H H' s.heap s'.heap) (hok : HOk X.prog X.w H' s'.heap) (hg : AllBare s'.gens)
    (hch : ∀ b ∈ ch, (b ∈ X.ex ∨ X.s₀.heap.objs.size ≤ b) ∧ b ≠ X.env.locals ∧ (∀ x c, X.env.cells.lookup x = some c → c ≠ b) ∧ ∀ p ∈ X.pn ++ pins, p.1 ≠ b) : Inv X pins σ H' s' := by
  obtain ⟨h', g', d', t', o'⟩ := s'
  have e : o' = s.os := ho
  subst e
  exact I.call (g' := g') (t' := t') (d' := d') u hok hg hch
end
/-! ### the judgements -/
/-- an exception: its class, its own dict's address (where it has one), the abstract heap behind it -/
abbrev XK := Value → Option Addr → Hp → Prop
abbrev St := List (Option V)
abbrev VK := V → Hp → Prop
/-- an expression's reading; a test's; an argument list's -/
abbrev TE := St → Hp → VK → Prop
abbrev TT := St → Hp → (Bool → Hp → Prop) → Prop
abbrev TA := St → Hp → (List V → Hp → Prop) → Prop
/-- what is wanted behind a statement -/
structure Ends where
  nx : St → Hp → Prop
  rt : VK
  bk : St → Hp → Prop := fun _ _ => False
  ct : St → Hp → Prop := fun _ _ => False
abbrev TS := Ends → St → Hp → Prop
def EP (X : Cx) (pins : List (Addr × Obj)) (σ : St) (Q : VK) (u : Value) (s' : Shared) : Prop := ∃ v H', Inv X pins σ H' s' ∧ RelV v u ∧ Q v H'
def TP (X : Cx) (pins : List (Addr × Obj)) (σ : St) (Q : Bool → Hp → Prop) (b : Bool) (s' : Shared) : Prop := ∃ H', Inv X pins σ H' s' ∧ Q b H'
def AP (X : Cx) (pins : List (Addr × Obj)) (σ : St) (Q : List V → Hp → Prop) (us : List Value) (s' : Shared) : Prop := ∃ vs H', Inv X pins σ H' s' ∧ Vals vs us ∧ Q vs H'
def SP (X : Cx) (pins : List (Addr × Obj)) (D : Ends) (f : Flow) (s' : Shared) : Prop :=
  match f with
  | .next => ∃ σ' H', Inv X pins σ' H' s' ∧ D.nx σ' H'
  | .brk => ∃ σ' H', Inv X pins σ' H' s' ∧ D.bk σ' H'
  | .cont => ∃ σ' H', Inv X pins σ' H' s' ∧ D.ct σ' H'
  | .ret u => ∃ v σ' H', Inv X pins σ' H' s' ∧ RelV v u ∧ D.rt v H'
def PE (X : Cx) (e : Expr) (t : TE) : Prop :=
  ∀ (pins : List (Addr × Obj)) (s : Shared) (σ : St) (H : Hp) (Q : VK), Inv X pins σ H s → t σ H Q → wpAny (model X.prog X.w) X.A (eval e X.env) (EP X pins σ Q) X.xe s
def PT (X : Cx) (e : Expr) (t : TT) : Prop :=
  ∀ (pins : List (Addr × Obj)) (s : Shared) (σ : St) (H : Hp) (Q : Bool → Hp → Prop), Inv X pins σ H s → t σ H Q → wpAny (model X.prog X.w) X.A (isTrue e X.env (eval e X.env)) (TP X pins σ Q) X.xe s
/-- a test whatever its 'whole' is (and, or) -/
def PW (X : Cx) (e : Expr) (t : TT) : Prop :=
  ∀ (whole : Sem Value) (pins : List (Addr × Obj)) (s : Shared) (σ : St) (H : Hp) (Q : Bool → Hp → Prop), Inv X pins σ H s → t σ H Q → wpAny (model X.prog X.w) X.A (isTrue e X.env whole) (TP X pins σ Q) X.xe s
theorem PW.pt {X : Cx} {e : Expr} {t : TT} (h : PW X e t) : PT X e t := h _
/-- an argument list (no star), from the left -/
def PA (X : Cx) (es : List Expr) (t : TA) : Prop :=
  ∀ (pos : Pos) (pins : List (Addr × Obj)) (s : Shared) (σ : St) (H : Hp) (Q : List V → Hp → Prop), Inv X pins σ H s → t σ H Q → wpAny (model X.prog X.w) X.A (spliced (backTo pos (starEach es X.env))) (AP X pins σ Q) X.xe s
def PS (X : Cx) (st : Stmt) (t : TS) : Prop :=
  ∀ (pins : List (Addr × Obj)) (s : Shared) (σ : St) (H : Hp) (D : Ends), Inv X pins σ H s → t D σ H → wpAny (model X.prog X.w) X.A (exec st X.env) (SP X pins D) X.xe s
def PSs (X : Cx) (st : List Stmt) (t : TS) : Prop :=
  ∀ (pins : List (Addr × Obj)) (s : Shared) (σ : St) (H : Hp) (D : Ends), Inv X pins σ H s → t D σ H → wpAny (model X.prog X.w) X.A (execs st X.env) (SP X pins D) X.xe s
/-- weaken the end -/
theorem thn {α : Type} {t : Sem α} {Q Q' : α → Shared → Prop} {M : Model} {A : Around} {E : Value → Shared → Prop} {s : Shared} (h : wpAny M A t Q E s) (hQ : ∀ a s, Q a s → Q' a s) : wpAny M A t Q' E s := wpAny_mono h hQ fun _ _ x => x
end L2
namespace L2
open PySem PySem.Spec PyProof.Rows
section
variable {X : Cx}
/-- two expressions in a row -/
theorem bin {a b : Expr} {ta tb : TE} (ha : PE X a ta) (hb : PE X b tb) {pins : List (Addr × Obj)} {s : Shared} {σ : St} {H : Hp} {R : V → V → Hp → Prop} (I : Inv X pins σ H s) (h : ta σ H fun x H1 => tb σ H1 fun y H2 => R x y H2)
    {α : Type} {Q : α → Shared → Prop} {f : Value → Value → Sem α}
    (hf : ∀ v u s2 x y H2, Inv X pins σ H2 s2 → RelV x v → RelV y u → R x y H2 → wpAny (model X.prog X.w) X.A (f v u) Q X.xe s2) :
    wpAny (model X.prog X.w) X.A (eval a X.env) (fun v s₁ => wpAny (model X.prog X.w) X.A (eval b X.env) (fun u s₂ => wpAny (model X.prog X.w) X.A (f v u) Q X.xe s₂) X.xe s₁) X.xe s := by
  refine thn (ha pins s σ H _ I h) fun v s1 ⟨x, H1, I1, r1, q1⟩ => ?_
  refine thn (hb pins s1 σ H1 _ I1 q1) fun u s2 ⟨y, H2, I2, r2, q2⟩ => ?_
  exact hf v u s2 x y H2 I2 r1 r2 q2
/-! ### names and constants -/
def tVar (i : Nat) : TE := fun σ H Q => ∃ v, σ[i]? = some (some v) ∧ Q v H
def tC (v : V) : TE := fun _ H Q => Q v H
theorem pe_var {i : Nat} {x : Str} {pos : Pos} (hN : X.N[i]? = some x) (hv : Vis X.env.scope x) (hd : (x == ("__debug__" : Str)) = false := by decide) (hcd : (x == ("__classdict__" : Str)) = false := by decide) : PE X (.Name x pos) (tVar i) := by
  intro pins s σ H Q I h
  obtain ⟨v, e, h⟩ := h
  obtain ⟨m, hn, hl⟩ := I.loc
  obtain ⟨u, r, l⟩ := hl i x v hN e hv
  have fin : EP X pins σ Q u s := ⟨v, H, I, r, h⟩
  rcases l with ⟨hk, hm⟩ | ⟨hk, c, hc, hcell⟩
  · exact wpAny_Name (wpAny_loadName_local I.ok.kind hk hn hm fin) hd
  · rcases hk with hk | hk
    · exact wpAny_Name (wpAny_loadName_cell I.ok.kind hk hc hcell fin) hd
    · exact wpAny_Name (wpAny_loadName_free I.ok.kind hk hc hcell fin hcd) hd
theorem pe_int {i j pos} : PE X (.Constant (.int i) j pos) (tC (.int i)) := fun _ _ _ H _ I h => wpAny_Constant_int ⟨.int i, H, I.tok _, ⟨_, rfl⟩, h⟩
theorem pe_bl {b j pos} : PE X (.Constant (.bool b) j pos) (tC (.bl b)) := fun _ _ _ H _ I h => Constant_bool ⟨.bl b, H, I, rfl, h⟩
theorem pe_non {j pos} : PE X (.Constant .none j pos) (tC .non) := fun _ _ _ H _ I h => Constant_none ⟨.non, H, I, rfl, h⟩
theorem pe_str {x j pos} : PE X (.Constant (.str x) j pos) (tC (.str x)) := fun _ _ _ H _ I h => Calls.Constant_str ⟨.str x, H, I.tok _, ⟨_, rfl⟩, h⟩
/-- a global name of the def -/
def Gl (X : Cx) (x : Str) : Prop := X.env.kindOf x = some .globalImplicit
theorem ld_glob {E : Value → Shared → Prop} {pins : List (Addr × Obj)} {s : Shared} {σ : St} {H : Hp} {x : Str} {u : Value} {pos : Pos} {Q : Value → Shared → Prop} (I : Inv X pins σ H s) (hg : Gl X x) (hm : X.mg x = some u) (h : Q u s)
    (hd : (x == ("__debug__" : Str)) = false := by decide) : wpAny (model X.prog X.w) X.A (eval (.Name x pos) X.env) Q E s :=
  Calls.Name_function_global I.ok.kind hg (Calls.loadGlobal_global (by rw [I.ok.glob]; exact I.mod.glob.keeps I.bk) hm h) hd
theorem ld_blt {E : Value → Shared → Prop} {pins : List (Addr × Obj)} {s : Shared} {σ : St} {H : Hp} {x : Str} {u : Value} {pos : Pos} {Q : Value → Shared → Prop} (I : Inv X pins σ H s) (hg : Gl X x) (hm : X.mg x = none) (hv : bootBuiltins x = some u) (h : Q u s)
    (hn : x ≠ "__name__" := by decide) (hd : (x == ("__debug__" : Str)) = false := by decide) : wpAny (model X.prog X.w) X.A (eval (.Name x pos) X.env) Q E s := by
  obtain ⟨mb, h1, h2⟩ := I.mod.blt
  exact Calls.Name_function_global I.ok.kind hg (Calls.loadGlobal_builtin (by rw [I.ok.glob]; exact I.mod.glob.keeps I.bk) hm (by rw [I.ok.blt]; exact h1.keeps I.bk) ((h2 x hn).trans hv) h) hd
/-- a module's constant, a class, a function, as a value -/
theorem pe_glob {x : Str} {v : V} {u : Value} {pos : Pos} (hg : Gl X x) (hm : X.mg x = some u) (r : RelV v u) (hd : (x == ("__debug__" : Str)) = false := by decide) : PE X (.Name x pos) (tC v) :=
  fun _ _ _ H _ I h => ld_glob I hg hm ⟨v, H, I, r, h⟩ hd
theorem pe_bltn {x : Str} {v : V} {u : Value} {pos : Pos} (hg : Gl X x) (hm : X.mg x = none) (hv : bootBuiltins x = some u) (r : RelV v u) (hn : x ≠ "__name__" := by decide) (hd : (x == ("__debug__" : Str)) = false := by decide) : PE X (.Name x pos) (tC v) :=
  fun _ _ _ H _ I h => ld_blt I hg hm hv ⟨v, H, I, r, h⟩ hn hd
/-! ### arithmetic -/
/-- two ints -/
def t2I (ta tb : TE) (k : Int → Int → Hp → Prop) : St → Hp → Prop := fun σ H => ta σ H fun x H1 => tb σ H1 fun y H2 => ∃ i j, x = .int i ∧ y = .int j ∧ k i j H2
variable {a b : Expr} {ta tb : TE} {pos : Pos}
/-! ### comparisons -/
def PC (X : Cx) (op : CmpOp) (a b : Expr) (t : TE) : Prop :=
  ∀ (pins : List (Addr × Obj)) (s : Shared) (σ : St) (H : Hp) (Q : VK), Inv X pins σ H s → t σ H Q →
    wpAny (model X.prog X.w) X.A (eval a X.env) (fun v s₁ => wpAny (model X.prog X.w) X.A (eval b X.env) (fun u s₂ => wpAny (model X.prog X.w) X.A (compareOp op v u) (EP X pins σ Q) X.xe s₂) X.xe s₁) X.xe s
theorem nobehind (b : Expr) {op : CmpOp} (h : op ≠ .In) (h2 : op ≠ .NotIn) : behindInMarks op b = false := by
  have e1 : (op == CmpOp.In) = false := by cases op <;> first | rfl | exact absurd rfl h
  have e2 : (op == CmpOp.NotIn) = false := by cases op <;> first | rfl | exact absurd rfl h2
  cases b <;> simp [behindInMarks, e1, e2]
def tCmp (p : Int → Int → Bool) (ta tb : TE) : TE := fun σ H Q => t2I ta tb (fun i j H2 => Q (.bl (p i j)) H2) σ H
abbrev tLt : TE → TE → TE := tCmp fun i j => decide (i < j)
abbrev tLe : TE → TE → TE := tCmp fun i j => decide (i ≤ j)
abbrev tGt : TE → TE → TE := tCmp fun i j => decide (j < i)
abbrev tGe : TE → TE → TE := tCmp fun i j => decide (j ≤ i)
abbrev tEqI : TE → TE → TE := tCmp fun i j => decide (i = j)
abbrev tNeI : TE → TE → TE := tCmp fun i j => !decide (i = j)
/-- a comparison as a value, as a test -/
def tB (t : TE) : TT := fun σ H Q => t σ H fun x H1 => ∃ c, x = .bl c ∧ Q c H1
theorem pt_cmp {op : CmpOp} {t : TE} (h : PC X op a b t) (h1 : behindInMarks op b = false := by first | exact nobehind _ (by decide) (by decide) | rfl) : PT X (.Compare a [op] [b] pos) (tB t) := by
  intro pins s σ H Q I hw
  refine wpAny_isTrue_Compare1 (thn (h pins s σ H _ I hw) fun v s1 h1 => thn h1 fun u s2 h2 => thn h2 fun c s3 ⟨x, H1, I1, r1, q1⟩ => ?_) h1
  obtain ⟨d, rfl, q⟩ := q1
  cases r1
  exact wpAny_truthy_bool ⟨H1, I1, q⟩
/-- an expression whose value is a bool, as a test -/
theorem pt_val {e : Expr} {t : TE} (h : PE X e t) (he : ∀ whole, isTrue e X.env whole = (do let v ← whole; standAt e.pos; holding [v] (truthy v)) := by intro _; rfl) : PT X e (tB t) := by
  intro pins s σ H Q I hw
  refine isTrue_plain (thn (h pins s σ H _ I hw) fun v s1 ⟨x, H1, I1, r1, q1⟩ => ?_) (he _)
  obtain ⟨d, rfl, q⟩ := q1
  cases r1
  exact wpAny_truthy_bool ⟨H1, I1, q⟩
/-! ### and, or, not -/
variable {tA tB' : TT} {rest : List Expr}
def tAnd (t u : TT) : TT := fun σ H Q => t σ H fun c H1 => if c = true then u σ H1 Q else Q false H1
def tOr (t u : TT) : TT := fun σ H Q => t σ H fun c H1 => if c = true then Q true H1 else u σ H1 Q
def tNot (t : TT) : TT := fun σ H Q => t σ H fun c H1 => Q (!c) H1
theorem pw_and1 (ha : PT X a tA) : PW X (.BoolOp .And [a] pos) tA := by
  intro wh pins s σ H Q I h
  refine isTrue_and (thn (ha pins s σ H Q I h) fun c s1 e => ?_)
  cases c with
  | true => exact isTrue_and_nil e
  | false => exact e
theorem pw_or1 (ha : PT X a tA) : PW X (.BoolOp .Or [a] pos) tA := by
  intro wh pins s σ H Q I h
  refine isTrue_or (thn (ha pins s σ H Q I h) fun c s1 e => ?_)
  cases c with
  | false => exact isTrue_or_nil e
  | true => exact e
theorem pw_and (ha : PT X a tA) (hb : PW X (.BoolOp .And (b :: rest) pos) tB') : PW X (.BoolOp .And (a :: b :: rest) pos) (tAnd tA tB') := by
  intro wh pins s σ H Q I h
  refine isTrue_and (thn (ha pins s σ H _ I h) fun c s1 ⟨H1, I1, q1⟩ => ?_)
  cases c with
  | true => exact hb wh pins s1 σ H1 Q I1 q1
  | false => exact ⟨H1, I1, q1⟩
theorem pw_or (ha : PT X a tA) (hb : PW X (.BoolOp .Or (b :: rest) pos) tB') : PW X (.BoolOp .Or (a :: b :: rest) pos) (tOr tA tB') := by
  intro wh pins s σ H Q I h
  refine isTrue_or (thn (ha pins s σ H _ I h) fun c s1 ⟨H1, I1, q1⟩ => ?_)
  cases c with
  | true => exact ⟨H1, I1, q1⟩
  | false => exact hb wh pins s1 σ H1 Q I1 q1
theorem pt_not (ha : PT X a tA) : PT X (.UnaryOp .Not a pos) (tNot tA) := by
  intro pins s σ H Q I h
  exact isTrue_not (ha pins s σ H (fun c H1 => Q (!c) H1) I h)
/-- .. as values (bools) -/
def tAndV (ta tb : TE) : TE := fun σ H Q => ta σ H fun x H1 => ∃ c, x = .bl c ∧ if c = true then tb σ H1 Q else Q (.bl false) H1
def tOrV (ta tb : TE) : TE := fun σ H Q => ta σ H fun x H1 => ∃ c, x = .bl c ∧ if c = true then Q (.bl true) H1 else tb σ H1 Q
theorem pe_one {op} {t : TE} (h : PE X a t) : PE X (.BoolOp op [a] pos) t := fun pins s σ H Q I hw => BoolOp_one (h pins s σ H Q I hw)
theorem pe_and (ha : PE X a ta) (hb : PE X (.BoolOp .And (b :: rest) pos) tb) : PE X (.BoolOp .And (a :: b :: rest) pos) (tAndV ta tb) := by
  intro pins s σ H Q I h
  refine BoolOp_and (thn (ha pins s σ H _ I h) fun v s1 ⟨x, H1, I1, r1, q1⟩ => ?_)
  obtain ⟨c, rfl, q1⟩ := q1
  cases r1
  refine wpAny_truthy_bool ?_
  cases c with
  | true => exact hb pins s1 σ H1 Q I1 q1
  | false => exact ⟨.bl false, H1, I1, rfl, q1⟩
theorem pe_or (ha : PE X a ta) (hb : PE X (.BoolOp .Or (b :: rest) pos) tb) : PE X (.BoolOp .Or (a :: b :: rest) pos) (tOrV ta tb) := by
  intro pins s σ H Q I h
  refine BoolOp_or (thn (ha pins s σ H _ I h) fun v s1 ⟨x, H1, I1, r1, q1⟩ => ?_)
  obtain ⟨c, rfl, q1⟩ := q1
  cases r1
  refine wpAny_truthy_bool ?_
  cases c with
  | false => exact hb pins s1 σ H1 Q I1 q1
  | true => exact ⟨.bl true, H1, I1, rfl, q1⟩
end
end L2
namespace L2
open PySem PySem.Spec PyProof.Rows
/-! ### a list, a tuple that is read: tracked, frozen, or an object of the module -/
def SqL (K : PySem.W.Frag) (H : Hp) (a : Addr) (xs : List V) : Prop :=
  Rd H a (.lst xs) ∨
    ∃ (o : Obj) (its : Array Value) (n : Nat), K.lookup a = some o ∧ o.cls = .type "list" ∧ o.dict = none ∧ o.data = .seq its n ∧ its.size ≤ sizeLine ∧ Vals xs its.toList
def SqT (K : PySem.W.Frag) (H : Hp) (a : Addr) (xs : List V) : Prop :=
  Rd H a (.tup xs) ∨
    ∃ (o : Obj) (its : Array Value) (n : Nat), K.lookup a = some o ∧ o.cls = .type "tuple" ∧ o.data = .seq its n ∧ its.size ≤ sizeLine ∧ Vals xs its.toList
def absV : Value → Option V
  | .none => some .non
  | .bool b => some (.bl b)
  | .int i _ => some (.int i)
  | .str x _ => some (.str x)
  | .bytes b _ => some (.byt b)
  | .float b _ => some (.flt b)
  | .ref a => some (.ref a)
  | .type n => some (.ty n)
  | _ => none
theorem RelV.abs {x : V} {u : Value} (r : RelV x u) : absV u = some x := by
  cases x with
  | non => cases r; rfl
  | bl _ => cases r; rfl
  | int _ => obtain ⟨t, rfl⟩ := r; rfl
  | str _ => obtain ⟨t, rfl⟩ := r; rfl
  | byt _ => obtain ⟨t, rfl⟩ := r; rfl
  | flt _ => obtain ⟨t, rfl⟩ := r; rfl
  | ref _ => cases r; rfl
  | ty _ => cases r; rfl
theorem RelV.inj {x y : V} {u : Value} (r : RelV x u) (q : RelV y u) : x = y := Option.some.inj (r.abs.symm.trans q.abs)
theorem Vals.inj : ∀ {xs ys : List V} {us : List Value}, Vals xs us → Vals ys us → xs = ys
  | _, _, _, .nil, .nil => rfl
  | _, _, _, .cons r t, .cons r' t' => by rw [r.inj r', Vals.inj t t']
section
variable {X : Cx} {pins : List (Addr × Obj)} {σ : St} {H : Hp} {s : Shared} {a : Addr} {xs ys : List V}
theorem SqL.of {K : PySem.W.Frag} (h : H a = some (.lst xs)) : SqL K H a xs := .inl (.inl h)
theorem SqT.of {K : PySem.W.Frag} (h : H a = some (.tup xs)) : SqT K H a xs := .inl (.inl h)
theorem Inv.list (I : Inv X pins σ H s) (h : SqL X.K H a xs) : ∃ its : List Value, Vals xs its ∧ PlainL s.heap a its.toArray ∧ xs.length ≤ sizeLine := by
  rcases h with h | ⟨o, its, n, hk, hc, hd, hs, hz, r⟩
  · obtain ⟨z, its, n, r, e⟩ := h.ok I.hok
    exact ⟨its, r, ⟨_, n, e, rfl, rfl, rfl⟩, z⟩
  · refine ⟨its.toList, r, ⟨o, n, I.kIn a o hk, hc, hd, by simpa using hs⟩, ?_⟩
    have e := r.length
    simp only [Array.length_toList] at e
    omega
theorem Inv.tuple (I : Inv X pins σ H s) (h : SqT X.K H a xs) : ∃ its : List Value, Vals xs its ∧ IsTup s.heap a its.toArray ∧ xs.length ≤ sizeLine := by
  rcases h with h | ⟨o, its, n, hk, hc, hs, hz, r⟩
  · obtain ⟨z, its, r, p⟩ := h.ok I.hok
    exact ⟨its, r, p, z⟩
  · refine ⟨its.toList, r, ⟨o, I.kIn a o hk, hc, n, by simpa using hs⟩, ?_⟩
    have e := r.length
    simp only [Array.length_toList] at e
    omega
theorem Inv.list_inj (I : Inv X pins σ H s) (h : SqL X.K H a xs) (h' : SqL X.K H a ys) : xs = ys := by
  obtain ⟨its, r, ⟨o, n, e, _, _, d⟩, _⟩ := I.list h
  obtain ⟨its', r', ⟨o', n', e', _, _, d'⟩, _⟩ := I.list h'
  rw [e] at e'; cases e'
  rw [d] at d'
  injection d' with d1 _
  have : its = its' := by simpa using congrArg Array.toList d1
  subst this
  exact r.inj r'
theorem Inv.tuple_inj (I : Inv X pins σ H s) (h : SqT X.K H a xs) (h' : SqT X.K H a ys) : xs = ys := by
  obtain ⟨its, r, ⟨o, e, _, n, d⟩, _⟩ := I.tuple h
  obtain ⟨its', r', ⟨o', e', _, n', d'⟩, _⟩ := I.tuple h'
  rw [e] at e'; cases e'
  rw [d] at d'
  injection d' with d1 _
  have : its = its' := by simpa using congrArg Array.toList d1
  subst this
  exact r.inj r'
end
/-! ### another wish about exceptions -/
abbrev Cx.wish (X : Cx) (E : Value → Shared → Prop) : Cx := { X with xe := E }
/-- no exception leaves -/
abbrev Cx.nox (X : Cx) : Cx := X.wish fun _ _ => False
theorem Cx.Ok.wish {X : Cx} (ok : X.Ok) (E : Value → Shared → Prop) : (X.wish E).Ok :=
  ⟨ok.mod, ok.kind, ok.glob, ok.blt, ok.above, ok.inj, ok.has, ok.cab, ok.hd, ok.frames, ok.stk, ok.exf, ok.bs, ok.bsz, ok.noex, ok.exfs, ok.funs, ok.frf⟩
theorem Cx.Ok.unwish {X : Cx} {E : Value → Shared → Prop} (ok : (X.wish E).Ok) : X.Ok :=
  ⟨ok.mod, ok.kind, ok.glob, ok.blt, ok.above, ok.inj, ok.has, ok.cab, ok.hd, ok.frames, ok.stk, ok.exf, ok.bs, ok.bsz, ok.noex, ok.exfs, ok.funs, ok.frf⟩
section
variable {X : Cx} {pins : List (Addr × Obj)} {σ : St} {H : Hp} {s : Shared} {E : Value → Shared → Prop}
theorem Inv.wish (I : Inv X pins σ H s) (E : Value → Shared → Prop) : Inv (X.wish E) pins σ H s := ⟨I.ok.wish E, I.os, I.bare, I.base, I.loc, I.cell, I.free, I.freeC, I.pin, I.hok, I.len⟩
theorem Inv.unwish (I : Inv (X.wish E) pins σ H s) : Inv X pins σ H s := ⟨I.ok.unwish, I.os, I.bare, I.base, I.loc, I.cell, I.free, I.freeC, I.pin, I.hok, I.len⟩
theorem SP.unwish {D : Ends} {f : Flow} {s' : Shared} (h : SP (X.wish E) pins D f s') : SP X pins D f s' := by
  cases f with
  | next => obtain ⟨σ', H', I, q⟩ := h; exact ⟨σ', H', I.unwish, q⟩
  | brk => obtain ⟨σ', H', I, q⟩ := h; exact ⟨σ', H', I.unwish, q⟩
  | cont => obtain ⟨σ', H', I, q⟩ := h; exact ⟨σ', H', I.unwish, q⟩
  | ret u => obtain ⟨v, σ', H', I, r, q⟩ := h; exact ⟨v, σ', H', I.unwish, r, q⟩
theorem PSs.nox {st : List Stmt} {t : TS} (h : PSs X.nox st t) : PSs X st t := fun pins s σ H D I hw =>
  wpAny_mono (h pins s σ H D (I.wish _) hw) (fun _ _ q => q.unwish) fun _ _ z => False.elim z
end
/-! ### blocks and small statements -/
section
variable {X : Cx} {st : Stmt} {rest : List Stmt} {t u : TS} {e : Expr} {te : TE} {pos : Pos}
def tNext : TS := fun D σ H => D.nx σ H
def tSeq (t u : TS) : TS := fun D σ H => t { D with nx := u D } σ H
theorem pss_nil : PSs X [] tNext := fun _ _ σ H _ I h => wpAny_execs_nil ⟨σ, H, I, h⟩
theorem pss_cons (h1 : PS X st t) (h2 : PSs X rest u) : PSs X (st :: rest) (tSeq t u) := by
  intro pins s σ H D I h
  refine wpAny_execs_cons (thn (h1 pins s σ H { D with nx := u D } I h) fun f s1 q => ?_)
  cases f with
  | next =>
    obtain ⟨σ', H', I', q⟩ := q
    exact h2 pins s1 σ' H' D I' q
  | ret v => exact q
  | brk => exact q
  | cont => exact q
theorem pss_one (h1 : PS X st t) : PSs X [st] t := by
  intro pins s σ H D I h
  refine wpAny_execs_cons (thn (h1 pins s σ H D I h) fun f s1 q => ?_)
  cases f with
  | next => exact wpAny_execs_nil q
  | ret v => exact q
  | brk => exact q
  | cont => exact q
def tCont : TS := fun D σ H => D.ct σ H
theorem ps_continue : PS X (.Continue pos) tCont := fun _ _ σ H _ I h => wpAny_Continue ⟨σ, H, I, h⟩
/-- in a def's body nothing is shown -/
theorem Inv.quiet {pins : List (Addr × Obj)} {σ : St} {H : Hp} {s : Shared} (I : Inv X pins σ H s) : interactive X.env = false := by simp [interactive, I.ok.kind]
/-- an expression whose value is dropped -/
def tDrop (te : TE) : TS := fun D σ H => te σ H fun _ H1 => D.nx σ H1
theorem ps_expr (he : PE X e te) (hs : swapsWith e none pos.line X.env = pure false := by rfl) : PS X (.Expr e pos) (tDrop te) := by
  intro pins s σ H D I h
  exact wpAny_Expr_any (thn (he pins s σ H _ I h) fun v s1 ⟨x, H1, I1, r1, q1⟩ => ⟨σ, H1, I1, q1⟩) I.quiet hs
def tRet (te : TE) : TS := fun D σ H => te σ H D.rt
theorem ps_ret (he : PE X e te) : PS X (.Return (some e) pos) (tRet te) := by
  intro pins s σ H D I h
  exact wpAny_Return_some (thn (he pins s σ H _ I h) fun v s1 ⟨x, H1, I1, r1, q1⟩ => ⟨x, σ, H1, I1, r1, q1⟩)
def tIfS (c : TT) (t u : TS) : TS := fun D σ H => c σ H fun b H1 => if b = true then t D σ H1 else u D σ H1
theorem ps_if {c : Expr} {a b : List Stmt} {tc : TT} (hc : PT X c tc) (ha : PSs X a t) (hb : PSs X b u) : PS X (.If c a b pos) (tIfS tc t u) := by
  intro pins s σ H D I h
  refine wpAny_If (thn (hc pins s σ H _ I h) fun d s1 ⟨H1, I1, q1⟩ => ?_)
  cases d with
  | true => exact ha pins s1 σ H1 D I1 q1
  | false => exact hb pins s1 σ H1 D I1 q1
end
/-! ### targets -/
abbrev TG := V → St → Hp → (St → Hp → Prop) → Prop
abbrev TGs := List V → St → Hp → (St → Hp → Prop) → Prop
def PG (X : Cx) (target : Expr) (t : TG) : Prop :=
  ∀ (pins : List (Addr × Obj)) (s : Shared) (σ : St) (H : Hp) (v : V) (u : Value) (Q : St → Hp → Prop), Inv X pins σ H s → RelV v u → t v σ H Q →
    wpAny (model X.prog X.w) X.A (assign target X.env u) (fun _ s' => ∃ σ' H', Inv X pins σ' H' s' ∧ Q σ' H') X.xe s
/-- o[i] = v, by values -/
abbrev TSet := V → V → V → Hp → (Hp → Prop) → Prop
def PSet (X : Cx) (t : TSet) : Prop :=
  ∀ (pins : List (Addr × Obj)) (s : Shared) (σ : St) (H : Hp) (o i v : V) (ov iv u : Value) (Q : Hp → Prop), Inv X pins σ H s → RelV o ov → RelV i iv → RelV v u → t o i v H Q →
    wpAny (model X.prog X.w) X.A (setItem ov iv u) (fun _ s' => ∃ H', Inv X pins σ H' s' ∧ Q H') X.xe s
/-- a op= b, by values -/
abbrev TIp := V → V → Hp → VK → Prop
def PIp (X : Cx) (op : Operator) (t : TIp) : Prop :=
  ∀ (pins : List (Addr × Obj)) (s : Shared) (σ : St) (H : Hp) (x y : V) (v u : Value) (Q : VK), Inv X pins σ H s → RelV x v → RelV y u → t x y H Q →
    wpAny (model X.prog X.w) X.A (inplaceOp op v u) (EP X pins σ Q) X.xe s
section
variable {X : Cx} {pos : Pos}
def gName (i : Nat) : TG := fun v σ H Q => Q (σ.set i (some v)) H
theorem pg_name {i : Nat} {x : Str} (hN : X.N.Nodup) (hi : X.N[i]? = some x) (hx : Loc X.env.scope x) (hf : X.fn x = true ∨ X.env.scope.names.lookup x = some .local := by first | exact .inl rfl | exact .inr rfl | assumption) : PG X (.Name x pos) (gName i) := by
  intro pins s σ H v u Q I r h
  exact wpAny_assign_Name (store_ok I hN hi hx r (fun s' I' => ⟨_, H, I', h⟩) hf)
/-- o[i] = .. -/
def gSub (to ti : TE) (t : TSet) : TG := fun v σ H Q => to σ H fun o H1 => ti σ H1 fun i H2 => t o i v H2 fun H3 => Q σ H3
theorem pg_sub {o i : Expr} {to ti : TE} {t : TSet} (ho : PE X o to) (hi : PE X i ti) (hs : PSet X t)
    (ha : ∀ v, assign (.Subscript o i pos) X.env v = (do
      let ov ← holding [v] (eval o X.env)
      let iv ← holding [v, ov] (eval i X.env)
      standAt pos
      holding [v, ov, iv] (setItem ov iv v)
      release [v, ov, iv] []) := by intro _; rfl) : PG X (.Subscript o i pos) (gSub to ti t) := by
  intro pins s σ H v u Q I r h
  rw [ha]
  refine wpAny_bind (wpAny_holding (thn (ho pins s σ H _ I h) fun ov s1 ⟨x, H1, I1, r1, q1⟩ => ?_))
  refine wpAny_bind (wpAny_holding (thn (hi pins s1 σ H1 _ I1 q1) fun iv s2 ⟨y, H2, I2, r2, q2⟩ => ?_))
  refine wpAny_bind (wpAny_standAt (wpAny_bind (wpAny_holding (thn (hs pins s2 σ H2 x y v ov iv u _ I2 r1 r2 r q2) fun _ s3 ⟨H3, I3, q3⟩ => ?_))))
  exact wpAny_release ⟨σ, H3, I3, q3⟩
/-- target = value -/
def tAsg (te : TE) (g : TG) : TS := fun D σ H => te σ H fun x H1 => g x σ H1 D.nx
theorem ps_asg {tg e : Expr} {te : TE} {g : TG} (he : PE X e te) (hg : PG X tg g) (hs : swapsWithSole [tg] e pos.line X.env = pure false := by rfl) (hw : swappedStores [tg] e X.env = pure none := by rfl)
    (h1 : (assignEach [tg] X.env).map (·.2) = [assign tg X.env] := by rfl) : PS X (.Assign [tg] e pos) (tAsg te g) := by
  intro pins s σ H D I h
  refine wpAny_Assign_stores (thn (he pins s σ H _ I h) fun v s1 ⟨x, H1, I1, r1, q1⟩ => ?_) hs hw
  rw [h1]
  exact thn (hg pins s1 σ H1 x v _ I1 r1 q1) fun _ s2 q => q
/-- name = value -/
theorem ps_set {i : Nat} {x : Str} {e : Expr} {te : TE} {pos' : Pos} (hN : X.N.Nodup) (hi : X.N[i]? = some x) (hx : Loc X.env.scope x) (he : PE X e te) (hs : swapsWith e (some (.Name x pos')) pos.line X.env = pure false := by rfl) (hf : X.fn x = true ∨ X.env.scope.names.lookup x = some .local := by first | exact .inl rfl | exact .inr rfl | assumption) :
    PS X (.Assign [.Name x pos'] e pos) (tAsg te (gName i)) := by
  intro pins s σ H D I h
  refine wpAny_Assign_Name (thn (he pins s σ H _ I h) fun v s1 ⟨y, H1, I1, r1, q1⟩ => ?_) hs
  exact store_ok I1 hN hi hx r1 (fun s2 I2 => ⟨_, H1, I2, q1⟩) hf
/-- name op= e -/
def tAug (i : Nat) (te : TE) (ti : TIp) : TS := fun D σ H => ∃ x, σ[i]? = some (some x) ∧ te σ H fun y H1 => ti x y H1 fun z H2 => D.nx (σ.set i (some z)) H2
theorem ps_aug {i : Nat} {x : Str} {e : Expr} {te : TE} {op : Operator} {ti : TIp} {pos' : Pos} (hN : X.N.Nodup) (hi : X.N[i]? = some x) (hx : Loc X.env.scope x) (he : PE X e te) (ho : PIp X op ti) (hf : X.fn x = true ∨ X.env.scope.names.lookup x = some .local := by first | exact .inl rfl | exact .inr rfl | assumption) :
    PS X (.AugAssign (.Name x pos') op e pos) (tAug i te ti) := by
  intro pins s σ H D I h
  obtain ⟨v, e1, h⟩ := h
  obtain ⟨m, hn, hl⟩ := I.loc
  have vis : Vis X.env.scope x := by rcases hx with k | k; exact .inl k; exact .inr (.inl k)
  obtain ⟨u, r, l⟩ := hl i x v hi e1 vis
  refine wpAny_AugAssign_Name ?_
  have go : wpAny (model X.prog X.w) X.A (eval e X.env) (fun w s₂ => wpAny (model X.prog X.w) X.A (inplaceOp op u w) (fun r s₃ => wpAny (model X.prog X.w) X.A (storeName X.env x r) (fun _ => SP X pins D .next) X.xe s₃) X.xe s₂) X.xe s := by
    refine thn (he pins s σ H _ I h) fun w s1 ⟨y, H1, I1, r1, q1⟩ => ?_
    refine thn (ho pins s1 σ H1 v y u w _ I1 r r1 q1) fun z s2 ⟨zv, H2, I2, r2, q2⟩ => ?_
    exact store_ok I2 hN hi hx r2 (fun s3 I3 => ⟨_, H2, I3, q2⟩) hf
  rcases l with ⟨hk, hm⟩ | ⟨hk, c, hc, hcell⟩
  · exact wpAny_loadName_local I.ok.kind hk hn hm go
  · rcases hk with hk | hk
    · exact wpAny_loadName_cell I.ok.kind hk hc hcell go
    · rcases hx with k | k
      · have : X.env.scope.names.lookup x = some .free := hk
        rw [k] at this; cases this
      · have : X.env.scope.names.lookup x = some .free := hk
        rw [k] at this; cases this
/-- ints -/
def ipI (f : Int → Int → Int) : TIp := fun x y H Q => ∃ i j, x = .int i ∧ y = .int j ∧ Q (.int (f i j)) H
theorem ip_add : PIp X .Add (ipI fun i j => i + j) := by
  intro pins s σ H x y v u Q I r1 r2 h
  obtain ⟨i, j, e1, e2, q⟩ := h
  subst e1; subst e2
  obtain ⟨t, rfl⟩ := r1
  obtain ⟨t', rfl⟩ := r2
  exact iadd_int ⟨.int _, H, I.tok _, ⟨_, rfl⟩, q⟩
end
/-! ### while -/
section
variable {X : Cx} {pos : Pos}
/-- the invariant W with its measure -/
def tWhile (c : TT) (tb : TS) : TS := fun D σ H => ∃ W : Nat → St → Hp → Prop, (∃ m, W m σ H) ∧ ∀ m σ H, W m σ H →
  c σ H fun b H1 => if b = true then ∃ N : St → Hp → Prop, (∀ σ' H', N σ' H' → ∃ m', m' < m ∧ W m' σ' H') ∧ tb { D with nx := N, ct := N, bk := D.nx } σ H1 else D.nx σ H1
theorem ps_while {c : Expr} {body : List Stmt} {tc : TT} {tb : TS} (hp : PassesOwn (model X.prog X.w) X.A X.env X.xe) (hc : PT X c tc) (hb : PSs X body tb) : PS X (.While c body [] pos) (tWhile tc tb) := by
  intro pins s σ H D I h
  obtain ⟨W, ⟨m0, w0⟩, turn⟩ := h
  refine wpAny_While (codeAny_whileLoop (fun n s' => ∃ σ' H', Inv X pins σ' H' s' ∧ W n σ' H') ?_ m0 ⟨σ, H, I, w0⟩)
  rintro n s1 ⟨σ1, H1, I1, w1⟩
  refine wpAny_passesOwn hp (thn (hc pins s1 σ1 H1 _ I1 (turn n σ1 H1 w1)) fun b s2 ⟨H2, I2, q2⟩ => ?_)
  cases b with
  | true =>
    obtain ⟨N, hN, q2⟩ := q2
    rw [if_pos rfl]
    refine wpAny_passesOwn hp (thn (hb pins s2 σ1 H2 _ I2 q2) fun f s3 q3 => ?_)
    cases f with
    | next =>
      obtain ⟨σ3, H3, I3, n3⟩ := q3
      obtain ⟨m', hm, w3⟩ := hN σ3 H3 n3
      exact ⟨m', hm, σ3, H3, I3, w3⟩
    | cont =>
      obtain ⟨σ3, H3, I3, n3⟩ := q3
      obtain ⟨m', hm, w3⟩ := hN σ3 H3 n3
      exact ⟨m', hm, σ3, H3, I3, w3⟩
    | brk => exact q3
    | ret v => exact q3
  | false =>
    rw [if_neg Bool.false_ne_true]
    exact wpAny_execs_nil ⟨σ1, H2, I2, q2⟩
end
/-! ### what a loop or a comprehension walks -/
/-- at turn i: it yields x (the heap may grow), or it stops -/
structure It where
  go : Nat → Hp → Prop
  yld : Nat → Hp → V → Hp → Prop
  stop : Nat → Hp → Prop
/-- the iterator's own objects may turn: they are not the frame's, not pinned, younger than the entry (or a comprehension's own) -/
def FpOk (X : Cx) (pins : List (Addr × Obj)) (H : Hp) (b : Addr) : Prop :=
  H b = none ∧ b ≠ X.env.locals ∧ b ∉ X.fs ∧ (b ∈ X.ex ∨ X.s₀.heap.objs.size ≤ b) ∧ (∀ x c, X.env.cells.lookup x = some c → c ≠ b) ∧ ∀ p ∈ X.pn ++ pins, p.1 ≠ b
theorem Inv.fpOk {X : Cx} {pins : List (Addr × Obj)} {σ : St} {H H' : Hp} {s : Shared} {b : Addr} (I : Inv X pins σ H s) (hb : s.heap.objs.size ≤ b) (hn : H' b = none) : FpOk X pins H' b := by
  refine ⟨hn, Nat.ne_of_gt (Nat.lt_of_lt_of_le I.lt hb), I.nofs hb, .inr (Nat.le_trans I.sz hb), fun x c e z => ?_, fun p hp z => ?_⟩
  · obtain ⟨v, q⟩ := I.cell x c e
    exact absurd (Nat.lt_of_lt_of_le q.lt (by rw [z]; exact hb)) (Nat.lt_irrefl _)
  · exact absurd (Nat.lt_of_lt_of_le (Heap.lt_size (I.pin p hp).1) (by rw [z]; exact hb)) (Nat.lt_irrefl _)
structure Turn (P : Program) (w : World) (K : PySem.W.Frag) (tg : Expr) (J : It) (fp : List Addr) (it : Addr) (tn : Nat → Heap → Prop) : Prop where
  mem : it ∈ fp
  obj : ∀ i h, tn i h → ∀ b ∈ fp, ∃ o, h.get? b = some o ∧ ∀ v, o.data ≠ .cell v
  keep : ∀ i h h', tn i h → (∀ b ∈ fp, ∀ o, h.get? b = some o → h'.get? b = some o) → tn i h'
  item : ∀ (X : Cx), X.prog = P → X.w = w → X.K = K → X.calm = true → ∀ (i : Nat) (pins : List (Addr × Obj)) (s : Shared) (σ : St) (H : Hp) (E : Value → Shared → Prop), Inv X pins σ H s → (∀ b ∈ fp, FpOk X pins H b) → tn i s.heap → J.go i H →
    wpAny (model P w) X.A (pyNext (.ref it)) (fun r s1 => ∃ u, r = some u ∧
      wpAny (model P w) X.A (letOwnedTupleGo tg (.ref it) u) (fun _ s2 => ∃ x H', Inv X pins σ H' s2 ∧ RelV x u ∧ J.yld i H x H' ∧ tn (i + 1) s2.heap ∧ ∀ b ∈ fp, H' b = none) E s1) E s
  done : ∀ (X : Cx), X.prog = P → X.w = w → X.K = K → X.calm = true → ∀ (i : Nat) (pins : List (Addr × Obj)) (s : Shared) (σ : St) (H : Hp) (E : Value → Shared → Prop), Inv X pins σ H s → (∀ b ∈ fp, FpOk X pins H b) → tn i s.heap → J.stop i H →
    wpAny (model P w) X.A (pyNext (.ref it)) (fun r s1 => r = none ∧ Inv X pins σ H s1) E s
  self : ∀ (A : Around) (i : Nat) (s : Shared) (Q : Value → Shared → Prop) (E : Value → Shared → Prop), tn i s.heap → Q (.ref it) s → wpAny (model P w) A (pyIter (.ref it)) Q E s
abbrev TI := St → Hp → (It → Hp → Prop) → Prop
/-- an iterator has come -/
def PIE (X : Cx) (pins : List (Addr × Obj)) (σ : St) (tg : Expr) (R : It → Hp → Prop) (itv : Value) (s2 : Shared) : Prop :=
  ∃ (it : Addr) (fp : List Addr) (tn : Nat → Heap → Prop) (J : It) (H' : Hp), itv = .ref it ∧ Inv X pins σ H' s2 ∧ Turn X.prog X.w X.K tg J fp it tn ∧ tn 0 s2.heap ∧ (∀ b ∈ fp, FpOk X pins H' b) ∧ R J H'
def PI (X : Cx) (tg iter : Expr) (wi : TI) : Prop :=
  ∀ (pins : List (Addr × Obj)) (s : Shared) (σ : St) (H : Hp) (R : It → Hp → Prop), Inv X pins σ H s → wi σ H R →
    wpAny (model X.prog X.w) X.A (eval iter X.env) (fun v s1 => wpAny (model X.prog X.w) X.A (pyIter v) (PIE X pins σ tg R) X.xe s1) X.xe s
/-- the step ahead of the store is nothing for an iterator that keeps no tuple -/
theorem go_of {M : Model} {A : Around} {E : Value → Shared → Prop} {s : Shared} {tg : Expr} {it : Addr} {u : Value} {o : Obj} {n : String} {vs : Array Value} {Q : Unit → Shared → Prop} (ho : s.heap.get? it = some o) (hc : o.cls = .type n) (hd : o.data = .fields vs)
    (hn : ["enumerate", "zip", "dict_itemiterator", "dict_reverseitemiterator", "odict_iterator", "itertools.zip_longest", "itertools.pairwise"].contains n = false) (hQ : Q () s) : wpAny M A (letOwnedTupleGo tg (.ref it) u) Q E s := by
  unfold letOwnedTupleGo
  cases tg <;> first
    | exact wpAny_pure hQ
    | (cases u <;> first
        | exact wpAny_pure hQ
        | (refine wpAny_bind (wpAny_load ho ?_)
           rw [hc, hd]
           show wpAny M A (if (["enumerate", "zip", "dict_itemiterator", "dict_reverseitemiterator", "odict_iterator", "itertools.zip_longest", "itertools.pairwise"].contains n && vs[0]? == some (rawInt _)) = true then _ else _) Q E s
           rw [if_neg (by intro h; rw [hn, Bool.false_and] at h; cases h)]
           exact wpAny_pure hQ))
/-- the list at a, as it stands at each turn (a loop may append to it) -/
def Itl (K : PySem.W.Frag) (a : Addr) : It :=
  ⟨fun i H => ∃ xs x, SqL K H a xs ∧ xs[i]? = some x, fun i H x H' => H' = H ∧ ∀ xs, SqL K H a xs → xs[i]? = some x, fun i H => ∃ xs, SqL K H a xs ∧ xs.length ≤ i⟩
def Itt (K : PySem.W.Frag) (a : Addr) : It :=
  ⟨fun i H => ∃ xs x, SqT K H a xs ∧ xs[i]? = some x, fun i H x H' => H' = H ∧ ∀ xs, SqT K H a xs → xs[i]? = some x, fun i H => ∃ xs, SqT K H a xs ∧ xs.length ≤ i⟩
/-- lo, lo + 1, .. (n of them) -/
def Itr (lo : Int) (n : Nat) : It := ⟨fun i _ => i < n, fun i H x H' => H' = H ∧ x = .int (lo + i), fun i _ => n ≤ i⟩
theorem turn_list {P : Program} {w : World} {K : PySem.W.Frag} {tg : Expr} (a it : Addr) : Turn P w K tg (Itl K a) [it] it (fun i h => h.IsListIter it a i) where
  mem := by simp
  obj := fun i h st b hb => by
    have e : b = it := by simpa using hb
    subst e
    obtain ⟨o, e, c, d⟩ := st
    exact ⟨o, e, fun v z => by rw [d] at z; cases z⟩
  keep := fun i h h' st k => st.at fun o e => k it (by simp) o e
  item := by
    intro X hP hw hK hc i pins s σ H E I hf st hg
    subst hP hw hK
    obtain ⟨xs, x, hq, hx⟩ := hg
    obtain ⟨its, rv, p, hz⟩ := I.list hq
    obtain ⟨u, hu, ru⟩ := rv.get hx
    obtain ⟨f0, f1, f2, f3, f4, f5⟩ := hf it (by simp)
    refine wpAny_pyNext_list_item st p.isList (x := u) (by simpa using hu) fun h' st' sb => ?_
    have I1 : Inv X pins σ H { s with heap := h' } := I.turned (t' := s.toks) (fun b o hb e => (sb.2 b hb).trans e) f0 f1 f3 f4 f5
    obtain ⟨o, e, c, d⟩ := id st'
    exact ⟨u, rfl, go_of (s := { s with heap := h' }) e c d (by decide) ⟨x, H, I1, ru, ⟨rfl, fun ys hy => by rw [I.list_inj hy hq]; exact hx⟩, st', fun b hb => (hf b hb).1⟩⟩
  done := by
    intro X hP hw hK hc i pins s σ H E I hf st hg
    subst hP hw hK
    obtain ⟨xs, hq, hx⟩ := hg
    obtain ⟨its, rv, p, hz⟩ := I.list hq
    obtain ⟨f0, f1, f2, f3, f4, f5⟩ := hf it (by simp)
    have hl := rv.length
    exact wpAny_pyNext_list_end (I.ok.hd hc) st p.isList (by simp; omega) fun h' eb => ⟨rfl, I.turned (t' := s.toks) (fun b o hb e => eb b o hb e) f0 f1 f3 f4 f5⟩
  self := fun _ _ _ _ _ st h => wpAny_pyIter_listiter st h
theorem turn_tuple {P : Program} {w : World} {K : PySem.W.Frag} {tg : Expr} (a it : Addr) : Turn P w K tg (Itt K a) [it] it (fun i h => h.IsTupleIter it a i) where
  mem := by simp
  obj := fun i h st b hb => by
    have e : b = it := by simpa using hb
    subst e
    obtain ⟨o, e, c, d⟩ := st
    exact ⟨o, e, fun v z => by rw [d] at z; cases z⟩
  keep := fun i h h' st k => st.at fun o e => k it (by simp) o e
  item := by
    intro X hP hw hK hc i pins s σ H E I hf st hg
    subst hP hw hK
    obtain ⟨xs, x, hq, hx⟩ := hg
    obtain ⟨its, rv, p, hz⟩ := I.tuple hq
    obtain ⟨u, hu, ru⟩ := rv.get hx
    obtain ⟨f0, f1, f2, f3, f4, f5⟩ := hf it (by simp)
    refine wpAny_pyNext_tuple_item st (show s.heap.IsTuple a its.toArray from p) (x := u) (by simpa using hu) fun h' st' sb => ?_
    have I1 : Inv X pins σ H { s with heap := h' } := I.turned (t' := s.toks) (fun b o hb e => (sb.2 b hb).trans e) f0 f1 f3 f4 f5
    obtain ⟨o, e, c, d⟩ := id st'
    exact ⟨u, rfl, go_of (s := { s with heap := h' }) e c d (by decide) ⟨x, H, I1, ru, ⟨rfl, fun ys hy => by rw [I.tuple_inj hy hq]; exact hx⟩, st', fun b hb => (hf b hb).1⟩⟩
  done := by
    intro X hP hw hK hc i pins s σ H E I hf st hg
    subst hP hw hK
    obtain ⟨xs, hq, hx⟩ := hg
    obtain ⟨its, rv, p, hz⟩ := I.tuple hq
    obtain ⟨f0, f1, f2, f3, f4, f5⟩ := hf it (by simp)
    have hl := rv.length
    exact wpAny_pyNext_tuple_end (I.ok.hd hc) st (show s.heap.IsTuple a its.toArray from p) (by simp; omega) fun h' eb => ⟨rfl, I.turned (t' := s.toks) (fun b o hb e => eb b o hb e) f0 f1 f3 f4 f5⟩
  self := fun _ _ _ _ _ st h => wpAny_pyIter_tupleiter st h
theorem turn_range {P : Program} {w : World} {K : PySem.W.Frag} {tg : Expr} (it : Addr) (lo : Int) (n : Nat) : Turn P w K tg (Itr lo n) [it] it (fun i h => IsRangeIter h it (lo + (i : Nat) * 1) ((n : Int) - (i : Nat)) 1) where
  mem := by simp
  obj := fun i h st b hb => by
    have e : b = it := by simpa using hb
    subst e
    exact ⟨_, st, fun v z => by
      have z' : Data.fields _ = Data.cell v := z
      cases z'⟩
  keep := fun i h h' st k => k it (by simp) _ st
  item := by
    intro X hP hw hK hc i pins s σ H E I hf st hg
    subst hP hw hK
    obtain ⟨f0, f1, f2, f3, f4, f5⟩ := hf it (by simp)
    have W := Walks.range (prog := X.prog) (w := X.w) (I.ok.hd hc) it lo 1 n
    refine W.item i s _ _ hg st fun v h' tk hv st' kk => ?_
    obtain ⟨t, rfl⟩ := hv
    have I1 : Inv X pins σ H { s with heap := h', toks := tk } := I.turned (fun b o hb e => kk b o (by simpa using hb) e) f0 f1 f3 f4 f5
    refine ⟨_, rfl, go_of (s := { s with heap := h', toks := tk }) (n := "range_iterator") st' rfl rfl (by decide) ⟨.int (lo + i), H, I1, ⟨t, ?_⟩, ⟨rfl, rfl⟩, st', fun b hb => (hf b hb).1⟩⟩
    rw [Int.mul_one]
  done := by
    intro X hP hw hK hc i pins s σ H E I hf st hg
    subst hP hw hK
    obtain ⟨f0, f1, f2, f3, f4, f5⟩ := hf it (by simp)
    exact wpAny_pyNext_range_end (I.ok.hd hc) st (by have : n ≤ i := hg; omega) fun h' eb => ⟨rfl, I.turned (t' := s.toks) (fun b o hb e => eb b o hb e) f0 f1 f3 f4 f5⟩
  self := fun _ _ _ _ _ st h => wpAny_pyIter_rangeiter st h
end L2
namespace L2
open PySem PySem.Spec PyProof.Rows
section
variable {X : Cx} {tg : Expr}
def iList (K : PySem.W.Frag) (tl : TE) : TI := fun σ H R => tl σ H fun x H1 => ∃ a, x = .ref a ∧ (∃ xs, SqL K H1 a xs) ∧ R (Itl K a) H1
def iTup (K : PySem.W.Frag) (tl : TE) : TI := fun σ H R => tl σ H fun x H1 => ∃ a, x = .ref a ∧ (∃ xs, SqT K H1 a xs) ∧ R (Itt K a) H1
theorem pi_list {l : Expr} {tl : TE} (hl : PE X l tl) : PI X tg l (iList X.K tl) := by
  intro pins s σ H R I h
  refine thn (hl pins s σ H _ I h) fun v s1 ⟨x, H1, I1, r1, q1⟩ => ?_
  obtain ⟨a, e, ⟨xs, hq⟩, q⟩ := q1
  subst e
  cases r1
  obtain ⟨its, rv, p, hz⟩ := I1.list hq
  refine wpAny_pyIter_list p.isList ?_
  refine ⟨s1.heap.objs.size, [s1.heap.objs.size], _, _, H1, rfl, I1.kept (t' := s1.toks) fun b o e => Heap.get?_push_of_some _ e, turn_list a _, ⟨_, Heap.get?_push_size _ rfl, rfl, rfl⟩, fun b hb => ?_, q⟩
  have e : b = s1.heap.objs.size := by simpa using hb
  subst e
  exact I1.fpOk (Nat.le_refl _) (I1.hok.fresh (Nat.le_refl _))
theorem pi_tup {l : Expr} {tl : TE} (hl : PE X l tl) : PI X tg l (iTup X.K tl) := by
  intro pins s σ H R I h
  refine thn (hl pins s σ H _ I h) fun v s1 ⟨x, H1, I1, r1, q1⟩ => ?_
  obtain ⟨a, e, ⟨xs, hq⟩, q⟩ := q1
  subst e
  cases r1
  obtain ⟨its, rv, p, hz⟩ := I1.tuple hq
  refine wpAny_pyIter_tuple (show s1.heap.IsTuple a its.toArray from p) ?_
  refine ⟨s1.heap.objs.size, [s1.heap.objs.size], _, _, H1, rfl, I1.kept (t' := s1.toks) fun b o e => Heap.get?_push_of_some _ e, turn_tuple a _, ⟨_, Heap.get?_push_size _ rfl, rfl, rfl⟩, fun b hb => ?_, q⟩
  have e : b = s1.heap.objs.size := by simpa using hb
  subst e
  exact I1.fpOk (Nat.le_refl _) (I1.hok.fresh (Nat.le_refl _))
/-- a range object just made, walked -/
theorem range_it {pins : List (Addr × Obj)} {σ : St} {H : Hp} {s : Shared} {R : It → Hp → Prop} {E : Value → Shared → Prop} {lo hi : Int} {t u v : Tok} {tk : Nat} (I : Inv X pins σ H s) (h1 : -(2 ^ 62) ≤ lo) (h2 : lo < 2 ^ 62) (h3 : -(2 ^ 62) ≤ hi) (h4 : hi < 2 ^ 62)
    (q : R (Itr lo (hi - lo).toNat) H) : wpAny (model X.prog X.w) X.A (pyIter (.ref s.heap.objs.size)) (PIE X pins σ tg R) E { s with heap := s.heap.push { cls := .type "range", data := .fields #[.int lo t, .int hi u, .int 1 v] }, toks := tk } := by
  refine wpAny_pyIter_range (IsRange.new ..) (small_one h1 h2 h3 h4) ?_
  have I1 : Inv X pins σ H { s with heap := s.heap.push { cls := .type "range", data := .fields #[.int lo t, .int hi u, .int 1 v] }, toks := tk } := I.kept fun b o e => Heap.get?_push_of_some _ e
  refine ⟨(s.heap.push { cls := .type "range", data := .fields #[.int lo t, .int hi u, .int 1 v] }).objs.size, [(s.heap.push { cls := .type "range", data := .fields #[.int lo t, .int hi u, .int 1 v] }).objs.size], _, _, H, rfl,
    I1.kept (t' := tk) fun b o e => Heap.get?_push_of_some _ e, turn_range _ lo (hi - lo).toNat, ?_, fun b hb => ?_, q⟩
  · have e1 : lo + ((0 : Nat) : Int) * 1 = lo := by simp
    have e2 : (((hi - lo).toNat : Nat) : Int) - ((0 : Nat) : Int) = Builtin.Range.rangeSize lo hi 1 := by rw [rangeSize_one]; split <;> omega
    show IsRangeIter _ _ (lo + ((0 : Nat) : Int) * 1) ((((hi - lo).toNat : Nat) : Int) - ((0 : Nat) : Int)) 1
    rw [e1, e2]
    exact Heap.get?_push_size _ rfl
  · have e : b = (s.heap.push { cls := .type "range", data := .fields #[.int lo t, .int hi u, .int 1 v] }).objs.size := by simpa using hb
    subst e
    exact I1.fpOk (Nat.le_refl _) (I1.hok.fresh (Nat.le_refl _))
def iRng1 (ta : TA) : TI := fun σ H R => ta σ H fun vs H1 => ∃ j : Int, vs = [.int j] ∧ -(2 ^ 62) ≤ j ∧ j < 2 ^ 62 ∧ R (Itr 0 j.toNat) H1
def iRng2 (ta : TA) : TI := fun σ H R => ta σ H fun vs H1 => ∃ i j : Int, vs = [.int i, .int j] ∧ (-(2 ^ 62) ≤ i ∧ i < 2 ^ 62 ∧ -(2 ^ 62) ≤ j ∧ j < 2 ^ 62) ∧ R (Itr i (j - i).toNat) H1
theorem pi_range1 {a : Expr} {ta : TA} {p pos : Pos} (hg : Gl X "range") (hm : X.mg "range" = none) (ha : PA X [a] ta) (hs : starEach [a] X.env = [(false, eval a X.env)] := by rfl) : PI X tg (.Call (.Name "range" p) [a] [] pos) (iRng1 ta) := by
  intro pins s σ H R I h
  refine Call_ (ld_blt I hg hm boot_range (PyProof.Rows.callWith_type1 (thn (ha pos pins s σ H _ I h) fun us s1 ⟨vs, H1, I1, r1, q1⟩ => ?_) hs rfl))
  obtain ⟨j, e, q1, q2, q⟩ := q1
  subst e
  cases r1 with
  | cons r rr =>
    cases rr
    obtain ⟨t, rfl⟩ := r
    exact call_range_1 (range_it I1 (by omega) (by omega) q1 q2 (by simpa using q))
theorem pi_range2 {a b : Expr} {ta : TA} {p pos : Pos} (hg : Gl X "range") (hm : X.mg "range" = none) (ha : PA X [a, b] ta) (hs : starEach [a, b] X.env = [(false, eval a X.env), (false, eval b X.env)] := by rfl) (hs2 : starEach [b] X.env = [(false, eval b X.env)] := by rfl) :
    PI X tg (.Call (.Name "range" p) [a, b] [] pos) (iRng2 ta) := by
  intro pins s σ H R I h
  refine Call_ (ld_blt I hg hm boot_range (PyProof.Rows.callWith_type1 (thn (ha pos pins s σ H _ I h) fun us s1 ⟨vs, H1, I1, r1, q1⟩ => ?_) (by rw [hs, hs2]) (by rw [hs2]; rfl)))
  obtain ⟨i, j, e, ⟨q1, q2, q3, q4⟩, q⟩ := q1
  subst e
  cases r1 with
  | cons r rr =>
    cases rr with
    | cons r' rr =>
      cases rr
      obtain ⟨t, rfl⟩ := r
      obtain ⟨t', rfl⟩ := r'
      exact call_range_2 (range_it I1 q1 q2 q3 q4 q)
/-! ### for -/
/-- W: the invariant by the turn and a measure; N: what the body is to reach -/
def tFor (wi : TI) (g : TG) (tb : TS) : TS := fun D σ H => wi σ H fun J H1 => ∃ W : Nat → Nat → St → Hp → Prop, (∃ m, W 0 m σ H1) ∧ ∀ i m σ H, W i m σ H →
  (J.stop i H ∧ D.nx σ H) ∨ (J.go i H ∧ ∃ N : St → Hp → Prop, (∀ σ' H', N σ' H' → ∃ m', m' < m ∧ W (i + 1) m' σ' H') ∧ ∀ x H', J.yld i H x H' → g x σ H' fun σ2 H2 => tb { D with nx := N, ct := N, bk := D.nx } σ2 H2)
/-- the records at fp as they stand -/
def pinsAt (fp : List Addr) (h : Heap) : List (Addr × Obj) := fp.filterMap fun b => (h.get? b).map fun o => (b, o)
theorem mem_pinsAt {fp : List Addr} {h : Heap} {b : Addr} {o : Obj} (hb : b ∈ fp) (e : h.get? b = some o) : (b, o) ∈ pinsAt fp h := List.mem_filterMap.mpr ⟨b, hb, by rw [e]; rfl⟩
theorem of_pinsAt {fp : List Addr} {h : Heap} {p : Addr × Obj} (hp : p ∈ pinsAt fp h) : p.1 ∈ fp ∧ h.get? p.1 = some p.2 := by
  obtain ⟨b, hb, e⟩ := List.mem_filterMap.mp hp
  cases q : h.get? b with
  | none => rw [q] at e; cases e
  | some o =>
    rw [q] at e
    have e' : (b, o) = p := Option.some.inj e
    subst e'
    exact ⟨hb, q⟩
theorem Inv.pinned {pins : List (Addr × Obj)} {σ : St} {H : Hp} {s : Shared} {fp : List Addr} (I : Inv X pins σ H s) (hf : ∀ b ∈ fp, FpOk X pins H b) (ho : ∀ b ∈ fp, ∃ o, s.heap.get? b = some o ∧ ∀ v, o.data ≠ .cell v) : Inv X (pins ++ pinsAt fp s.heap) σ H s :=
  I.pins_of fun p hp => (List.mem_append.mp hp).elim (fun z => I.pin p (List.mem_append_right _ z)) fun z => by
    obtain ⟨hb, e⟩ := of_pinsAt z
    obtain ⟨f0, f1, f2, _⟩ := hf p.1 hb
    obtain ⟨o, e', d⟩ := ho p.1 hb
    rw [e] at e'; cases e'
    exact ⟨e, f0, f1, f2, d⟩
theorem Inv.unpinned {pins pl : List (Addr × Obj)} {σ : St} {H : Hp} {s : Shared} (I : Inv X (pins ++ pl) σ H s) : Inv X pins σ H s := I.pins_of fun p hp => I.pin p (List.mem_append_right _ (List.mem_append_left _ hp))
theorem ps_for {iter : Expr} {body : List Stmt} {wi : TI} {g : TG} {tb : TS} {pos : Pos} (hp : PassesOwn (model X.prog X.w) X.A X.env X.xe) (hc : X.calm = true) (hi : PI X tg iter wi) (hg : PG X tg g) (hb : PSs X body tb)
    (hs : ∀ x, foldedSetIterable iter X.env x = pure x := by intro _; rfl) : PS X (.For tg iter body [] pos) (tFor wi g tb) := by
  intro pins s σ H D I h
  refine wpAny_For (thn (hi pins s σ H _ I h) fun v s1 h1 => thn h1 fun itv s2 h2 => ?_) hs
  obtain ⟨it, fp, tn, J, H2, e, I2, T, st2, f2, W, ⟨m0, w0⟩, turn⟩ := h2
  subst e
  -- what stays true of the iterator's objects through the loop
  have stat : ∀ {H' : Hp}, (∀ b ∈ fp, H' b = none) → ∀ b ∈ fp, FpOk X pins H' b := fun hn b hb => ⟨hn b hb, (f2 b hb).2⟩
  refine codeAny_forLoop_any (fun n s' => ∃ i σ' H', Inv X pins σ' H' s' ∧ tn i s'.heap ∧ (∀ b ∈ fp, H' b = none) ∧ W i n σ' H') ?_ m0 ⟨0, σ, H2, I2, st2, fun b hb => (f2 b hb).1, w0⟩
  rintro n s3 ⟨i, σ3, H3, I3, st3, fr3, w3⟩
  rcases turn i n σ3 H3 w3 with ⟨stop, qn⟩ | ⟨go, N, hN, step⟩
  · refine wpAny_passesOwn hp (thn (T.done X rfl rfl rfl hc i pins s3 σ3 H3 X.xe I3 (stat fr3) st3 stop) fun r s4 ⟨hr, I4⟩ => ?_)
    subst hr
    exact wpAny_execs_nil ⟨σ3, H3, I4, qn⟩
  · refine wpAny_passesOwn hp (thn (T.item X rfl rfl rfl hc i pins s3 σ3 H3 X.xe I3 (stat fr3) st3 go) fun r s4 ⟨u, hr, h4⟩ => ?_)
    subst hr
    refine wpAny_passesOwn hp (thn h4 fun _ s5 ⟨x, H5, I5, r5, y5, st5, fr5⟩ => ?_)
    have I5' := I5.pinned (stat fr5) (T.obj _ _ st5)
    refine wpAny_passesOwn hp (thn (hg _ s5 σ3 H5 x u _ I5' r5 (step x H5 y5)) fun _ s6 ⟨σ6, H6, I6, q6⟩ => ?_)
    refine wpAny_passesOwn hp (thn (hb _ s6 σ6 H6 _ I6 q6) fun f s7 q7 => ?_)
    have again : ∀ {σ7 : St} {H7 : Hp}, Inv X (pins ++ pinsAt fp s5.heap) σ7 H7 s7 → N σ7 H7 → ∃ m, m < n ∧ ∃ i σ' H', Inv X pins σ' H' s7 ∧ tn i s7.heap ∧ (∀ b ∈ fp, H' b = none) ∧ W i m σ' H' := fun {σ7 H7} I7 n7 => by
      obtain ⟨m', hm, w7⟩ := hN σ7 H7 n7
      refine ⟨m', hm, i + 1, σ7, H7, I7.unpinned, T.keep _ _ _ st5 fun b hb o e => (I7.pin (b, o) (List.mem_append_right _ (List.mem_append_right _ (mem_pinsAt hb e)))).1, fun b hb => ?_, w7⟩
      obtain ⟨o, e, d⟩ := T.obj _ _ st5 b hb
      exact (I7.pin (b, o) (List.mem_append_right _ (List.mem_append_right _ (mem_pinsAt hb e)))).2.1
    cases f with
    | next => obtain ⟨σ7, H7, I7, n7⟩ := q7; exact again I7 n7
    | cont => obtain ⟨σ7, H7, I7, n7⟩ := q7; exact again I7 n7
    | brk => obtain ⟨σ7, H7, I7, q7⟩ := q7; exact ⟨σ7, H7, I7.unpinned, q7⟩
    | ret v => obtain ⟨x7, σ7, H7, I7, r7, q7⟩ := q7; exact ⟨x7, σ7, H7, I7.unpinned, r7, q7⟩
end
/-! ### the forms one uses -/
/-- over a list that the body leaves as it is -/
theorem for_list {K : PySem.W.Frag} {a : Addr} {xs : List V} {g : TG} {tb : TS} {D : Ends} {σ : St} {H : Hp} (Pv : Nat → St → Hp → Prop) (h0 : Pv 0 σ H) (hl : ∀ i σ H, i ≤ xs.length → Pv i σ H → SqL K H a xs)
    (hs : ∀ i x σ H, xs[i]? = some x → Pv i σ H → g x σ H fun σ2 H2 => tb { D with nx := Pv (i + 1), ct := Pv (i + 1), bk := D.nx } σ2 H2) (hd : ∀ σ H, Pv xs.length σ H → D.nx σ H) :
    ∃ W : Nat → Nat → St → Hp → Prop, (∃ m, W 0 m σ H) ∧ ∀ i m σ H, W i m σ H →
      ((Itl K a).stop i H ∧ D.nx σ H) ∨ ((Itl K a).go i H ∧ ∃ N : St → Hp → Prop, (∀ σ' H', N σ' H' → ∃ m', m' < m ∧ W (i + 1) m' σ' H') ∧ ∀ x H', (Itl K a).yld i H x H' → g x σ H' fun σ2 H2 => tb { D with nx := N, ct := N, bk := D.nx } σ2 H2) := by
  refine ⟨fun i m σ H => m = xs.length - i ∧ i ≤ xs.length ∧ Pv i σ H, ⟨xs.length, by simp, Nat.zero_le _, h0⟩, ?_⟩
  rintro i m σ H ⟨rfl, hi, p⟩
  have q := hl i σ H hi p
  by_cases hlt : i < xs.length
  · refine .inr ⟨⟨xs, xs[i], q, by simp [hlt]⟩, Pv (i + 1), fun σ' H' p' => ⟨xs.length - (i + 1), by omega, rfl, hlt, p'⟩, fun x H' y => ?_⟩
    obtain ⟨e, y⟩ := y
    subst e
    exact hs i x σ _ (y xs q) p
  · have e : i = xs.length := by omega
    subst e
    exact .inl ⟨⟨xs, q, Nat.le_refl _⟩, hd σ H p⟩
theorem for_range {lo : Int} {n : Nat} {g : TG} {tb : TS} {D : Ends} {σ : St} {H : Hp} (Pv : Nat → St → Hp → Prop) (h0 : Pv 0 σ H)
    (hs : ∀ i σ H, i < n → Pv i σ H → g (.int (lo + i)) σ H fun σ2 H2 => tb { D with nx := Pv (i + 1), ct := Pv (i + 1), bk := D.nx } σ2 H2) (hd : ∀ σ H, Pv n σ H → D.nx σ H) :
    ∃ W : Nat → Nat → St → Hp → Prop, (∃ m, W 0 m σ H) ∧ ∀ i m σ H, W i m σ H →
      ((Itr lo n).stop i H ∧ D.nx σ H) ∨ ((Itr lo n).go i H ∧ ∃ N : St → Hp → Prop, (∀ σ' H', N σ' H' → ∃ m', m' < m ∧ W (i + 1) m' σ' H') ∧ ∀ x H', (Itr lo n).yld i H x H' → g x σ H' fun σ2 H2 => tb { D with nx := N, ct := N, bk := D.nx } σ2 H2) := by
  refine ⟨fun i m σ H => m = n - i ∧ i ≤ n ∧ Pv i σ H, ⟨n, by simp, Nat.zero_le _, h0⟩, ?_⟩
  rintro i m σ H ⟨rfl, hi, p⟩
  by_cases hlt : i < n
  · refine .inr ⟨hlt, Pv (i + 1), fun σ' H' p' => ⟨n - (i + 1), by omega, rfl, hlt, p'⟩, fun x H' y => ?_⟩
    obtain ⟨e, y⟩ := y
    subst e y
    exact hs i σ _ hlt p
  · have e : i = n := by omega
    subst e
    exact .inl ⟨Nat.le_refl _, hd σ H p⟩
end L2
namespace L2
open PySem PySem.Spec PyProof.Rows
abbrev R2 := V → V → Hp → VK → Prop
/-- a two-place operation on values: f is binaryOp op, inplaceOp op or compareOp op -/
def OpR (X : Cx) (f : Value → Value → Sem Value) (r : R2) : Prop :=
  ∀ (pins : List (Addr × Obj)) (s : Shared) (σ : St) (H : Hp) (x y : V) (v u : Value) (Q : VK), Inv X pins σ H s → RelV x v → RelV y u → r x y H Q →
    wpAny (model X.prog X.w) X.A (f v u) (EP X pins σ Q) X.xe s
/-- a one-place operation -/
def UnR (X : Cx) (f : Value → Sem Value) (r : V → Hp → VK → Prop) : Prop :=
  ∀ (pins : List (Addr × Obj)) (s : Shared) (σ : St) (H : Hp) (x : V) (v : Value) (Q : VK), Inv X pins σ H s → RelV x v → r x H Q →
    wpAny (model X.prog X.w) X.A (f v) (EP X pins σ Q) X.xe s
/-- a call of a value that is known (a builtin, a type) with values -/
def CallR (X : Cx) (f : Value) (r : List V → Hp → VK → Prop) : Prop :=
  ∀ (pins : List (Addr × Obj)) (s : Shared) (σ : St) (H : Hp) (xs : List V) (us : List Value) (Q : VK), Inv X pins σ H s → Vals xs us → r xs H Q →
    wpAny (model X.prog X.w) X.A (call f us) (EP X pins σ Q) X.xe s
def tOp (r : R2) (ta tb : TE) : TE := fun σ H Q => ta σ H fun x H1 => tb σ H1 fun y H2 => r x y H2 Q
def tUn (r : V → Hp → VK → Prop) (ta : TE) : TE := fun σ H Q => ta σ H fun x H1 => r x H1 Q
/-- ints in, under C, and a value out -/
def rI (C : Int → Int → Prop) (g : Int → Int → V) : R2 := fun x y H Q => ∃ i j, x = .int i ∧ y = .int j ∧ C i j ∧ Q (g i j) H
def rI0 (g : Int → Int → V) : R2 := fun x y H Q => ∃ i j, x = .int i ∧ y = .int j ∧ Q (g i j) H
def rU (g : Int → V) : V → Hp → VK → Prop := fun x H Q => ∃ i, x = .int i ∧ Q (g i) H
section
variable {X : Cx} {a b c : Expr} {ta tb tc : TE} {pos : Pos}
theorem binT (ha : PE X a ta) (hb : PE X b tb) {pins : List (Addr × Obj)} {s : Shared} {σ : St} {H : Hp} {R : V → V → Hp → Prop} (I : Inv X pins σ H s)
    (h : ta σ H fun x H1 => tb σ H1 fun y H2 => R x y H2) {Q : Value → Shared → Prop} {f : Value → Value → Sem Value}
    (hf : ∀ v u s2 x y H2, Inv X pins σ H2 s2 → RelV x v → RelV y u → R x y H2 → wpAny (model X.prog X.w) X.A (f v u) Q X.xe s2) :
    wpAny (model X.prog X.w) X.A (eval a X.env) (fun v s₁ => wpAny (model X.prog X.w) X.A (eval b X.env) (fun u s₂ => wpAny (model X.prog X.w) X.A (f v u) Q X.xe s₂) X.xe s₁) X.xe s := by
  refine thn (ha pins s σ H _ I h) fun v s1 ⟨x, H1, I1, r1, q1⟩ => ?_
  refine thn (hb pins s1 σ H1 _ I1 q1) fun u s2 ⟨y, H2, I2, r2, q2⟩ => ?_
  exact hf v u s2 x y H2 I2 r1 r2 q2
theorem pe_op {op : Operator} {r : R2} (ho : OpR X (binaryOp op) r) (ha : PE X a ta) (hb : PE X b tb) : PE X (.BinOp a op b pos) (tOp r ta tb) := by
  intro pins s σ H Q I h
  exact wpAny_BinOp (binT ha hb I h fun v u s2 x y H2 I2 rx ry q => ho pins s2 σ H2 x y v u Q I2 rx ry q)
theorem pe_un {op : UnaryOp} {r : V → Hp → VK → Prop} (ho : UnR X (unaryOp op) r) (ha : PE X a ta) : PE X (.UnaryOp op a pos) (tUn r ta) := by
  intro pins s σ H Q I h
  exact UnaryOp_ (thn (ha pins s σ H _ I h) fun v s1 ⟨x, H1, I1, r1, q1⟩ => ho pins s1 σ H1 x v Q I1 r1 q1)
/-! ### ints -/
theorem opI {f : Value → Value → Sem Value} {C : Int → Int → Prop} {g : Int → Int → Int}
    (rule : ∀ (i j : Int) (t u : Tok) (s : Shared) (Q : Value → Shared → Prop) (E : Value → Shared → Prop), C i j → Q (.int (g i j) s.toks) { s with toks := s.toks + 1 } → wpAny (model X.prog X.w) X.A (f (.int i t) (.int j u)) Q E s) :
    OpR X f (rI C fun i j => .int (g i j)) := by
  intro pins s σ H x y v u Q I rx ry h
  obtain ⟨i, j, rfl, rfl, hc, q⟩ := h
  obtain ⟨t, rfl⟩ := rx
  obtain ⟨t', rfl⟩ := ry
  exact rule i j t t' s _ _ hc ⟨.int (g i j), H, I.tok _, ⟨_, rfl⟩, q⟩
theorem opI0 {f : Value → Value → Sem Value} {g : Int → Int → Int}
    (rule : ∀ (i j : Int) (t u : Tok) (s : Shared) (Q : Value → Shared → Prop) (E : Value → Shared → Prop), Q (.int (g i j) s.toks) { s with toks := s.toks + 1 } → wpAny (model X.prog X.w) X.A (f (.int i t) (.int j u)) Q E s) :
    OpR X f (rI0 fun i j => .int (g i j)) := by
  intro pins s σ H x y v u Q I rx ry h
  obtain ⟨i, j, rfl, rfl, q⟩ := h
  obtain ⟨t, rfl⟩ := rx
  obtain ⟨t', rfl⟩ := ry
  exact rule i j t t' s _ _ ⟨.int (g i j), H, I.tok _, ⟨_, rfl⟩, q⟩
theorem opB0 {f : Value → Value → Sem Value} {g : Int → Int → Bool}
    (rule : ∀ (i j : Int) (t u : Tok) (s : Shared) (Q : Value → Shared → Prop) (E : Value → Shared → Prop), Q (.bool (g i j)) s → wpAny (model X.prog X.w) X.A (f (.int i t) (.int j u)) Q E s) :
    OpR X f (rI0 fun i j => .bl (g i j)) := by
  intro pins s σ H x y v u Q I rx ry h
  obtain ⟨i, j, rfl, rfl, q⟩ := h
  obtain ⟨t, rfl⟩ := rx
  obtain ⟨t', rfl⟩ := ry
  exact rule i j t t' s _ _ ⟨.bl (g i j), H, I, rfl, q⟩
def CDiv (i j : Int) : Prop := 0 < j ∧ j < 1073741824
def CMul (i j : Int) : Prop := (-(2 ^ 64) < i ∧ i < 2 ^ 64) ∨ (-(2 ^ 64) < j ∧ j < 2 ^ 64)
theorem CMul.ok {i j : Int} (h : CMul i j) : IntMulOk i j := by
  rcases h with ⟨h1, h2⟩ | ⟨h1, h2⟩
  · exact .of_left (intBits_le_64 h1 h2)
  · exact .of_right (intBits_le_64 h1 h2)
theorem op_add : OpR X (binaryOp .Add) (rI0 fun i j => .int (i + j)) := opI0 fun _ _ _ _ _ _ _ q => add_int q
theorem op_sub : OpR X (binaryOp .Sub) (rI0 fun i j => .int (i - j)) := opI0 fun _ _ _ _ _ _ _ q => sub_int q
theorem op_mul : OpR X (binaryOp .Mult) (rI CMul fun i j => .int (i * j)) := opI fun _ _ _ _ _ _ _ hc q => mul_int q hc.ok
/-- // by a positive divisor -/
theorem op_fdiv : OpR X (binaryOp .FloorDiv) (rI CDiv fun i j => .int (i / j)) := opI fun i j _ _ _ _ _ hc q => by
  have h1 : (0 : Int) < j := hc.1
  have h2 : j < 1073741824 := hc.2
  exact floordiv_int (by omega) (by rw [Int.fdiv_eq_ediv_of_nonneg i (by omega)]; exact q) (.inl (PyProof.noPylong_small (by omega)))
/-- % by a positive divisor of any size -/
theorem op_mod : OpR X (binaryOp .Mod) (rI (fun _ j => 0 < j) fun i j => .int (i % j)) := opI fun i j _ _ _ _ _ hc q => by
  have h1 : (0 : Int) < j := hc
  exact mod_int' (by omega) (by rw [Int.fmod_eq_emod_of_nonneg i (by omega)]; exact q)
theorem unI {f : Value → Sem Value} {g : Int → Int}
    (rule : ∀ (i : Int) (t : Tok) (s : Shared) (Q : Value → Shared → Prop) (E : Value → Shared → Prop), Q (.int (g i) s.toks) { s with toks := s.toks + 1 } → wpAny (model X.prog X.w) X.A (f (.int i t)) Q E s) :
    UnR X f (rU fun i => .int (g i)) := by
  intro pins s σ H x v Q I rx h
  obtain ⟨i, rfl, q⟩ := h
  obtain ⟨t, rfl⟩ := rx
  exact rule i t s _ _ ⟨.int (g i), H, I.tok _, ⟨_, rfl⟩, q⟩
theorem un_neg : UnR X (unaryOp .USub) (rU fun i => .int (-i)) := unI fun _ _ _ _ _ q => neg_int q
/-! ### bools among ints: n += (a < b) -/
end
/-! ### comparisons -/
/-- the scalars that == tells apart as data does -/
def scal : V → V → Bool
  | .non, .non => true | .non, .int _ => true | .int _, .non => true | .non, .bl _ => true | .bl _, .non => true | .non, .str _ => true | .str _, .non => true
  | .int _, .int _ => true | .bl _, .bl _ => true | .str _, .str _ => true | .byt _, .byt _ => true
  | .int _, .str _ => true | .str _, .int _ => true | .bl _, .str _ => true | .str _, .bl _ => true
  | _, _ => false
def rEq : R2 := fun x y H Q => scal x y = true ∧ Q (.bl (decide (x = y))) H
def rNe : R2 := fun x y H Q => scal x y = true ∧ Q (.bl (!decide (x = y))) H
theorem dec_int {i j : Int} : decide (V.int i = V.int j) = (i == j) := by
  rw [Bool.eq_iff_iff]
  simp
theorem dec_bl {i j : Bool} : decide (V.bl i = V.bl j) = (i == j) := by
  rw [Bool.eq_iff_iff]
  simp
theorem dec_str {i j : Str} : decide (V.str i = V.str j) = (i == j) := by
  rw [Bool.eq_iff_iff]
  simp
theorem dec_byt {i j : Array UInt8} : decide (V.byt i = V.byt j) = (i.toList == j.toList) := by
  rw [Bool.eq_iff_iff]
  cases i
  cases j
  simp
section
variable {X : Cx} {a b c : Expr} {ta tb tc : TE} {pos : Pos}
theorem fin_bl {pins : List (Addr × Obj)} {σ : St} {H : Hp} {s : Shared} {Q : VK} {k k' : Bool} (I : Inv X pins σ H s) (q : Q (.bl k) H) (e : k = k') : EP X pins σ Q (.bool k') s := by
  subst e
  exact ⟨.bl k, H, I, rfl, q⟩
theorem op_eq : OpR X (compareOp .Eq) rEq := by
  intro pins s σ H x y v u Q I rx ry h
  obtain ⟨hs, q⟩ := h
  cases x with
  | non =>
    cases rx
    cases y with
    | non => cases ry; exact PySem.EqNone.eq_none_none (fin_bl I q (by simp))
    | bl j => cases ry; exact PySem.EqNone.eq_none_bool (fin_bl I q (by simp))
    | int j => obtain ⟨t', rfl⟩ := ry; exact PySem.EqNone.eq_none_int (fin_bl I q (by simp))
    | str j => obtain ⟨t', rfl⟩ := ry; exact PySem.EqNone.eq_none_str (fin_bl I q (by simp))
    | _ => exact absurd (show false = true from hs) Bool.false_ne_true
  | bl i =>
    cases rx
    cases y with
    | non => cases ry; exact PySem.EqNone.eq_bool_none (fin_bl I q (by simp))
    | bl j => cases ry; exact eq_bool (fin_bl I q dec_bl)
    | str j => obtain ⟨t', rfl⟩ := ry; exact PySem.EqMixed.eq_bool_str (fin_bl I q (by simp))
    | _ => exact absurd (show false = true from hs) Bool.false_ne_true
  | int i =>
    obtain ⟨t, rfl⟩ := rx
    cases y with
    | non => cases ry; exact PySem.EqNone.eq_int_none (fin_bl I q (by simp))
    | int j => obtain ⟨t', rfl⟩ := ry; exact eq_int (fin_bl I q dec_int)
    | str j => obtain ⟨t', rfl⟩ := ry; exact PySem.EqMixed.eq_int_str (fin_bl I q (by simp))
    | _ => exact absurd (show false = true from hs) Bool.false_ne_true
  | str i =>
    obtain ⟨t, rfl⟩ := rx
    cases y with
    | non => cases ry; exact PySem.EqNone.eq_str_none (fin_bl I q (by simp))
    | bl j => cases ry; exact PySem.EqMixed.eq_str_bool (fin_bl I q (by simp))
    | int j => obtain ⟨t', rfl⟩ := ry; exact PySem.EqMixed.eq_str_int (fin_bl I q (by simp))
    | str j => obtain ⟨t', rfl⟩ := ry; exact eq_str (fin_bl I q dec_str)
    | _ => exact absurd (show false = true from hs) Bool.false_ne_true
  | byt i =>
    obtain ⟨t, rfl⟩ := rx
    cases y with
    | byt j => obtain ⟨t', rfl⟩ := ry; exact PySem.W.eq_bytes (fin_bl I q dec_byt)
    | _ => exact absurd (show false = true from hs) Bool.false_ne_true
  | _ => cases y <;> exact absurd (show false = true from hs) Bool.false_ne_true
theorem op_ne : OpR X (compareOp .NotEq) rNe := by
  intro pins s σ H x y v u Q I rx ry h
  obtain ⟨hs, q⟩ := h
  cases x with
  | non =>
    cases rx
    cases y with
    | non => cases ry; exact PySem.EqNone.ne_none_none (fin_bl I q (by simp))
    | bl j => cases ry; exact PySem.EqNone.ne_none_bool (fin_bl I q (by simp))
    | int j => obtain ⟨t', rfl⟩ := ry; exact PySem.EqNone.ne_none_int (fin_bl I q (by simp))
    | str j => obtain ⟨t', rfl⟩ := ry; exact PySem.EqNone.ne_none_str (fin_bl I q (by simp))
    | _ => exact absurd (show false = true from hs) Bool.false_ne_true
  | bl i =>
    cases rx
    cases y with
    | non => cases ry; exact PySem.EqNone.ne_bool_none (fin_bl I q (by simp))
    | bl j => cases ry; exact ne_bool (fin_bl I q (congrArg not dec_bl))
    | str j => obtain ⟨t', rfl⟩ := ry; exact PySem.EqMixed.ne_bool_str (fin_bl I q (by simp))
    | _ => exact absurd (show false = true from hs) Bool.false_ne_true
  | int i =>
    obtain ⟨t, rfl⟩ := rx
    cases y with
    | non => cases ry; exact PySem.EqNone.ne_int_none (fin_bl I q (by simp))
    | int j => obtain ⟨t', rfl⟩ := ry; exact ne_int (fin_bl I q (congrArg not dec_int))
    | str j => obtain ⟨t', rfl⟩ := ry; exact PySem.EqMixed.ne_int_str (fin_bl I q (by simp))
    | _ => exact absurd (show false = true from hs) Bool.false_ne_true
  | str i =>
    obtain ⟨t, rfl⟩ := rx
    cases y with
    | non => cases ry; exact PySem.EqNone.ne_str_none (fin_bl I q (by simp))
    | bl j => cases ry; exact PySem.EqMixed.ne_str_bool (fin_bl I q (by simp))
    | int j => obtain ⟨t', rfl⟩ := ry; exact PySem.EqMixed.ne_str_int (fin_bl I q (by simp))
    | str j => obtain ⟨t', rfl⟩ := ry; exact ne_str (fin_bl I q (congrArg not dec_str))
    | _ => exact absurd (show false = true from hs) Bool.false_ne_true
  | byt i =>
    obtain ⟨t, rfl⟩ := rx
    cases y with
    | byt j => obtain ⟨t', rfl⟩ := ry; exact PySem.W.ne_bytes (fin_bl I q (congrArg not dec_byt))
    | _ => exact absurd (show false = true from hs) Bool.false_ne_true
  | _ => cases y <;> exact absurd (show false = true from hs) Bool.false_ne_true
theorem op_lt : OpR X (compareOp .Lt) (rI0 fun i j => .bl (decide (i < j))) := opB0 fun _ _ _ _ _ _ _ q => lt_int q
theorem op_le : OpR X (compareOp .LtE) (rI0 fun i j => .bl (decide (i ≤ j))) := opB0 fun _ _ _ _ _ _ _ q => le_int q
theorem op_gt : OpR X (compareOp .Gt) (rI0 fun i j => .bl (decide (j < i))) := opB0 fun _ _ _ _ _ _ _ q => gt_int q
/-- the one string within the other -/
theorem op_in_str : OpR X (compareOp .In) (fun x y H Q => ∃ i j, x = .str i ∧ y = .str j ∧ Q (.bl (!(Builtin.Str.occurrences j i 0 j.length 1).isEmpty)) H) := by
  intro pins s σ H x y v u Q I rx ry h
  obtain ⟨i, j, rfl, rfl, q⟩ := h
  obtain ⟨t, rfl⟩ := rx
  obtain ⟨t', rfl⟩ := ry
  exact in_str (fin_bl I q rfl)
/-- is None, is not None: the right side a value none -/
theorem op_isN : OpR X (compareOp .Is) (fun x y H Q => y = .non ∧ Q (.bl (decide (x = .non))) H) := by
  intro pins s σ H x y v u Q I rx ry h
  obtain ⟨rfl, q⟩ := h
  cases ry
  refine is_none_gen (fin_bl I q ?_)
  cases x <;> first
    | (cases rx; rfl)
    | (obtain ⟨t, rfl⟩ := rx; rfl)
theorem op_notin_str : OpR X (compareOp .NotIn) (fun x y H Q => ∃ i j, x = .str i ∧ y = .str j ∧ Q (.bl (!(!(Builtin.Str.occurrences j i 0 j.length 1).isEmpty))) H) := by
  intro pins s σ H x y v u Q I rx ry h
  obtain ⟨i, j, rfl, rfl, q⟩ := h
  obtain ⟨t, rfl⟩ := rx
  obtain ⟨t', rfl⟩ := ry
  exact notIn_str (fin_bl I q rfl)
theorem nomark (b : Expr) {op : CmpOp} (h : op ≠ .In := by decide) (h2 : op ≠ .NotIn := by decide) : behindInMarks op b = false := by
  have e1 : (op == CmpOp.In) = false := by cases op <;> first | rfl | exact absurd rfl h
  have e2 : (op == CmpOp.NotIn) = false := by cases op <;> first | rfl | exact absurd rfl h2
  cases b <;> simp [behindInMarks, e1, e2]
/-- a comparison as a value; hm: nomark b, or (for in, not in) by with_unfolding_all rfl -/
theorem pe_cmpR {op : CmpOp} {r : R2} (ho : OpR X (compareOp op) r) (ha : PE X a ta) (hb : PE X b tb) (hm : behindInMarks op b = false) : PE X (.Compare a [op] [b] pos) (tOp r ta tb) := by
  intro pins s σ H Q I h
  exact wpAny_Compare1 (binT ha hb I h fun v u s2 x y H2 I2 rx ry q => ho pins s2 σ H2 x y v u Q I2 rx ry q) hm
/-- a reading of a value as a test -/
def tTest (t : TE) : TT := fun σ H Q => t σ H fun x H' => ∃ k, x = .bl k ∧ Q k H'
theorem pt_cmpR {op : CmpOp} {r : R2} (ho : OpR X (compareOp op) r) (ha : PE X a ta) (hb : PE X b tb) (hm : behindInMarks op b = false) : PT X (.Compare a [op] [b] pos) (tTest (tOp r ta tb)) := by
  intro pins s σ H Q I h
  refine wpAny_isTrue_Compare1 (thn (ha pins s σ H _ I h) fun v s1 ⟨x, H1, I1, r1, q1⟩ => thn (hb pins s1 σ H1 _ I1 q1) fun u s2 ⟨y, H2, I2, r2, q2⟩ =>
    thn (ho pins s2 σ H2 x y v u _ I2 r1 r2 q2) fun c s3 ⟨z, H3, I3, r3, k, e, q3⟩ => ?_) hm
  subst e
  cases r3
  exact wpAny_truthy_bool ⟨H3, I3, q3⟩
/-- a op1 b op2 c -/
def tChain (r r' : R2) (ta tb tc : TE) : TE := fun σ H Q => ta σ H fun x H1 => tb σ H1 fun y H2 => r x y H2 fun z H3 => ∃ k, z = .bl k ∧
  (if k = true then tc σ H3 fun w' H4 => r' y w' H4 Q else Q (.bl false) H3)
theorem pe_chain {op op' : CmpOp} {r r' : R2} (ho : OpR X (compareOp op) r) (ho' : OpR X (compareOp op') r') (ha : PE X a ta) (hb : PE X b tb) (hc : PE X c tc)
    (hm : lastMarks [op, op'] [b, c] = false := by with_unfolding_all rfl) : PE X (.Compare a [op, op'] [b, c] pos) (tChain r r' ta tb tc) := by
  intro pins s σ H Q I h
  refine Compare_chain (thn (ha pins s σ H _ I h) fun v s1 ⟨x, H1, I1, r1, q1⟩ => chain_link (thn (hb pins s1 σ H1 _ I1 q1) fun u s2 ⟨y, H2, I2, r2, q2⟩ =>
    thn (ho pins s2 σ H2 x y v u _ I2 r1 r2 q2) fun d s3 ⟨z, H3, I3, r3, k, e, q3⟩ => ?_)) hm
  subst e
  cases r3
  refine wpAny_truthy_bool ?_
  cases k with
  | false => exact ite_ff ⟨.bl false, H3, I3, rfl, q3⟩
  | true => exact ite_tt (chain_last (thn (hc pins s3 σ H3 _ I3 q3) fun w' s4 ⟨z', H4, I4, r4, q4⟩ => ho' pins s4 σ H4 y z' u w' Q I4 r2 r4 q4))
/-! ### truth -/
theorem line63 : (sizeLine : Nat) < 2 ^ 63 := by rw [sizeLine_eq]; decide
/-! ### strs and bytes -/
theorem op_add_str : OpR X (binaryOp .Add) (fun x y H Q => ∃ i j, x = .str i ∧ y = .str j ∧ i.length + j.length ≤ sizeLine ∧ Q (.str (i ++ j)) H) := by
  intro pins s σ H x y v u Q I rx ry h
  obtain ⟨i, j, rfl, rfl, hz, q⟩ := h
  obtain ⟨t, rfl⟩ := rx
  obtain ⟨t', rfl⟩ := ry
  exact add_str (fun t' tk => ⟨.str (i ++ j), H, I.tok _, ⟨_, rfl⟩, q⟩) hz
/-! ### scalar builtins, by CallR -/
theorem vals1 {x : V} {us : List Value} (r : Vals [x] us) : ∃ u, us = [u] ∧ RelV x u := by
  cases r with
  | cons r1 r2 => cases r2; exact ⟨_, rfl, r1⟩
theorem vals2 {x y : V} {us : List Value} (r : Vals [x, y] us) : ∃ u w', us = [u, w'] ∧ RelV x u ∧ RelV y w' := by
  cases r with
  | cons r1 r2 =>
    cases r2 with
    | cons r3 r4 => cases r4; exact ⟨_, _, rfl, r1, r3⟩
end
end L2
namespace L2
open PySem PySem.Spec PyProof.Rows
/-! ### an instance, its attributes a map -/
structure ObjM (h : Heap) (x dx C : Addr) (mA : Str → Option Value) : Prop where
  obj : h.get? x = some (PySem.W.instObj C dx)
  ns : h.Ns1 dx mA
  ne : dx ≠ x
theorem lookIn_ns {h : Heap} {dx : Addr} {mA : Str → Option Value} (n : h.Ns1 dx mA) : ∃ od, h.get? dx = some od ∧ ∀ name, PySem.W.lookIn name od = some (mA name) := by
  obtain ⟨o, es, ep, ho, hd, hk, _, hm⟩ := n
  refine ⟨o, ho, fun name => ?_⟩
  have e := hm name
  unfold nsFind findBy at e
  rw [← Array.find?_toList] at e
  unfold PySem.W.lookIn
  rw [hd]
  dsimp only
  split
  · rename_i y q
    rw [q] at e
    exact congrArg some e
  · rename_i q
    rw [q] at e
    have a : es.toList.any (·.refKey) = false := by
      rw [List.any_eq_false]
      intro y hy
      obtain ⟨z, t, hkey⟩ := hk y (Array.mem_toList_iff.mp hy)
      simp [DictEntry.refKey, hkey]
    have a' : ¬ es.toList.any (·.refKey) = true := by rw [a]; exact Bool.false_ne_true
    rw [if_neg a']
    exact congrArg some e
theorem ObjM.look {h : Heap} {x dx C : Addr} {mA : Str → Option Value} (I : ObjM h x dx C mA) : ∃ od, PySem.W.InstAt h x (PySem.W.instObj C dx) C (some od) ∧ ∀ name, PySem.W.lookIn name od = some (mA name) :=
  let ⟨od, ho, hl⟩ := lookIn_ns I.ns
  ⟨od, ⟨I.obj, rfl, rfl, ho⟩, hl⟩
section
variable {prog : Program} {w : World} {A : Around} {E : Value → Shared → Prop} {s : Shared} {K : PySem.W.Frag} {x dx C f : Addr} {mA : Str → Option Value} {name : Str} {v : Value}
end
/-! ### the attributes as a list of pairs -/
section
variable {P : Program} {w : World} {H H' : Hp} {h h' : Heap} {a C dx : Addr} {fs fs' : List (Str × V)}
theorem ins_get (hok : HOk P w H h) (e : H a = some (.ins C dx fs)) : ∃ mA, ObjM h a dx C mA ∧ (∀ f, RelO (fs.lookup f) (mA f)) ∧ PySem.Within mA (fs.map (·.1)) ∧ fs.length ≤ 1000 ∧ H dx = some (.own a) := by
  obtain ⟨d, z, ne, ob, mA, n, r, q⟩ := (show ObjOk P w H h a (.ins C dx fs) from hok a _ e)
  exact ⟨mA, ⟨ob, n, ne⟩, r, q, z, d⟩
end
/-! ### what of the text a class must have -/
structure Cls (K : PySem.W.Frag) (C : Addr) : Prop where
  pg : PySem.W.plainGet K C Str.empty = true
  hd : PySem.W.hasDictIn K C = true
  po : PySem.W.plainOver K C = true
  sa : PySem.W.findIn K (.ref C) "__setattr__" = some (some (.builtin "object.__setattr__"))
theorem Cls.get {K : PySem.W.Frag} {C : Addr} (c : Cls K C) (f : Str) : PySem.W.plainGet K C f = true := c.pg
/-- no class of it has the name -/
def NoAttr (K : PySem.W.Frag) (C : Addr) (f : Str) : Prop := PySem.W.findIn K (.ref C) f = some none
/-- a constant of the class -/
structure Con (K : PySem.W.Frag) (C : Addr) (f : Str) (v : V) (u : Value) : Prop where
  at_ : PySem.W.findIn K (.ref C) f = some (some u)
  rel : RelV v u
  get : PySem.W.specialIn K u "__get__" = some none
  cp : PySem.W.copiedNames.contains f = false
/-- a method: a plain def of the class or of one above it -/
structure Meth (K : PySem.W.Frag) (C : Addr) (m : Str) (f : Addr) : Prop where
  at_ : PySem.W.findIn K (.ref C) m = some (some (.ref f))
  fn : PySem.W.isFn K (.ref f) = true
  kp : PySem.W.keepIn K (.ref f) = true
section
variable {X : Cx} {pins : List (Addr × Obj)} {σ : St} {H : Hp} {s : Shared} {a C dx : Addr} {fs : List (Str × V)} {f : Str} {v : V} {A : Around} {E : Value → Shared → Prop}
end
/-! ### readings and rules -/
section
variable {X : Cx} {o e value : Expr} {f : Str} {pos pos' tpos : Pos} {ta tv : TE}
end
/-! ### isinstance -/
section
variable {X : Cx} {pins : List (Addr × Obj)} {σ : St} {H : Hp} {s : Shared} {A : Around} {E : Value → Shared → Prop} {Q : Value → Shared → Prop} {c : Value} {b : Bool}
/-- the type of a value, as the fragment's deciders take it; for an instance its class -/
inductive TyOf (K : PySem.W.Frag) (H : Hp) : V → Value → Prop where
  | non : TyOf K H .non (.type "NoneType")
  | bl (x : Bool) : TyOf K H (.bl x) (.type "bool")
  | int (i : Int) : TyOf K H (.int i) (.type "int")
  | str (x : Str) : TyOf K H (.str x) (.type "str")
  | flt (x : UInt64) : TyOf K H (.flt x) (.type "float")
  | lst {a : Addr} {xs : List V} (e : H a = some (.lst xs)) : TyOf K H (.ref a) (.type "list")
  | frz {a : Addr} {o : Obj} {xs : List V} (e : H a = some (.frz o (.lst xs))) : TyOf K H (.ref a) (.type "list")
  | tup {a : Addr} {xs : List V} (e : H a = some (.tup xs)) : TyOf K H (.ref a) (.type "tuple")
  | dK {a : Addr} {kvs : List (Key × V)} (e : H a = some (.dK kvs)) : TyOf K H (.ref a) (.type "dict")
  | dT {a : Addr} {kvs : List (List Key × V)} (e : H a = some (.dT kvs)) : TyOf K H (.ref a) (.type "dict")
  | ins {a C dx : Addr} {fs : List (Str × V)} (e : H a = some (.ins C dx fs)) (cl : Cls K C) (ha : PySem.W.findIn K (.ref C) "__class__" = some (some (.builtin "object.__class__")))
      (hn : PySem.W.specialIn K (.builtin "object.__class__") "__get__" = some (some (.builtin "getset_descriptor.__get__"))) (htk : PySem.W.takesIn K (.builtin "object.__class__") = some true)
      (hm : PySem.W.mroIn K C (.type "object") = some true) : TyOf K H (.ref a) (.ref C)
/-- isinstance(x, c) for one class c, a built-in or an own one: kitOne's answer -/
theorem isinst_ok {x : V} {u t : Value} (I : Inv X pins σ H s) (rx : RelV x u) (ty : TyOf X.K H x t) (e : PySem.W.kitOne X.K t c = some b) (h : ∀ tk, Q (.bool b) { s with toks := tk }) :
    wpAny (model X.prog X.w) A (call (.builtin "isinstance") [u, c]) Q E s := by
  cases ty with
  | non => cases (show u = Value.none from rx); exact PySem.W.kia_one PySem.W.kitx_none I.kIn True.intro e (fun z => nomatch z) h
  | bl y => cases (show u = Value.bool y from rx); exact PySem.W.kia_one PySem.W.kitx_bool I.kIn True.intro e (fun z => nomatch z) h
  | int i => obtain ⟨t, q⟩ := (show ∃ t, u = Value.int i t from rx); cases q; exact PySem.W.kia_one PySem.W.kitx_int I.kIn True.intro e (fun z => nomatch z) h
  | str y => obtain ⟨t, q⟩ := (show ∃ t, u = Value.str y t from rx); cases q; exact PySem.W.kia_one PySem.W.kitx_str I.kIn True.intro e (fun z => nomatch z) h
  | flt y => obtain ⟨t, q⟩ := (show ∃ t, u = Value.float y t from rx); cases q; exact PySem.W.kia_one PySem.W.kitx_float I.kIn True.intro e (fun z => nomatch z) h
  | @lst a xs ea =>
    cases (show u = Value.ref a from rx)
    obtain ⟨_, _, n, _, h1⟩ := (show ObjOk X.prog X.w H s.heap a (.lst xs) from I.hok a _ ea)
    exact PySem.W.kia_one PySem.W.kitx_list I.kIn ⟨_, h1, rfl⟩ e (fun z => nomatch z) h
  | @frz a ob xs ea =>
    cases (show u = Value.ref a from rx)
    obtain ⟨_, _, _, n, _, h1⟩ := (show ObjOk X.prog X.w H s.heap a (.frz ob (.lst xs)) from I.hok a _ ea)
    exact PySem.W.kia_one PySem.W.kitx_list I.kIn ⟨_, h1, rfl⟩ e (fun z => nomatch z) h
  | @tup a xs ea =>
    cases (show u = Value.ref a from rx)
    obtain ⟨_, _, _, p⟩ := (show ObjOk X.prog X.w H s.heap a (.tup xs) from I.hok a _ ea)
    obtain ⟨o, h1, h2, _⟩ := p
    exact PySem.W.kia_one PySem.W.kitx_tuple I.kIn ⟨o, h1, h2⟩ e (fun z => nomatch z) h
  | @dK a kvs ea =>
    cases (show u = Value.ref a from rx)
    obtain ⟨_, _, vs, _, p⟩ := (show ObjOk X.prog X.w H s.heap a (.dK kvs) from I.hok a _ ea)
    obtain ⟨o, es, ep, h1, h2, _⟩ := p
    exact PySem.W.kia_one PySem.W.kitx_dict I.kIn ⟨o, h1, h2.1⟩ e (fun z => nomatch z) h
  | @dT a kvs ea =>
    cases (show u = Value.ref a from rx)
    obtain ⟨_, _, xs, _, o, es, ep, h1, h2, _⟩ := (show ObjOk X.prog X.w H s.heap a (.dT kvs) from I.hok a _ ea)
    exact PySem.W.kia_one PySem.W.kitx_dict I.kIn ⟨o, h1, h2.1⟩ e (fun z => nomatch z) h
  | @ins a C dx fs ea cl ha hn htk hm =>
    cases (show u = Value.ref a from rx)
    obtain ⟨mA, O, _⟩ := ins_get I.hok ea
    obtain ⟨od, J, _⟩ := O.look
    exact PySem.W.kia_one (PySem.W.kitx_own (cl.get _) cl.hd ha hn htk hm) I.kIn J e (fun z => nomatch z) h
end
end L2
namespace L2
open PySem PySem.Spec PyProof.Rows
/-! ### room -/
structure Room (k : Nat) (A : Around) : Prop where
  hd : A.handled = none
  dp : A.depth + 3 * k + 5 < recursionLimit
  un : A.units + 16 * k + 200 < cLine
  gd : A.guards = some []
theorem Room.mono {j k : Nat} {A : Around} (r : Room k A) (h : j ≤ k) : Room j A := ⟨r.hd, by have := r.dp; omega, by have := r.un; omega, r.gd⟩
theorem Room.deeper {k : Nat} {A : Around} (r : Room (k + 1) A) (env : Env) : Room k (A.deeper env) :=
  ⟨r.hd, by have := r.dp; show A.depth + 1 + 3 * k + 5 < _; omega, by have := r.un; show A.units + 3 + 16 * k + 200 < _; omega, r.gd⟩
theorem Room.depth {k : Nat} {A : Around} (r : Room k A) : A.depth < recursionLimit := by have := r.dp; omega
theorem Room.units {k : Nat} {A : Around} (r : Room k A) : A.units + 64 < cLine := by have := r.un; omega
/-! ### argument lists and displays -/
def tNil : TA := fun _ H Q => Q [] H
def tCons (ta : TE) (tr : TA) : TA := fun σ H Q => ta σ H fun x H1 => tr σ H1 fun xs H2 => Q (x :: xs) H2
section
variable {X : Cx} {e : Expr} {es : List Expr} {te : TE} {t : TA} {pos : Pos}
theorem pa_nil : PA X [] tNil := fun _ _ _ _ H Q I h => Calls.spliced_nil ⟨[], H, I, .nil, h⟩
theorem pa_cons (ha : PE X e te) (hr : PA X es t) (hs : starEach (e :: es) X.env = (false, eval e X.env) :: starEach es X.env := by rfl) : PA X (e :: es) (tCons te t) := by
  intro pos pins s σ H Q I h
  rw [hs]
  show wpAny _ _ (spliced ((false, eval e X.env) :: backTo pos (starEach es X.env))) _ _ s
  refine Calls.spliced_cons (thn (ha pins s σ H _ I h) fun u s1 ⟨x, H1, I1, r1, q1⟩ => ?_)
  exact thn (hr pos pins s1 σ H1 _ I1 q1) fun us s2 ⟨xs, H2, I2, r2, q2⟩ => ⟨x :: xs, H2, I2, .cons r1 r2, q2⟩
/-- a tuple, a list of written items -/
def tTup (t : TA) : TE := fun σ H Q => t σ H fun xs H1 => xs.length ≤ sizeLine ∧ ∀ p, H1 p = none → Q (.ref p) (upd H1 p (.tup xs))
def tLst (t : TA) : TE := fun σ H Q => t σ H fun xs H1 => xs.length ≤ sizeLine ∧ ∀ p, H1 p = none → Q (.ref p) (upd H1 p (.lst xs))
theorem pe_tup {x1} (h : PA X es t) : PE X (.Tuple es x1 pos) (tTup t) := by
  intro pins s σ H Q I hq
  refine wpAny_Tuple_spliced (thn (h pos pins s σ H _ I hq) fun us s1 ⟨xs, H1, I1, r, z, q⟩ => ⟨by rw [← r.length]; exact z, ?_⟩)
  have hf : H1 s1.heap.objs.size = none := I1.hok.fresh (Nat.le_refl _)
  refine ⟨.ref s1.heap.objs.size, upd H1 s1.heap.objs.size (.tup xs), I1.laid (t' := s1.toks) (fun b u e => Heap.get?_push_of_some _ e) (Nat.le_refl _) ?_, rfl, q _ hf⟩
  exact ⟨z, us, r, ⟨_, Heap.get?_push_size _ rfl, rfl, _, rfl⟩⟩
theorem pe_lst (h : PA X es t) : PE X (.List es pos) (tLst t) := by
  intro pins s σ H Q I hq
  refine wpAny_List_spliced (thn (h pos pins s σ H _ I hq) fun us s1 ⟨xs, H1, I1, r, z, q⟩ => ⟨by rw [← r.length]; exact z, ?_⟩)
  have hf : H1 s1.heap.objs.size = none := I1.hok.fresh (Nat.le_refl _)
  refine ⟨.ref s1.heap.objs.size, upd H1 s1.heap.objs.size (.lst xs), I1.laid (t' := s1.toks) (fun b u e => Heap.get?_push_of_some _ e) (Nat.le_refl _) ?_, rfl, q _ hf⟩
  exact ⟨z, us, 0, r, Heap.get?_push_size _ rfl⟩
end
/-! ### what a def promises -/
/-- a def's promise: the bound arguments in the parameters' order, the heap, the wanted end, the wanted exception -/
abbrev Sp := List V → Hp → VK → XK → Prop
/-- how an exception lies behind a call (file 08 gives it): the callers' frames, abstract heap and state ahead of the call, the wish, the exception, the state -/
abbrev CXT := List Env → Hp → Shared → XK → Value → Shared → Prop
/-- the state at a call -/
structure Env0 (P : Program) (w : World) (K : PySem.W.Frag) (mg : Str → Option Value) (base : Heap) (A : Around) (outer : List Env) (s : Shared) (H : Hp) : Prop where
  frames : A.frames = some outer
  mod : Mod K mg base
  bs : ∀ b o, base.get? b = some o → s.heap.get? b = some o ∧ H b = none
  bsz : base.objs.size ≤ s.heap.objs.size
  funs : s.heap.FunFrames base outer
  frf : ∀ b ∈ frs outer, H b = none
  hok : HOk P w H s.heap
  bare : AllBare s.gens
/-- a call's end -/
def CE (outer : List Env) (P : Program) (w : World) (H : Hp) (s : Shared) (Q : VK) (u : Value) (s' : Shared) : Prop :=
  ∃ v H', s'.os = s.os ∧ AllBare s'.gens ∧ Un (frs outer) [] H H' s.heap s'.heap ∧ HOk P w H' s'.heap ∧ RelV v u ∧ Q v H'
def CR (CX : CXT) (outer : List Env) (P : Program) (w : World) (H : Hp) (s : Shared) (Q : VK) (E : XK) (r : Result) (s' : Shared) : Prop :=
  match r with
  | .ok (.ret u) => CE outer P w H s Q u s'
  | .ok _ => False
  | .error e => CX outer H s E e s'
structure FnOk (P : Program) (w : World) (K : PySem.W.Frag) (mg : Str → Option Value) (base : Heap) (CX : CXT) (k : Nat) (f : Addr) (fd : FuncData) (ps : List Str) (sp : Sp) : Prop where
  len : ∀ vs H Q E, sp vs H Q E → vs.length = ps.length
  run : ∀ (A : Around) (outer : List Env) (s : Shared) (H : Hp) (args : Args) (us : List Value) (vs : List V) (Q : VK) (E : XK), Room k A → Env0 P w K mg base A outer s H → BindsTo s fd args (ps.zip us) → Vals vs us → sp vs H Q E →
    codeAny (model P w) A (.call (.ref f) args) (CR CX outer P w H s Q E) s
section
variable {X : Cx} {pins : List (Addr × Obj)} {σ : St} {H : Hp} {s s' : Shared}
/-- from a body: what a callee wants -/
theorem Inv.env0 (I : Inv X pins σ H s) : Env0 X.prog X.w X.K X.mg X.base X.A X.stack s H :=
  ⟨I.ok.frames, I.ok.mod, I.bs, Nat.le_trans I.ok.bsz I.sz, I.stack, I.stkFree, I.hok, I.bare⟩
/-- behind a call -/
theorem Inv.after {Q : VK} {u : Value} (I : Inv X pins σ H s) (h : CE X.stack X.prog X.w H s Q u s') : EP X pins σ Q u s' := by
  obtain ⟨v, H', os, bare, un, hok, r, q⟩ := h
  obtain ⟨hh, g, d, t, os'⟩ := s'
  obtain rfl : os' = s.os := os
  exact ⟨v, H', I.call (h' := hh) (g' := g) (d' := d) (t' := t) (ch := []) un hok bare (fun b z => absurd z (by simp)), r, q⟩
end
/-! ### calls -/
/-- f(..): the written arguments, then the defaults dvs; E: what is wanted of an exception -/
def tCall (sp : Sp) (dvs : List V) (E : XK) (t : TA) : TE := fun σ H Q => t σ H fun vs H1 => sp (vs ++ dvs) H1 Q E
/-- how the parameters are bound: us the positional arguments, kw the keywords' values by name, ds the defaults that fill up -/
def Binds (K : PySem.W.Frag) (fd : FuncData) (ps : List Str) (ds : List Value) : Prop :=
  ∀ (s : Shared) (us : List Value), K.In s.heap → (us ++ ds).length = ps.length → BindsTo s fd ⟨us, []⟩ (ps.zip (us ++ ds))
/-- every parameter is given -/
theorem Binds.all {K : PySem.W.Frag} {fd : FuncData} {ps : List Str} (h : ∀ us : List Value, us.length = ps.length → bindArgs fd ⟨us, []⟩ = pure (ps.zip us)) : Binds K fd ps [] := fun s us _ hl => by
  rw [List.append_nil] at hl ⊢
  exact .of_eq (h us hl)
/-- an exception of a callee reaches what this body wants of exceptions -/
def Passes (CX : CXT) (X : Cx) (E : XK) : Prop := ∀ (pins : List (Addr × Obj)) (σ : St) (H : Hp) (s : Shared) (e : Value) (s' : Shared), Inv X pins σ H s → CX X.stack H s E e s' → X.xe e s'
section
variable {X : Cx} {CX : CXT} {k : Nat} {f C : Addr} {fd : FuncData} {ps : List Str} {sp : Sp} {dvs : List V} {ds : List Value} {E : XK} {x m : Str} {p pos apos : Pos} {e o : Expr} {es : List Expr} {ta : TE} {t : TA}
/-- the callee runs -/
theorem run_fn {pins : List (Addr × Obj)} {σ : St} {H : Hp} {s : Shared} {Q : VK} {us : List Value} {vs : List V} (F : FnOk X.prog X.w X.K X.mg X.base CX k f fd ps sp) (hr : Room k X.A) (hb : Binds X.K fd ps ds) (hd : Vals dvs ds) (hx : Passes CX X E)
    (I : Inv X pins σ H s) (r : Vals vs us) (h : sp (vs ++ dvs) H Q E) : wpAny (model X.prog X.w) X.A (call (.ref f) us) (EP X pins σ Q) X.xe s := by
  have r2 : Vals (vs ++ dvs) (us ++ ds) := r.append hd
  have hl : (us ++ ds).length = ps.length := by rw [← r2.length]; exact F.len _ _ _ _ h
  refine wpAny_call (codeAny_mono (F.run X.A X.stack s H ⟨us, []⟩ (us ++ ds) (vs ++ dvs) Q E hr I.env0 (hb s us I.kIn hl) r2 h) fun r s' hq => ?_)
  cases r with
  | error e => exact hx pins σ H s e s' I hq
  | ok fl =>
    cases fl with
    | ret u => exact I.after hq
    | next => exact False.elim hq
    | brk => exact False.elim hq
    | cont => exact False.elim hq
theorem pe_call (F : FnOk X.prog X.w X.K X.mg X.base CX k f fd ps sp) (hr : Room k X.A) (hg : Gl X x) (hm : X.mg x = some (.ref f)) (hk : PySem.W.keepIn X.K (.ref f) = true) (hb : Binds X.K fd ps ds) (hd : Vals dvs ds) (hx : Passes CX X E)
    (ha : PA X (e :: es) t) (hdb : (x == ("__debug__" : Str)) = false := by decide) (he : starEach (e :: es) X.env = (false, eval e X.env) :: starEach es X.env := by rfl) (hpl : (backTo pos (starEach es X.env)).any (·.1) = false := by rfl) :
    PE X (.Call (.Name x p) (e :: es) [] pos) (tCall sp dvs E t) := by
  intro pins s σ H Q I h
  refine wpAny_Call_Name_kw (ld_glob I hg hm ?_ hdb)
  refine PySem.W.callWith_K (h₀ := X.base) I.ok.mod.kin hk (thn (ha pos pins s σ H _ I h) fun us s1 ⟨vs, H1, I1, r, q⟩ => ⟨I1.kIn, ?_⟩) he hpl
  exact run_fn F hr hb hd hx I1 r q
/-- what a class must have to be made -/
structure Mk (K : PySem.W.Frag) (C f : Addr) : Prop where
  makes : PySem.W.makesIn K C = true
  init : PySem.W.findIn K (.ref C) "__init__" = some (some (.ref f))
  fn : PySem.W.isFn K (.ref f) = true
  kp : PySem.W.keepIn K (.ref C) = true
end
/-! ### keywords -/
section
variable {X : Cx} {CX : CXT} {k : Nat} {f C : Addr} {fd : FuncData} {ps ks : List Str} {sp : Sp} {E : XK} {x m : Str} {p pos apos kpos : Pos} {e o : Expr} {es : List Expr} {kws : List Keyword} {te ta : TE} {t tk : TA} {nm : Option Str}
/-- how a call with keywords binds: g puts the positional values us and the keywords' values ws (names ks) in the parameters' order, defaults among them -/
structure KBinds (K : PySem.W.Frag) (fd : FuncData) (ps ks : List Str) (g : List Value → List Value → List Value) (gV : List V → List V → List V) : Prop where
  to : ∀ (s : Shared) (us ws : List Value), K.In s.heap → (g us ws).length = ps.length → BindsTo s fd ⟨us, ks.zip ws⟩ (ps.zip (g us ws))
  rel : ∀ {vs : List V} {us : List Value} {zs : List V} {ws : List Value}, Vals vs us → Vals zs ws → Vals (gV vs zs) (g us ws)
variable {g : List Value → List Value → List Value} {gV : List V → List V → List V}
end
/-! ### a def's body keeps its promise -/
/-- names: the parameters first -/
structure FnScope (N P : List Str) (sc : Scope) : Prop where
  kind : sc.kind = .function
  co : sc.isCoroutine = false
  gen : sc.isGenerator = false
  nd : N.Nodup
  pre : N.take P.length = P
  par : ∀ x ∈ P, sc.names.lookup x = some .local ∨ sc.names.lookup x = some .cell
  nofree : ∀ y ∈ sc.names, y.2 ≠ .free
theorem bindL_out {kindOf : Str → Option NameKind} {x : Str} : ∀ {binds : List (Str × Value)} {m : Str → Option Value}, (∀ v, (x, v) ∉ binds) → bindL kindOf binds m x = m x
  | [], _, _ => rfl
  | (n, v) :: r, m, h => by
    unfold bindL
    rw [bindL_out fun w hw => h w (List.mem_cons_of_mem _ hw)]
    split
    · have : x ≠ n := by rintro rfl; exact h v List.mem_cons_self
      simp [this]
    · rfl
theorem bindC_out {kindOf : Str → Option NameKind} {x : Str} : ∀ {binds : List (Str × Value)} {m : Str → Option Value}, (∀ v, (x, v) ∉ binds) → bindC kindOf binds m x = m x
  | [], _, _ => rfl
  | (n, v) :: r, m, h => by
    unfold bindC
    rw [bindC_out fun w hw => h w (List.mem_cons_of_mem _ hw)]
    split
    · rfl
    · have : x ≠ n := by rintro rfl; exact h v List.mem_cons_self
      simp [this]
theorem bindL_get {kindOf : Str → Option NameKind} {x : Str} {v : Value} : ∀ {P : List Str} {vs : List Value} {i : Nat} {m : Str → Option Value}, P.Nodup → P[i]? = some x → vs[i]? = some v → kindOf x = some .local →
    bindL kindOf (P.zip vs) m x = some v
  | [], _, _, _, _, h, _, _ => by simp at h
  | _ :: _, [], _, _, _, _, h, _ => by simp at h
  | p :: P, w :: vs, 0, m, nd, h1, h2, hk => by
    simp at h1 h2; subst h1; subst h2
    show bindL kindOf ((p, w) :: P.zip vs) m p = _
    unfold bindL
    rw [bindL_out fun v hv => (List.nodup_cons.mp nd).1 (List.of_mem_zip hv).1, if_pos hk]
    simp
  | p :: P, w :: vs, i + 1, m, nd, h1, h2, hk => by
    show bindL kindOf ((p, w) :: P.zip vs) m x = _
    unfold bindL
    exact bindL_get (i := i) (List.nodup_cons.mp nd).2 (by simpa using h1) (by simpa using h2) hk
theorem bindC_get {kindOf : Str → Option NameKind} {x : Str} {v : Value} : ∀ {P : List Str} {vs : List Value} {i : Nat} {m : Str → Option Value}, P.Nodup → P[i]? = some x → vs[i]? = some v → kindOf x ≠ some .local →
    bindC kindOf (P.zip vs) m x = some v
  | [], _, _, _, _, h, _, _ => by simp at h
  | _ :: _, [], _, _, _, _, h, _ => by simp at h
  | p :: P, w :: vs, 0, m, nd, h1, h2, hk => by
    simp at h1 h2; subst h1; subst h2
    show bindC kindOf ((p, w) :: P.zip vs) m p = _
    unfold bindC
    rw [bindC_out fun v hv => (List.nodup_cons.mp nd).1 (List.of_mem_zip hv).1, if_neg hk]
    simp
  | p :: P, w :: vs, i + 1, m, nd, h1, h2, hk => by
    show bindC kindOf ((p, w) :: P.zip vs) m x = _
    unfold bindC
    exact bindC_get (i := i) (List.nodup_cons.mp nd).2 (by simpa using h1) (by simpa using h2) hk
/-- the names' values at the entry -/
def start (N : List Str) (vs : List V) : St := vs.map some ++ List.replicate (N.length - vs.length) none
/-- the context of a def's body, at its entry; an exception leaves the frame, then lies as CX says -/
def cxOf (CX : CXT) (P : Program) (w : World) (K : PySem.W.Frag) (mg : Str → Option Value) (base : Heap) (N : List Str) (qual : Str) (scope : Scope) (f : Addr) (cd : Value) (A : Around) (outer : List Env) (s : Shared) (H : Hp) (E : XK) : Cx where
  prog := P
  w := w
  K := K
  mg := mg
  base := base
  A := A.deeper (envOfC qual scope s.heap.objs.size f cd)
  N := N
  s₀ := s
  H₀ := H
  env := envOfC qual scope s.heap.objs.size f cd
  outer := outer
  stack := envOfC qual scope s.heap.objs.size f cd :: outer
  ex := []
  calm := true
  fn := fun _ => true
  pn := []
  xe := fun e s' => wpAny (model P w) (A.deeper (envOfC qual scope s.heap.objs.size f cd)) (leaving (envOfC qual scope s.heap.objs.size f cd) e) (fun _ s'' => CX outer H s E e s'') (fun e' s'' => CX outer H s E e' s'') s'
theorem cell_has {sc : Scope} {n : Nat} {x : Str} (h : sc.names.lookup x = some .cell) : ∃ c, (cellsFrom n sc.names []).lookup x = some c := by
  have q := PySem.W.cellsFrom_some sc.names n [] (.inl h)
  exact Option.isSome_iff_exists.mp q
theorem inv_start {CX : CXT} {P : Program} {w : World} {K : PySem.W.Frag} {mg : Str → Option Value} {base : Heap} {N ps : List Str} {qual : Str} {scope : Scope} {f : Addr} {cd : Value} {A : Around} {outer : List Env} {s s1 : Shared} {H : Hp} {E : XK} {us : List Value} {vs : List V}
    (S : FnScope N ps scope) (hd : A.handled = none) (e0 : Env0 P w K mg base A outer s H) (hl : vs.length = ps.length) (r : Vals vs us)
    (x : InCallC s s.heap.objs.size (bindL (envOfC qual scope s.heap.objs.size f cd).kindOf (ps.zip us) fun _ => none) (cellsFrom (s.heap.objs.size + 1) scope.names []) (bindC (envOfC qual scope s.heap.objs.size f cd).kindOf (ps.zip us) fun _ => none) s1) :
    Inv (cxOf CX P w K mg base N qual scope f cd A outer s H E) [] (start N vs) H s1 := by
  have hpl : ps.length ≤ N.length := by have := congrArg List.length S.pre; rw [List.length_take] at this; omega
  obtain ⟨h1, tk, rfl, hk⟩ := x.done
  have noA : ∀ b : Addr, b ∉ (cxOf CX P w K mg base N qual scope f cd A outer s H E).ex := fun b z => absurd (show b ∈ ([] : List Addr) from z) (by simp)
  refine ⟨⟨e0.mod, S.kind, rfl, rfl, Nat.le_refl _, fun y z c h1 h2 => ?_, fun y hy => ?_, fun y c _ h => ?_, fun _ => hd, Around.frames_deeper e0.frames, .inr ⟨rfl, rfl⟩, fun b z => absurd z (noA b), e0.bs, e0.bsz, fun b _ _ => noA b, fun b z => absurd z (noA b), e0.funs, e0.frf⟩,
    rfl, e0.bare, Un.kept hk, ⟨_, x.toInCall.ns, fun i y v h1 h2 h3 => ?_⟩, fun y c h => ⟨_, x.cell y c h⟩, e0.hok.fresh (Nat.le_refl _), fun y c h => ?_, fun p hp => absurd (show p ∈ ([] : List (Addr × Obj)) from hp) (by simp), e0.hok.kept hk, ?_⟩
  · exact name_of_addr x.apart (PySem.mem_of_lookup h1) (PySem.mem_of_lookup h2)
  · have hy : scope.names.lookup y = some .cell ∨ scope.names.lookup y = some .free := hy
    rcases hy with hy | hy
    · exact cell_has hy
    · exact absurd rfl (S.nofree _ (PySem.mem_of_lookup hy))
  · exact Nat.le_of_lt (x.above y c (PySem.mem_of_lookup h))
  · have hi : i < vs.length := by
      unfold start at h2
      by_cases hi : i < vs.length
      · exact hi
      · rw [List.getElem?_append_right (by simpa using hi)] at h2
        rw [List.getElem?_replicate] at h2
        split at h2 <;> cases h2
    have ha : vs[i]? = some v := by
      unfold start at h2
      rw [List.getElem?_append_left (by simpa using hi), List.getElem?_map] at h2
      cases e : vs[i]? with
      | none => rw [e] at h2; cases h2
      | some a => rw [e] at h2; cases h2; rfl
    obtain ⟨u, hu, rv⟩ := r.get ha
    have hp : ps[i]? = some y := by
      rw [← S.pre, List.getElem?_take_of_lt (by omega)]; exact h1
    have ndP : ps.Nodup := by rw [← S.pre]; exact S.nd.sublist (List.take_sublist _ _)
    refine ⟨u, rv, ?_⟩
    rcases S.par y (List.mem_of_getElem? hp) with k | k
    · exact .inl ⟨k, bindL_get ndP hp hu k⟩
    · obtain ⟨c, e⟩ := cell_has (n := s.heap.objs.size + 1) k
      refine .inr ⟨.inl k, c, e, ?_⟩
      have q := x.cell y c e
      rw [bindC_get ndP hp hu (by show scope.names.lookup y ≠ _; rw [k]; decide)] at q
      exact q
  · exact e0.hok.fresh (Nat.le_of_lt (x.above y c (PySem.mem_of_lookup h)))
  · unfold start
    show _ = N.length
    rw [List.length_append, List.length_map, List.length_replicate]
    omega
/-- THE RULE: a def (or a method) of the text, by its body. The body's reading t is chosen for each entry; it is run at the parameters' values -/
theorem fn_of {CX : CXT} {P : Program} {w : World} {K : PySem.W.Frag} {mg : Str → Option Value} {base : Heap} {k : Nat} {f : Addr} {name qual : Str} {params : Arguments} {body : List Stmt} {scope : Scope} {dV kV doc pm cdv ct oc : Value} {an od : Option Addr}
    {osl : Array (Option Value)} {N ps : List Str} {sp : Sp} (lk : K.lookup f = some ⟨oc, od, .func (PySem.W.fnOf name qual params body scope dV kV doc pm an cdv ct), osl⟩) (hcd : PySem.W.codeIn K cdv qual = true) (S : FnScope N ps scope)
    (len : ∀ vs H Q E, sp vs H Q E → vs.length = ps.length)
    (hbody : ∀ (A : Around) (outer : List Env) (s : Shared) (H : Hp) (vs : List V) (Q : VK) (E : XK), Room k (A.deeper (envOfC qual scope s.heap.objs.size f cdv)) → sp vs H Q E →
      ∃ t, PSs (cxOf CX P w K mg base N qual scope f cdv A outer s H E) body t ∧ t { nx := fun _ H' => Q .non H', rt := Q } (start N vs) H) :
    FnOk P w K mg base CX (k + 1) f (PySem.W.fnOf name qual params body scope dV kV doc pm an cdv ct) ps sp := by
  refine ⟨len, fun A outer s H args us vs Q E hr e0 hb r hsp => ?_⟩
  have hl := len _ _ _ _ hsp
  have KX : K.In s.heap := e0.mod.kin.keeps fun b o e => (e0.bs b o e).1
  have lim : s.heap.NoLimit := e0.mod.nolimit.keeps fun b o e => (e0.bs b o e).1
  have hkind : ∀ y ∈ ps.zip us, scope.names.lookup y.1 = some .local ∨ (scope.names.lookup y.1 = some .cell ∧ ((cellsFrom (s.heap.objs.size + 1) scope.names []).lookup y.1).isSome = true) := fun ⟨n, v⟩ hy => by
    rcases S.par n (List.of_mem_zip hy).1 with q | q
    · exact .inl q
    · exact .inr ⟨q, PySem.W.cellsFrom_some _ _ _ (.inl q)⟩
  refine codeAny_call_function hr.depth (KX _ _ lk) rfl S.co S.gen rfl (PySem.W.codeRec_of KX hcd) (hb _ _ _ _ ?_)
  refine wpAny_newFunctionEnv_cells S.kind hkind fun env he s1 x => ?_
  subst he
  refine ⟨lim.keeps x.toInCall.keep, codeAny_func ?_⟩
  obtain ⟨t, ht, hq⟩ := hbody A outer s H vs Q E (hr.deeper _) hsp
  have I : Inv (cxOf CX P w K mg base N qual scope f cdv A outer s H E) [] (start N vs) H s1 := inv_start S hr.hd e0 hl r x
  refine wpAny_mono (ht [] s1 (start N vs) H _ I hq) (fun fl s' hs => ?_) fun e s' hs => hs
  have fin : ∀ {σ' : St} {H' : Hp} {v : V} {u : Value}, Inv (cxOf CX P w K mg base N qual scope f cdv A outer s H E) [] σ' H' s' → RelV v u → Q v H' → CE outer P w H s Q u s' :=
    fun {σ' H' v u} J rv q => ⟨v, H', J.os, J.bare, J.base, J.hok, rv, q⟩
  cases fl with
  | ret u =>
    obtain ⟨v, σ', H', J, rv, q⟩ := hs
    exact fin J rv q
  | next =>
    obtain ⟨σ', H', J, q⟩ := hs
    exact fin (v := V.non) (u := Value.none) J rfl q
  | brk =>
    obtain ⟨_, _, _, q⟩ := hs
    exact False.elim q
  | cont =>
    obtain ⟨_, _, _, q⟩ := hs
    exact False.elim q
end L2
namespace L2
open PySem PySem.Spec PyProof.Rows
section
variable {X : Cx} {x : Str} {p pos : Pos} {e : Expr} {es : List Expr} {t : TA} {id T : String} {r : List V → Hp → VK → Prop}
def tCB (r : List V → Hp → VK → Prop) (t : TA) : TE := fun σ H Q => t σ H fun vs H1 => r vs H1 Q
/-- f(e, ..), f a built-in function -/
theorem pe_callB (hc : CallR X (.builtin id) r) (hg : Gl X x) (hm : X.mg x = none) (hv : bootBuiltins x = some (.builtin id)) (ha : PA X (e :: es) t) (hn : x ≠ "__name__" := by decide) (hdb : (x == ("__debug__" : Str)) = false := by decide)
    (he : starEach (e :: es) X.env = (false, eval e X.env) :: starEach es X.env := by rfl) (hpl : (backTo pos (starEach es X.env)).any (·.1) = false := by rfl) : PE X (.Call (.Name x p) (e :: es) [] pos) (tCB r t) := by
  intro pins s σ H Q I h
  refine wpAny_Call_Name_kw (ld_blt I hg hm hv ?_ hn hdb)
  exact PyProof.Rows.callWith_builtin1 (thn (ha pos pins s σ H _ I h) fun us s1 ⟨vs, H1, I1, r1, q1⟩ => hc pins s1 σ H1 vs us Q I1 r1 q1) he hpl
/-- T(e, ..), T a built-in type -/
theorem pe_callTy (hc : CallR X (.type T) r) (hg : Gl X x) (hm : X.mg x = none) (hv : bootBuiltins x = some (.type T)) (ha : PA X (e :: es) t) (hn : x ≠ "__name__" := by decide) (hdb : (x == ("__debug__" : Str)) = false := by decide)
    (he : starEach (e :: es) X.env = (false, eval e X.env) :: starEach es X.env := by rfl) (hpl : (backTo pos (starEach es X.env)).any (·.1) = false := by rfl) : PE X (.Call (.Name x p) (e :: es) [] pos) (tCB r t) := by
  intro pins s σ H Q I h
  refine wpAny_Call_Name_kw (ld_blt I hg hm hv ?_ hn hdb)
  exact PyProof.Rows.callWith_type1 (thn (ha pos pins s σ H _ I h) fun us s1 ⟨vs, H1, I1, r1, q1⟩ => hc pins s1 σ H1 vs us Q I1 r1 q1) he hpl
end
end L2
namespace HT
open PySem PyProof.Rows
section
open PySem.SeqAt
open PySem.AutoSeq1 (wpAny_loadPart')
open PySem.MeetsSeq PySem.MeetsSeq2 PySem.MeetsSeq3
end
section
variable {prog : Program} {w : World} {A : Around} {E : Value → Shared → Prop} {s : Shared}
/-! ### t[a:b], not the whole -/
/-- a slice's bound as a place among n (d where it is left out) -/
def sIx (n d : Nat) : Option Int → Nat
  | none => d
  | some v => if v < 0 then (v + (n : Int)).toNat else min v.toNat n
end
end HT
namespace L2
open PySem PySem.Spec PyProof.Rows
/-! ### the parts of a slice -/
abbrev TO := St → Hp → (Option Int → Hp → Prop) → Prop
/-- a slice's part (left out, or an int) -/
def PO (X : Cx) (e : Option Expr) (t : TO) : Prop :=
  ∀ (pins : List (Addr × Obj)) (s : Shared) (σ : St) (H : Hp) (Q : Option Int → Hp → Prop), Inv X pins σ H s → t σ H Q →
    wpAny (model X.prog X.w) X.A (evalPart e X.env) (fun u s' => ∃ o H', Inv X pins σ H' s' ∧ IsPart u o ∧ Q o H') X.xe s
def tNoPart : TO := fun _ H Q => Q none H
def tPart (t : TE) : TO := fun σ H Q => t σ H fun x H1 => ∃ i, x = .int i ∧ Q (some i) H1
section
variable {X : Cx} {e : Expr} {te : TE} {lo hi : Option Expr} {tl th : TO} {pos p2 : Pos}
theorem po_none : PO X none tNoPart := by
  intro pins s σ H Q I h
  rw [evalPart_none]
  exact wpAny_pure ⟨none, H, I, .none, h⟩
theorem po_some (h : PE X e te) : PO X (some e) (tPart te) := by
  intro pins s σ H Q I hw
  rw [evalPart_some]
  refine thn (h pins s σ H _ I hw) fun u s1 ⟨x, H1, I1, r1, q1⟩ => ?_
  obtain ⟨i, rfl, q⟩ := q1
  obtain ⟨t, rfl⟩ := r1
  exact ⟨some i, H1, I1, .int i t, q⟩
/-- what a slice of a value is, by values: the slice object stands at sl -/
def SlR (X : Cx) (r : V → Option Int → Option Int → Hp → VK → Prop) : Prop :=
  ∀ (pins : List (Addr × Obj)) (s : Shared) (σ : St) (H : Hp) (x : V) (v vl vu : Value) (lo hi : Option Int) (sl : Addr) (Q : VK), Inv X pins σ H s → RelV x v → s.heap.IsSliceOf sl vl vu .none → IsPart vl lo → IsPart vu hi → r x lo hi H Q →
    ∃ T id, typeLookup (.type T) "__getitem__" = pure (some (.builtin id)) ∧ s.TypeIs v T ∧ wpAny (model X.prog X.w) X.A (getItem v (.ref sl)) (EP X pins σ Q) X.xe s
def tSl (r : V → Option Int → Option Int → Hp → VK → Prop) (te : TE) (tl th : TO) : TE := fun σ H Q => te σ H fun x H1 => tl σ H1 fun l H2 => th σ H2 fun u H3 => r x l u H3 Q
/-- a[lo:hi], any a -/
theorem pe_slice {r : V → Option Int → Option Int → Hp → VK → Prop} (hr : SlR X r) (he : PE X e te) (hl : PO X lo tl) (hu : PO X hi th) : PE X (.Subscript e (.Slice lo hi none p2) pos) (tSl r te tl th) := by
  intro pins s σ H Q I h
  refine Subscript_ (thn (he pins s σ H _ I h) fun v s1 ⟨x, H1, I1, r1, q1⟩ => ?_)
  refine wpAny_Slice (thn (hl pins s1 σ H1 _ I1 q1) fun vl s2 ⟨l, H2, I2, pl, q2⟩ => thn (hu pins s2 σ H2 _ I2 q2) fun vu s3 ⟨u, H3, I3, pu, q3⟩ => ?_)
  rw [evalPart_none]
  refine wpAny_pure ?_
  have I4 : Inv X pins σ H3 { s3 with heap := s3.heap.push { cls := .type "slice", data := .fields #[vl, vu, .none] } } := I3.kept (t' := s3.toks) fun b ob q => Heap.get?_push_of_some _ q
  obtain ⟨T, id, hT, ht, hg⟩ := hr pins { s3 with heap := s3.heap.push { cls := .type "slice", data := .fields #[vl, vu, .none] } } σ H3 x v vl vu l u s3.heap.objs.size Q I4 r1 (Heap.IsSliceOf.new ..) pl pu q3
  show wpAny (model X.prog X.w) X.A (subscriptTail e (.Slice lo hi none p2) v (.ref s3.heap.objs.size)) (EP X pins σ Q) X.xe { s3 with heap := s3.heap.push { cls := .type "slice", data := .fields #[vl, vu, .none] } }
  exact tail_any (ops := [.ref s3.heap.objs.size, v]) ht hT hg (by with_unfolding_all rfl)
/-- the items of xs[lo:hi] -/
def cutV (xs : List V) (lo hi : Option Int) : List V := (xs.drop (HT.sIx xs.length 0 lo)).take (HT.sIx xs.length xs.length hi - HT.sIx xs.length 0 lo)
theorem cutV_length (xs : List V) (lo hi : Option Int) : (cutV xs lo hi).length ≤ xs.length := by
  unfold cutV
  rw [List.length_take, List.length_drop]
  omega
/-! ### t < u, t + u -/
end
end L2
namespace L2
open PySem PySem.Spec PyProof.Rows
/-! ### places -/
/-- the place that an index of any sign means -/
def ixN (n : Nat) (i : Int) : Option Nat := if 0 ≤ i then (if i < n then some i.toNat else none) else if -(n : Int) ≤ i then some (i + n).toNat else none
def atI {α : Type} (xs : List α) (i : Int) : Option α := (ixN xs.length i).bind fun j => xs[j]?
theorem ixN_seq {n : Nat} {i : Int} {j : Nat} (h : ixN n i = some j) : seqIndex? i n = some j ∧ j < n ∧ -(n : Int) ≤ i ∧ i < n := by
  unfold ixN at h
  by_cases h0 : 0 ≤ i
  · rw [if_pos h0] at h
    by_cases h1 : i < n
    · rw [if_pos h1] at h
      have e : i.toNat = j := Option.some.inj h
      exact ⟨by rw [seqIndex_of h0 h1, e], by omega, by omega, h1⟩
    · rw [if_neg h1] at h; cases h
  · rw [if_neg h0] at h
    by_cases h1 : -(n : Int) ≤ i
    · rw [if_pos h1] at h
      have e : (i + n).toNat = j := Option.some.inj h
      exact ⟨by rw [seqIndex_neg (by omega) h1, e], by omega, h1, by omega⟩
    · rw [if_neg h1] at h; cases h
theorem atI_get {α : Type} {xs : List α} {i : Int} {v : α} (h : atI xs i = some v) : ∃ j, seqIndex? i xs.length = some j ∧ xs[j]? = some v ∧ j < xs.length ∧ -(xs.length : Int) ≤ i ∧ i < xs.length := by
  unfold atI at h
  cases e : ixN xs.length i with
  | none => rw [e] at h; cases h
  | some j =>
    rw [e] at h
    obtain ⟨h1, h2, h3, h4⟩ := ixN_seq e
    exact ⟨j, h1, h, h2, h3, h4⟩
theorem atI_nat {α : Type} {xs : List α} {j : Nat} {v : α} (h : xs[j]? = some v) : atI xs (j : Int) = some v := by
  have hj : j < xs.length := (List.getElem?_eq_some_iff.mp h).1
  have e : ixN xs.length (j : Int) = some j := by
    unfold ixN
    rw [if_pos (by omega), if_pos (by omega)]; simp
  unfold atI; rw [e]; exact h
/-! ### what may be subscripted -/
/-- what stands as an index of a plain subscript -/
def PlainIx (b : Expr) : Prop := ∀ o i, subscripted b false o i = operate [o, i] (getItem o i)
/-- a subscript by values -/
def IxR (X : Cx) (r : R2) : Prop :=
  ∀ (value slice : Expr) (pins : List (Addr × Obj)) (s : Shared) (σ : St) (H : Hp) (x y : V) (v u : Value) (Q : VK), Inv X pins σ H s → RelV x v → RelV y u → r x y H Q →
    subscripted slice false v u = operate [v, u] (getItem v u) → wpAny (model X.prog X.w) X.A (subscriptTail value slice v u) (EP X pins σ Q) X.xe s
/-- a call of a builtin's method by values: the receiver, the arguments -/
def MtR (X : Cx) (id : String) (r : V → List V → Hp → VK → Prop) : Prop :=
  ∀ (pins : List (Addr × Obj)) (s : Shared) (σ : St) (H : Hp) (x : V) (xs : List V) (v : Value) (us : List Value) (Q : VK), Inv X pins σ H s → RelV x v → Vals xs us → r x xs H Q →
    wpAny (model X.prog X.w) X.A (call (.builtin id) (v :: us)) (EP X pins σ Q) X.xe s
section
variable {X : Cx} {a b : Expr} {ta tb : TE} {pos : Pos}
/-- a[b] -/
theorem pe_ix {r : R2} (hr : IxR X r) (ha : PE X a ta) (hb : PE X b tb) (hs : PlainIx b) : PE X (.Subscript a b pos) (tOp r ta tb) := by
  intro pins s σ H Q I h
  exact Subscript_ (binT ha hb I h fun v u s2 x y H2 I2 rx ry q => hr a b pins s2 σ H2 x y v u Q I2 rx ry q (hs _ _))
def rIxL (K : PySem.W.Frag) : R2 := fun x y H Q => ∃ p xs i v, x = .ref p ∧ y = .int i ∧ SqL K H p xs ∧ atI xs i = some v ∧ Q v H
def rIxT (K : PySem.W.Frag) : R2 := fun x y H Q => ∃ p xs i v, x = .ref p ∧ y = .int i ∧ SqT K H p xs ∧ atI xs i = some v ∧ Q v H
def rIxS : R2 := fun x y H Q => ∃ z i c, x = .str z ∧ y = .int i ∧ z.length ≤ sizeLine ∧ atI z.cps.toList i = some c ∧ Q (.str ⟨#[c]⟩) H
theorem ix_list : IxR X (rIxL X.K) := by
  intro value slice pins s σ H x y v u Q I rx ry h hs
  obtain ⟨p, xs, i, z, rfl, rfl, hq, he, q⟩ := h
  cases rx
  obtain ⟨t, rfl⟩ := ry
  obtain ⟨its, r, pl, hz⟩ := I.list hq
  obtain ⟨j, h1, h2, h3, h4, h5⟩ := atI_get he
  obtain ⟨w, ew, rw'⟩ := r.get h2
  have hl := r.length
  have hn := line63
  have fin : EP X pins σ Q w s := ⟨z, H, I, rw', q⟩
  by_cases h0 : 0 ≤ i
  · have hj : i.toNat = j := by
      rw [seqIndex_of h0 h5] at h1
      exact Option.some.inj h1
    exact item_listR pl.isList h0 (by omega) (by rw [hj]; simpa using ew) fin hs
  · have hj : (i + (its.toArray.size : Int)).toNat = j := by
      rw [seqIndex_neg (by omega) h4] at h1
      rw [List.size_toArray, ← hl]
      exact Option.some.inj h1
    exact subscriptTail_builtinR (x := w) pl.isList.typeIs slot_list_getitem.lookup
      (wpAny_getItem_list_neg (Q := fun r s' => r = w ∧ EP X pins σ Q r s') pl.isList (by omega) (by rw [List.size_toArray] <;> omega) (by omega) (by rw [hj]; simpa using ew) ⟨rfl, fin⟩) hs
theorem ix_tup : IxR X (rIxT X.K) := by
  intro value slice pins s σ H x y v u Q I rx ry h hs
  obtain ⟨p, xs, i, z, rfl, rfl, hq, he, q⟩ := h
  cases rx
  obtain ⟨t, rfl⟩ := ry
  obtain ⟨its, r, pl, hz⟩ := I.tuple hq
  obtain ⟨j, h1, h2, h3, h4, h5⟩ := atI_get he
  obtain ⟨w, ew, rw'⟩ := r.get h2
  have hl := r.length
  have hn := line63
  have fin : EP X pins σ Q w s := ⟨z, H, I, rw', q⟩
  exact subscriptTail_builtinR (x := w) pl.typeIs slot_tuple_getitem.lookup
    (getItem_tuple (j := j) (Q := fun r s' => r = w ∧ EP X pins σ Q r s') pl (by omega) (by omega) (by rw [List.size_toArray, ← hl]; exact h1) (by simpa using ew) ⟨rfl, fin⟩) hs
theorem ix_str : IxR X rIxS := by
  intro value slice pins s σ H x y v u Q I rx ry h hs
  obtain ⟨z, i, c, rfl, rfl, hz, he, q⟩ := h
  obtain ⟨t, rfl⟩ := rx
  obtain ⟨t', rfl⟩ := ry
  obtain ⟨j, h1, h2, h3, h4, h5⟩ := atI_get he
  have hl : z.cps.toList.length = z.length := by simp [Str.length]
  rw [hl] at h1 h4 h5
  have hn := line63
  exact tail_any (typeIs_str s z t) slot_str_getitem.lookup (getItem_str (c := c) (by
    have e1 : decide (i < -(2 ^ 63 : Int)) = false := decide_eq_false (by omega)
    have e2 : decide (i ≥ 2 ^ 63) = false := decide_eq_false (by omega)
    rw [e1, e2, Bool.or_false]) (by rw [h1]; simpa using h2) ⟨.str ⟨#[c]⟩, H, I.tok _, ⟨_, rfl⟩, q⟩) hs
/-! ### xs[i] = v, any sign -/
/-- the list's object behind a store -/
theorem mapSeq_set (its : List Value) (n j : Nat) (u : Value) : Obj.mapSeq (·.setIfInBounds j u) { cls := .type "list", data := .seq its.toArray n } = { cls := .type "list", data := .seq (its.set j u).toArray n } := by
  simp [Obj.mapSeq]
theorem Inv.lst {pins : List (Addr × Obj)} {σ : St} {H : Hp} {s : Shared} {p : Addr} {xs : List V} (I : Inv X pins σ H s) (h : H p = some (.lst xs)) :
    ∃ (its : List Value) (n : Nat), Vals xs its ∧ s.heap.get? p = some { cls := .type "list", data := .seq its.toArray n } ∧ xs.length ≤ sizeLine := by
  obtain ⟨z, its, n, r, e⟩ := I.hok p _ h
  exact ⟨its, n, r, e, z⟩
/-- the list at p is written by an update of its object -/
theorem Inv.lstUpd {pins : List (Addr × Obj)} {σ : St} {H : Hp} {s : Shared} {p : Addr} {xs ys : List V} {its its' : List Value} {n n' : Nat} {f : Obj → Obj} (I : Inv X pins σ H s) (h : H p = some (.lst xs))
    (ho : s.heap.get? p = some { cls := .type "list", data := .seq its.toArray n }) (hf : f { cls := .type "list", data := .seq its.toArray n } = { cls := .type "list", data := .seq its'.toArray n' }) (r : Vals ys its') (hz : ys.length ≤ sizeLine) (t : Nat) :
    Inv X pins σ (upd H p (.lst ys)) { s with heap := s.heap.update p f, toks := t } := by
  have e : (s.heap.update p f).get? p = some { cls := .type "list", data := .seq its'.toArray n' } := by
    rw [Heap.get?_update_self f ho (by rw [hf] <;> rfl), hf]
  refine I.write (x := p) (e := p) (by rw [h]; trivial) (.inl rfl) (fun b u hb q => (Heap.get?_update_other _ _ (Ne.symm hb)).trans q) ⟨_, e⟩ ?_
  exact ⟨hz, its', n', r, e⟩
def rSetL : V → V → V → Hp → (Hp → Prop) → Prop := fun o i v H Q => ∃ p xs k j, o = .ref p ∧ i = .int k ∧ H p = some (.lst xs) ∧ ixN xs.length k = some j ∧ Q (upd H p (.lst (xs.set j v)))
theorem set_list : PSet X rSetL := by
  intro pins s σ H o i v ov iv u Q I ro ri rv h
  obtain ⟨p, xs, k, j, rfl, rfl, hp, hj, q⟩ := h
  cases ro
  obtain ⟨t, rfl⟩ := ri
  obtain ⟨its, n, r, ho, hz⟩ := I.lst hp
  obtain ⟨h1, h2, h3, h4⟩ := ixN_seq hj
  have hl := r.length
  have hn := line63
  have I' : Inv X pins σ (upd H p (.lst (xs.set j v))) { s with heap := s.heap.update p (Obj.mapSeq (·.setIfInBounds j u)) } :=
    I.lstUpd hp ho (mapSeq_set its n j u) (r.set rv j) (by rw [List.length_set]; exact hz) s.toks
  by_cases h0 : 0 ≤ k
  · have hk : k.toNat = j := by
      rw [seqIndex_of h0 h4] at h1
      exact Option.some.inj h1
    exact PySem.W.ki_setAt ho h0 (by omega) (by rw [List.size_toArray, ← hl]; exact h4) (by rw [hk]; exact ⟨_, I', q⟩)
  · have hk : (k + (its.toArray.size : Int)).toNat = j := by
      rw [seqIndex_neg (by omega) h3] at h1
      rw [List.size_toArray, ← hl]
      exact Option.some.inj h1
    exact PySem.W.ki_setBack ho (by omega) (by rw [List.size_toArray, ← hl]; exact h3) (by omega) (by rw [hk]; exact ⟨_, I', q⟩)
/-! ### slices -/
theorem slice_bounds (lo hi : Option Int) (n : Nat) : (sliceBounds lo hi none n).1 = ((HT.sIx n 0 lo : Nat) : Int) ∧ (sliceBounds lo hi none n).2.1 = ((HT.sIx n n hi : Nat) : Int) ∧ (sliceBounds lo hi none n).2.2 = 1 := by
  refine ⟨?_, ?_, rfl⟩
  · cases lo with
    | none => simp [sliceBounds, HT.sIx]
    | some i =>
      simp only [sliceBounds, HT.sIx, Option.getD_none, show (1 : Int) > 0 by decide, if_true]
      by_cases h : i < 0
      · simp only [h, if_true] <;> omega
      · simp only [h, if_false] <;> omega
  · cases hi with
    | none => simp [sliceBounds, HT.sIx]
    | some i =>
      simp only [sliceBounds, HT.sIx, Option.getD_none, show (1 : Int) > 0 by decide, if_true]
      by_cases h : i < 0
      · simp only [h, if_true] <;> omega
      · simp only [h, if_false] <;> omega
theorem slicePick_cut (its : List Value) (lo hi : Option Int) : slicePick its.toArray lo hi none = ((its.drop (HT.sIx its.length 0 lo)).take (HT.sIx its.length its.length hi - HT.sIx its.length 0 lo)).toArray := by
  obtain ⟨h1, h2, h3⟩ := slice_bounds lo hi its.toArray.size
  unfold slicePick
  rw [h1, h2, h3]
  simp only [sliceRange_one, pick_run, List.size_toArray] <;> rfl
/-- xs[lo:hi] of a list: a new list -/
def rSlL (K : PySem.W.Frag) : V → Option Int → Option Int → Hp → VK → Prop := fun x lo hi H Q => ∃ a xs, x = .ref a ∧ SqL K H a xs ∧ ∀ p, H p = none → Q (.ref p) (upd H p (.lst (cutV xs lo hi)))
theorem sl_list : SlR X (rSlL X.K) := by
  intro pins s σ H x v vl vu lo hi sl Q I rx hs pl pu h
  obtain ⟨a, xs, rfl, hx, q⟩ := h
  cases rx
  obtain ⟨its, r, ht, hz⟩ := I.list hx
  have hlen := r.length
  refine ⟨"list", _, slot_list_getitem.lookup, ht.isList.typeIs, ?_⟩
  refine wpAny_getItem_list_slice ht.isList hs pl pu .none (by simp) ?_ (by rw [List.size_toArray] <;> omega)
  rw [slicePick_cut, ← hlen]
  refine ⟨.ref s.heap.objs.size, _, I.laid (t' := s.toks) (o := .lst (cutV xs lo hi)) (fun b ob q => Heap.get?_push_of_some _ q) (Nat.le_refl _) ?_, rfl, q _ (I.hok.fresh (Nat.le_refl _))⟩
  exact ⟨Nat.le_trans (cutV_length xs lo hi) hz, _, 0, (r.drop (HT.sIx xs.length 0 lo)).take (HT.sIx xs.length xs.length hi - HT.sIx xs.length 0 lo), Heap.get?_push_size _ rfl⟩
/-! ### in, not in: flat items -/
/-! ### len, list(x), tuple(x) of any list or tuple that is read -/
theorem call_len_seq : CallR X (.builtin "len") (fun xs H Q => ∃ p ys, xs = [.ref p] ∧ (SqL X.K H p ys ∨ SqT X.K H p ys) ∧ Q (.int ys.length) H) := by
  intro pins s σ H xs us Q I r h
  obtain ⟨p, ys, rfl, hq, q⟩ := h
  obtain ⟨u, rfl, rx⟩ := vals1 r
  cases rx
  have hn := line63
  rcases hq with hq | hq
  · obtain ⟨its, r', pl, hz⟩ := I.list hq
    have hlen := r'.length
    exact Calls.call_len_list pl.isList (by simp only [List.size_toArray] <;> omega) ⟨.int ys.length, H, I.tok _, ⟨s.toks + 1, by rw [List.size_toArray, hlen]⟩, q⟩
  · obtain ⟨its, r', pl, hz⟩ := I.tuple hq
    have hlen := r'.length
    exact len_tuple pl (by simp only [List.size_toArray] <;> omega) ⟨.int ys.length, H, I.tok _, ⟨s.toks + 1, by rw [List.size_toArray, hlen]⟩, q⟩
theorem call_len_str : CallR X (.builtin "len") (fun xs H Q => ∃ z, xs = [.str z] ∧ z.length ≤ sizeLine ∧ Q (.int z.length) H) := by
  intro pins s σ H xs us Q I r h
  obtain ⟨z, rfl, hz, q⟩ := h
  obtain ⟨u, rfl, t, rfl⟩ := vals1 r
  have hn := line63
  exact len_str (by omega) ⟨.int z.length, H, I.tok _, ⟨_, rfl⟩, q⟩
theorem call_list_of : CallR X (.type "list") (fun xs H Q => ∃ p ys, xs = [.ref p] ∧ (SqL X.K H p ys ∨ SqT X.K H p ys) ∧ ∀ l, H l = none → Q (.ref l) (upd H l (.lst ys))) := by
  intro pins s σ H xs us Q I r h
  obtain ⟨p, ys, rfl, hq, q⟩ := h
  obtain ⟨u, rfl, rx⟩ := vals1 r
  cases rx
  have fin : ∀ (its : List Value), Vals ys its → ys.length ≤ sizeLine → ∀ (h' : Heap) (c' : Nat), (∀ b o', s.heap.get? b = some o' → h'.get? b = some o') →
      h'.get? s.heap.objs.size = some { cls := .type "list", dict := none, data := .seq its.toArray c', slots := #[] } → EP X pins σ Q (.ref s.heap.objs.size) { s with heap := h' } := fun its r' hz h' c' kp e =>
    ⟨.ref s.heap.objs.size, _, I.laid (t' := s.toks) kp (Nat.le_refl _) (show ObjOk X.prog X.w _ h' _ (.lst ys) from ⟨hz, its, c', r', e⟩), rfl, q _ (I.hok.fresh (Nat.le_refl _))⟩
  rcases hq with hq | hq
  · obtain ⟨its, r', pl, hz⟩ := I.list hq
    have hlen := r'.length
    obtain ⟨o, ho, hc, n, hd⟩ := pl.isList
    exact call_list_seq p (.inl rfl) ho hc hd (fun h' c' kp e => fin its r' hz h' c' kp e) (by simp only [List.size_toArray] <;> omega)
  · obtain ⟨its, r', pl, hz⟩ := I.tuple hq
    have hlen := r'.length
    obtain ⟨o, ho, hc, n, hd⟩ := pl
    exact call_list_seq p (.inr rfl) ho hc hd (fun h' c' kp e => fin its r' hz h' c' kp e) (by simp only [List.size_toArray] <;> omega)
theorem call_tuple_of : CallR X (.type "tuple") (fun xs H Q => ∃ p ys, xs = [.ref p] ∧ ((SqL X.K H p ys ∧ ∀ l, H l = none → Q (.ref l) (upd H l (.tup ys))) ∨ (SqT X.K H p ys ∧ Q (.ref p) H))) := by
  intro pins s σ H xs us Q I r h
  obtain ⟨p, ys, rfl, h⟩ := h
  obtain ⟨u, rfl, rx⟩ := vals1 r
  cases rx
  rcases h with ⟨hq, q⟩ | ⟨hq, q⟩
  · obtain ⟨its, r', pl, hz⟩ := I.list hq
    have hlen := r'.length
    refine call_tuple_list pl.isList (fun h' kp => ?_) (by simp only [List.size_toArray] <;> omega)
    have I1 : Inv X pins σ H { s with heap := h' } := I.kept (t' := s.toks) kp
    have I2 : Inv X pins σ (upd H h'.objs.size (.tup ys)) { s with heap := h'.push { cls := .type "tuple", data := .seq its.toArray } } :=
      I1.laid (t' := s.toks) (fun b o e => Heap.get?_push_of_some _ e) (Nat.le_refl _) (show ObjOk X.prog X.w _ _ _ (.tup ys) from ⟨hz, its, r', IsTup.new _ _⟩)
    exact ⟨.ref h'.objs.size, _, I2, rfl, q _ (I1.hok.fresh (Nat.le_refl _))⟩
  · obtain ⟨its, r', pl, hz⟩ := I.tuple hq
    exact call_tuple_same pl ⟨.ref p, H, I, rfl, q⟩
/-! ### the call of a builtin's method: o.m(..) -/
/-- the value is of that builtin type -/
def tyV (K : PySem.W.Frag) (T : String) (x : V) (H : Hp) : Prop := match x with
  | .str _ => T = "str"
  | .int _ => T = "int"
  | .ref p => (T = "list" ∧ ∃ xs, SqL K H p xs) ∨ (T = "tuple" ∧ ∃ o, K.lookup p = some o ∧ o.cls = .type "tuple" ∧ o.dict = none) ∨
      (T = "dict" ∧ ((∃ kvs, H p = some (.dK kvs)) ∨ ∃ kvs, H p = some (.dT kvs))) ∨ (T = "set" ∧ ∃ S n, H p = some (.set S n))
  | _ => False
theorem tyV_is {pins : List (Addr × Obj)} {σ : St} {H : Hp} {s : Shared} {T : String} {x : V} {v : Value} (I : Inv X pins σ H s) (r : RelV x v) (ty : tyV X.K T x H) :
    s.TypeIs v T ∧ ∀ a, v = .ref a → ∃ ob, s.heap.get? a = some ob ∧ ob.dict = none := by
  cases x with
  | str z =>
    obtain ⟨t, rfl⟩ := r
    cases (show T = "str" from ty)
    exact ⟨typeIs_str s z t, fun _ e => nomatch e⟩
  | int i =>
    obtain ⟨t, rfl⟩ := r
    cases (show T = "int" from ty)
    exact ⟨typeIs_int s i t, fun _ e => nomatch e⟩
  | ref p =>
    cases r
    rcases ty with ⟨rfl, xs, hq⟩ | ⟨rfl, o, hk, hc, hd⟩ | ⟨rfl, hk⟩ | ⟨rfl, S, n, hk⟩
    · obtain ⟨its, _, pl, _⟩ := I.list hq
      refine ⟨pl.isList.typeIs, fun a e => ?_⟩
      cases e
      obtain ⟨o, n, e, c, hd, _⟩ := pl
      exact ⟨o, e, hd⟩
    · refine ⟨⟨o, I.kIn p o hk, hc⟩, fun a e => ?_⟩
      cases e
      exact ⟨o, I.kIn _ o hk, hd⟩
    · have z : ∃ o, s.heap.get? p = some o ∧ o.ExactDict := by
        rcases hk with ⟨kvs, hk⟩ | ⟨kvs, hk⟩
        · obtain ⟨_, _, _, _, o, _, _, e, ex, _⟩ := I.hok p _ hk
          exact ⟨o, e, ex⟩
        · obtain ⟨_, _, _, _, o, _, _, e, ex, _⟩ := I.hok p _ hk
          exact ⟨o, e, ex⟩
      obtain ⟨o, e, ex⟩ := z
      refine ⟨⟨o, e, ex.1⟩, fun a e2 => ?_⟩
      cases e2
      exact ⟨o, e, ex.2.1⟩
    · obtain ⟨o, _, _, _, e, ex, _⟩ := I.hok p _ hk
      refine ⟨⟨o, e, ex.1⟩, fun a e2 => ?_⟩
      cases e2
      exact ⟨o, e, ex.2.1⟩
  | _ => exact False.elim ty
def tBM (K : PySem.W.Frag) (T : String) (r : V → List V → Hp → VK → Prop) (to : TE) (t : TA) : TE := fun σ H Q => to σ H fun x H1 => tyV K T x H1 ∧ t σ H1 fun xs H2 => r x xs H2 Q
variable {o e : Expr} {es : List Expr} {to : TE} {t : TA} {name : Str} {apos cpos : Pos} {T id : String} {r : V → List V → Hp → VK → Prop}
theorem pe_bm (pa : PlainAttrs T) (slot : Slot T name id) (hty : typeOf (.builtin id) = pure (.type "method_descriptor")) (hm : MtR X id r) (ho : PE X o to) (ha : PA X (e :: es) t)
    (hbase : attributeBase o name X.env (eval o X.env) = eval o X.env := by rfl)
    (hfew : ((backTo cpos (starEach (e :: es) X.env)).all (fun x => !x.1) && (backToKw cpos (keywordEach [] X.env)).all (fun x => x.1.isSome)
      && decide ((e :: es).length + ([] : List Keyword).length + (if ([] : List Keyword).isEmpty then 0 else 1) < 30)) = true := by rfl)
    (hline : (apos.endLine == cpos.line) = true := by rfl) (hs : starEach (e :: es) X.env = (false, eval e X.env) :: starEach es X.env := by rfl) (hplain : (backTo cpos (starEach es X.env)).any (·.1) = false := by rfl) :
    PE X (.Call (.Attribute o name apos) (e :: es) [] cpos) (tBM X.K T r to t) := by
  intro pins s σ H Q I h
  refine wpAny_Call_method_late hbase hfew hline rfl (thn (ho pins s σ H _ I h) fun v s1 ⟨x, H1, I1, r1, ty, q1⟩ => ?_)
  obtain ⟨h1, h2⟩ := tyV_is I1 r1 ty
  refine ⟨T, id, pa, slot, hty, h1, h2, ?_⟩
  have hA := ha cpos pins s1 σ H1 _ I1 q1
  rw [hs] at hA ⊢
  refine Calls.callWith_builtin (by show (false || (backTo cpos (starEach es X.env)).any (·.1)) = false; rw [hplain] <;> rfl) (Calls.evalArgs_plain ?_)
  exact thn hA fun us s2 ⟨vs, H2, I2, r2, q2⟩ => hm pins s2 σ H2 x vs v us Q I2 r1 r2 q2
/- xs.append(e), list.index on a module's tuple .. are MtR facts of 06m -/
end
end L2
namespace L2
open PySem PySem.Spec PyProof.Rows
def MtM (X : Cx) (id : String) (r : V → List V → Hp → VK → Prop) : Prop :=
  ∀ (pins : List (Addr × Obj)) (s : Shared) (σ : St) (H : Hp) (x : V) (xs : List V) (v : Value) (us : List Value) (Q : VK), Inv X pins σ H s → RelV x v → Vals xs us → r x xs H Q →
    wpAny (model X.prog X.w) X.A (call (.builtin id) (v :: us)) (EP X pins σ Q) X.xe s
/-! ### lists of values -/
theorem Vals.one : ∀ {x : V} {us : List Value}, Vals [x] us → ∃ u, us = [u] ∧ RelV x u
  | _, _, .cons r .nil => ⟨_, rfl, r⟩
theorem Vals.dropLast {xs : List V} {us : List Value} (h : Vals xs us) : Vals xs.dropLast us.dropLast := by
  induction h with
  | nil => exact .nil
  | cons r t ih =>
    cases t with
    | nil => exact .nil
    | cons q t' => exact .cons r ih
section
variable {X : Cx} {pins : List (Addr × Obj)} {σ : St} {H : Hp} {s : Shared} {l b : Addr} {xs ys zs : List V}
/-! ### the two steps: a tracked list is rewritten, a new list is laid -/
theorem Inv.lset {its its' : List Value} {n : Nat} {f : Array Value → Array Value} {t' : Nat} (I : Inv X pins σ H s) (hH : H l = some (.lst xs))
    (e : s.heap.get? l = some { cls := .type "list", data := .seq its.toArray n }) (hf : f its.toArray = its'.toArray) (hv : Vals ys its') (hz : ys.length ≤ sizeLine) :
    Inv X pins σ (upd H l (.lst ys)) { s with heap := s.heap.update l (Obj.mapSeq f), toks := t' } := by
  have q := PySem.IsL.update e f
  rw [hf] at q
  refine I.write (x := l) (e := l) (by rw [hH]; exact trivial) (.inl rfl) (fun b' u hb hu => (Heap.get?_update_other s.heap (Obj.mapSeq f) (Ne.symm hb)).trans hu) ⟨_, q⟩ ?_
  exact ⟨hz, its', _, hv, q⟩
theorem Inv.lnew {its : List Value} {t' : Nat} (I : Inv X pins σ H s) (hv : Vals ys its) (hz : ys.length ≤ sizeLine) :
    Inv X pins σ (upd H s.heap.objs.size (.lst ys)) { s with heap := s.heap.push { cls := .type "list", data := .seq its.toArray }, toks := t' } :=
  I.laid (fun _ _ q => Heap.get?_push_of_some _ q) (Nat.le_refl _) ⟨hz, its, 0, hv, Heap.get?_push_size _ rfl⟩
theorem Inv.fresh (I : Inv X pins σ H s) : H s.heap.objs.size = none := I.hok.fresh (Nat.le_refl _)
theorem Inv.lstM (I : Inv X pins σ H s) (hH : H l = some (.lst xs)) : xs.length ≤ sizeLine ∧ ∃ (its : List Value) (n : Nat), Vals xs its ∧ xs.length = its.length ∧ s.heap.get? l = some { cls := .type "list", data := .seq its.toArray n } := by
  obtain ⟨z, its, n, r, e⟩ := I.hok l _ hH
  exact ⟨z, its, n, r, r.length, e⟩
theorem notLongL {n : Nat} (h : n ≤ sizeLine) : Builtin.List.listTooLong n = false := by
  unfold Builtin.List.listTooLong
  exact decide_eq_false (by omega)
end
section
variable {X : Cx}
/-! ### methods -/
def rAppend : V → List V → Hp → VK → Prop := fun x vs H Q => ∃ l xs y, x = .ref l ∧ vs = [y] ∧ H l = some (.lst xs) ∧ xs.length < sizeLine ∧ Q .non (upd H l (.lst (xs ++ [y])))
theorem mt_append : MtM X "list.append" rAppend := by
  intro pins s σ H x vs v us Q I rx rv h
  obtain ⟨l, xs, y, rfl, rfl, hH, hz, q⟩ := h
  cases rx
  obtain ⟨u, rfl, ru⟩ := rv.one
  obtain ⟨z, its, n, r, hl, e⟩ := I.lstM hH
  refine call_meets F.slot_list_append ⟨_, e, rfl⟩ F.entry_list_append (F.args_list_append_2 _ _) (PySem.list_append l its.toArray n u (by rw [List.size_toArray]; omega)) ⟨e, ?_⟩
  refine ⟨.non, _, I.lset (its' := its ++ [u]) hH e (by simp) (r.append (.cons ru .nil)) ?_, rfl, q⟩
  rw [List.length_append, List.length_singleton]
  omega
def rExtend : V → List V → Hp → VK → Prop := fun x vs H Q => ∃ l b xs zs, x = .ref l ∧ vs = [.ref b] ∧ H l = some (.lst xs) ∧ H b = some (.lst zs) ∧ xs.length + zs.length ≤ sizeLine ∧ Q .non (upd H l (.lst (xs ++ zs)))
theorem mt_extend : MtM X "list.extend" rExtend := by
  intro pins s σ H x vs v us Q I rx rv h
  obtain ⟨l, b, xs, zs, rfl, rfl, hH, hB, hz, q⟩ := h
  cases rx
  obtain ⟨u, rfl, ru⟩ := rv.one
  cases ru
  obtain ⟨z, its, n, r, hl, e⟩ := I.lstM hH
  obtain ⟨z2, its2, n2, r2, hl2, e2⟩ := I.lstM hB
  have hsz : its.toArray.size + its2.toArray.size ≤ sizeLine := by rw [List.size_toArray, List.size_toArray]; omega
  have hlong : ¬ (!its.toArray.isEmpty && Builtin.List.listTooLong (its.toArray.size + its2.toArray.size)) = true := by
    rw [notLongL hsz, Bool.and_false]
    exact Bool.false_ne_true
  refine call_meets F.slot_list_extend ⟨_, e, rfl⟩ F.entry_list_extend (F.args_list_extend_2 _ _)
    (AutoSeq1.list_extend_list_list_0 l its.toArray n b its2.toArray n2 hlong (by rw [List.size_toArray]; omega) (by omega)) ⟨e, e2, ?_⟩
  refine ⟨.non, _, I.lset (its' := its ++ its2) hH e (by simp) (r.append r2) ?_, rfl, q⟩
  rw [List.length_append]
  omega
/-! ### list + list, list += list, list * int -/
def rCat : R2 := fun x y H Q => ∃ l b xs zs, x = .ref l ∧ y = .ref b ∧ H l = some (.lst xs) ∧ H b = some (.lst zs) ∧ xs.length + zs.length ≤ sizeLine ∧ ∀ p, H p = none → Q (.ref p) (upd H p (.lst (xs ++ zs)))
theorem op_cat : OpR X (binaryOp .Add) rCat := by
  intro pins s σ H x y v u Q I rx ry h
  obtain ⟨l, b, xs, zs, rfl, rfl, hH, hB, hz, q⟩ := h
  cases rx
  cases ry
  obtain ⟨z, its, n, r, hl, e⟩ := I.lstM hH
  obtain ⟨z2, its2, n2, r2, hl2, e2⟩ := I.lstM hB
  refine PySem.P.add_list e e2 ?_ (by rw [List.size_toArray, List.size_toArray]; omega)
  have ea : its.toArray ++ its2.toArray = (its ++ its2).toArray := by simp
  rw [ea]
  exact ⟨.ref _, _, I.lnew (t' := s.toks) (r.append r2) (by rw [List.length_append]; omega), rfl, q _ I.fresh⟩
/-! ### del xs[i] -/
end
/-! ### xs[a:b] = ys -/
section
variable {prog : Program} {w : World} {A : Around} {E : Value → Shared → Prop} {s : Shared}
end
section
variable {X : Cx}
end
end L2
namespace Att
open PySem PySem.W PySem.Calls PyProof.Rows
/-! ### the script -/
theorem ints_of_wellAll {P : Params} {h : Heap} : ∀ (ns : List Int) (vs : List Value), WellAll P h vs (ns.map WData.int) → IntsAre vs ns := by
  intro ns
  induction ns with
  | nil =>
    intro vs w
    rw [List.map_nil] at w
    cases w
    exact .nil
  | cons n ns ih =>
    intro vs w
    rw [List.map_cons] at w
    cases w with
    | cons a b =>
      cases a
      exact .cons _ _ (ih _ b)
theorem script_of {l : OpenLaw} {n : Nat} (hn : l.most = some n) {P : Params} {h : Heap} {args : List WData} {vals : List Value}
    (hpre : l.row.toRowW.claim.pre args = true) (hwl : WellAll P h vals args) :
    ∃ a vs ns, vals = [Value.ref a] ∧ args = [WData.list (ns.map WData.int)] ∧ h.get? a = some { cls := .type "list", data := .seq vs.toArray } ∧ IntsAre vs ns ∧ ns.length ≤ n := by
  have hsh : WShape.hasAll [] args [.list .int] = true := (pre_splitW hpre).1
  have hc : l.pre.holds [] { args := args } = true := (pre_splitW hpre).2
  obtain ⟨d, r, rfl, h1, h2⟩ := hasAllW_cons hsh
  obtain rfl := hasAllW_nil h2
  obtain ⟨xs, rfl, h3⟩ := hasW_list h1
  obtain ⟨ns, rfl⟩ := items_int h3
  have hlen : ns.length ≤ n := by
    unfold OpenLaw.pre at hc
    have h4 : (WTm.not (.lt (.lit (.int (n : Int))) (.len (.arg 0)))).holds [] { args := [.list (ns.map .int)] } = true := by
      have h4 := (holds_andW hc).1
      rw [hn] at h4
      exact h4
    have h5 := condW_of h4 (w_not (w_lt w_lit (w_len_list (w_arg rfl))))
    rw [List.length_map] at h5
    refine Nat.le_of_not_lt fun q => ?_
    have q' : (n : Int) < ((ns.length : Nat) : Int) := by omega
    first
      | (rw [decide_eq_true q'] at h5; exact absurd h5 (by decide))
      | (simp at h5; omega)
  cases hwl with
  | cons w1 w2 =>
    cases w2
    cases w1 with
    | list ho hall => exact ⟨_, _, ns, rfl, rfl, ho, ints_of_wellAll ns _ hall, hlen⟩
theorem post_true (l : OpenLaw) (args : List WData) : l.row.toRowW.claim.post args (.bool true) args = true :=
  postW_of (r := l.row.toRowW) (X := (true == true))
    (show WShape.has [] (.bool true) .bool = true by first | rfl | decide | simp [WShape.has, WShape.arms, WShape.armsAll])
    (show (WTm.eq .res (.lit (.bool true))).value [] { args := args, res := some (.bool true), after := args } = some (.bool (true == true)) from w_eq_bool (w_res rfl) w_lit) rfl
/-! ### the attachment: holds_open's last premise (the goal 'hc' behind k_head) from a wpAny of the law's body -/
/-- the same from a codeAny of the CALL (for a layer whose function contracts speak of calls) -/
theorem attach_call {l : OpenLaw} {n : Nat} {q : Program} {loose : List Str} {XP : (Str → Option Value) → Heap → Prop} {YP : World → Heap → Prop} {d : DefRec}
    (hn : l.most = some n) (hdf : d.params.defaults = [])
    (call : ∀ (w : World) (s₀ s₁ : Shared) (mg mb : Str → Option Value) (fa : Addr) (o : Obj) (pm cd doc : Value) (a : Addr) (vs : List Value) (ns : List Int),
      Ground q loose [] XP w s₀ mg mb s₁.heap → YP w s₁.heap →
      s₁.heap.get? fa = some o → o.data = .func (docDef d.name d.params d.body d.scope pm cd doc) → s₁.heap.CodeRec cd d.name → mg d.name = some (.ref fa) →
      s₁.heap.get? a = some { cls := .type "list", data := .seq vs.toArray } → IntsAre vs ns → ns.length ≤ n → s₁.gens = #[] →
      codeAny (model l.prog w) callerA (.call (.ref fa) ⟨[.ref a], []⟩) (fun r s' => r = .ok (.ret (.bool true)) ∧ OldK s₁.heap s'.heap ∧ s'.os = s₁.os ∧ AllBare s'.gens) s₁) :
    WalkO q loose XP YP l.row.toRowW d [] (fun f vs => PySem.call f vs) := by
  intro w s₀ s₁ mg mb G Y fa o pm cd doc dV kV ho hd hcd hD hmg hg args vals as hpre hlay hrd hwl hlo
  obtain rfl : dV = .none := Dflts.none hD hdf
  obtain rfl : kV = .none := Dflts.noKw hD
  obtain ⟨a, vs, ns, rfl, rfl, hobj, hints, hlen⟩ := script_of hn hpre hwl
  refine enter_call (codeAny_mono (call w s₀ s₁ mg mb fa o pm cd doc a vs ns G Y ho (fd_plain hd) hcd hmg hobj hints hlen hg) fun r s' hq => ?_)
  obtain ⟨rfl, h2, h3, h4⟩ := hq
  exact ⟨.inl ⟨.bool true, .bool true, [], rfl, fun _ => rfl, .bool true, post_true l _, fun _ => ⟨List.Pairwise.nil, fun _ hm => (nomatch hm)⟩⟩, h2, h3, h4⟩
/-! ### rules over ANY heap (no ledger) from facts about the written part K: the library's own take a ledger (News) for what they write -/
section
variable {prog : Program} {w : World} {A : Around} {E : Value → Shared → Prop} {s : Shared} {K : Frag}
/-! the whole heap as the ledger: makes every rule that writes through a ledger a rule over any heap -/
def ledger (h : Heap) (L d : Addr) : List (Addr × Obj) := (List.range h.objs.size).filterMap fun a => if a = L ∨ a = d then none else (h.get? a).map fun o => (a, o)
end
end Att
namespace L2
open PySem PySem.Spec PyProof.Rows
theorem vals_ints : ∀ {vs : List Value} {ns : List Int}, IntsAre vs ns → Vals (ns.map V.int) vs
  | _, _, .nil => .nil
  | _, _, .cons n t h => .cons ⟨t, rfl⟩ (vals_ints h)
/-- nothing is tracked but the script, known to the object (or it is an object of the module) -/
def Only (H : Hp) : Prop := ∀ b, H b = none ∨ ∃ o xs, H b = some (.frz o (.lst xs))
/-- THE HEAD: the law's promise, at the heap behind the top. F, the promise of the law's def, may use that base is part of the heap (so K.In base, base.Ns mainGlobals mg stand in Mod) -/
theorem law_call {P : Program} {w : World} {K : PySem.W.Frag} {mg mb : Str → Option Value} {CX : CXT} {k : Nat} {fa a : Addr} {fd : FuncData} {x : Str} {sp : Sp} {s₁ : Shared} {vs : List Value} {ns : List Int}
    (KX : K.In s₁.heap) (hns : s₁.heap.Ns mainGlobals mg) (hb : s₁.heap.Ns builtinsNs mb) (hbb : ∀ x : Str, x ≠ "__name__" → mb x = bootBuiltins x) (hlim : s₁.heap.NoLimit) (hg : s₁.gens = #[])
    (ha : s₁.heap.get? a = some { cls := .type "list", data := .seq vs.toArray }) (hi : IntsAre vs ns) (hl : ns.length ≤ sizeLine) (hr : Room k callerA)
    (F : ∀ base : Heap, K.In base → base.Ns mainGlobals mg → FnOk P w K mg base CX k fa fd [x] sp) (hbind : ∀ (s : Shared) (u : Value), BindsTo s fd ⟨[u], []⟩ [(x, u)])
    (hsp : ∀ H : Hp, Only H → SqL K H a (ns.map V.int) → sp [.ref a] H (fun v _ => v = .bl true) fun _ _ _ => False)
    (hCX : ∀ H e s', CX [] H s₁ (fun _ _ _ => False) e s' → False) :
    codeAny (model P w) callerA (.call (.ref fa) ⟨[.ref a], []⟩) (fun r s' => r = .ok (.ret (.bool true)) ∧ OldK s₁.heap s'.heap ∧ s'.os = s₁.os ∧ AllBare s'.gens) s₁ := by
  have rv := vals_ints hi
  have lenV := hi.length
  -- from an abstract heap in which nothing but the script may be tracked
  have core : ∀ H : Hp, Only H → SqL K H a (ns.map V.int) → HOk P w H s₁.heap → (∀ b, H b ≠ none → b = a) → (H a ≠ none → K.lookup a = none) →
      codeAny (model P w) callerA (.call (.ref fa) ⟨[.ref a], []⟩) (fun r s' => r = .ok (.ret (.bool true)) ∧ OldK s₁.heap s'.heap ∧ s'.os = s₁.os ∧ AllBare s'.gens) s₁ := by
    intro H hO hS hok hA hK
    have base_of : ∀ {b : Addr} {o : Obj}, s₁.heap.get? b = some o → H b = none → (hidT s₁.heap H).get? b = some o := fun e n => hidT_get e n
    have noA : ∀ {b : Addr} {o : Obj} {es : Array DictEntry} {ep : Nat}, s₁.heap.get? b = some o → o.data = .dict es ep → H b = none := fun {b o es ep} e d => by
      cases q : H b with
      | none => rfl
      | some u =>
        have e' : b = a := hA b (by rw [q]; simp)
        subst e'
        rw [ha] at e; cases e
        have d' : Data.seq vs.toArray _ = Data.dict es ep := d
        cases d'
    have nsK : ∀ {b : Addr} {m : Str → Option Value}, s₁.heap.Ns b m → (hidT s₁.heap H).Ns b m := fun {b m} ⟨o, es, ep, e, d, r⟩ => ⟨o, es, ep, base_of e (noA e d), d, r⟩
    have hKb : K.In (hidT s₁.heap H) := fun b o e => base_of (KX b o e) (by
      cases q : H b with
      | none => rfl
      | some u =>
        have e' : b = a := hA b (by rw [q]; simp)
        subst e'
        rw [hK (by rw [q]; simp)] at e; cases e)
    have hM : Mod K mg (hidT s₁.heap H) := ⟨hKb, nsK hns, ⟨mb, nsK hb, hbb⟩, let ⟨mc, h1, h2⟩ := hlim; ⟨mc, nsK h1, h2⟩⟩
    have e0 : Env0 P w K mg (hidT s₁.heap H) callerA [] s₁ H := ⟨rfl, hM, fun b o e => of_hidT e, Nat.le_of_eq (hidT_size _ _), trivial, fun b hb => absurd (show b ∈ ([] : List Addr) from hb) (by simp), hok, .of_eq hg⟩
    refine codeAny_mono ((F _ hKb (nsK hns)).run callerA [] s₁ H ⟨[.ref a], []⟩ [.ref a] [.ref a] _ _ hr e0 (hbind s₁ (.ref a)) (.cons rfl .nil) (hsp H hO hS)) fun r s' h => ?_
    cases r with
    | error e => exact (hCX H e s' h).elim
    | ok fl =>
      cases fl with
      | next => exact False.elim h
      | brk => exact False.elim h
      | cont => exact False.elim h
      | ret u =>
        obtain ⟨v, H', os, bare, un, hok', r', q⟩ := h
        have q' : v = .bl true := q
        subst q'
        obtain rfl : u = Value.bool true := r'
        refine ⟨rfl, OldK.of_keep fun b o e => ?_, os, bare⟩
        cases q : H b with
        | none => exact un.keep b o e q (by intro z; exact absurd (show b ∈ ([] : List Addr) from z) (by simp)) (by simp)
        | some u =>
          rcases hO b with z | ⟨ob, xs, z⟩
          · rw [q] at z; cases z
          · have z2 := un.frzs b ob _ z
            obtain ⟨e1, _⟩ := hok b _ z
            obtain ⟨e2, _⟩ := hok' b _ z2
            rw [e] at e1; cases e1
            exact e2
  cases hk : K.lookup a with
  | some o =>
    -- the script is one of the module's own objects
    have e := KX a o hk
    rw [ha] at e
    cases e
    refine core (fun _ => none) (fun _ => .inl rfl) (.inr ⟨_, vs.toArray, _, hk, rfl, rfl, rfl, by rw [List.size_toArray, lenV]; exact hl, by simpa using rv⟩) (fun b u z => by have z' : (none : Option HO) = some u := z; cases z') (fun b z => absurd rfl z) fun z => absurd rfl z
  | none =>
    refine core (fun b => if b = a then some (.frz { cls := .type "list", data := .seq vs.toArray } (.lst (ns.map V.int))) else none) (fun b => ?_) (.inl (.inr ⟨{ cls := .type "list", data := .seq vs.toArray }, if_pos rfl⟩)) (fun b u z => ?_) (fun b z => ?_) fun _ => hk
    · by_cases hb : b = a
      · exact .inr ⟨_, _, if_pos hb⟩
      · exact .inl (if_neg hb)
    · by_cases hb : b = a
      · have z' := (if_pos hb).symm.trans z
        cases z'
        subst hb
        exact ⟨ha, by rw [List.length_map]; exact hl, vs, _, rv, ha⟩
      · have z' := (if_neg hb).symm.trans z
        cases z'
    · by_cases hb : b = a
      · exact hb
      · exact absurd (if_neg hb) z
end L2
namespace L2
open PySem PySem.Spec PyProof.Rows
abbrev KOf {K : PySem.W.Frag} {h : Heap} (_ : K.In h) : PySem.W.Frag := K
/-- the goal that k_head leaves (case hc), from the law's promise. F gives the function object fd (K's own) once, then the promise over every base -/
theorem walk_of {l : PySem.W.OpenLaw} {n k : Nat} {q : Program} {loose : List Str} {XP : (Str → Option Value) → Heap → Prop} {YP : World → Heap → Prop} {d : DefRec} {K : Params → PySem.W.Frag} {CX : World → CXT} {sp : World → Sp} {x : Str}
    (hn : l.most = some n) (hn2 : n ≤ sizeLine) (hdf : d.params.defaults = []) (hr : Room k callerA)
    (hY : ∀ (w : World) (h : Heap), YP w h → (K w.params).In h)
    (F : ∀ (w : World) (mg : Str → Option Value) (fa : Addr) (h : Heap), (K w.params).In h → h.Ns mainGlobals mg → mg d.name = some (.ref fa) →
      ∃ fd : FuncData, (∀ (s : Shared) (u : Value), BindsTo s fd ⟨[u], []⟩ [(x, u)]) ∧
        ∀ base : Heap, (K w.params).In base → base.Ns mainGlobals mg → FnOk l.prog w (K w.params) mg base (CX w) k fa fd [x] (sp w))
    (hsp : ∀ (w : World) (H : Hp) (a : Addr) (ns : List Int), ns.length ≤ n → Only H → SqL (K w.params) H a (ns.map V.int) → sp w [.ref a] H (fun v _ => v = .bl true) fun _ _ _ => False)
    (hCX : ∀ (w : World) (H : Hp) (s : Shared) (e : Value) (s' : Shared), CX w [] H s (fun _ _ _ => False) e s' → False) :
    PySem.W.WalkO q loose XP YP l.row.toRowW d [] (fun f vs => PySem.call f vs) := by
  refine Att.attach_call hn hdf fun w s₀ s₁ mg mb fa o pm cd doc a vs ns G Y ho hd hcd hmg hobj hints hlen hg => ?_
  have KX := hY w _ Y
  obtain ⟨fd, hb, hF⟩ := F w mg fa _ KX G.T.g hmg
  exact law_call KX G.T.g G.T.b G.T.builtins G.T.nolimit hg hobj hints (Nat.le_trans hlen hn2) hr hF hb (fun H hO hS => hsp w H a ns hlen hO hS) fun H e s' => hCX w H s₁ e s'
end L2
/- THE LAST THEOREM (shape; LID, My.* are yours):
   My.Adr: a structure of the addresses that your layer names (classes, functions); My.Txt K t: a structure (Prop) of the equations over K;
   My.txt_mk : {K} {implicit addresses ..} (e1 : nsIn K mainGlobals "law" = some (some (.ref f))) (e2 : K.lookup f = some ⟨oc, od, .func (fnOf "law" "law" params body scope dV kV doc pm an cdv ct), sl⟩) (e3 : codeIn K cdv "law" = true) .. : ∃ t, My.Txt K t
set_option maxRecDepth 100000 in
set_option maxHeartbeats 0 in
theorem PySem.Challenge.cw_LID_holds : PySem.Challenge.rw_LID.Holds := by
  w_on; o_law; k_head; (case hw => w_witness2)
  k_fill
  refine L2.walk_of (l := PySem.Challenge.rw_LID) (n := 63) (k := 40) (x := "script") (CX := fun w => ..) (sp := fun _ => My.sp_law) rfl (by decide) rfl ⟨rfl, by decide, by decide⟩ (fun w h Y => PySem.W.kIn_of Y) ?F ?S ?C
  case F =>
    intro w mg fa h KX G hmg
    have T : ∃ t, My.Txt (L2.KOf KX) t := by
      dsimp only [L2.KOf]                          -- K must stand as «<heap const> w.params» for k_is
      refine' My.txt_mk ?e1 ?e2 ?e3 ..
      (case e1 => PySem.W.k_is)                    -- in the order: a name -> its address -> its object -> its parts
      (case e2 => PySem.W.k_is)
      ..
    obtain ⟨t, T⟩ := T
    have e0 := hmg.symm.trans (PySem.W.mg_of KX G T.law)
    cases e0                                       -- fa is the law's own address
    exact ⟨_, fun s u => .of_eq rfl, fun base kb nb => My.law_fn T kb nb⟩     -- if «.of_eq rfl» comes too early: refine' ⟨_, ?b, fun base kb nb => My.law_fn T kb nb⟩; exact fun s u => .of_eq rfl
  case S => exact fun w H a ns hl hO hS => ..
  case C => exact ..
(the tactic k_is has no namespace: write k_is) -/
/-! SHORT WORDS over the layer: a def of the text, its body, what a loop and a test want. -/
namespace L2
open PySem PySem.Spec PyProof.Rows
/-! ### the text by places -/
def defArgs (s : Stmt) : Arguments := match s with
  | .FunctionDef _ a _ _ _ _ _ _ _ _ => a
  | _ => { posonlyargs := [], args := [], vararg := none, kwonlyargs := [], kw_defaults := [], kwarg := none, defaults := [] }
def defBody (s : Stmt) : List Stmt := match s with
  | .FunctionDef _ _ b _ _ _ _ _ _ _ => b
  | _ => []
def defScope (s : Stmt) : Scope := match s with
  | .FunctionDef _ _ _ _ _ _ sc _ _ _ => sc
  | _ => { kind := .function, names := [], isGenerator := false, isCoroutine := false }
/-! ### no exception leaves a def -/
abbrev CX0 : CXT := fun _ _ _ _ _ _ => False
abbrev E0 : XK := fun _ _ _ => False
theorem pass0 {X : Cx} : Passes CX0 X E0 := fun _ _ _ _ _ _ _ h => h.elim
/-! ### a def (or method) of the text as it stands behind the top -/
structure Fun (K : PySem.W.Frag) (x qual : Str) (st : Stmt) (f : Addr) (fd : FuncData) : Prop where
  ex : ∃ (oc : Value) (od : Option Addr) (kV doc pm : Value) (an : Option Addr) (cdv ct : Value) (osl : Array (Option Value)),
    fd = PySem.W.fnOf x qual (defArgs st) (defBody st) (defScope st) .none kV doc pm an cdv ct ∧ K.lookup f = some ⟨oc, od, .func fd, osl⟩ ∧ PySem.W.codeIn K cdv qual = true
  kp : PySem.W.keepIn K (.ref f) = true
section
variable {P : Program} {w : World} {K : PySem.W.Frag} {mg : Str → Option Value} {base : Heap}
/-- THE RULE for a def: its body as a term of rules, and the reading of that term -/
theorem Fun.ok {x qual : Str} {st : Stmt} {f : Addr} {fd : FuncData} {N ps : List Str} {k : Nat} {sp : Sp} (F : Fun K x qual st f fd) (S : FnScope N ps (defScope st)) (len : ∀ vs H Q E, sp vs H Q E → vs.length = ps.length)
    (hbody : ∀ (cdv : Value) (A : Around) (outer : List Env) (s : Shared) (H : Hp) (vs : List V) (Q : VK) (E : XK), Room k (A.deeper (envOfC qual (defScope st) s.heap.objs.size f cdv)) → sp vs H Q E →
      ∃ t, PSs (cxOf CX0 P w K mg base N qual (defScope st) f cdv A outer s H E).nox (defBody st) t ∧ t { nx := fun _ H' => Q .non H', rt := Q } (start N vs) H) : FnOk P w K mg base CX0 (k + 1) f fd ps sp := by
  obtain ⟨oc, od, kV, doc, pm, an, cdv, ct, osl, rfl, lk, hcd⟩ := F.ex
  refine fn_of lk hcd S len fun A outer s H vs Q E hr hsp => ?_
  obtain ⟨t, h, q⟩ := hbody cdv A outer s H vs Q E hr hsp
  exact ⟨t, h.nox, q⟩
/-- how its arguments bind (no defaults): h is «fun _ _ _ _ _ _ us hl => match us, hl with | [_, _], _ => rfl», one _ a parameter -/
theorem Fun.binds {x qual : Str} {st : Stmt} {f : Addr} {fd : FuncData} {ps : List Str} (F : Fun K x qual st f fd)
    (h : ∀ (kV doc pm : Value) (an : Option Addr) (cdv ct : Value) (us : List Value), us.length = ps.length → bindArgs (PySem.W.fnOf x qual (defArgs st) (defBody st) (defScope st) .none kV doc pm an cdv ct) ⟨us, []⟩ = pure (ps.zip us)) : Binds K fd ps [] := by
  obtain ⟨oc, od, kV, doc, pm, an, cdv, ct, osl, rfl, lk, hcd⟩ := F.ex
  exact .all (h kV doc pm an cdv ct)
theorem fun_mk {x qual : Str} {st : Stmt} {f : Addr} {oc : Value} {od an : Option Addr} {osl : Array (Option Value)} {kV doc pm cdv ct : Value} (l : K.lookup f = some ⟨oc, od, .func (PySem.W.fnOf x qual (defArgs st) (defBody st) (defScope st) .none kV doc pm an cdv ct), osl⟩)
    (c : PySem.W.codeIn K cdv qual = true) (k : PySem.W.keepIn K (.ref f) = true) : Fun K x qual st f (PySem.W.fnOf x qual (defArgs st) (defBody st) (defScope st) .none kV doc pm an cdv ct) := ⟨⟨oc, od, kV, doc, pm, an, cdv, ct, osl, rfl, l, c⟩, k⟩
end
/-! ### expressions in short: the name that stands in the i-th slot -/
section
variable {X : Cx}
theorem pv (i : Nat) {x : Str} {pos : Pos} (hN : X.N[i]? = some x := by rfl) (hv : Vis X.env.scope x := by first | exact Or.inl rfl | exact Or.inr (Or.inl rfl) | exact Or.inr (Or.inr rfl)) (hd : (x == ("__debug__" : Str)) = false := by decide)
    (hcd : (x == ("__classdict__" : Str)) = false := by decide) : PE X (.Name x pos) (tVar i) := pe_var hN hv hd hcd
end
/-! ### tests -/
theorem iteF {A B : Prop} (h : B) : if false = true then A else B := by
  rw [if_neg Bool.false_ne_true]
  exact h
theorem iteT {A B : Prop} (h : A) : if true = true then A else B := by
  rw [if_pos rfl]
  exact h
theorem ite2 {c A B : Prop} [Decidable c] (h1 : c → A) (h2 : ¬ c → B) : if c then A else B := by
  by_cases h : c
  · rw [if_pos h]
    exact h1 h
  · rw [if_neg h]
    exact h2 h
/-! ### heaps -/
/-- all that was tracked is as it was -/
def Same (H H' : Hp) : Prop := ∀ b o, H b = some o → H' b = some o
theorem Same.refl (H : Hp) : Same H H := fun _ _ h => h
theorem Same.trans {H H1 H2 : Hp} (a : Same H H1) (b : Same H1 H2) : Same H H2 := fun c o h => b c o (a c o h)
theorem Same.free {H H' : Hp} (e : Same H H') {l : Addr} (h : H' l = Option.none) : H l = Option.none := by
  cases q : H l with
  | none => rfl
  | some o =>
    rw [e l o q] at h
    cases h
theorem Same.seq {K : PySem.W.Frag} {H H' : Hp} {a : Addr} {xs : List V} (e : Same H H') (h : SqL K H a xs) : SqL K H' a xs := by
  rcases h with (h | ⟨o, h⟩) | h
  · exact .inl (.inl (e _ _ h))
  · exact .inl (.inr ⟨o, e _ _ h⟩)
  · exact .inr h
end L2
/-! MY OWN ADDITIONS to the hand layer: comprehensions, a text's signs, join, all, slices of texts. -/
namespace L2
open PySem PySem.Spec PyProof.Rows
/-! ### the cells that a block takes along -/
def captFrom (env : Env) : List (Str × NameKind) → List (Str × Addr) → List (Str × Addr)
  | [], cs => cs
  | (n, k) :: r, cs => if (k == NameKind.free) = true then captFrom env r ((n, (env.cells.lookup n).getD 0) :: cs) else captFrom env r cs
theorem captFrom_loop {env : Env} : ∀ (names : List (Str × NameKind)) (cs : List (Str × Addr)), (∀ y ∈ names, y.2 = .free → (env.cells.lookup y.1).isSome = true) →
    (forIn names cs (fun x (cs : List (Str × Addr)) => (match x with | (name, kind) => if (kind == NameKind.free) = true then (do let a ← cellOf env name; pure (ForInStep.yield ((name, a) :: cs))) else pure (ForInStep.yield cs) : Sem (ForInStep (List (Str × Addr))))) : Sem (List (Str × Addr))) = pure (captFrom env names cs)
  | [], cs, _ => rfl
  | (n, k) :: r, cs, h => by
    have hr : ∀ y ∈ r, y.2 = .free → (env.cells.lookup y.1).isSome = true := fun y hy => h y (List.mem_cons_of_mem _ hy)
    rw [List.forIn_cons]
    by_cases hk : (k == NameKind.free) = true
    · have e : k = .free := by simpa using hk
      have hs := h (n, k) List.mem_cons_self e
      obtain ⟨a, ha⟩ := Option.isSome_iff_exists.mp hs
      simp only [hk, if_true, captFrom, cellOf, ha, Option.getD_some, pure_bind]
      exact captFrom_loop r _ hr
    · simp only [hk, captFrom, pure_bind, Bool.false_eq_true, if_false]
      exact captFrom_loop r _ hr
theorem closure_is {env : Env} {scope : Scope} (h : ∀ y ∈ scope.names, y.2 = .free → (env.cells.lookup y.1).isSome = true) : closureFor scope env = pure (captFrom env scope.names []) := by
  have e := captFrom_loop (env := env) scope.names [] h
  unfold closureFor
  simp only [bind_pure_comp, map_pure] at e ⊢
  rw [← e]
  simp
theorem capt_sub {env : Env} : ∀ {names : List (Str × NameKind)} {cs : List (Str × Addr)} {y : Str} {c : Addr}, (∀ z ∈ names, z.2 = .free → (env.cells.lookup z.1).isSome = true) → (∀ y c, cs.lookup y = some c → env.cells.lookup y = some c) →
    (captFrom env names cs).lookup y = some c → env.cells.lookup y = some c
  | [], _, _, _, _, hc, h => hc _ _ h
  | (n, k) :: r, cs, y, c, hn, hc, h => by
    have hr : ∀ z ∈ r, z.2 = .free → (env.cells.lookup z.1).isSome = true := fun z hz => hn z (List.mem_cons_of_mem _ hz)
    unfold captFrom at h
    by_cases hk : (k == NameKind.free) = true
    · rw [if_pos hk] at h
      have e : k = .free := by simpa using hk
      obtain ⟨a, ha⟩ := Option.isSome_iff_exists.mp (hn (n, k) List.mem_cons_self e)
      refine capt_sub hr (fun z d q => ?_) h
      rw [List.lookup_cons] at q
      cases hz : z == n with
      | true =>
        have ez : z = n := by simpa using hz
        rw [hz] at q
        simp only [ha, Option.getD_some] at q
        have ha' : env.cells.lookup n = some a := ha
        rw [ez, ha']
        exact q
      | false =>
        rw [hz] at q
        exact hc z d q
    · rw [if_neg hk] at h
      exact capt_sub hr hc h
theorem capt_has {env : Env} : ∀ {names : List (Str × NameKind)} {cs : List (Str × Addr)} {y : Str}, ((y, NameKind.free) ∈ names ∨ (cs.lookup y).isSome = true) → ((captFrom env names cs).lookup y).isSome = true
  | [], _, _, h => by
    rcases h with h | h
    · cases h
    · exact h
  | (n, k) :: r, cs, y, h => by
    unfold captFrom
    have key : ∀ a : Addr, (cs.lookup y).isSome = true → (List.lookup y ((n, a) :: cs)).isSome = true := fun a q => by
      rw [List.lookup_cons]
      cases y == n with
      | true => rfl
      | false => exact q
    by_cases hk : (k == NameKind.free) = true
    · rw [if_pos hk]
      refine capt_has ?_
      rcases h with h | h
      · rcases List.mem_cons.mp h with e | h
        · cases e
          refine .inr ?_
          rw [List.lookup_cons]
          simp
        · exact .inl h
      · exact .inr (key _ h)
    · rw [if_neg hk]
      refine capt_has ?_
      rcases h with h | h
      · rcases List.mem_cons.mp h with e | h
        · cases e
          exact absurd (by simp) hk
        · exact .inl h
      · exact .inr h
/-! ### the context of a block -/
def cxComp (X : Cx) (scope : Scope) (cl : List (Str × Addr)) (N : List Str) (C : Addr) (s₀ : Shared) (H₀ : Hp) (ex : List Addr) : Cx where
  prog := X.prog
  w := X.w
  K := X.K
  mg := X.mg
  base := X.base
  A := X.A
  N := N
  s₀ := s₀
  H₀ := H₀
  env := compEnvC scope cl C X.env
  outer := X.stack
  stack := X.stack
  ex := ex
  fn := fun _ => false
  calm := X.calm
  pn := []
  xe := fun _ _ => False
def compN (X : Cx) (x : Str) (caps : List Nat) : List Str := x :: caps.map fun i => X.N.getD i (Str.ofString "")
def compS (σ : St) (o : Option V) (caps : List Nat) : St := o :: caps.map fun i => (σ[i]?).join
def compOk (outer scope : Scope) (x : Str) (N : List Str) : Bool :=
  decide (scope.kind = .function) && scope.names.all (fun y => decide (y.2 ≠ .cell)) && scope.names.all (fun y => decide (y.2 = .local → scope.names.lookup y.1 = some .local)) && decide (scope.names.lookup x = some .local) &&
    scope.names.all (fun y => decide (y.2 = .free → (outer.names.lookup y.1 = some .cell ∨ outer.names.lookup y.1 = some .free))) && N.tail.all (fun y => decide (scope.names.lookup y = some .free)) && decide N.Nodup
structure CompOk (outer scope : Scope) (x : Str) (N : List Str) : Prop where
  kind : scope.kind = .function
  nocell : ∀ y ∈ scope.names, y.2 ≠ .cell
  locs : ∀ y ∈ scope.names, y.2 = .local → scope.names.lookup y.1 = some .local
  tgt : scope.names.lookup x = some .local
  frees : ∀ y ∈ scope.names, y.2 = .free → (outer.names.lookup y.1 = some .cell ∨ outer.names.lookup y.1 = some .free)
  caps : ∀ y ∈ N.tail, scope.names.lookup y = some .free
  nd : N.Nodup
theorem compOk_is {outer scope : Scope} {x : Str} {N : List Str} (h : compOk outer scope x N = true) : CompOk outer scope x N := by
  unfold compOk at h
  simp only [Bool.and_eq_true, List.all_eq_true, decide_eq_true_eq] at h
  obtain ⟨⟨⟨⟨⟨⟨h1, h2⟩, h3⟩, h4⟩, h5⟩, h6⟩, h7⟩ := h
  exact ⟨h1, h2, h3, h4, h5, h6, h7⟩
/-- a name's kind in the block -/
theorem relabel_kind {scope : Scope} {env : Env} {y : Str} {k' : NameKind} (h : (relabel scope env).names.lookup y = some k') : ∃ k, scope.names.lookup y = some k ∧ (k' = k ∨ (k = .free ∧ k' = .cell)) := by
  have go : ∀ (names : List (Str × NameKind)), (names.map fun (n, k) => if (k == NameKind.free && env.scope.kind == .function && env.kindOf n == some .cell) then (n, NameKind.cell) else (n, k)).lookup y = some k' →
      ∃ k, names.lookup y = some k ∧ (k' = k ∨ (k = .free ∧ k' = .cell)) := by
    intro names
    induction names with
    | nil => intro h; simp at h
    | cons a r ih =>
      obtain ⟨n, k⟩ := a
      intro h
      rw [List.map_cons] at h
      by_cases hc : (k == NameKind.free && env.scope.kind == .function && env.kindOf n == some .cell) = true
      · simp only [hc, if_true, List.lookup_cons] at h
        rw [List.lookup_cons]
        cases hy : y == n with
        | true =>
          rw [hy] at h
          have hk : k = .free := by
            simp only [Bool.and_eq_true, beq_iff_eq] at hc
            exact hc.1.1
          exact ⟨k, rfl, .inr ⟨hk, (Option.some.inj h).symm⟩⟩
        | false =>
          rw [hy] at h
          exact ih h
      · simp only [hc, Bool.false_eq_true, if_false, List.lookup_cons] at h
        rw [List.lookup_cons]
        cases hy : y == n with
        | true =>
          rw [hy] at h
          exact ⟨k, rfl, .inl (Option.some.inj h).symm⟩
        | false =>
          rw [hy] at h
          exact ih h
  exact go scope.names h
theorem relabel_free {scope : Scope} {env : Env} {y : Str} (h : scope.names.lookup y = some .free) : (relabel scope env).names.lookup y = some .cell ∨ (relabel scope env).names.lookup y = some .free := by
  have go : ∀ (names : List (Str × NameKind)), names.lookup y = some .free → (names.map fun (n, k) => if (k == NameKind.free && env.scope.kind == .function && env.kindOf n == some .cell) then (n, NameKind.cell) else (n, k)).lookup y = some .cell ∨
      (names.map fun (n, k) => if (k == NameKind.free && env.scope.kind == .function && env.kindOf n == some .cell) then (n, NameKind.cell) else (n, k)).lookup y = some .free := by
    intro names
    induction names with
    | nil => intro h; simp at h
    | cons a r ih =>
      obtain ⟨n, k⟩ := a
      intro h
      rw [List.map_cons]
      rw [List.lookup_cons] at h
      by_cases hc : (k == NameKind.free && env.scope.kind == .function && env.kindOf n == some .cell) = true
      · simp only [hc, if_true, List.lookup_cons]
        cases hy : y == n with
        | true => exact .inl rfl
        | false =>
          rw [hy] at h
          exact ih h
      · simp only [hc, Bool.false_eq_true, if_false, List.lookup_cons]
        cases hy : y == n with
        | true =>
          rw [hy] at h
          have h' : k = .free := Option.some.inj h
          exact .inr (by rw [h'])
        | false =>
          rw [hy] at h
          exact ih h
  exact go scope.names h
/-! ### tests of a block -/
def PTs (X : Cx) (ifs : List Expr) (t : TT) : Prop :=
  ∀ (pins : List (Addr × Obj)) (s : Shared) (σ : St) (H : Hp) (Q : Bool → Hp → Prop), Inv X pins σ H s → t σ H Q →
    wpAny (model X.prog X.w) X.A (forIn ifs true fun c r => if r = true then do let ok ← isTrue c X.env (eval c X.env); pure (ForInStep.yield ok) else pure (ForInStep.yield r)) (TP X pins σ Q) X.xe s
def tAll : TT := fun _ H Q => Q true H
theorem pts_nil {X : Cx} : PTs X [] tAll := fun _ _ _ H _ I h => wpAny_tests_nil ⟨H, I, h⟩
/-- the loop of a block, any target -/
theorem compLoop_any {prog : Program} {w : World} {A : Around} {R : Result → Shared → Prop} {s : Shared} {elt target iter : Expr} {ifs : List Expr} {scope : Scope} {pos : Pos} {it acc : Value} {env : Env} (I : Nat → Shared → Prop)
    (turn : ∀ n s, I n s → wpAny (model prog w) A (pyNext it) (fun r s₁ => match r with
      | none => R (.ok .next) s₁
      | some v => wpAny (model prog w) A (letOwnedTupleGo target it v) (fun _ s₁' => wpAny (model prog w) A (assign target env v) (fun _ s₂ =>
          wpAny (model prog w) A (forIn ifs true fun c r => if r = true then do let ok ← isTrue c env (eval c env); pure (ForInStep.yield ok) else pure (ForInStep.yield r)) (fun ok s₃ =>
            if ok = true then wpAny (model prog w) A (eval elt env) (fun x s₄ =>
              wpAny (model prog w) A (call (.builtin "list.append") [acc, x]) (fun _ s₅ => ∃ m, m < n ∧ I m s₅) (fun _ _ => False) s₄) (fun _ _ => False) s₃
            else ∃ m, m < n ∧ I m s₃) (fun _ _ => False) s₂) (fun _ _ => False) s₁') (fun _ _ => False) s₁) (fun _ _ => False) s)
    (n : Nat) (h : I n s) : codeAny (model prog w) A (.compLoop (.ListComp elt [⟨target, iter, ifs, 0⟩] scope pos) 0 it acc env) R s := by
  refine codeAny_loop rfl I (fun n s hI => ?_) n h
  show wpAny _ A ((compTurn (.ListComp elt [⟨target, iter, ifs, 0⟩] scope pos) 0 it acc env).onRaise (fun x => do noteFrame x env; theTreesLotGoes x)) _ _ s
  refine wpAny_noted ?_
  rw [compTurn_list]
  refine wpAny_bind (wpAny_standAt (wpAny_bind (wpAny_mono (turn n s hI) (fun r s₁ h₁ => ?_) fun _ _ h' => h'.elim)))
  cases r with
  | none => exact wpAny_pure h₁
  | some v =>
    refine wpAny_bind (wpAny_mono h₁ (fun _ s₁' h₁' => ?_) fun _ _ h' => h'.elim)
    refine wpAny_bind (wpAny_mono h₁' (fun _ s₂ h₂ => wpAny_bind (wpAny_mono h₂ (fun ok s₃ h₃ => ?_) fun _ _ h' => h'.elim)) fun _ _ h' => h'.elim)
    cases ok with
    | false => exact wpAny_pure ⟨rfl, h₃⟩
    | true =>
      exact wpAny_bind (wpAny_bind (wpAny_mono h₃ (fun x s₄ h₄ => wpAny_bind (wpAny_mono h₄ (fun _ s₅ h₅ => wpAny_pure (wpAny_pure ⟨rfl, h₅⟩)) fun _ _ h' => h'.elim)) fun _ _ h' => h'.elim))
/-! ### what a comprehension asks -/
def CompW (tt : TT) (te : TE) (caps : List Nat) (σ : St) (Q : VK) (J : It) (H1 : Hp) (D : Addr) : Prop :=
  ∃ W : Nat → Nat → List V → Hp → Prop, (∃ m, W 0 m [] (upd H1 D (.lst []))) ∧ ∀ i m ys H, W i m ys H →
    H D = some (.lst ys) ∧ ys.length < sizeLine ∧
    ((J.stop i H ∧ Q (.ref D) H) ∨ (J.go i H ∧ ∃ N : List V → Hp → Prop, (∀ zs H', N zs H' → ∃ m', m' < m ∧ W (i + 1) m' zs H') ∧ ∀ x H', J.yld i H x H' → tt (compS σ (some x) caps) H' fun b H2 =>
      if b = true then te (compS σ (some x) caps) H2 fun y H3 => H3 D = some (.lst ys) ∧ N (ys ++ [y]) (upd H3 D (.lst (ys ++ [y])))
      else N ys H2))
def tComp (wi : TI) (tt : TT) (te : TE) (caps : List Nat) : TE := fun σ H Q => wi σ H fun J H1 => ∀ D, H1 D = none → CompW tt te caps σ Q J H1 D
section
variable {X : Cx}
/-- the block's invariant at its start -/
theorem comp_start {scope : Scope} {x : Str} {caps : List Nat} {pins : List (Addr × Obj)} {σ : St} {H : Hp} {s3 : Shared} {h1 : Heap} {fp : List Addr} {m : Str → Option Value} {tk : Nat} (ok : CompOk X.env.scope scope x (compN X x caps)) (I : Inv X pins σ H s3)
    (hf : ∀ b ∈ fp, FpOk X pins H b) (hlt : ∀ b ∈ fp, b < s3.heap.objs.size) (hn : h1.Ns s3.heap.objs.size m) (keep : ∀ b o, s3.heap.get? b = some o → h1.get? b = some o) :
    Inv (cxComp X scope (captFrom X.env scope.names []) (compN X x caps) s3.heap.objs.size s3 H fp) [] (compS σ none caps) H { s3 with heap := h1, toks := tk } := by
  have hsome : ∀ z ∈ scope.names, z.2 = .free → (X.env.cells.lookup z.1).isSome = true := fun z hz hfr => by
    obtain ⟨c, e⟩ := I.ok.has z.1 (by
      rcases ok.frees z hz hfr with q | q
      · exact .inl q
      · exact .inr q)
    rw [e]; rfl
  have sub : ∀ y c, (captFrom X.env scope.names []).lookup y = some c → X.env.cells.lookup y = some c := fun y c h => capt_sub hsome (fun _ _ q => by simp at q) h
  have hC : H s3.heap.objs.size = none := I.hok.fresh (Nat.le_refl _)
  have cne : ∀ y c, X.env.cells.lookup y = some c → c < s3.heap.objs.size := fun y c e => by
    obtain ⟨v, z⟩ := I.cell y c e
    exact z.lt
  refine ⟨⟨I.ok.mod, ?_, I.ok.glob, I.ok.blt, Nat.le_refl _, fun y z c e1 e2 => I.ok.inj y z c (sub _ _ e1) (sub _ _ e2), fun y hy => ?_, fun y c hfn _ => ?_, I.ok.hd, I.ok.frames, .inl rfl, fun b hb => ⟨Nat.ne_of_lt (hlt b hb), fun y c e => (hf b hb).2.2.2.2.1 y c (sub _ _ e)⟩,
      I.bs, Nat.le_trans I.ok.bsz I.sz, fun b o e hb => ?_, fun b hb hfs => ?_, I.stack, I.stkFree⟩,
    rfl, I.bare, Un.kept keep, ⟨m, hn, fun i y v e1 e2 e3 => ?_⟩, fun y c e => ?_, hC, fun y c e => I.freeC y c (sub _ _ e), fun p hp => absurd (show p ∈ ([] : List (Addr × Obj)) from hp) (by simp), I.hok.kept keep, by simp [cxComp, compN, compS]⟩
  · show (relabel scope X.env).kind = .function
    exact ok.kind
  · have hy' : (relabel scope X.env).names.lookup y = some .cell ∨ (relabel scope X.env).names.lookup y = some .free := hy
    have fr : scope.names.lookup y = some .free := by
      rcases hy' with q | q
      · obtain ⟨k, e, z⟩ := relabel_kind q
        rcases z with z | ⟨z, _⟩
        · exact absurd z.symm (ok.nocell _ (PySem.mem_of_lookup e))
        · rw [e, z]
      · obtain ⟨k, e, z⟩ := relabel_kind q
        rcases z with z | ⟨_, z⟩
        · rw [e, z]
        · cases z
    exact Option.isSome_iff_exists.mp (capt_has (.inl (PySem.mem_of_lookup fr)))
  · exact absurd (show (fun _ => false) y = true from hfn) (by simp)
  · rcases (hf b hb).2.2.2.1 with z | z
    · exact I.ok.noex b o e z
    · exact absurd (Nat.lt_of_lt_of_le (Heap.lt_size e) (Nat.le_trans I.ok.bsz z)) (Nat.lt_irrefl _)
  · rcases List.mem_cons.mp (I.stkSub b hfs) with z | z
    · exact (hf b hb).2.1 z
    · exact (hf b hb).2.2.1 z
  · have e1' : (compN X x caps)[i]? = some y := e1
    cases i with
    | zero => simp [compS] at e2
    | succ i =>
      simp only [compN, List.getElem?_cons_succ, List.getElem?_map] at e1'
      simp only [compS, List.getElem?_cons_succ, List.getElem?_map] at e2
      cases hj : caps[i]? with
      | none => rw [hj] at e2; cases e2
      | some j =>
        rw [hj] at e1' e2
        simp only [Option.map_some, Option.some.injEq] at e1' e2
        cases hσ : σ[j]? with
        | none => rw [hσ] at e2; cases e2
        | some o =>
          rw [hσ] at e2
          have e2' : o = some v := e2
          subst e2'
          have hjl : j < X.N.length := by rw [← I.len]; exact (List.getElem?_eq_some_iff.mp hσ).1
          have eN : X.N[j]? = some y := by
            rw [List.getElem?_eq_getElem hjl]
            rw [List.getD_eq_getElem?_getD, List.getElem?_eq_getElem hjl] at e1'
            exact congrArg some e1'
          have hy : scope.names.lookup y = some .free := ok.caps y (by
            show y ∈ caps.map fun i => X.N.getD i (Str.ofString "")
            exact List.mem_map.mpr ⟨j, List.mem_of_getElem? hj, e1'⟩)
          have hk := ok.frees (y, .free) (PySem.mem_of_lookup hy) rfl
          obtain ⟨m', _, hl⟩ := I.loc
          obtain ⟨u, r, q⟩ := hl j y v eN hσ (.inr hk)
          refine ⟨u, r, .inr ⟨relabel_free hy, ?_⟩⟩
          rcases q with ⟨k, _⟩ | ⟨_, c, e, z⟩
          · have k' : X.env.scope.names.lookup y = some .local := k
            rw [k'] at hk
            rcases hk with hk | hk <;> cases hk
          · obtain ⟨c', e'⟩ := Option.isSome_iff_exists.mp (capt_has (env := X.env) (cs := []) (.inl (PySem.mem_of_lookup hy)))
            have ec := sub _ _ e'
            rw [e] at ec
            cases ec
            obtain ⟨o, ho, hd⟩ := z
            exact ⟨c, e', o, keep c o ho, hd⟩
  · obtain ⟨v, o, ho, hd⟩ := I.cell y c (sub _ _ e)
    exact ⟨v, o, keep c o ho, hd⟩
theorem comp_core {x : Str} {px pos p : Pos} {iter elt : Expr} {ifs : List Expr} {scope : Scope} {wi : TI} {tt : TT} {te : TE} {caps : List Nat} {use : Option (Value → Sem Unit)} {QQ : Value → Shared → Prop}
    (hc : X.calm = true) (ho : compOk X.env.scope scope x (compN X x caps) = true) (hi : PI X (.Name x px) iter wi)
    (ht : ∀ cl C s₀ H₀ ex, PTs (cxComp X scope cl (compN X x caps) C s₀ H₀ ex) ifs tt) (he : ∀ cl C s₀ H₀ ex, PE (cxComp X scope cl (compN X x caps) C s₀ H₀ ex) elt te)
    (hs : ∀ x, foldedSetIterable iter X.env x = pure x) {pins : List (Addr × Obj)} {s : Shared} {σ : St} {H : Hp} {Q : VK} (I : Inv X pins σ H s) (h : tComp wi tt te caps σ H Q)
    (fin : ∀ (D C : Addr) (H' : Hp) (s' : Shared) (m : Str → Option Value), Inv X pins σ H' s' → Q (.ref D) H' → s'.heap.Ns C m → FpOk X pins H' C → compPost (model X.prog X.w) X.A X.xe use QQ (.ref D) C (.ok .next) s') :
    wpAny (model X.prog X.w) X.A (comprehension (.ListComp elt [⟨.Name x px, iter, ifs, 0⟩] scope pos) scope X.env p (newList []) false (eval iter X.env) use) QQ X.xe s := by
  have ok := compOk_is ho
  have hsome : ∀ z ∈ scope.names, z.2 = .free → (X.env.cells.lookup z.1).isSome = true := fun z hz hfr => by
    obtain ⟨c, e⟩ := I.ok.has z.1 (by
      rcases ok.frees z hz hfr with q | q
      · exact .inl q
      · exact .inr q)
    rw [e]; rfl
  refine wpAny_comprehension_free (cl := captFrom X.env scope.names []) (use := use) rfl hs (closure_is hsome) ok.kind ok.locs (thn (hi pins s σ H _ I h) fun v s1 h1 => thn h1 fun itv s2 h2 => ?_)
  obtain ⟨it, fp, tn, J, H2, e, I2, T, st2, f2, rd⟩ := h2
  subst e
  refine wpAny_newObj_type (wpAny_newFunctionEnv ok.nocell (by intro y hy; simp at hy) (fun h₁ hns₁ hsb₁ => ?_) ok.kind)
  dsimp only at hns₁ hsb₁ ⊢
  have hD0 : H2 s2.heap.objs.size = none := I2.hok.fresh (Nat.le_refl _)
  obtain ⟨W, ⟨m0, w0⟩, turn⟩ := rd s2.heap.objs.size hD0
  have hfpl : ∀ b ∈ fp, b < s2.heap.objs.size := fun b hb => by
    obtain ⟨o, e, _⟩ := T.obj 0 _ st2 b hb
    exact Heap.lt_size e
  have hsz : (s2.heap.push { cls := .type "list", dict := none, data := .seq ([] : List Value).toArray }).objs.size = s2.heap.objs.size + 1 := Heap.size_push ..
  have I3 : Inv X pins σ (upd H2 s2.heap.objs.size (.lst [])) { s2 with heap := s2.heap.push { cls := .type "list", dict := none, data := .seq ([] : List Value).toArray } } :=
    I2.laid (t' := s2.toks) (fun b u e => Heap.get?_push_of_some _ e) (Nat.le_refl _) ⟨by simp, [], 0, .nil, Heap.get?_push_size _ rfl⟩
  have st3 : tn 0 (s2.heap.push { cls := .type "list", dict := none, data := .seq ([] : List Value).toArray }) := T.keep _ _ _ st2 fun b _ o e => Heap.get?_push_of_some _ e
  generalize hH3 : s2.heap.push { cls := .type "list", dict := none, data := .seq ([] : List Value).toArray } = h3 at hns₁ hsb₁ hsz I3 st3 ⊢
  generalize hHH : upd H2 s2.heap.objs.size (.lst []) = H3 at I3 w0
  have hlt3 : ∀ b ∈ fp, b < h3.objs.size := fun b hb => by rw [hsz]; exact Nat.lt_succ_of_lt (hfpl b hb)
  have f3 : ∀ b ∈ fp, FpOk X pins H3 b := fun b hb => ⟨by rw [← hHH, upd_ne (Nat.ne_of_lt (hfpl b hb))]; exact (f2 b hb).1, (f2 b hb).2⟩
  have keep : ∀ b o, h3.get? b = some o → h₁.get? b = some o := fun b o e => hsb₁.extBut b o (Nat.ne_of_lt (Heap.lt_size e)) (Heap.get?_push_of_some _ e)
  have I4 := comp_start (s3 := { s2 with heap := h3 }) (tk := s2.toks + ([] : List (Str × Value)).length) ok I3 f3 hlt3 hns₁ keep
  have st4 : tn 0 h₁ := T.keep _ _ _ st3 fun b _ o e => keep b o e
  generalize hX' : cxComp X scope (captFrom X.env scope.names []) (compN X x caps) ({ s2 with heap := h3 } : Shared).heap.objs.size { s2 with heap := h3 } H3 fp = X' at I4
  have eA : X'.A = X.A := by rw [← hX'] <;> rfl
  have eP : X'.prog = X.prog := by rw [← hX'] <;> rfl
  have ew : X'.w = X.w := by rw [← hX'] <;> rfl
  have eK : X'.K = X.K := by rw [← hX'] <;> rfl
  have ee : X'.env = compEnvC scope (captFrom X.env scope.names []) h3.objs.size X.env := by rw [← hX'] <;> rfl
  have ex : X'.xe = fun _ _ => False := by rw [← hX'] <;> rfl
  have eN : X'.N = compN X x caps := by rw [← hX'] <;> rfl
  have ec : X'.calm = true := by rw [← hX']; exact hc
  have efs : X'.fs = frs X.stack := by rw [← hX'] <;> rfl
  have hT' : PTs X' ifs tt := by rw [← hX']; exact ht _ _ _ _ _
  have hE' : PE X' elt te := by rw [← hX']; exact he _ _ _ _ _
  have leave : ∀ {σ' : St} {H' : Hp} {s' : Shared}, Inv X' [] σ' H' s' → Q (.ref s2.heap.objs.size) H' → compPost (model X.prog X.w) X.A X.xe use QQ (.ref s2.heap.objs.size) h3.objs.size (.ok .next) s' := fun {σ' H' s'} J q => by
    have un : Un (frs X.stack) fp H3 H' h3 s'.heap := by have z := J.base; rw [← hX'] at z; exact z
    have hos : s'.os = s2.os := by have z := J.os; rw [← hX'] at z; exact z
    have hk : HOk X.prog X.w H' s'.heap := by have z := J.hok; rw [eP, ew] at z; exact z
    have Jx := I3.call' (s' := s') (ch := fp) hos un hk J.bare fun b hb => ⟨(f3 b hb).2.2.2.1, (f3 b hb).2.1, (f3 b hb).2.2.2.2.1, (f3 b hb).2.2.2.2.2⟩
    obtain ⟨m, hn, _⟩ := J.loc
    have hn' : s'.heap.Ns h3.objs.size m := by rw [ee] at hn; exact hn
    have hfr : H' h3.objs.size = none := by have z := J.free; rw [ee] at z; exact z
    exact fin _ _ H' s' m Jx q hn' (I3.fpOk (Nat.le_refl _) hfr)
  have stat : ∀ {H' : Hp}, (∀ b ∈ fp, H' b = none) → ∀ b ∈ fp, FpOk X' [] H' b := fun {H'} hn b hb => by
    refine ⟨hn b hb, ?_, ?_, .inl ?_, fun y c e => ?_, fun p hp => ?_⟩
    · rw [ee]; exact Nat.ne_of_lt (hlt3 b hb)
    · rw [efs]
      intro z
      rcases List.mem_cons.mp (I3.stkSub b z) with z | z
      · exact (f3 b hb).2.1 z
      · exact (f3 b hb).2.2.1 z
    · rw [← hX']; exact hb
    · have e' : (captFrom X.env scope.names []).lookup y = some c := by rw [ee] at e; exact e
      exact (f3 b hb).2.2.2.2.1 y c (capt_sub hsome (fun _ _ q => by simp at q) e')
    · rw [← hX'] at hp
      exact absurd (show p ∈ ([] : List (Addr × Obj)) from hp) (by simp)
  have loop : ∀ s₃ : Shared, s₃ = { s2 with heap := h₁, toks := s2.toks + ([] : List (Str × Value)).length } →
      codeAny (model X.prog X.w) X.A (.compLoop (.ListComp elt [⟨.Name x px, iter, ifs, 0⟩] scope pos) 0 (.ref it) (.ref s2.heap.objs.size) (compEnvC scope (captFrom X.env scope.names []) h3.objs.size X.env))
        (compPost (model X.prog X.w) X.A X.xe use QQ (.ref s2.heap.objs.size) h3.objs.size) s₃ := by
    rintro s₃ rfl
    refine compLoop_any (fun n s' => ∃ i o H' ys, Inv X' [] (compS σ o caps) H' s' ∧ tn i s'.heap ∧ (∀ b ∈ fp, H' b = none) ∧ W i n ys H') ?_ m0 ⟨0, none, H3, [], I4, st4, fun b hb => (f3 b hb).1, w0⟩
    rintro n s' ⟨i, o, H', ys, J, st', fr', w'⟩
    obtain ⟨hDl, hlen, alt⟩ := turn i n ys H' w'
    rcases alt with ⟨stop, q⟩ | ⟨go, N, hN, step⟩
    · have z := T.done X' eP ew eK ec i [] s' _ H' (fun _ _ => False) J (stat fr') st' stop
      rw [eA] at z
      refine thn z fun r s4 ⟨hr, J4⟩ => ?_
      subst hr
      exact leave J4 q
    · have z := T.item X' eP ew eK ec i [] s' _ H' (fun _ _ => False) J (stat fr') st' go
      rw [eA] at z
      refine thn z fun r s4 ⟨u, hr, h4⟩ => ?_
      subst hr
      refine thn h4 fun _ s5 ⟨xv, H5, J5, r5, y5, st5, fr5⟩ => ?_
      have J5' := J5.pinned (stat fr5) (T.obj _ _ st5)
      have lx : (relabel scope X.env).names.lookup x = some .local := lookup_relabel_local ok.tgt
      have hg : PG X' (.Name x px) (gName 0) := pg_name (by rw [eN]; exact ok.nd) (by rw [eN] <;> rfl) (by rw [ee]; exact .inl lx) (by rw [ee]; exact .inr lx)
      have zg := hg _ s5 _ H5 xv u (fun σ6 H6 => σ6 = compS σ (some xv) caps ∧ H6 = H5) J5' r5 ⟨rfl, rfl⟩
      rw [eP, ew, eA, ee, ex] at zg
      refine thn zg fun _ s6 ⟨σ6, H6, J6, q6⟩ => ?_
      obtain ⟨e6, e6'⟩ := q6
      subst e6 e6'
      have zt := hT' _ s6 _ _ _ J6 (step xv _ y5)
      rw [eP, ew, eA, ee, ex] at zt
      refine thn zt fun b s7 ⟨H7, J7, q7⟩ => ?_
      have again : ∀ {H8 : Hp} {s8 : Shared} {ys' : List V}, Inv X' ([] ++ pinsAt fp s5.heap) (compS σ (some xv) caps) H8 s8 → N ys' H8 → ∃ m, m < n ∧ ∃ i o H' ys, Inv X' [] (compS σ o caps) H' s8 ∧ tn i s8.heap ∧ (∀ b ∈ fp, H' b = none) ∧ W i m ys H' := fun {H8 s8 ys'} J8 n8 => by
        obtain ⟨m', hm, w8⟩ := hN ys' H8 n8
        refine ⟨m', hm, i + 1, some xv, H8, ys', J8.unpinned, T.keep _ _ _ st5 fun b hb o e => (J8.pin (b, o) (List.mem_append_right _ (List.mem_append_right _ (mem_pinsAt hb e)))).1, fun b hb => ?_, w8⟩
        obtain ⟨o, e, d⟩ := T.obj _ _ st5 b hb
        exact (J8.pin (b, o) (List.mem_append_right _ (List.mem_append_right _ (mem_pinsAt hb e)))).2.1
      cases b with
      | false => exact again J7 q7
      | true =>
        have ze := hE' _ s7 _ H7 _ J7 q7
        rw [eP, ew, eA, ee, ex] at ze
        refine thn ze fun yv s8 ⟨y, H8, J8, r8, hD8, q8⟩ => ?_
        have za := mt_append (X := X') _ s8 _ H8 (.ref s2.heap.objs.size) [y] (.ref s2.heap.objs.size) [yv] (fun _ H9 => H9 = upd H8 s2.heap.objs.size (.lst (ys ++ [y]))) J8 rfl (.cons r8 .nil) ⟨_, ys, y, rfl, rfl, hD8, hlen, rfl⟩
        rw [eP, ew, eA, ex] at za
        refine thn za fun _ s9 ⟨_, H9, J9, _, q9⟩ => ?_
        subst q9
        exact again J9 q8
  exact codeAny_compStart_list (loop _ rfl) (T.self _ 0 _ _ _ st4 (loop _ rfl))
/-- [elt for x in iter (if ..)] as a value -/
theorem pe_comp {x : Str} {px pos : Pos} {iter elt : Expr} {ifs : List Expr} {scope : Scope} {wi : TI} {tt : TT} {te : TE} (caps : List Nat)
    (hc : X.calm = true) (ho : compOk X.env.scope scope x (compN X x caps) = true) (hi : PI X (.Name x px) iter wi)
    (ht : ∀ cl C s₀ H₀ ex, PTs (cxComp X scope cl (compN X x caps) C s₀ H₀ ex) ifs tt) (he : ∀ cl C s₀ H₀ ex, PE (cxComp X scope cl (compN X x caps) C s₀ H₀ ex) elt te)
    (hs : ∀ x, foldedSetIterable iter X.env x = pure x := by intro _; rfl) : PE X (.ListComp elt [⟨.Name x px, iter, ifs, 0⟩] scope pos) (tComp wi tt te caps) := by
  intro pins s σ H Q I h
  rw [eval_ListComp]
  refine comp_core (use := none) hc ho hi ht he hs I h fun D C H' s' m J q hn hf => ?_
  exact ⟨m, hn, fun h' sb => ⟨.ref D, H', J.turned (t' := s'.toks) (fun b o hb e => (sb.2 b hb).trans e) hf.1 hf.2.1 hf.2.2.2.1 hf.2.2.2.2.1 hf.2.2.2.2.2, rfl, q⟩⟩
/-- y = [elt for x in iter (if ..)], on one row -/
theorem ps_setc {i : Nat} {x y : Str} {px py pos spos : Pos} {iter elt : Expr} {ifs : List Expr} {scope : Scope} {wi : TI} {tt : TT} {te : TE} (caps : List Nat)
    (hN : X.N.Nodup) (hiy : X.N[i]? = some y) (hy : Loc X.env.scope y)
    (hc : X.calm = true) (ho : compOk X.env.scope scope x (compN X x caps) = true) (hi : PI X (.Name x px) iter wi)
    (ht : ∀ cl C s₀ H₀ ex, PTs (cxComp X scope cl (compN X x caps) C s₀ H₀ ex) ifs tt) (he : ∀ cl C s₀ H₀ ex, PE (cxComp X scope cl (compN X x caps) C s₀ H₀ ex) elt te)
    (hsw : swapsWith (.ListComp elt [⟨.Name x px, iter, ifs, 0⟩] scope pos) (some (.Name y py)) spos.line X.env = pure true := by rfl)
    (hs : ∀ x, foldedSetIterable iter X.env x = pure x := by intro _; rfl) (hf : X.fn y = true ∨ X.env.scope.names.lookup y = some .local := by first | exact .inl rfl | exact .inr rfl | assumption) :
    PS X (.Assign [.Name y py] (.ListComp elt [⟨.Name x px, iter, ifs, 0⟩] scope pos) spos) (tAsg (tComp wi tt te caps) (gName i)) := by
  intro pins s σ H D I h
  rw [exec_Assign_Name_used _ _ _ _ hsw]
  refine wpAny_bind (wpAny_standAt (wpAny_bind ?_))
  show wpAny _ X.A (do let _ ← comprehension (.ListComp elt [⟨.Name x px, iter, ifs, 0⟩] scope pos) scope X.env _ (newList []) false (eval iter X.env) (some (assign (.Name y py) X.env))) _ _ s
  refine wpAny_bind (wpAny_mono (comp_core (QQ := fun _ s' => SP X pins D .next s') (use := some (assign (.Name y py) X.env)) hc ho hi ht he hs I h fun D' C H' s' m J q hn hf' => ?_) (fun _ s' hq => wpAny_pure (wpAny_pure hq)) fun _ _ e => e)
  refine wpAny_assign_Name (store_ok2 (v := .ref D') J hN hiy hy rfl (fun s2 I2 hsb => ?_) hf)
  obtain ⟨a, sb, ha⟩ := hsb
  have hne : C ≠ a := by
    rcases ha with rfl | e
    · exact hf'.2.1
    · exact fun z => hf'.2.2.2.2.1 y a e z.symm
  exact ⟨m, hn.sameBut sb hne, fun h'' sb2 => ⟨_, H', I2.turned (t' := s2.toks) (fun b o hb e => (sb2.2 b hb).trans e) hf'.1 hf'.2.1 hf'.2.2.2.1 hf'.2.2.2.2.1 hf'.2.2.2.2.2, q⟩⟩
end
/-! ### the forms one uses: over a list that stays, a range, signs -/
section
variable {tt : TT} {te : TE} {caps : List Nat} {σ : St} {H1 : Hp} {Q : VK}
/-- n turns; at turn i the item at_ i -/
theorem comp_by {J : It} {D : Addr} (n : Nat) (hn : n < sizeLine) (at_ : Nat → V) (Pv : Nat → List V → Hp → Prop) (h0 : Pv 0 [] (upd H1 D (.lst [])))
    (hst : ∀ ys H, Pv n ys H → J.stop n H) (hgo : ∀ i ys H, Pv i ys H → i < n → J.go i H) (hy : ∀ i ys H x H', Pv i ys H → i < n → J.yld i H x H' → H' = H ∧ x = at_ i)
    (hD : ∀ i ys H, Pv i ys H → H D = some (.lst ys) ∧ ys.length ≤ i)
    (hs : ∀ i ys H, i < n → Pv i ys H → tt (compS σ (some (at_ i)) caps) H fun b H2 =>
      if b = true then te (compS σ (some (at_ i)) caps) H2 fun y H3 => H3 D = some (.lst ys) ∧ Pv (i + 1) (ys ++ [y]) (upd H3 D (.lst (ys ++ [y])))
      else Pv (i + 1) ys H2)
    (hd : ∀ ys H, Pv n ys H → Q (.ref D) H) : CompW tt te caps σ Q J H1 D := by
  refine ⟨fun i m ys H => m = n - i ∧ i ≤ n ∧ Pv i ys H, ⟨n, by simp, Nat.zero_le _, h0⟩, ?_⟩
  rintro i m ys H ⟨rfl, hi, p⟩
  obtain ⟨hDD, hl⟩ := hD i ys H p
  refine ⟨hDD, by omega, ?_⟩
  by_cases hlt : i < n
  · refine .inr ⟨hgo i ys H p hlt, Pv (i + 1), fun zs H' q => ⟨n - (i + 1), by omega, rfl, hlt, q⟩, fun x H' y => ?_⟩
    obtain ⟨e, e'⟩ := hy i ys H x H' p hlt y
    subst e e'
    exact hs i ys _ hlt p
  · have e : i = n := by omega
    subst e
    exact .inl ⟨hst ys H p, hd ys H p⟩
theorem comp_range {lo : Int} {n : Nat} {D : Addr} (hn : n < sizeLine) (Pv : Nat → List V → Hp → Prop) (h0 : Pv 0 [] (upd H1 D (.lst [])))
    (hD : ∀ i ys H, Pv i ys H → H D = some (.lst ys) ∧ ys.length ≤ i)
    (hs : ∀ i ys H, i < n → Pv i ys H → tt (compS σ (some (.int (lo + i))) caps) H fun b H2 =>
      if b = true then te (compS σ (some (.int (lo + i))) caps) H2 fun y H3 => H3 D = some (.lst ys) ∧ Pv (i + 1) (ys ++ [y]) (upd H3 D (.lst (ys ++ [y])))
      else Pv (i + 1) ys H2)
    (hd : ∀ ys H, Pv n ys H → Q (.ref D) H) : CompW tt te caps σ Q (Itr lo n) H1 D :=
  comp_by (J := Itr lo n) (Q := Q) (D := D) (H1 := H1) n hn (fun i => .int (lo + i)) Pv h0 (fun _ _ _ => Nat.le_refl _) (fun _ _ _ _ h => h) (fun _ _ _ _ _ _ _ y => y) hD hs hd
theorem comp_list {K : PySem.W.Frag} {a : Addr} {xs : List V} {D : Addr} (hn : xs.length < sizeLine) (Pv : Nat → List V → Hp → Prop) (h0 : Pv 0 [] (upd H1 D (.lst [])))
    (hl : ∀ i ys H, Pv i ys H → SqL K H a xs) (hD : ∀ i ys H, Pv i ys H → H D = some (.lst ys) ∧ ys.length ≤ i)
    (hs : ∀ i ys H, i < xs.length → Pv i ys H → tt (compS σ (some (xs.getD i .non)) caps) H fun b H2 =>
      if b = true then te (compS σ (some (xs.getD i .non)) caps) H2 fun y H3 => H3 D = some (.lst ys) ∧ Pv (i + 1) (ys ++ [y]) (upd H3 D (.lst (ys ++ [y])))
      else Pv (i + 1) ys H2)
    (hd : ∀ ys H, Pv xs.length ys H → Q (.ref D) H) : CompW tt te caps σ Q (Itl K a) H1 D :=
  comp_by (J := Itl K a) (Q := Q) (D := D) (H1 := H1) xs.length hn (fun i => xs.getD i .non) Pv h0 (fun ys H p => ⟨xs, hl _ ys H p, Nat.le_refl _⟩)
    (fun i ys H p h => ⟨xs, xs[i], hl i ys H p, by simp [h]⟩) (fun i ys H x H' p h y => ⟨y.1, by
      have z := y.2 xs (hl i ys H p)
      rw [List.getD_eq_getElem?_getD, z] <;> rfl⟩) hD hs hd
end
/-! ### the signs of a text -/
def Its (x : Str) : It := ⟨fun i _ => i < x.cps.size, fun i H v H' => H' = H ∧ ∃ c, x.cps[i]? = some c ∧ v = .str ⟨#[c]⟩, fun i _ => i = x.cps.size⟩
theorem turn_str {P : Program} {w : World} {K : PySem.W.Frag} {tg : Expr} (ty : String) (hty : ty = "str_ascii_iterator" ∨ ty = "str_iterator") (it : Addr) (x : Str) (t : Tok) :
    Turn P w K tg (Its x) [it] it (fun i h => h.IsStrIter it ty x t i) where
  mem := by simp
  obj := fun i h st b hb => by
    have e : b = it := by simpa using hb
    subst e
    obtain ⟨o, e, c, d⟩ := st
    exact ⟨o, e, fun v z => by rw [d] at z; cases z⟩
  keep := fun i h h' st k => by
    obtain ⟨o, e, r⟩ := st
    exact ⟨o, k it (by simp) o e, r⟩
  item := by
    intro X hP hw hK hc i pins s σ H E I hf st hg
    subst hP hw hK
    obtain ⟨f0, f1, f2, f3, f4, f5⟩ := hf it (by simp)
    have wk : Walks X.prog X.w X.A it [it] [it] x.cps.size (SignAt x) (fun i h => h.IsStrIter it ty x t i) := by
      rcases hty with e | e
      · subst e; exact Walks.strAscii (I.ok.hd hc) it x t
      · subst e; exact Walks.strWide (I.ok.hd hc) it x t
    have hn : ["enumerate", "zip", "dict_itemiterator", "dict_reverseitemiterator", "odict_iterator", "itertools.zip_longest", "itertools.pairwise"].contains ty = false := by
      rcases hty with e | e
      · subst e; decide
      · subst e; decide
    refine wk.item i s _ E hg st fun v h' tk hv st' kk => ?_
    obtain ⟨c, u, hc', rfl⟩ := hv
    have I1 : Inv X pins σ H { s with heap := h', toks := tk } := I.turned (fun b o hb e => kk b o (by simpa using hb) e) f0 f1 f3 f4 f5
    obtain ⟨o, e, ec, d⟩ := id st'
    exact ⟨_, rfl, go_of (s := { s with heap := h', toks := tk }) e ec d hn ⟨.str ⟨#[c]⟩, H, I1, ⟨u, rfl⟩, ⟨rfl, c, hc', rfl⟩, st', fun b hb => (hf b hb).1⟩⟩
  done := by
    intro X hP hw hK hc i pins s σ H E I hf st hg
    subst hP hw hK
    obtain ⟨f0, f1, f2, f3, f4, f5⟩ := hf it (by simp)
    have wk : Walks X.prog X.w X.A it [it] [it] x.cps.size (SignAt x) (fun i h => h.IsStrIter it ty x t i) := by
      rcases hty with e | e
      · subst e; exact Walks.strAscii (I.ok.hd hc) it x t
      · subst e; exact Walks.strWide (I.ok.hd hc) it x t
    have hi : i = x.cps.size := hg
    subst hi
    exact wk.done s _ E st fun h' tk kk => ⟨rfl, I.turned (fun b o hb e => kk b o (by simpa using hb) e) f0 f1 f3 f4 f5⟩
  self := fun A i s Q E st h => by
    rcases hty with e | e
    · subst e; exact wpAny_pyIter_striter_ascii st h
    · subst e; exact wpAny_pyIter_striter_wide st h
def iStr (tl : TE) : TI := fun σ H R => tl σ H fun x H1 => ∃ z, x = .str z ∧ R (Its z) H1
section
variable {X : Cx} {tg : Expr}
theorem pi_str {l : Expr} {tl : TE} (hl : PE X l tl) : PI X tg l (iStr tl) := by
  intro pins s σ H R I h
  refine thn (hl pins s σ H _ I h) fun v s1 ⟨x, H1, I1, r1, q1⟩ => ?_
  obtain ⟨z, e, q⟩ := q1
  subst e
  obtain ⟨t, rfl⟩ := r1
  have fin : ∀ ty, (ty = "str_ascii_iterator" ∨ ty = "str_iterator") → PIE X pins σ tg R (.ref s1.heap.objs.size) { s1 with heap := s1.heap.push { cls := .type ty, data := .fields #[.str z t, .int 0 0] } } := fun ty hty => by
    refine ⟨s1.heap.objs.size, [s1.heap.objs.size], _, _, H1, rfl, I1.kept (t' := s1.toks) fun b o e => Heap.get?_push_of_some _ e, turn_str ty hty _ z t, ⟨_, Heap.get?_push_size _ rfl, rfl, rfl⟩, fun b hb => ?_, q⟩
    have e : b = s1.heap.objs.size := by simpa using hb
    subst e
    exact I1.fpOk (Nat.le_refl _) (I1.hok.fresh (Nat.le_refl _))
  cases ha : z.cps.all (· < 128)
  · exact wpAny_pyIter_wide ha (fin _ (.inr rfl))
  · exact wpAny_pyIter_ascii ha (fin _ (.inl rfl))
end
theorem comp_str {tt : TT} {te : TE} {caps : List Nat} {σ : St} {H1 : Hp} {Q : VK} {x : Str} {D : Addr} (hn : x.cps.size < sizeLine) (Pv : Nat → List V → Hp → Prop) (h0 : Pv 0 [] (upd H1 D (.lst [])))
    (hD : ∀ i ys H, Pv i ys H → H D = some (.lst ys) ∧ ys.length ≤ i)
    (hs : ∀ i ys H, i < x.cps.size → Pv i ys H → tt (compS σ (some (.str ⟨#[x.cps.getD i 0]⟩)) caps) H fun b H2 =>
      if b = true then te (compS σ (some (.str ⟨#[x.cps.getD i 0]⟩)) caps) H2 fun y H3 => H3 D = some (.lst ys) ∧ Pv (i + 1) (ys ++ [y]) (upd H3 D (.lst (ys ++ [y])))
      else Pv (i + 1) ys H2)
    (hd : ∀ ys H, Pv x.cps.size ys H → Q (.ref D) H) : CompW tt te caps σ Q (Its x) H1 D :=
  comp_by (J := Its x) (Q := Q) (D := D) (H1 := H1) x.cps.size hn (fun i => .str ⟨#[x.cps.getD i 0]⟩) Pv h0 (fun _ _ _ => rfl) (fun _ _ _ _ h => h)
    (fun i ys H v H' p h y => ⟨y.1, by
      obtain ⟨c, e, rfl⟩ := y.2
      rw [Array.getD_eq_getD_getElem?, e] <;> rfl⟩) hD hs hd
theorem for_str {x : Str} {g : TG} {tb : TS} {D : Ends} {σ : St} {H : Hp} (Pv : Nat → St → Hp → Prop) (h0 : Pv 0 σ H)
    (hs : ∀ i c σ H, x.cps[i]? = some c → Pv i σ H → g (.str ⟨#[c]⟩) σ H fun σ2 H2 => tb { D with nx := Pv (i + 1), ct := Pv (i + 1), bk := D.nx } σ2 H2) (hd : ∀ σ H, Pv x.cps.size σ H → D.nx σ H) :
    ∃ W : Nat → Nat → St → Hp → Prop, (∃ m, W 0 m σ H) ∧ ∀ i m σ H, W i m σ H →
      ((Its x).stop i H ∧ D.nx σ H) ∨ ((Its x).go i H ∧ ∃ N : St → Hp → Prop, (∀ σ' H', N σ' H' → ∃ m', m' < m ∧ W (i + 1) m' σ' H') ∧ ∀ v H', (Its x).yld i H v H' → g v σ H' fun σ2 H2 => tb { D with nx := N, ct := N, bk := D.nx } σ2 H2) := by
  refine ⟨fun i m σ H => m = x.cps.size - i ∧ i ≤ x.cps.size ∧ Pv i σ H, ⟨x.cps.size, by simp, Nat.zero_le _, h0⟩, ?_⟩
  rintro i m σ H ⟨rfl, hi, p⟩
  by_cases hlt : i < x.cps.size
  · refine .inr ⟨hlt, Pv (i + 1), fun σ' H' p' => ⟨x.cps.size - (i + 1), by omega, rfl, hlt, p'⟩, fun v H' y => ?_⟩
    obtain ⟨e, c, hc, rfl⟩ := y
    subst e
    exact hs i c σ _ hc p
  · have e : i = x.cps.size := by omega
    exact .inl ⟨e, hd σ H (by rw [← e]; exact p)⟩
/-! ### join, all, isinstance -/
section
variable {X : Cx}
theorem strsAre_of {zs : List Str} : ∀ {us : List Value}, Vals (zs.map V.str) us → StrsAre us zs := by
  induction zs with
  | nil => intro us r; rw [List.map_nil] at r; cases r; exact .nil
  | cons z zs ih =>
    intro us r
    rw [List.map_cons] at r
    cases r with
    | cons r1 r2 =>
      obtain ⟨t, e⟩ := r1
      subst e
      exact .cons z t (ih r2)
def rJoin (K : PySem.W.Frag) : V → List V → Hp → VK → Prop := fun x vs H Q => ∃ sep l zs, x = .str sep ∧ vs = [.ref l] ∧ (SqL K H l (zs.map V.str) ∨ SqT K H l (zs.map V.str)) ∧ (zs.map (·.length)).sum + zs.length * sep.length ≤ 16777216 ∧ Q (.str (Txt.join sep zs)) H
theorem mt_join : MtR X "str.join" (rJoin X.K) := by
  intro pins s σ H x vs v us Q I rx rv h
  obtain ⟨sep, l, zs, rfl, rfl, hq, hz, q⟩ := h
  obtain ⟨t, rfl⟩ := rx
  obtain ⟨u, rfl, ru⟩ := vals1 rv
  cases ru
  rcases hq with hq | hq
  · obtain ⟨its, r', pl, _⟩ := I.list hq
    exact join_list (items := its.toArray) pl.isList (strsAre_of r') hz fun t' k => ⟨.str _, H, I.tok _, ⟨t', rfl⟩, q⟩
  · obtain ⟨its, r', pl, _⟩ := I.tuple hq
    exact join_tuple (items := its.toArray) pl (strsAre_of r') hz fun t' k => ⟨.str _, H, I.tok _, ⟨t', rfl⟩, q⟩
theorem boolsAre_of {bs : List Bool} : ∀ {us : List Value}, Vals (bs.map V.bl) us → us = bs.map Value.bool := by
  induction bs with
  | nil => intro us r; rw [List.map_nil] at r; cases r; rfl
  | cons z zs ih =>
    intro us r
    rw [List.map_cons] at r
    cases r with
    | cons r1 r2 =>
      have e : _ = Value.bool z := r1
      rw [e, ih r2]
      rfl
theorem all_range (bs : List Bool) : ((List.range bs.length).all fun i => (bs[i]?).getD true) = bs.all id := by
  rw [Bool.eq_iff_iff, List.all_eq_true, List.all_eq_true]
  constructor
  · intro h b hb
    obtain ⟨i, hi, rfl⟩ := List.getElem_of_mem hb
    have z := h i (List.mem_range.mpr hi)
    simpa [hi] using z
  · intro h i hi
    have hi' := List.mem_range.mp hi
    have z := h _ (List.getElem_mem hi')
    simpa [hi'] using z
theorem call_all : CallR X (.builtin "all") (fun xs H Q => ∃ (p : Addr) (bs : List Bool), xs = [.ref p] ∧ X.calm = true ∧ SqL X.K H p (bs.map V.bl) ∧ Q (.bl (bs.all id)) H) := by
  intro pins s σ H xs us Q I r h
  obtain ⟨p, bs, rfl, hc, hq, q⟩ := h
  obtain ⟨u, rfl, rx⟩ := vals1 r
  cases rx
  obtain ⟨its, r', pl, hz⟩ := I.list hq
  have ei := boolsAre_of r'
  have hlt : p < s.heap.objs.size := by
    obtain ⟨_, e, _⟩ := pl.isList
    exact Heap.lt_size e
  refine call_all_walk (wpAny_pyIter_list pl.isList ?_)
  refine ⟨s.heap.objs.size, [s.heap.objs.size, p], [s.heap.objs.size], its.toArray.size, _, _, fun i => (bs[i]?).getD true, rfl, Walks.list (A := X.A.in1) (I.ok.hd hc) _ p (Nat.ne_of_lt hlt) its.toArray,
    ⟨⟨_, Heap.get?_push_size _ rfl, rfl, rfl⟩, pl.isList.push _⟩, fun i v s' Q' E' hP hQ => ?_, fun h' tk hk => ?_⟩
  · have hP' : its[i]? = some v := by simpa using hP
    rw [ei, List.getElem?_map] at hP'
    cases hb : bs[i]? with
    | none => rw [hb] at hP'; cases hP'
    | some b =>
      rw [hb] at hP'
      have ev : Value.bool b = v := Option.some.inj hP'
      subst ev
      simp only [hb, Option.getD_some] at hQ
      exact wpAny_truthy_bool hQ
  · have el : its.toArray.size = bs.length := by rw [List.size_toArray, ei, List.length_map]
    rw [el, all_range]
    refine ⟨.bl (bs.all id), H, I.kept (t' := tk) fun b o e => hk b o (fun hm => ?_) (Heap.get?_push_of_some _ e), rfl, q⟩
    rw [List.mem_singleton.mp hm] at e
    exact Nat.lt_irrefl _ (Heap.lt_size e)
/-- isinstance(x, T), T a built-in name, where the type is T itself -/
theorem call_isinst : CallR X (.builtin "isinstance") (fun xs H Q => ∃ (x : V) (n : String) (t : Value) (b : Bool), xs = [x, .ty n] ∧ TyOf X.K H x t ∧ PySem.W.kitOne X.K t (.type n) = some b ∧ Q (.bl b) H) := by
  intro pins s σ H xs us Q I r h
  obtain ⟨x, n, t, b, rfl, ty, e, q⟩ := h
  obtain ⟨u, u2, rfl, rx, ru⟩ := vals2 r
  have e2 : u2 = Value.type n := ru
  subst e2
  exact isinst_ok I rx ty e fun tk => ⟨.bl b, H, I.tok _, rfl, q⟩
end
end L2
/-! MY OWN ADDITIONS, 2: slices of texts; data (texts, numbers, tuples of them) in the heap, and == of two of them. -/
namespace L2
open PySem PySem.Spec PyProof.Rows
section
variable {X : Cx}
def rSlS : V → Option Int → Option Int → Hp → VK → Prop := fun x lo hi H Q => ∃ z, x = .str z ∧ z.length ≤ sizeLine ∧ Q (.str (Txt.slice z lo hi)) H
theorem part_of {v : Value} {o : Option Int} (p : IsPart v o) : ∃ q : Option (Int × Tok), v = partValue q ∧ q.map (·.1) = o := by
  cases p with
  | none => exact ⟨none, rfl, rfl⟩
  | int i t => exact ⟨some (i, t), rfl, rfl⟩
theorem sl_str : SlR X rSlS := by
  intro pins s σ H x v vl vu lo hi sl Q I rx hs pl pu h
  obtain ⟨z, rfl, hz, q⟩ := h
  obtain ⟨t, rfl⟩ := rx
  obtain ⟨ql, rfl, el⟩ := part_of pl
  obtain ⟨qu, rfl, eu⟩ := part_of pu
  refine ⟨"str", _, F.slot_str_getitem.lookup, typeIs_str _ _ _, wpAny_getItem_str_slice (l := ql) (u := qu) (st := none) hs rfl ?_⟩
  have e : sliceMade z t ql qu none = if ((1 : Int) == 1 && (Builtin.Str.strSliceIndices lo hi 1 z.length).length == z.length) = true then .val (.str z t) else .str ⟨((Builtin.Str.strSliceIndices lo hi 1 z.length).filterMap (z.cps[·]?)).toArray⟩ := by
    unfold sliceMade slicePicked
    rw [el, eu]
    rfl
  rw [e]
  exact post_val_or_str ⟨Nat.le_trans (Txt.slice_le z lo hi) hz, fun t' k => ⟨.str (Txt.slice z lo hi), H, I.tok _, ⟨t', rfl⟩, q⟩⟩
theorem slice_to {z : Str} {j : Int} (h0 : 0 ≤ j) (h1 : j ≤ z.length) : (Txt.slice z none (some j)).cps.toList = z.cps.toList.take j.toNat := by
  have e := eq_of_beq (slice_closes_toL (x := z) h0 h1)
  rw [e]
  simp
theorem slice_mid {z : Str} {i j : Int} (h0 : 0 ≤ i) (h1 : i ≤ j) (h2 : j ≤ z.length) : (Txt.slice z (some i) (some j)).cps.toList = (z.cps.toList.drop i.toNat).take (j - i).toNat := by
  have e := eq_of_beq (slice_closesL (x := z) h0 h1 h2)
  rw [e]
end
/-! ### data -/
inductive Dt where
  | non | bl (b : Bool) | int (i : Int) | str (x : Str) | tup (ds : List Dt)
  deriving Inhabited
inductive IsD (K : PySem.W.Frag) (H : Hp) : Dt → V → Prop
  | non : IsD K H .non .non
  | bl (b : Bool) : IsD K H (.bl b) (.bl b)
  | int (i : Int) : IsD K H (.int i) (.int i)
  | str (x : Str) : IsD K H (.str x) (.str x)
  | tup {ds : List Dt} {xs : List V} {a : Addr} (h : SqT K H a xs) (l : ds.length = xs.length) (r : ∀ (i : Nat) (h1 : i < ds.length) (h2 : i < xs.length), IsD K H ds[i] xs[i]) : IsD K H (.tup ds) (.ref a)
mutual
def Dt.deep : Dt → Nat
  | .tup ds => Dt.deeps ds + 1
  | _ => 0
def Dt.deeps : List Dt → Nat
  | [] => 0
  | d :: r => max (Dt.deep d) (Dt.deeps r)
end
theorem deeps_get : ∀ {ds : List Dt} {i : Nat} (h : i < ds.length), (ds[i]).deep ≤ Dt.deeps ds
  | d :: r, 0, _ => by
    show d.deep ≤ max (Dt.deep d) (Dt.deeps r)
    omega
  | d :: r, i + 1, h => by
    have z := deeps_get (ds := r) (i := i) (by simpa using h)
    show (r[i]'(by simpa using h)).deep ≤ max (Dt.deep d) (Dt.deeps r)
    omega
/-! == of data, as Python answers -/
mutual
def eqD : Dt → Dt → Bool
  | .non, .non => true
  | .bl a, .bl b => a == b
  | .bl a, .int b => (if a then 1 else 0) == b
  | .int a, .bl b => a == (if b then 1 else 0)
  | .int a, .int b => a == b
  | .str a, .str b => a == b
  | .tup a, .tup b => eqDs a b
  | _, _ => false
def eqDs : List Dt → List Dt → Bool
  | [], [] => true
  | a :: r, b :: q => eqD a b && eqDs r q
  | _, _ => false
end
theorem eqDs_range : ∀ (a b : List Dt), ((List.range (min a.length b.length)).all (fun i => eqD (a.getD i .non) (b.getD i .non)) && a.length == b.length) = eqDs a b
  | [], [] => by unfold eqDs; rfl
  | [], b :: q => by unfold eqDs; simp
  | a :: r, [] => by unfold eqDs; simp
  | a :: r, b :: q => by
    have ih := eqDs_range r q
    rw [eqDs, ← ih]
    have e : min (a :: r).length (b :: q).length = min r.length q.length + 1 := by simp only [List.length_cons]; omega
    rw [e, List.range_succ_eq_map, List.all_cons, List.all_map]
    have e2 : ((a :: r).length == (b :: q).length) = (r.length == q.length) := by simp
    rw [e2, Bool.and_assoc]
    rfl
theorem isD_same {K : PySem.W.Frag} {H : Hp} {X : Cx} {pins : List (Addr × Obj)} {σ : St} {s : Shared} (I : Inv X pins σ H s) (hK : X.K = K) :
    ∀ (n : Nat) {d e : Dt} {x : V}, d.deep ≤ n → IsD K H d x → IsD K H e x → eqD d e = true := by
  subst hK
  intro n
  induction n with
  | zero =>
    intro d e x hd h1 h2
    cases h1 with
    | non => cases h2; rfl
    | bl a => cases h2; show (a == a) = true; exact beq_self_eq_true a
    | int a => cases h2; show (a == a) = true; exact beq_self_eq_true a
    | str a => cases h2; show (a == a) = true; exact beq_self_eq_true a
    | tup h l r => exact absurd hd (by simp [Dt.deep])
  | succ n ih =>
    intro d e x hd h1 h2
    cases h1 with
    | @tup ds xs a h l r =>
      cases h2 with
      | @tup es ys b h' l' r' =>
        have hx : xs = ys := I.tuple_inj h h'
        subst hx
        show eqDs ds es = true
        rw [← eqDs_range, Bool.and_eq_true, List.all_eq_true]
        refine ⟨fun j hj => ?_, by rw [l, l']; simp⟩
        have hj' := List.mem_range.mp hj
        have g1 : ds.getD j .non = ds[j]'(by omega) := by simp [List.getD_eq_getElem?_getD, (show j < ds.length by omega)]
        have g2 : es.getD j .non = es[j]'(by omega) := by simp [List.getD_eq_getElem?_getD, (show j < es.length by omega)]
        rw [g1, g2]
        refine ih ?_ (r j (by omega) (by omega)) (r' j (by omega) (by omega))
        have z := deeps_get (ds := ds) (i := j) (by omega)
        have hd' : Dt.deeps ds + 1 ≤ n + 1 := hd
        omega
    | non => exact ih (by simp [Dt.deep]) .non h2
    | bl a => exact ih (by simp [Dt.deep]) (.bl a) h2
    | int a => exact ih (by simp [Dt.deep]) (.int a) h2
    | str a => exact ih (by simp [Dt.deep]) (.str a) h2
theorem isD_eq {K : PySem.W.Frag} {H : Hp} {X : Cx} {pins : List (Addr × Obj)} {σ : St} {s : Shared} (I : Inv X pins σ H s) (hK : X.K = K) :
    ∀ (n : Nat) (A : Around) {d e : Dt} {x y : V} {u v : Value}, d.deep ≤ n → A.units + n < cLine → IsD K H d x → IsD K H e y → RelV x u → RelV y v → SeqAt.EqAt A s u v (eqD d e) := by
  subst hK
  intro n
  induction n with
  | zero =>
    intro A d e x y u v hd hu h1 h2 ru rv
    cases h1 with
    | non =>
      cases ru
      cases h2 with
      | non => cases rv; exact SeqAt.EqAt.same _
      | bl b => cases rv; exact SeqAt.EqAt.none_bool b
      | int b => obtain ⟨t, rfl⟩ := rv; exact SeqAt.EqAt.none_int b t
      | str b => obtain ⟨t, rfl⟩ := rv; exact SeqAt.EqAt.none_str b t
      | tup h l r => cases rv; obtain ⟨its, _, p, _⟩ := I.tuple h; exact SeqAt.EqAt.none_tuple p (by omega)
    | bl a =>
      cases ru
      cases h2 with
      | non => cases rv; exact SeqAt.EqAt.bool_none a
      | bl b => cases rv; exact SeqAt.EqAt.bool_bool a b
      | int b => obtain ⟨t, rfl⟩ := rv; exact SeqAt.EqAt.bool_int a b t
      | str b => obtain ⟨t, rfl⟩ := rv; exact SeqAt.EqAt.bool_str a b t
      | tup h l r => cases rv; obtain ⟨its, _, p, _⟩ := I.tuple h; exact SeqAt.EqAt.bool_tuple a p (by omega)
    | int a =>
      obtain ⟨t', rfl⟩ := ru
      cases h2 with
      | non => cases rv; exact SeqAt.EqAt.int_none a t'
      | bl b => cases rv; exact SeqAt.EqAt.int_bool a t' b
      | int b => obtain ⟨t, rfl⟩ := rv; exact SeqAt.EqAt.int_int a t' b t
      | str b => obtain ⟨t, rfl⟩ := rv; exact SeqAt.EqAt.int_str a t' b t
      | tup h l r => cases rv; obtain ⟨its, _, p, _⟩ := I.tuple h; exact SeqAt.EqAt.int_tuple a t' p (by omega)
    | str a =>
      obtain ⟨t', rfl⟩ := ru
      cases h2 with
      | non => cases rv; exact SeqAt.EqAt.str_none a t'
      | bl b => cases rv; exact SeqAt.EqAt.str_bool a t' b
      | int b => obtain ⟨t, rfl⟩ := rv; exact SeqAt.EqAt.str_int a t' b t
      | str b => obtain ⟨t, rfl⟩ := rv; exact SeqAt.EqAt.str_str a t' b t
      | tup h l r => cases rv; obtain ⟨its, _, p, _⟩ := I.tuple h; exact SeqAt.EqAt.str_tuple a t' p (by omega)
    | tup h l r => exact absurd hd (by simp [Dt.deep])
  | succ n ih =>
    intro A d e x y u v hd hu h1 h2 ru rv
    cases h1 with
    | @tup ds xs a h l r =>
      cases ru
      obtain ⟨its, r1, p1, _⟩ := I.tuple h
      cases h2 with
      | non => cases rv; exact SeqAt.EqAt.tuple_none p1 (by omega)
      | bl b => cases rv; exact SeqAt.EqAt.tuple_bool b p1 (by omega)
      | int b => obtain ⟨t, rfl⟩ := rv; exact SeqAt.EqAt.tuple_int b t p1 (by omega)
      | str b => obtain ⟨t, rfl⟩ := rv; exact SeqAt.EqAt.tuple_str b t p1 (by omega)
      | @tup es ys b h' l' r' =>
        cases rv
        obtain ⟨its2, r2, p2, _⟩ := I.tuple h'
        have len1 := r1.length
        have len2 := r2.length
        have key : SeqAt.RcAt A s (.ref a) (.ref b) ((List.range (min its.toArray.size its2.toArray.size)).all (fun i => eqD (ds.getD i .non) (es.getD i .non)) && its.toArray.size == its2.toArray.size) := by
          refine SeqAt.RcAt.tuples p1 p2 (by omega) fun j j1 j2 => ?_
          have j1' : j < its.length := by simpa using j1
          have j2' : j < its2.length := by simpa using j2
          have hx := r j (by omega) (by omega)
          have hy := r' j (by omega) (by omega)
          obtain ⟨u1, e1, q1⟩ := r1.get (i := j) (x := xs[j]) (by simp)
          obtain ⟨u2, e2, q2⟩ := r2.get (i := j) (x := ys[j]) (by simp)
          have c1 : its.toArray[j] = u1 := by
            have z := List.getElem?_eq_some_iff.mp e1
            simpa using z.2
          have c2 : its2.toArray[j] = u2 := by
            have z := List.getElem?_eq_some_iff.mp e2
            simpa using z.2
          rw [c1, c2]
          have g1 : ds.getD j .non = ds[j] := by simp [List.getD_eq_getElem?_getD, (show j < ds.length by omega)]
          have g2 : es.getD j .non = es[j] := by simp [List.getD_eq_getElem?_getD, (show j < es.length by omega)]
          rw [g1, g2]
          refine ih A.in1 ?_ (by show A.units + 1 + n < cLine; omega) hx hy q1 q2
          have z := deeps_get (ds := ds) (i := j) (by omega)
          have hd' : Dt.deeps ds + 1 ≤ n + 1 := hd
          omega
        have e0 : ((List.range (min its.toArray.size its2.toArray.size)).all (fun i => eqD (ds.getD i .non) (es.getD i .non)) && its.toArray.size == its2.toArray.size) = eqD (.tup ds) (.tup es) := by
          rw [List.size_toArray, List.size_toArray, ← len1, ← len2, ← l, ← l']
          rw [eqDs_range]
          rfl
        rw [e0] at key
        by_cases hab : a = b
        · subst hab
          have hx : xs = ys := I.tuple_inj h h'
          subst hx
          have ed : eqD (.tup ds) (.tup es) = true := isD_same I rfl (n + 1) hd (.tup h l r) (.tup h' l' r')
          rw [ed]
          exact SeqAt.EqAt.same _
        · exact SeqAt.EqAt.of_refs hab key
    | non => exact ih A (by simp [Dt.deep]) (by omega) .non h2 ru rv
    | bl a => exact ih A (by simp [Dt.deep]) (by omega) (.bl a) h2 ru rv
    | int a => exact ih A (by simp [Dt.deep]) (by omega) (.int a) h2 ru rv
    | str a => exact ih A (by simp [Dt.deep]) (by omega) (.str a) h2 ru rv
/-- two data compared -/
def rEqD (K : PySem.W.Frag) : R2 := fun x y H Q => ∃ d e, IsD K H d x ∧ IsD K H e y ∧ d.deep ≤ 20 ∧ (∃ ds, d = .tup ds) ∧ (∃ es, e = .tup es) ∧ Q (.bl (eqD d e)) H
theorem op_eqD {X : Cx} (hu : X.A.units + 64 < cLine) : OpR X (compareOp .Eq) (rEqD X.K) := by
  intro pins s σ H x y v u Q I rx ry h
  obtain ⟨d, e, h1, h2, hd, ⟨ds, rfl⟩, ⟨es, rfl⟩, q⟩ := h
  cases h1 with
  | @tup _ xs a g1 l1 r1 =>
    cases h2 with
    | @tup _ ys b g2 l2 r2 =>
      cases rx
      cases ry
      obtain ⟨its, rv1, p1, _⟩ := I.tuple g1
      obtain ⟨its2, rv2, p2, _⟩ := I.tuple g2
      have len1 := rv1.length
      have len2 := rv2.length
      refine SeqAt.eq_tupleAt (e := fun i => eqD (ds.getD i .non) (es.getD i .non)) p1 p2 (by omega) (fun j j1 j2 => ?_) ?_
      · have j1' : j < its.length := by simpa using j1
        have j2' : j < its2.length := by simpa using j2
        obtain ⟨u1, e1, q1⟩ := rv1.get (i := j) (x := xs[j]) (by simp)
        obtain ⟨u2, e2, q2⟩ := rv2.get (i := j) (x := ys[j]) (by simp)
        have c1 : its.toArray[j] = u1 := by
          have z := List.getElem?_eq_some_iff.mp e1
          simpa using z.2
        have c2 : its2.toArray[j] = u2 := by
          have z := List.getElem?_eq_some_iff.mp e2
          simpa using z.2
        rw [c1, c2]
        have g1 : ds.getD j .non = ds[j] := by simp [List.getD_eq_getElem?_getD, (show j < ds.length by omega)]
        have g2 : es.getD j .non = es[j] := by simp [List.getD_eq_getElem?_getD, (show j < es.length by omega)]
        rw [g1, g2]
        refine isD_eq I rfl 20 X.A.in1 ?_ (by show X.A.units + 1 + 20 < cLine; omega) (r1 j (by omega) (by omega)) (r2 j (by omega) (by omega)) q1 q2
        have z := deeps_get (ds := ds) (i := j) (by omega)
        have hd' : Dt.deeps ds + 1 ≤ 20 := hd
        omega
      · refine ⟨.bl _, H, I, rfl, ?_⟩
        rw [List.size_toArray, List.size_toArray, ← len1, ← len2, ← l1, ← l2, eqDs_range]
        exact q
theorem SqT.same {K : PySem.W.Frag} {H H' : Hp} (e : Same H H') {a : Addr} {xs : List V} (h : SqT K H a xs) : SqT K H' a xs := by
  rcases h with (h | ⟨o, h⟩) | h
  · exact .inl (.inl (e _ _ h))
  · exact .inl (.inr ⟨o, e _ _ h⟩)
  · exact .inr h
end L2
/-! MY OWN ADDITIONS, 3: exceptions of the program's own classes: raised, passed on by calls, caught. -/
namespace L2
open PySem PySem.Spec PyProof.Rows
/-! ### how an exception flies -/
structure Fly (P : Program) (w : World) (outer : List Env) (H : Hp) (s : Shared) (x : Addr) (cls : Value) (H' : Hp) (s' : Shared) : Prop where
  os : s'.os = s.os
  bare : AllBare s'.gens
  ex : ∃ (B : Heap) (a0 : Value), Heap.FlyingW B outer x cls a0 s'.heap ∧ HOk P w H' B ∧ (∀ b o, s.heap.get? b = some o → H b = none → b ∉ frs outer → B.get? b = some o) ∧
    (∀ b o, s.heap.get? b = some o → b ∉ frs outer → ∃ o', B.get? b = some o')
  slot : ∀ b o, s.heap.get? b = some o → H b = none → b ∈ frs outer → ∃ sl, s'.heap.get? b = some { o with slots := sl }
  free : ∀ b o, s.heap.get? b = some o → H b = none → H' b = none
  tups : ∀ b xs, H b = some (.tup xs) → H' b = some (.tup xs)
  frzs : ∀ b o u, H b = some (.frz o u) → H' b = some (.frz o u)
  tbls : ∀ b ps, H b = some (.tbl ps) → ∃ more, H' b = some (.tbl (ps ++ more))
def CXE (P : Program) (w : World) : CXT := fun outer H s E e s' => ∃ (x : Addr) (cls : Value) (H' : Hp), e = .ref x ∧ Fly P w outer H s x cls H' s' ∧ E cls none H'
section
variable {P : Program} {w : World} {K : PySem.W.Frag} {mg : Str → Option Value} {base : Heap} {N : List Str} {qual : Str} {scope : Scope} {f : Addr} {cd : Value} {A : Around} {outer : List Env} {s₀ : Shared} {H₀ : Hp} {E : XK}
abbrev cxE (P : Program) (w : World) (K : PySem.W.Frag) (mg : Str → Option Value) (base : Heap) (N : List Str) (qual : Str) (scope : Scope) (f : Addr) (cd : Value) (A : Around) (outer : List Env) (s : Shared) (H : Hp) (E : XK) : Cx :=
  cxOf (CXE P w) P w K mg base N qual scope f cd A outer s H E
theorem frs_cons (env : Env) (l : List Env) {a : Addr} (h : env.frame = some a) : frs (env :: l) = a :: frs l := by
  unfold frs
  rw [List.filterMap_cons, h]
/-- objects with a frame's shape keep their data -/
theorem slots_of {h h' : Heap} {l : List Env} {B : Heap} (sm : h.UpToSlots h') (fl : h.FunFrames B l) {b : Addr} {o : Obj} (hb : b ∈ frs l) (e : h.get? b = some o) : ∃ sl, h'.get? b = some { o with slots := sl } := by
  obtain ⟨_, o', e', hd⟩ := fl.mem hb
  rw [e] at e'
  cases e'
  exact sm b o e hd
/-- an exception of a callee leaves this body too -/
theorem passE : Passes (CXE P w) (cxE P w K mg base N qual scope f cd A outer s₀ H₀ E) E := by
  intro pins σ H s e s' I h
  obtain ⟨x, cls, H', rfl, F, hE⟩ := h
  obtain ⟨B, a0, fl, hok, kp, th⟩ := F.ex
  have hfr : (cxE P w K mg base N qual scope f cd A outer s₀ H₀ E).env.frame = some s₀.heap.objs.size := rfl
  have st : frs (cxE P w K mg base N qual scope f cd A outer s₀ H₀ E).stack = s₀.heap.objs.size :: frs outer := frs_cons _ _ hfr
  have old : ∀ b o, s₀.heap.get? b = some o → b ∉ frs outer → b ∉ frs (cxE P w K mg base N qual scope f cd A outer s₀ H₀ E).stack := fun b o q hb hm => by
    rw [st] at hm
    rcases List.mem_cons.mp hm with z | z
    · exact Nat.ne_of_lt (Heap.lt_size q) z
    · exact hb z
  refine wpAny_leaves_onW (L := s₀.heap.objs.size) I.ok.frames hfr fl fun h1 fl1 sm1 => ?_
  refine ⟨x, cls, H', rfl, ⟨F.os.trans I.os, F.bare, ⟨B, a0, fl1, hok, fun b o q n hb => ?_, fun b o q hb => ?_⟩, fun b o q n hb => ?_, fun b o q n => ?_, fun b xs q => F.tups b xs (I.base.tups b xs q), fun b o u q => F.frzs b o u (I.base.frzs b o u q), fun b ps q => ?_⟩, hE⟩
  · exact kp b o (I.base.keep b o q n hb (by intro z; cases z)) (I.base.free b o q n (by intro z; cases z)) (old b o q hb)
  · obtain ⟨o', q'⟩ := I.base.there b o q (by intro z; cases z)
    exact th b o' q' (old b o q hb)
  · obtain ⟨sl, q1⟩ := I.base.slot b o q n hb (by intro z; cases z)
    obtain ⟨sl2, q2⟩ := F.slot b _ q1 (I.base.free b o q n (by intro z; cases z)) (by rw [st]; exact List.mem_cons_of_mem _ hb)
    obtain ⟨sl3, q3⟩ := slots_of (l := (cxE P w K mg base N qual scope f cd A outer s₀ H₀ E).stack) sm1 fl.2.2.1 (by rw [st]; exact List.mem_cons_of_mem _ hb) q2
    exact ⟨sl3, q3⟩
  · obtain ⟨o', q'⟩ := I.base.there b o q (by intro z; cases z)
    exact F.free b o' q' (I.base.free b o q n (by intro z; cases z))
  · obtain ⟨m1, e1⟩ := I.base.tbls b ps q
    obtain ⟨m2, e2⟩ := F.tbls b _ e1
    exact ⟨m1 ++ m2, by rw [e2, Array.append_assoc]⟩
/-- an exception that was just made leaves this body -/
theorem made_leaves {pins : List (Addr × Obj)} {σ : St} {H : Hp} {s : Shared} {h1 : Heap} {e : Addr} {cls : Value} {vs : List Value} (I : Inv (cxE P w K mg base N qual scope f cd A outer s₀ H₀ E) pins σ H s) (hx : Heap.MadeExcOf s.heap h1 e cls vs) (hE : E cls none H) :
    (cxE P w K mg base N qual scope f cd A outer s₀ H₀ E).xe (.ref e) { s with heap := h1 } := by
  have hfr : (cxE P w K mg base N qual scope f cd A outer s₀ H₀ E).env.frame = some s₀.heap.objs.size := rfl
  have st : frs (cxE P w K mg base N qual scope f cd A outer s₀ H₀ E).stack = s₀.heap.objs.size :: frs outer := frs_cons _ _ hfr
  have old : ∀ b o, s₀.heap.get? b = some o → b ∉ frs outer → b ∉ frs (cxE P w K mg base N qual scope f cd A outer s₀ H₀ E).stack := fun b o q hb hm => by
    rw [st] at hm
    rcases List.mem_cons.mp hm with z | z
    · exact Nat.ne_of_lt (Heap.lt_size q) z
    · exact hb z
  have hin : ∀ env ∈ (cxE P w K mg base N qual scope f cd A outer s₀ H₀ E).stack, ∀ b, env.frame = some b → b ∈ frs (cxE P w K mg base N qual scope f cd A outer s₀ H₀ E).stack := fun env he b hb => List.mem_filterMap.mpr ⟨env, he, hb⟩
  have hB : (PySem.W.hideAll s.heap (frs (cxE P w K mg base N qual scope f cd A outer s₀ H₀ E).stack)).StaysIn s.heap := fun b o q => PySem.W.of_hideAll _ q
  have get : ∀ b o, s.heap.get? b = some o → b ∉ frs (cxE P w K mg base N qual scope f cd A outer s₀ H₀ E).stack → (PySem.W.hideAll s.heap (frs (cxE P w K mg base N qual scope f cd A outer s₀ H₀ E).stack)).get? b = some o := fun b o q hb => PySem.W.hideAll_get _ q hb
  refine wpAny_leaves_madeW (base := PySem.W.hideAll s.heap (frs (cxE P w K mg base N qual scope f cd A outer s₀ H₀ E).stack)) (h := s.heap) (L := s₀.heap.objs.size) I.ok.frames hfr hB (PySem.W.funFrames_hide I.stack hin) hx fun h2 t fl ht hn sm => ?_
  have hok : HOk P w H (PySem.W.hideAll s.heap (frs (cxE P w K mg base N qual scope f cd A outer s₀ H₀ E).stack)) := fun b o q => by
    refine (I.hok b o q).stay (fun c u hc r => get c u r fun hm => ?_) (fun _ r => r) fun _ _ r => r
    have z := I.stkFree c hm
    rcases hc with rfl | hc
    · rw [q] at z; cases z
    · rw [hc] at z; cases z
  refine ⟨e, cls, H, rfl, ⟨I.os, I.bare, ⟨_, _, fl, hok, fun b o q n hb => ?_, fun b o q hb => ?_⟩, fun b o q n hb => ?_, fun b o q n => I.base.free b o q n (by intro z; cases z), I.base.tups, I.base.frzs, I.base.tbls⟩, hE⟩
  · exact get b o (I.base.keep b o q n hb (by intro z; cases z)) (old b o q hb)
  · obtain ⟨o', q'⟩ := I.base.there b o q (by intro z; cases z)
    exact ⟨o', get b o' q' (old b o q hb)⟩
  · obtain ⟨sl, q1⟩ := I.base.slot b o q n hb (by intro z; cases z)
    have q2 := hx.keeps b _ q1
    have hbs : b ∈ frs (cxE P w K mg base N qual scope f cd A outer s₀ H₀ E).stack := by rw [st]; exact List.mem_cons_of_mem _ hb
    obtain ⟨_, o3, e3, hd⟩ := I.stack.mem hbs
    rw [q1] at e3
    cases e3
    obtain ⟨sl3, q3⟩ := sm b _ q2 hd
    exact ⟨sl3, q3⟩
end
/-! ### an own exception class, by the fragment -/
theorem exc_at {K : PySem.W.Frag} {h : Heap} {C : Addr} {bmB : List Value} {newId : String} (X : K.In h) (q : PySem.W.excIn K C bmB newId = true) :
    ∃ (bm : List Value) (Nn : Addr) (n1 n2 : Str) (bs : List Value) (hd : Bool) (sn : List Str) (sub : List Value) (ab : Bool) (col : Option Bool) (dd : Option Addr) (k0 k1 k2 k3 k5 : Option Value) (mN : Str → Option Value),
      h.get? C = some (excClassObj n1 n2 C Nn bs bm hd sn sub ab col dd k0 k1 k2 k3 k5 newId) ∧ h.Ns Nn mN ∧ mN "__init__" = none ∧ OwnTail h bmB bm := by
  unfold PySem.W.excIn at q
  split at q
  · rename_i dd cdat sl look
    split at q
    · rename_i C1 bm k0 k1 k2 k3 nn k5 emro esl
      simp only [Bool.and_eq_true, beq_iff_eq, Bool.not_eq_true'] at q
      obtain ⟨⟨⟨⟨⟨q1, q2⟩, q3⟩, q4⟩, q5⟩, q6⟩ := q
      subst q1
      subst q2
      obtain ⟨c1, c2, c3, c4, c5, c6, c7, c8, c9, c10, c11⟩ := cdat
      dsimp only at emro q3 q5 q6
      subst emro
      subst q3
      obtain ⟨sll⟩ := sl
      have es : sll = [k0, k1, k2, k3, some (.builtin nn), k5] := esl
      subst es
      exact ⟨bm, c4, c1, c5, c2, c6, c7, c8, c9, c10, dd, k0, k1, k2, k3, k5, _, X _ _ look, .of_isNs (PySem.W.isNs_of_in X q5), PySem.W.nsMap_none_of_in X q5 q6, PySem.W.tail_of_in X q4⟩
    · cases q
  · cases q
abbrev bmV : List Value := [.type "ValueError", .type "Exception", .type "BaseException", .type "object"]
abbrev newV : String := "ValueError.__new__"
section
variable {P : Program} {w : World} {K : PySem.W.Frag} {mg : Str → Option Value} {base : Heap} {N : List Str} {qual : Str} {scope : Scope} {f : Addr} {cd : Value} {A : Around} {outer : List Env} {s₀ : Shared} {H₀ : Hp} {E : XK}
/-- raise C(..): an own class under ValueError -/
def tRaise (C : Addr) (E : XK) (ta : TA) : TS := fun _ σ H => ta σ H fun vs H1 => vs.length ≤ sizeLine ∧ E (.ref C) none H1
theorem ps_raise {C : Addr} {x : Str} {np cpos pos : Pos} {e : Expr} {es : List Expr} {t : TA} (ex : PySem.W.excIn K C bmV newV = true) (hm : mg x = some (.ref C)) (hg : Gl (cxE P w K mg base N qual scope f cd A outer s₀ H₀ E) x)
    (ha : PA (cxE P w K mg base N qual scope f cd A outer s₀ H₀ E) (e :: es) t) (hdb : (x == ("__debug__" : Str)) = false := by decide)
    (he : starEach (e :: es) (cxE P w K mg base N qual scope f cd A outer s₀ H₀ E).env = (false, eval e (cxE P w K mg base N qual scope f cd A outer s₀ H₀ E).env) :: starEach es (cxE P w K mg base N qual scope f cd A outer s₀ H₀ E).env := by rfl)
    (hpl : (backTo cpos (starEach es (cxE P w K mg base N qual scope f cd A outer s₀ H₀ E).env)).any (·.1) = false := by rfl) :
    PS (cxE P w K mg base N qual scope f cd A outer s₀ H₀ E) (.Raise (some (.Call (.Name x np) (e :: es) [] cpos)) none pos) (tRaise C E t) := by
  intro pins s σ H D I h
  obtain ⟨bm, Nn, n1, n2, bs, hd, sn, sub, ab, col, dd, k0, k1, k2, k3, k5, mN, gC, gN, gi, gT⟩ := exc_at I.mod.kin ex
  refine wpAny_Raise_call_subU (C := C) (nm := n1) (q := n2) (N := Nn) (bs := bs) (bm := bm) (hdct := hd) (sn := sn) (sub := sub) (ab := ab) (col := col) (dd := dd) (k0 := k0) (k1 := k1) (k2 := k2) (k3 := k3) (k5 := k5) (mN := mN)
    PySem.F.excBase_ValueError (by decide +kernel) PySem.F.excBase_ValueError (gT.hasType (by decide +kernel)) (I.ok.hd rfl) (by rw [he]; show (false || (backTo cpos (starEach es (cxE P w K mg base N qual scope f cd A outer s₀ H₀ E).env)).any (·.1)) = false; rw [hpl]; rfl) gi (ld_glob I hg hm ⟨rfl, ?_⟩ hdb)
  have hA := ha cpos pins s σ H _ I h
  rw [he] at hA ⊢
  refine Calls.evalArgs_plain (thn hA fun us s2 ⟨vs, H2, I2, r2, hz, q2⟩ => ⟨rfl, ?_, I2.bk _ _ gC, gN.keeps I2.bk, gT.keeps I2.bk, fun h' x' hx => made_leaves I2 hx q2⟩)
  show us.length ≤ sizeLine
  rw [← r2.length]
  exact hz
/-- THE RULE for a def that may raise -/
theorem Fun.okE {x qual : Str} {st : Stmt} {f : Addr} {fd : FuncData} {N ps : List Str} {k : Nat} {sp : Sp} (F : Fun K x qual st f fd) (S : FnScope N ps (defScope st)) (len : ∀ vs H Q E, sp vs H Q E → vs.length = ps.length)
    (hbody : ∀ (cdv : Value) (A : Around) (outer : List Env) (s : Shared) (H : Hp) (vs : List V) (Q : VK) (E : XK), Room k (A.deeper (envOfC qual (defScope st) s.heap.objs.size f cdv)) → sp vs H Q E →
      ∃ t, PSs (cxE P w K mg base N qual (defScope st) f cdv A outer s H E) (defBody st) t ∧ t { nx := fun _ H' => Q .non H', rt := Q } (start N vs) H) : FnOk P w K mg base (CXE P w) (k + 1) f fd ps sp := by
  obtain ⟨oc, od, kV, doc, pm, an, cdv, ct, osl, rfl, lk, hcd⟩ := F.ex
  refine fn_of lk hcd S len fun A outer s H vs Q E hr hsp => ?_
  exact hbody cdv A outer s H vs Q E hr hsp
theorem passLoop : PassesOwn (model P w) (cxE P w K mg base N qual scope f cd A outer s₀ H₀ E).A (cxE P w K mg base N qual scope f cd A outer s₀ H₀ E).env (cxE P w K mg base N qual scope f cd A outer s₀ H₀ E).xe := by
  intro e s' h
  have z := PassesOwn.leaving (M := model P w) (A := (cxE P w K mg base N qual scope f cd A outer s₀ H₀ E).A) (env := (cxE P w K mg base N qual scope f cd A outer s₀ H₀ E).env) (Q₁ := fun e s'' => CXE P w outer H₀ s₀ E e s'') (E₁ := fun e' s'' => CXE P w outer H₀ s₀ E e' s'')
  exact z e s' h
end
/-! ### try .. except of own classes -/
/-- where an exception lands again in this frame -/
theorem Inv.land {X : Cx} {pins pins' : List (Addr × Obj)} {σ : St} {H H' : Hp} {s s' : Shared} {h6 : Heap} {x : Addr} {cls : Value} (I : Inv X pins' σ H s) (hp : ∀ p ∈ pins, p ∈ X.pn ++ pins') (hex : X.ex = []) (hfn : ∀ y, X.fn y = true)
    (hst : X.stack = X.env :: X.outer ∧ X.env.frame = some X.env.locals) (F : Fly X.prog X.w X.stack H s x cls H' s') {B : Heap} {a0 : Value} (fl : Heap.FlyingW B X.stack x cls a0 s'.heap) (hok : HOk X.prog X.w H' B)
    (kp : ∀ b o, s.heap.get? b = some o → H b = none → b ∉ frs X.stack → B.get? b = some o) (th : ∀ b o, s.heap.get? b = some o → b ∉ frs X.stack → ∃ o', B.get? b = some o') (sm : s'.heap.UpToSlots h6) (hB : B.StaysIn h6) :
    Inv X pins σ H' { s' with heap := h6 } := by
  have hfrs : frs X.stack = X.env.locals :: X.fs := by rw [hst.1]; exact frs_cons _ _ hst.2
  have nex : ∀ b : Addr, b ∉ X.ex := fun b z => by rw [hex] at z; cases z
  have nst : ∀ b, b ≠ X.env.locals → b ∉ X.fs → b ∉ frs X.stack := fun b h1 h2 hm => by
    rw [hfrs] at hm
    rcases List.mem_cons.mp hm with z | z
    · exact h1 z
    · exact h2 z
  have neL : ∀ b o, X.s₀.heap.get? b = some o → b ≠ X.env.locals := fun b o e => Nat.ne_of_lt (Nat.lt_of_lt_of_le (Heap.lt_size e) I.ok.above)
  have cnf : ∀ y c, X.env.cells.lookup y = some c → c ∉ X.fs := fun y c e hm => by
    obtain ⟨_, o, ho, _⟩ := I.ok.funs.mem hm
    exact absurd (Nat.lt_of_lt_of_le (Heap.lt_size ho) (I.ok.cab y c (hfn y) e)) (Nat.lt_irrefl _)
  have cellK : ∀ y c v, X.env.cells.lookup y = some c → s.heap.IsCell c v → h6.IsCell c v := fun y c v e ⟨o, ho, hd⟩ => ⟨o, hB _ _ (kp c o ho (I.freeC y c e) (nst c (I.cne y c e) (cnf y c e))), hd⟩
  refine ⟨I.ok, F.os.trans I.os, F.bare, ⟨fun b o e n hb hx => ?_, fun b o e n hb hx => ?_, fun b o e n hx => ?_, fun b o e hx => ?_, fun b xs e => F.tups b xs (I.base.tups b xs e), fun b o u e => F.frzs b o u (I.base.frzs b o u e), fun b ps e => ?_⟩, ?_, fun y c e => ?_, ?_, fun y c e => ?_, fun p hpm => ?_, hok.kept hB, I.len⟩
  · exact hB _ _ (kp b o (I.base.keep b o e n hb hx) (I.base.free b o e n hx) (nst b (neL b o e) hb))
  · obtain ⟨sl, e1⟩ := I.base.slot b o e n hb hx
    have hm : b ∈ frs X.stack := by rw [hfrs]; exact List.mem_cons_of_mem _ hb
    obtain ⟨sl2, e2⟩ := F.slot b _ e1 (I.base.free b o e n hx) hm
    obtain ⟨sl3, e3⟩ := slots_of sm fl.2.2.1 hm e2
    exact ⟨sl3, e3⟩
  · obtain ⟨o', e1⟩ := I.base.there b o e hx
    exact F.free b o' e1 (I.base.free b o e n hx)
  · obtain ⟨o', e1⟩ := I.base.there b o e hx
    by_cases hb : b ∈ X.fs
    · have hm : b ∈ frs X.stack := by rw [hfrs]; exact List.mem_cons_of_mem _ hb
      obtain ⟨_, o2, e2, hd⟩ := fl.2.2.1.mem hm
      obtain ⟨sl, e3⟩ := sm b o2 e2 hd
      exact ⟨_, e3⟩
    · obtain ⟨o2, e2⟩ := th b o' e1 (nst b (neL b o e) hb)
      exact ⟨o2, hB _ _ e2⟩
  · obtain ⟨m1, e1⟩ := I.base.tbls b ps e
    obtain ⟨m2, e2⟩ := F.tbls b _ e1
    exact ⟨m1 ++ m2, by rw [e2, Array.append_assoc]⟩
  · obtain ⟨m, hn, hl⟩ := I.loc
    have hm : X.env.locals ∈ frs X.stack := by rw [hfrs]; exact List.mem_cons_self
    have hn1 : s'.heap.Ns X.env.locals m := by
      obtain ⟨o, es, ep, ho, r⟩ := hn
      obtain ⟨sl, e⟩ := F.slot _ o ho I.free hm
      exact ⟨_, es, ep, e, r⟩
    refine ⟨m, sm.ns hn1, fun i y v e1 e2 e3 => ?_⟩
    obtain ⟨u, r, l⟩ := hl i y v e1 e2 e3
    refine ⟨u, r, ?_⟩
    rcases l with l | ⟨k, c, e, z⟩
    · exact .inl l
    · exact .inr ⟨k, c, e, cellK y c _ e z⟩
  · obtain ⟨v, z⟩ := I.cell y c e
    exact ⟨v, cellK y c v e z⟩
  · obtain ⟨m, ⟨o, _, _, ho, _⟩, _⟩ := I.loc
    exact F.free _ o ho I.free
  · obtain ⟨v, o, ho, _⟩ := I.cell y c e
    exact F.free c o ho (I.freeC y c e)
  · have hpm' : p ∈ X.pn ++ pins' := (List.mem_append.mp hpm).elim (fun z => List.mem_append_left _ z) (hp p)
    obtain ⟨e, n, ne, nf, d⟩ := I.pin p hpm'
    exact ⟨hB _ _ (kp p.1 p.2 e n (nst p.1 ne nf)), F.free p.1 p.2 e n, ne, nf, d⟩
/-- only what does not bear on the memory changes -/
theorem Cx.Ok.cx {X : Cx} (ok : X.Ok) {A' : Around} {cm : Bool} {pn : List (Addr × Obj)} {xe : Value → Shared → Prop} (hf : A'.frames = X.A.frames) (hh : cm = true → A'.handled = none) :
    Cx.Ok { X with A := A', calm := cm, pn := pn, xe := xe } :=
  ⟨ok.mod, ok.kind, ok.glob, ok.blt, ok.above, ok.inj, ok.has, ok.cab, hh, hf.trans ok.frames, ok.stk, ok.exf, ok.bs, ok.bsz, ok.noex, ok.exfs, ok.funs, ok.frf⟩
theorem Inv.cx {X : Cx} {pins pins' : List (Addr × Obj)} {σ : St} {H : Hp} {s : Shared} (I : Inv X pins σ H s) {A' : Around} {cm : Bool} {pn : List (Addr × Obj)} {xe : Value → Shared → Prop} (hf : A'.frames = X.A.frames) (hh : cm = true → A'.handled = none)
    (hp : ∀ p ∈ pn ++ pins', p ∈ X.pn ++ pins) : Inv { X with A := A', calm := cm, pn := pn, xe := xe } pins' σ H s :=
  ⟨I.ok.cx hf hh, I.os, I.bare, I.base, I.loc, I.cell, I.free, I.freeC, fun p q => I.pin p (hp p q), I.hok, I.len⟩
/-- the context of a try's body: R: what is wanted of an exception of the class -/
abbrev pnCx (X : Cx) (pn : List (Addr × Obj)) : Cx := { X with pn := X.pn ++ pn }
abbrev tryCx (X : Cx) (pn : List (Addr × Obj)) (R : Value → St → Hp → Prop) : Cx :=
  { X with pn := X.pn ++ pn, xe := fun e s' => ∃ (pins' : List (Addr × Obj)) (σ : St) (H : Hp) (s : Shared) (H' : Hp) (x : Addr) (cls : Value), Inv (pnCx X pn) pins' σ H s ∧ e = .ref x ∧ Fly X.prog X.w X.stack H s x cls H' s' ∧ R cls σ H' }
/-- the context of a handler's suite, which raises nothing -/
abbrev suiteCx (X : Cx) (x : Addr) : Cx := { X with A := X.A.mark (some (.ref x)), calm := false, xe := fun _ _ => False }
section
variable {X : Cx} {k : Nat} {f C : Addr} {fd : FuncData} {ps : List Str} {sp : Sp} {dvs : List V} {ds : List Value} {x : Str} {p pos : Pos} {e : Expr} {es : List Expr} {t : TA} {pn : List (Addr × Obj)} {R : Value → St → Hp → Prop}
/-- f(..) in a try's body -/
def tCallX (sp : Sp) (dvs : List V) (R : Value → St → Hp → Prop) (t : TA) : TE := fun σ H Q => t σ H fun vs H1 => sp (vs ++ dvs) H1 Q fun cls _ H' => R cls σ H'
theorem run_fnX {pins : List (Addr × Obj)} {σ : St} {H : Hp} {s : Shared} {Q : VK} {us : List Value} {vs : List V} (F : FnOk X.prog X.w X.K X.mg X.base (CXE X.prog X.w) k f fd ps sp) (hr : Room k X.A) (hb : Binds X.K fd ps ds) (hd : Vals dvs ds)
    (I : Inv (tryCx X pn R) pins σ H s) (r : Vals vs us) (h : sp (vs ++ dvs) H Q fun cls _ H' => R cls σ H') : wpAny (model X.prog X.w) X.A (call (.ref f) us) (EP (tryCx X pn R) pins σ Q) (tryCx X pn R).xe s := by
  have r2 : Vals (vs ++ dvs) (us ++ ds) := r.append hd
  have hl : (us ++ ds).length = ps.length := by rw [← r2.length]; exact F.len _ _ _ _ h
  refine wpAny_call (codeAny_mono (F.run X.A X.stack s H ⟨us, []⟩ (us ++ ds) (vs ++ dvs) Q _ hr I.env0 (hb s us I.kIn hl) r2 h) fun r s' hq => ?_)
  cases r with
  | error e =>
    obtain ⟨x, cls, H', ee, F', hE⟩ := hq
    exact ⟨pins, σ, H, s, H', x, cls, I.cx rfl I.ok.hd fun _ q => q, ee, F', hE⟩
  | ok fl =>
    cases fl with
    | ret u => exact I.after hq
    | next => exact False.elim hq
    | brk => exact False.elim hq
    | cont => exact False.elim hq
theorem pe_callX (F : FnOk X.prog X.w X.K X.mg X.base (CXE X.prog X.w) k f fd ps sp) (hr : Room k X.A) (hg : Gl X x) (hm : X.mg x = some (.ref f)) (hk : PySem.W.keepIn X.K (.ref f) = true) (hb : Binds X.K fd ps ds) (hd : Vals dvs ds)
    (ha : PA (tryCx X pn R) (e :: es) t) (hdb : (x == ("__debug__" : Str)) = false := by decide) (he : starEach (e :: es) X.env = (false, eval e X.env) :: starEach es X.env := by rfl) (hpl : (backTo pos (starEach es X.env)).any (·.1) = false := by rfl) :
    PE (tryCx X pn R) (.Call (.Name x p) (e :: es) [] pos) (tCallX sp dvs R t) := by
  intro pins s σ H Q I h
  refine wpAny_Call_Name_kw (ld_glob I hg hm ?_ hdb)
  refine PySem.W.callWith_K (h₀ := X.base) I.ok.mod.kin hk (thn (ha pos pins s σ H _ I h) fun us s1 ⟨vs, H1, I1, r, q⟩ => ⟨I1.kIn, ?_⟩) he hpl
  exact run_fnX F hr hb hd I1 r q
end
theorem ObjOk.has {P : Program} {w : World} {H : Hp} {h : Heap} {a : Addr} {o : HO} (x : ObjOk P w H h a o) : ∃ u, h.get? a = some u := by
  cases o with
  | lst xs => obtain ⟨_, _, _, _, e⟩ := x; exact ⟨_, e⟩
  | tup xs => obtain ⟨_, _, _, o, e, _⟩ := x; exact ⟨_, e⟩
  | dK kvs => obtain ⟨_, _, _, _, o, _, _, e, _⟩ := x; exact ⟨_, e⟩
  | dT kvs => obtain ⟨_, _, _, _, o, _, _, e, _⟩ := x; exact ⟨_, e⟩
  | set S n => obtain ⟨o, _, _, _, e, _⟩ := x; exact ⟨_, e⟩
  | ins C dx fs => obtain ⟨_, _, _, e, _⟩ := x; exact ⟨_, e⟩
  | own y => obtain ⟨_, e⟩ := x; exact ⟨_, e⟩
  | xd fs => obtain ⟨_, ⟨_, _, _, e, _⟩, _⟩ := x; exact ⟨_, e⟩
  | rng lo hi => obtain ⟨_, _, _, e⟩ := x; exact ⟨_, e⟩
  | frz ob u => obtain ⟨e, _⟩ := x; exact ⟨_, e⟩
  | tbl ps => exact ⟨_, (show h.get? a = some _ from x)⟩
  | met f y => exact ⟨_, (show h.get? a = some _ from x)⟩
  | ext φ => obtain ⟨_, ⟨_, e⟩, _⟩ := x; exact ⟨_, e⟩
/-- an exception is in the handlers' hands -/
structure Lit (X : Cx) (pins : List (Addr × Obj)) (σ : St) (H : Hp) (x : Addr) (cls : Value) (B : Heap) (a0 : Value) (s : Shared) : Prop where
  fl : Heap.FlyingW B X.stack x cls a0 s.heap
  land : ∀ h', s.heap.UpToSlots h' → B.StaysIn h' → Inv X pins σ H { s with heap := h' }
  fr : H x = none
def PH (X : Cx) (hs : List ExceptHandler) (th : Value → TS) : Prop :=
  ∀ (pins : List (Addr × Obj)) (s : Shared) (σ : St) (H : Hp) (D : Ends) (x : Addr) (cls : Value) (B : Heap) (a0 : Value), Lit X pins σ H x cls B a0 s → th cls D σ H → wpAny (model X.prog X.w) X.A (handleBy (.ref x) X.env hs) (SP X pins D) X.xe s
def tH0 : Value → TS := fun _ _ _ _ => False
theorem ph_nil {X : Cx} : PH X [] tH0 := fun _ _ _ _ _ _ _ _ _ _ h => False.elim h
theorem SP.cx {X X' : Cx} {pins pins' : List (Addr × Obj)} {D : Ends} {f : Flow} {s : Shared} (h : SP X pins D f s) (hI : ∀ σ H, Inv X pins σ H s → Inv X' pins' σ H s) : SP X' pins' D f s := by
  cases f with
  | next => obtain ⟨σ, H, I, q⟩ := h; exact ⟨σ, H, hI _ _ I, q⟩
  | brk => obtain ⟨σ, H, I, q⟩ := h; exact ⟨σ, H, hI _ _ I, q⟩
  | cont => obtain ⟨σ, H, I, q⟩ := h; exact ⟨σ, H, hI _ _ I, q⟩
  | ret u => obtain ⟨v, σ, H, I, r, q⟩ := h; exact ⟨v, σ, H, hI _ _ I, r, q⟩
/-- try .. except -/
def tTry (tb : (Value → St → Hp → Prop) → TS) (th : Value → TS) : TS := fun D σ H => tb (fun cls σ' H' => th cls D σ' H') D σ H
theorem ps_try {X : Cx} {body : List Stmt} {h₀ : ExceptHandler} {hs : List ExceptHandler} {pos : Pos} {tb : (Value → St → Hp → Prop) → TS} {th : Value → TS} (hb : ∀ pn R, PSs (tryCx X pn R) body (tb R)) (hh : PH X (h₀ :: hs) th)
    (hst : X.stack = X.env :: X.outer := by rfl) (hfr : X.env.frame = some X.env.locals := by rfl) (hex : X.ex = [] := by rfl) (hfn : ∀ y, X.fn y = true := by intro y; rfl) : PS X (.Try body (h₀ :: hs) [] [] pos) (tTry tb th) := by
  intro pins s σ H D I h
  refine wpAny_Try_except (wpAny_mono (hb pins _ [] s σ H D (I.cx rfl I.ok.hd fun p q => by rw [List.append_nil] at q; exact q) h) (fun fw s1 q => ?_) fun e s1 q => ?_)
  · have q' : SP X pins D fw s1 := SP.cx q fun σ' H' J => J.cx (X := tryCx X pins _) (A' := X.A) rfl I.ok.hd fun p z => by rw [List.append_nil]; exact z
    cases fw with
    | next => exact wpAny_execs_nil q'
    | brk => exact q'
    | cont => exact q'
    | ret u => exact q'
  · obtain ⟨pins', σ', H1, s0, H', x, cls, I', rfl, F, hR⟩ := q
    obtain ⟨B, a0, fl, hok, kp, tr⟩ := F.ex
    refine wpAny_looks_onW (base := B) (outer := X.outer) (L := X.env.locals) (cls := cls) (a0 := a0) (by rw [I.ok.frames, hst]) hfr (by rw [← hst]; exact fl) fun h1 held sm1 => ?_
    refine wpAny_landsW held fun h2 fl2 sm2 => ?_
    have hfr' : H' x = none := by
      cases e : H' x with
      | none => rfl
      | some o =>
        obtain ⟨u, hu⟩ := ObjOk.has (hok x o e)
        rw [fl.2.1] at hu
        cases hu
    refine hh pins _ σ' H' D x cls B a0 ⟨by rw [hst]; exact fl2, fun h3 sm3 st3 => ?_, hfr'⟩ hR
    have J : Inv (pnCx X pins) [] σ' H' { s1 with heap := h3 } := Inv.land (X := pnCx X pins) I' (fun p z => nomatch z) hex hfn ⟨hst, hfr⟩ F fl hok kp tr ((sm1.trans sm2).trans sm3) st3
    exact J.cx rfl I.ok.hd fun p z => by rw [List.append_nil]; exact z
end L2
namespace L2
open PySem PySem.Spec PyProof.Rows
/-! ### callees in one piece -/
/-- the def under this name keeps this promise -/
def Cal (P : Program) (w : World) (K : PySem.W.Frag) (mg : Str → Option Value) (base : Heap) (x : Str) (k : Nat) (ps : List Str) (sp : Sp) : Prop :=
  ∃ f fd, FnOk P w K mg base CX0 k f fd ps sp ∧ Binds K fd ps [] ∧ PySem.W.keepIn K (.ref f) = true ∧ mg x = some (.ref f)
section
variable {X : Cx} {k : Nat} {C : Addr} {ps : List Str} {sp : Sp} {x m : Str} {p pos apos : Pos} {e o : Expr} {es : List Expr} {ta : TE} {t : TA}
theorem pe_callC (c : Cal X.prog X.w X.K X.mg X.base x k ps sp) (hr : Room k X.A) (hg : Gl X x) (ha : PA X (e :: es) t) (hdb : (x == ("__debug__" : Str)) = false := by decide) (he : starEach (e :: es) X.env = (false, eval e X.env) :: starEach es X.env := by rfl) (hpl : (backTo pos (starEach es X.env)).any (·.1) = false := by rfl) :
    PE X (.Call (.Name x p) (e :: es) [] pos) (tCall sp [] E0 t) := by
  obtain ⟨f, fd, F, b, kp, mg⟩ := c
  exact pe_call F hr hg mg kp b .nil pass0 ha hdb he hpl
theorem kit_of {K : PySem.W.Frag} {T C : Addr} {b : Bool} (hc : PySem.W.isClsIn K C = true) (ht : PySem.W.typeIn K (.ref C) = some (.type "type")) (hs : PySem.W.mroIn K C (.ref C) = some true) (hm : PySem.W.mroIn K T (.ref C) = some b) :
    PySem.W.kitOne K (.ref T) (.ref C) = some b := by
  unfold PySem.W.kitOne
  split
  · rename_i h
    have e : Value.ref T = Value.ref C := beq_iff_eq.mp h
    injection e with e
    subst e
    rw [hs] at hm
    exact hm
  · unfold PySem.W.kitCls
    have hc' : (PySem.W.clsIn K C).isSome = true := hc
    simp only [hc', ht, beq_self_eq_true, Bool.and_self, if_true]
    exact hm
end
end L2
/-! MY OWN ADDITIONS, 5: texts split and stripped, a text's number -/
namespace L2
open PySem PySem.Spec PyProof.Rows
section
variable {X : Cx}
/-- text.strip(signs) -/
def rStrip : V → List V → Hp → VK → Prop := fun x vs H Q => ∃ z y, x = .str z ∧ vs = [.str y] ∧ z.length ≤ sizeLine ∧ Q (.str (Txt.stripChars z y)) H
theorem mt_strip : MtR X "str.strip" rStrip := by
  intro pins s σ H x vs v us Q I rx rv h
  obtain ⟨z, y, rfl, rfl, h1, q⟩ := h
  obtain ⟨t, rfl⟩ := rx
  obtain ⟨u, rfl, t', rfl⟩ := vals1 rv
  exact SC.stripChars (fun t2 k => ⟨.str _, H, I.tok _, ⟨t2, rfl⟩, q⟩) h1
end
end L2
/-! MY OWN ADDITIONS, 6: tuple.index -/
namespace L2
open PySem PySem.Spec PyProof.Rows
end L2
/-! MY OWN ADDITIONS, 7: comprehensions that only pick and change values -/
namespace L2
open PySem PySem.Spec PyProof.Rows
end L2
/-! MY OWN ADDITIONS, 8: a tuple's slice, also the whole one -/
namespace HT
open PySem PySem.Spec PyProof.Rows
section
variable {prog : Program} {w : World} {A : Around} {E : Value → Shared → Prop} {s : Shared}
end
end HT
namespace L2
open PySem PySem.Spec PyProof.Rows
section
variable {X : Cx}
end
end L2
/-! MY OWN ADDITIONS, 9: list.extend(tuple) -/
namespace L2
open PySem PySem.Spec PyProof.Rows
section
variable {X : Cx}
end
end L2
/-! MY OWN ADDITIONS, 10: rules that name the fragment themselves, for a comprehension's elements -/
namespace L2
open PySem PySem.Spec PyProof.Rows
section
variable {X : Cx} {K : PySem.W.Frag} {o e : Expr} {f : Str} {pos : Pos} {ta : TE}
end
end L2
namespace L2
open PySem PySem.Spec PyProof.Rows
/-! ### lists of pairs as tables -/
section
variable {κ : Type} [DecidableEq κ]
theorem KV.length {kvs : List (κ × V)} {vs : List (κ × Value)} (r : KV kvs vs) : kvs.length = vs.length := Paired.length r
end
/-! ### a tracked dict, its keys ints and texts or tuples of these -/
/-- raw entries of a dict with tuple keys -/
abbrev KT (H : Hp) : List (List Key × V) → List (List Key × Addr × Value) → Prop := Paired fun p q => p.1 = q.1 ∧ H q.2.1 = some (.tup (p.1.map kV)) ∧ RelV p.2 q.2.2
theorem KT.keeps {H H' : Hp} {kvs : List (List Key × V)} {xs : List (List Key × Addr × Value)} (r : KT H kvs xs) (ht : ∀ b ys, H b = some (.tup ys) → H' b = some (.tup ys)) : KT H' kvs xs :=
  Paired.mapP r fun _ _ z => ⟨z.1, ht _ _ z.2.1, z.2.2⟩
section
variable {P : Program} {w : World} {H : Hp} {h : Heap} {a : Addr}
end
section
variable {X : Cx} {pins : List (Addr × Obj)} {σ : St} {H : Hp} {s : Shared} {a : Addr} {y v : V} {u r : Value} {o : Option V} {A : Around} {E : Value → Shared → Prop}
end
section
variable {X : Cx} {pins : List (Addr × Obj)} {σ : St} {H : Hp} {s : Shared} {a : Addr} {kvs : List (Key × V)} {k : Key} {u : Value} {A : Around} {E : Value → Shared → Prop}
end
/-! ### readings and rules -/
section
variable {X : Cx} {o i e value : Expr} {pos pos' tpos : Pos} {td ty tv : TE}
end
/-! ### displays -/
section
variable {X : Cx} {pos : Pos}
end
abbrev VV : List (V × V) → List (Value × Value) → Prop := Paired fun p q => RelV p.1 q.1 ∧ RelV p.2 q.2
/-! ### methods -/
/-- a method call o.m(e) of a built-in, with one argument: what must be seen of the text -/
structure M1 (X : Cx) (o : Expr) (m : Str) (apos : Pos) (e : Expr) (cpos : Pos) : Prop where
  base : attributeBase o m X.env (eval o X.env) = eval o X.env
  few : ((backTo cpos (starEach [e] X.env)).all (fun x => !x.1) && (backToKw cpos (keywordEach [] X.env)).all (fun x => x.1.isSome)
    && decide (([e] : List Expr).length + ([] : List Keyword).length + (if ([] : List Keyword).isEmpty then 0 else 1) < 30)) = true
  line : (apos.endLine == cpos.line) = true
  trees : backTo cpos (starEach [e] X.env) = [(false, eval e X.env)]
structure M2 (X : Cx) (o : Expr) (m : Str) (apos : Pos) (e f : Expr) (cpos : Pos) : Prop where
  base : attributeBase o m X.env (eval o X.env) = eval o X.env
  few : ((backTo cpos (starEach [e, f] X.env)).all (fun x => !x.1) && (backToKw cpos (keywordEach [] X.env)).all (fun x => x.1.isSome)
    && decide (([e, f] : List Expr).length + ([] : List Keyword).length + (if ([] : List Keyword).isEmpty then 0 else 1) < 30)) = true
  line : (apos.endLine == cpos.line) = true
  trees : backTo cpos (starEach [e, f] X.env) = [(false, eval e X.env), (false, eval f X.env)]
section
variable {X : Cx} {pins : List (Addr × Obj)} {σ : St} {H : Hp} {s : Shared} {a : Addr} {y d : V} {u r : Value} {o : Option V} {A : Around} {E : Value → Shared → Prop}
end
section
variable {X : Cx} {o e f : Expr} {apos cpos : Pos} {td ty tx : TE}
end
/-! ### dict(d): a copy -/
section
variable {X : Cx} {pins : List (Addr × Obj)} {σ : St} {H : Hp} {s : Shared} {a : Addr} {kvs : List (Key × V)} {A : Around} {E : Value → Shared → Prop}
end
section
variable {X : Cx} {pins : List (Addr × Obj)} {σ : St} {H : Hp} {s : Shared} {a : Addr} {y : V} {u : Value} {A : Around} {E : Value → Shared → Prop}
end
end L2
namespace L2
open PySem PySem.Spec PyProof.Rows
section
variable {X : Cx}
end
/-! ### a dict's pairs: keys that differ -/
section
variable {κ : Type} [DecidableEq κ]
end
end L2
/-! MY OWN ADDITIONS: dict(list of pairs) -/
namespace L2
open PySem PySem.Spec PyProof.Rows
end L2
namespace L2
open PySem PySem.Spec PyProof.Rows
theorem paired_at {α β : Type} {F : α → β → Prop} : ∀ {l1 : List α} {l2 : List β}, Paired F l1 l2 → ∀ i (h1 : i < l1.length) (h2 : i < l2.length), F l1[i] l2[i]
  | _, _, .cons h _, 0, _, _ => h
  | _, _, .cons _ t, i + 1, h1, h2 => paired_at t i (by simpa using h1) (by simpa using h2)
section
variable {X : Cx} {pins : List (Addr × Obj)} {σ : St} {H : Hp} {s : Shared} {a it l : Addr} {ys : List V} {its : List Value} {ps : List (Key × V)}
end
end L2
namespace L2
open PySem PySem.Spec PyProof.Rows
section
variable {X : Cx}
end
end L2
namespace K02
open PySem
/-! ### pieces of a text, as lists of codes -/
abbrev aSmall : Str := "abcdefghijklmnopqrstuvwxyz"
abbrev aGreat : Str := "ABCDEFGHIJKLMNOPQRSTUVWXYZ"
abbrev aFig : Str := "0123456789"
def isAl (c : Nat) : Bool := decide (c ∈ aSmall.cps.toList) || (decide (c ∈ aGreat.cps.toList) || decide (c ∈ aFig.cps.toList))
def isMark (c : Nat) : Bool := c == 40 || (c == 41 || c == 44)
def shut (cur : List Nat) (r : List (List Nat)) : List (List Nat) := if cur = [] then r else cur :: r
def toksF : List Nat → List Nat → List (List Nat)
  | [], cur => shut cur []
  | c :: r, cur => if isAl c = true then toksF r (cur ++ [c]) else shut cur (if c = 32 then toksF r [] else [c] :: toksF r [])
def toks (l : List Nat) : List (List Nat) := toksF l []
theorem toksF_name : ∀ (n r cur : List Nat), n.all isAl = true → toksF (n ++ r) cur = toksF r (cur ++ n)
  | [], r, cur, _ => by simp
  | c :: n, r, cur, h => by
    rw [List.all_cons, Bool.and_eq_true] at h
    rw [List.cons_append]
    show (if isAl c = true then toksF (n ++ r) (cur ++ [c]) else _) = _
    rw [if_pos h.1, toksF_name n r _ h.2, List.append_assoc]
    rfl
/-- no name goes on at its head -/
def Stops : List Nat → Prop
  | [] => True
  | c :: _ => isAl c = false
theorem toksF_stop {r cur : List Nat} (hs : Stops r) (hc : cur ≠ []) : toksF r cur = cur :: toks r := by
  cases r with
  | nil =>
    show shut cur [] = cur :: shut [] []
    unfold shut
    rw [if_neg hc, if_pos rfl]
  | cons c r =>
    have hs' : isAl c = false := hs
    show (if isAl c = true then _ else shut cur _) = cur :: (if isAl c = true then _ else shut [] _)
    rw [hs', if_neg Bool.false_ne_true, if_neg Bool.false_ne_true]
    unfold shut
    rw [if_neg hc, if_pos rfl]
theorem toks_name {n r : List Nat} (hn : n.all isAl = true) (h0 : n ≠ []) (hs : Stops r) : toks (n ++ r) = n :: toks r := by
  unfold toks
  rw [toksF_name n r [] hn, List.nil_append, toksF_stop hs h0]
  rfl
theorem al_blank : isAl 32 = false := by decide +kernel
theorem al_open : isAl 40 = false := by decide +kernel
theorem al_shut : isAl 41 = false := by decide +kernel
theorem al_comma : isAl 44 = false := by decide +kernel
theorem toks_blank (r : List Nat) : toks (32 :: r) = toks r := by
  show (if isAl 32 = true then toksF r ([] ++ [32]) else shut [] (if (32 : Nat) = 32 then toksF r [] else [32] :: toksF r [])) = toksF r []
  rw [al_blank, if_neg Bool.false_ne_true, if_pos rfl]
  rfl
theorem toks_mark {c : Nat} (hc : isMark c = true) (r : List Nat) : toks (c :: r) = [c] :: toks r := by
  have e : c = 40 ∨ c = 41 ∨ c = 44 := by
    unfold isMark at hc
    simpa using hc
  have ha : isAl c = false := by
    rcases e with e | e | e <;> rw [e]
    · exact al_open
    · exact al_shut
    · exact al_comma
  have hb : c ≠ 32 := by omega
  show (if isAl c = true then _ else shut [] (if c = 32 then toksF r [] else [c] :: toksF r [])) = _
  rw [ha, if_neg Bool.false_ne_true, if_neg hb]
  rfl
/-! ### the loop of pieces -/
/-- the length of the name at the head -/
def nameLen (l : List Nat) : Nat := (l.takeWhile isAl).length
theorem toks_step_name {l : List Nat} (h : nameLen l ≠ 0) : toks l = l.take (nameLen l) :: toks (l.drop (nameLen l)) := by
  have e : l = l.takeWhile isAl ++ l.dropWhile isAl := (List.takeWhile_append_dropWhile).symm
  have et : l.take (nameLen l) = l.takeWhile isAl := by
    unfold nameLen
    conv => lhs; arg 2; rw [e]
    rw [List.take_left']
    rfl
  have ed : l.drop (nameLen l) = l.dropWhile isAl := by
    unfold nameLen
    conv => lhs; arg 2; rw [e]
    rw [List.drop_left']
    rfl
  rw [et, ed]
  conv => lhs; rw [e]
  refine toks_name ?_ ?_ ?_
  · exact List.all_takeWhile
  · intro z
    unfold nameLen at h
    rw [z] at h
    exact h rfl
  · cases q : l.dropWhile isAl with
    | nil => trivial
    | cons c r =>
      have z := List.head_dropWhile_not (p := isAl) (l := l) (by rw [q]; simp)
      simp only [q, List.head_cons] at z
      exact z
theorem nameLen_zero {c : Nat} {r : List Nat} (h : nameLen (c :: r) = 0) : isAl c = false := by
  unfold nameLen at h
  rw [List.takeWhile_cons] at h
  cases q : isAl c with
  | false => rfl
  | true => rw [q] at h; simp at h
/-! ### arguments -/
def nameC (p : List Nat) : Bool := decide (1 ≤ p.length) && (decide (p.length ≤ 12) && p.all isAl)
def argsL : List (List Nat) → Option (List (List Nat) × Nat)
  | n :: m :: r => if nameC n = true then (if m = [41] then some ([n], 2) else if m = [44] then (argsL r).map fun q => (n :: q.1, q.2 + 2) else none) else none
  | _ => none
def between : List (List Nat) → List (List Nat)
  | [] => []
  | [a] => [a, [41]]
  | a :: r => a :: [44] :: between r
theorem argsL_between : ∀ (as : List (List Nat)), as ≠ [] → (∀ a ∈ as, nameC a = true) → argsL (between as) = some (as, (between as).length)
  | [], h, _ => absurd rfl h
  | [a], _, hn => by
    show (if nameC a = true then (if ([41] : List Nat) = [41] then some ([a], 2) else _) else none) = _
    rw [if_pos (hn a (by simp)), if_pos rfl]
    rfl
  | a :: b :: r, _, hn => by
    have ih := argsL_between (b :: r) (by simp) fun x hx => hn x (List.mem_cons_of_mem _ hx)
    show (if nameC a = true then (if ([44] : List Nat) = [41] then _ else if ([44] : List Nat) = [44] then (argsL (between (b :: r))).map (fun q => (a :: q.1, q.2 + 2)) else none) else none) = _
    rw [if_pos (hn a (by simp)), if_neg (by decide), if_pos rfl, ih]
    rfl
end K02
/-! ### books: what a text tells, how it lies in the memory -/
namespace Bk
open PySem L2 K02
abbrev Cs := List Nat
/-- a text by its codes -/
abbrev S (p : Cs) : Str := ⟨p.toArray⟩
abbrev tx (p : Cs) : V := .str (S p)
theorem S_codes (p : Cs) : (S p).cps.toList = p := by simp
theorem S_of (x : Str) : S x.cps.toList = x := by cases x; simp
theorem S_len (p : Cs) : (S p).length = p.length := by simp [Str.length]
theorem len_is (x : Str) : x.cps.toList.length = x.length := by simp [Str.length]
theorem S_inj {a b : Cs} (h : S a = S b) : a = b := by
  have e := congrArg (fun s : Str => s.cps.toList) h
  simpa using e
theorem tx_inj {a b : Cs} (h : tx a = tx b) : a = b := by
  have z : S a = S b := by injection h
  exact S_inj z
/-- one fact, one kind, one look, one rule -/
structure Fc where
  k : Cs
  as : List Cs
structure Kd where
  n : Cs
  c : Nat
  l : Bool
structure Lk where
  same : Bool
  l : Cs
  r : Cs
structure Rl where
  title : Cs
  take : List Fc
  keep : List Fc
  looks : List Lk
  put : List Fc
  tell : List (Cs × Cs)
/-- nothing that came since H0 is lost, and tuples stay -/
structure Kp (H0 H H' : Hp) : Prop where
  new : ∀ b o, H0 b = none → H b = some o → H' b = some o
  tup : ∀ b xs, H b = some (.tup xs) → H' b = some (.tup xs)
  frz : ∀ b o u, H b = some (.frz o u) → H' b = some (.frz o u)
  dom : ∀ b, H' b = none → H b = none
theorem Kp.trans {H0 H H1 H2 : Hp} (a : Kp H0 H H1) (b : Kp H0 H1 H2) : Kp H0 H H2 :=
  ⟨fun c o n h => b.new c o n (a.new c o n h), fun c xs h => b.tup c xs (a.tup c xs h), fun c o u h => b.frz c o u (a.frz c o u h), fun c h => a.dom c (b.dom c h)⟩
theorem Kp.same {H0 H H' : Hp} (s : Same H H') : Kp H0 H H' := ⟨fun b o _ h => s b o h, fun b xs h => s b _ h, fun b o u h => s b _ h, fun b h => by
  cases e : H b with
  | none => rfl
  | some o => rw [s b o e] at h; cases h⟩
/-- a thing that stood at H0 and is no tuple is written -/
theorem Kp.upd {H0 H : Hp} {l : Addr} {o o' u0 : HO} (h0 : H0 l = some u0) (h : H l = some o) (nt : ∀ xs, o ≠ .tup xs) (nf : ∀ ob u, o ≠ .frz ob u) : Kp H0 H (upd H l o') := by
  refine ⟨fun b u n e => ?_, fun b xs e => ?_, fun b ob u e => ?_, fun b e => ?_⟩
  · rw [upd_ne (fun z => by rw [z, h0] at n; cases n)]; exact e
  · rw [upd_ne (fun z => by rw [z, h] at e; exact nt xs (Option.some.inj e))]; exact e
  · rw [upd_ne (fun z => by rw [z, h] at e; exact nf ob u (Option.some.inj e))]; exact e
  · by_cases z : b = l
    · rw [z, upd_same] at e; cases e
    · rw [upd_ne z] at e; exact e
theorem SqT.keep {K : PySem.W.Frag} {H0 H H' : Hp} (k : Kp H0 H H') {a : Addr} {xs : List V} (h : SqT K H a xs) : SqT K H' a xs := by
  rcases h with (h | ⟨o, h⟩) | h
  · exact .inl (.inl (k.tup _ _ h))
  · exact .inl (.inr ⟨o, k.frz _ _ _ h⟩)
  · exact .inr h
/-- a fact, a kind, a pair in the memory -/
def Fact (K : PySem.W.Frag) (H : Hp) (f : Fc) (v : V) : Prop := ∃ t t2, v = .ref t ∧ SqT K H t [tx f.k, .ref t2] ∧ SqT K H t2 (f.as.map tx)
def Kind (K : PySem.W.Frag) (H : Hp) (k : Kd) (v : V) : Prop := ∃ t, v = .ref t ∧ SqT K H t [tx k.n, .int k.c, .bl k.l]
def Pair (K : PySem.W.Frag) (H : Hp) (p : Cs × Cs) (v : V) : Prop := ∃ t, v = .ref t ∧ SqT K H t [tx p.1, tx p.2]
theorem Fact.keep {K : PySem.W.Frag} {H0 H H' : Hp} {f : Fc} {v : V} (k : Kp H0 H H') (h : Fact K H f v) : Fact K H' f v := by
  obtain ⟨t, t2, e, h1, h2⟩ := h
  exact ⟨t, t2, e, SqT.keep k h1, SqT.keep k h2⟩
/-- a list, made since H0, of such things -/
def Lst (α : Type) (R : Hp → α → V → Prop) (H0 H : Hp) (v : V) (xs : List α) : Prop := ∃ l vs, v = .ref l ∧ H0 l = none ∧ H l = some (.lst vs) ∧ Paired (R H) xs vs
/-- an instance, made since H0, of the class at C -/
def Ins (C : Addr) (H0 H : Hp) (v : V) (F : List (Str × V) → Prop) : Prop := ∃ a dx fs, v = .ref a ∧ H0 a = none ∧ H a = some (.ins C dx fs) ∧ F fs
/-- the three classes of a text -/
structure Cl where
  same : Addr
  unlike : Addr
  rule : Addr
  book : Addr
def Cl.look (c : Cl) (b : Bool) : Addr := if b = true then c.same else c.unlike
def LookO (c : Cl) (H0 H : Hp) (k : Lk) (v : V) : Prop := Ins (c.look k.same) H0 H v fun fs => fs.lookup ("left" : Str) = some (tx k.l) ∧ fs.lookup ("right" : Str) = some (tx k.r) ∧ fs.lookup ("holds" : Str) = none ∧ fs.lookup ("word" : Str) = none
def great (x : Cs) : Bool := decide (x.headD 0 ∈ aGreat.cps.toList)
/-- each once, in the order in which they first stand there -/
def once : List Cs → List Cs → List Cs
  | [], acc => acc
  | x :: r, acc => once r (if x ∈ acc then acc else acc ++ [x])
def opens (fs : List Fc) : List Cs := once ((fs.flatMap (·.as)).filter great) []
def Facts (K : PySem.W.Frag) := Lst Fc (Fact K)
def Pairs (K : PySem.W.Frag) := Lst (Cs × Cs) (Pair K)
def Kinds (K : PySem.W.Frag) := Lst Kd (Kind K)
def Texts (H0 H : Hp) (v : V) (xs : List Cs) : Prop := ∃ l, v = .ref l ∧ H0 l = none ∧ H l = some (.lst (xs.map tx))
def Looks (c : Cl) (H0 H : Hp) (v : V) (xs : List Lk) : Prop := ∃ l vs, v = .ref l ∧ H0 l = none ∧ H l = some (.lst vs) ∧ Paired (LookO c H0 H) xs vs
structure RuleF (K : PySem.W.Frag) (c : Cl) (H0 H : Hp) (r : Rl) (fs : List (Str × V)) : Prop where
  title : fs.lookup ("title" : Str) = some (tx r.title)
  taken : ∃ v, fs.lookup ("taken" : Str) = some v ∧ Facts K H0 H v r.take
  kept : ∃ v, fs.lookup ("kept" : Str) = some v ∧ Facts K H0 H v r.keep
  looks : ∃ v, fs.lookup ("looks" : Str) = some v ∧ Looks c H0 H v r.looks
  given : ∃ v, fs.lookup ("given" : Str) = some v ∧ Facts K H0 H v r.put
  told : ∃ v, fs.lookup ("told" : Str) = some v ∧ Pairs K H0 H v r.tell
  names : ∃ v, fs.lookup ("names" : Str) = some v ∧ Texts H0 H v (opens (r.take ++ r.keep))
  calls : fs.lookup ("calls" : Str) = none
def RuleO (K : PySem.W.Frag) (c : Cl) (H0 H : Hp) (r : Rl) (v : V) : Prop := Ins c.rule H0 H v (RuleF K c H0 H r)
/-- a list of rules -/
def Rules (K : PySem.W.Frag) (c : Cl) (H0 H : Hp) (v : V) (xs : List Rl) : Prop := ∃ l vs, v = .ref l ∧ H0 l = none ∧ H l = some (.lst vs) ∧ Paired (RuleO K c H0 H) xs vs
/-- a book -/
structure BookF (K : PySem.W.Frag) (c : Cl) (H0 H : Hp) (ks : List Kd) (rs : List Rl) (fs : List (Str × V)) : Prop where
  kinds : ∃ v, fs.lookup ("kinds" : Str) = some v ∧ Kinds K H0 H v ks
  rules : ∃ v, fs.lookup ("rules" : Str) = some v ∧ Rules K c H0 H v rs
/-! ### the pieces that write them -/
def smallC (p : Cs) : Bool := nameC p && decide (p.headD 0 ∈ aSmall.cps.toList)
inductive FactP : List Cs → Fc → Prop
  | bare {k : Cs} (hk : smallC k = true) : FactP [k] ⟨k, []⟩
  | empty {k : Cs} (hk : smallC k = true) : FactP [k, [40], [41]] ⟨k, []⟩
  | args {k : Cs} {as : List Cs} (hk : smallC k = true) (h0 : as ≠ []) (h : ∀ a ∈ as, nameC a = true) : FactP (k :: [40] :: between as) ⟨k, as⟩
inductive RowP : List Cs → List Fc → Prop
  | one {ps : List Cs} {f : Fc} (h : FactP ps f) : RowP ps [f]
  | more {ps r : List Cs} {f : Fc} {fs : List Fc} (h : FactP ps f) (t : RowP r fs) : RowP (ps ++ [44] :: r) (f :: fs)
def glue (m : Cs) : List (List Cs) → List Cs
  | [] => []
  | [q] => q
  | q :: r => q ++ m :: glue m r
end Bk
namespace Bk
open PySem L2 K02
/-! ### promises of the readers, for texts that are in order -/
def nameB (x : Str) : Bool := decide ((1 : Int) ≤ x.length) && (decide ((x.length : Int) ≤ 12) && x.cps.toList.all isAl)
theorem nameB_S (p : List Nat) : nameB (S p) = nameC p := by
  unfold nameB nameC
  rw [S_len, S_codes]
  have e1 : decide ((1 : Int) ≤ (p.length : Int)) = decide (1 ≤ p.length) := by
    rw [decide_eq_decide]; omega
  have e2 : decide ((p.length : Int) ≤ 12) = decide (p.length ≤ 12) := by
    rw [decide_eq_decide]; omega
  rw [e1, e2]
theorem head_at {x : Str} (h : 1 ≤ x.length) : atI x.cps.toList (0 : Int) = some (x.cps.toList.headD 0) := by
  have e := len_is x
  cases q : x.cps.toList with
  | nil => rw [q] at e; simp at e; omega
  | cons a r => exact atI_nat (j := 0) rfl
theorem name_pos {x : Str} (h : nameB x = true) : 1 ≤ x.length := by
  unfold nameB at h
  simp only [Bool.and_eq_true, decide_eq_true_eq] at h
  omega
theorem sz {n : Nat} (h : n ≤ 100000) : n ≤ sizeLine := by rw [sizeLine_eq]; omega
theorem szl {n : Nat} (h : n ≤ 100000) : n < sizeLine := by rw [sizeLine_eq]; omega
theorem same_new {H : Hp} {p : Addr} (h : H p = none) (o : HO) : Same H (upd H p o) := fun b u q => by rw [upd_ne (ne_of_none q h)]; exact q
theorem Same.upd_new {H H' : Hp} {p : Addr} (e : Same H H') (h : H p = none) (o : HO) : Same H (upd H' p o) := fun b u q => by
  rw [upd_ne (ne_of_none q h)]
  exact e b u q
theorem mid {a b : Int} (h : 0 < b) : 0 ≤ a % b ∧ a % b < b := ⟨Int.emod_nonneg a (by omega), Int.emod_lt_of_pos a h⟩
theorem getD_get {l : List Nat} {i : Nat} (h : i < l.length) : l[i]? = some (l.getD i 0) := by
  rw [List.getD_eq_getElem?_getD, List.getElem?_eq_getElem h]
  rfl
theorem drop_get {l : List Nat} {i : Nat} (h : i < l.length) : l.drop i = l.getD i 0 :: l.drop (i + 1) := by
  rw [List.drop_eq_getElem_cons h, List.getD_eq_getElem?_getD, List.getElem?_eq_getElem h]
  rfl
theorem str_at {x : Str} {i : Int} (h0 : 0 ≤ i) (h1 : i < x.length) : atI x.cps.toList i = some (x.cps.toList.getD i.toNat 0) := by
  have hl := len_is x
  have hk : i.toNat < x.cps.toList.length := by omega
  have z := atI_nat (xs := x.cps.toList) (j := i.toNat) (v := x.cps.toList.getD i.toNat 0) (getD_get hk)
  rw [show ((i.toNat : Nat) : Int) = i by omega] at z
  exact z
def smallB (x : Str) : Bool := nameB x && decide (x.cps.toList.headD 0 ∈ aSmall.cps.toList)
theorem smallB_S (p : List Nat) : smallB (S p) = smallC p := by
  unfold smallB smallC
  rw [nameB_S, S_codes]
def spSign : Sp := fun vs H Q _ => ∃ c, vs = [.str ⟨#[c]⟩] ∧ Q (.bl (isAl c)) H
def spBl (f : Str → Bool) : Sp := fun vs H Q _ => ∃ x, vs = [.str x] ∧ x.length ≤ 20000 ∧ ∀ H', Same H H' → Q (.bl (f x)) H'
def spEnd : Sp := fun vs H Q _ => ∃ (x : Str) (p : Nat), vs = [.str x, .int p] ∧ x.length ≤ 20000 ∧ p ≤ x.length ∧ Q (.int ((p + nameLen (x.cps.toList.drop p) : Nat) : Int)) H
def okS (m : Str) (c : Nat) : Bool := isAl c || (decide (c ∈ m.cps.toList) || c == 32)
def spPiece : Sp := fun vs H Q _ => ∃ (l : Addr) (ps : List Cs) (p : Nat), vs = [.ref l, .int p] ∧ H l = some (.lst (ps.map tx)) ∧ ps.length ≤ 20000 ∧ Q (tx (ps.getD p [])) H
/-- the fact at the head of pieces: kind, arguments, how many pieces -/
inductive FactAt : List Cs → Cs → List Cs → Nat → Prop
  | bare {k : Cs} {r : List Cs} (hk : smallC k = true) (h : r.getD 0 [] ≠ [40]) : FactAt (k :: r) k [] 1
  | empty {k : Cs} {r : List Cs} (hk : smallC k = true) : FactAt (k :: [40] :: [41] :: r) k [] 3
  | args {k : Cs} {r as : List Cs} {n : Nat} (hk : smallC k = true) (h0 : r.getD 0 [] ≠ [41]) (h : argsL r = some (as, n)) : FactAt (k :: [40] :: r) k as (n + 2)
theorem nameLen_le (l : List Nat) : nameLen l ≤ l.length := by
  unfold nameLen
  exact (List.takeWhile_sublist isAl).length_le
theorem nameLen_cons (c : Nat) (r : List Nat) : nameLen (c :: r) = if isAl c = true then nameLen r + 1 else 0 := by
  unfold nameLen
  rw [List.takeWhile_cons]
  split <;> simp
theorem toksF_len : ∀ (l cur : List Nat), (toksF l cur).length ≤ l.length + (if cur = [] then 0 else 1)
  | [], cur => by
    show (shut cur []).length ≤ _
    unfold shut
    by_cases h : cur = [] <;> simp [h]
  | c :: r, cur => by
    show (if isAl c = true then toksF r (cur ++ [c]) else shut cur (if c = 32 then toksF r [] else [c] :: toksF r [])).length ≤ _
    have e1 := toksF_len r (cur ++ [c])
    have e2 := toksF_len r []
    rw [if_neg (by simp)] at e1
    rw [if_pos rfl] at e2
    by_cases ha : isAl c = true
    · rw [if_pos ha, List.length_cons]
      omega
    · rw [if_neg ha, List.length_cons]
      unfold shut
      by_cases h : cur = [] <;> by_cases h2 : c = 32 <;> simp [h, h2] <;> omega
theorem toks_len (l : List Nat) : (toks l).length ≤ l.length := by
  have e := toksF_len l []
  rw [if_pos rfl] at e
  exact e
/-- a sign that is neither a name's nor a blank is a piece -/
theorem toks_other {c : Nat} (ha : isAl c = false) (hb : c ≠ 32) (r : List Nat) : toks (c :: r) = [c] :: toks r := by
  show (if isAl c = true then toksF r ([] ++ [c]) else shut [] (if c = 32 then toksF r [] else [c] :: toksF r [])) = _
  rw [ha, if_neg (by simp), if_neg hb]
  rfl
theorem slice_S {x : Str} {p n : Nat} (h : p + n ≤ x.length) : Txt.slice x (some (p : Int)) (some ((p + n : Nat) : Int)) = S ((x.cps.toList.drop p).take n) := by
  have e := slice_mid (z := x) (i := p) (j := ((p + n : Nat) : Int)) (by omega) (by omega) (by omega)
  rw [← S_of (Txt.slice x (some (p : Int)) (some ((p + n : Nat) : Int))), e, show ((p : Int)).toNat = p by omega, show (((p + n : Nat) : Int) - (p : Int)).toNat = n by omega]
theorem getD_drop {l : List Cs} {p i : Nat} : (l.drop p).getD i [] = l.getD (p + i) [] := by
  rw [List.getD_eq_getElem?_getD, List.getD_eq_getElem?_getD, List.getElem?_drop]
theorem argsL_inv {l as : List Cs} {n : Nat} (h : argsL l = some (as, n)) : ∃ nm mk r, l = nm :: mk :: r ∧ nameC nm = true ∧ ((mk = [41] ∧ as = [nm] ∧ n = 2) ∨ (mk = [44] ∧ ∃ as' n', argsL r = some (as', n') ∧ as = nm :: as' ∧ n = n' + 2)) := by
  match l, h with
  | nm :: mk :: r, h =>
    refine ⟨nm, mk, r, rfl, ?_⟩
    have h' : (if nameC nm = true then (if mk = [41] then some ([nm], 2) else if mk = [44] then (argsL r).map (fun q => (nm :: q.1, q.2 + 2)) else none) else none) = some (as, n) := h
    by_cases hn : nameC nm = true
    · rw [if_pos hn] at h'
      refine ⟨hn, ?_⟩
      by_cases h1 : mk = [41]
      · rw [if_pos h1] at h'
        injection h' with h'
        injection h' with a b
        exact .inl ⟨h1, a.symm, b.symm⟩
      · rw [if_neg h1] at h'
        by_cases h2 : mk = [44]
        · rw [if_pos h2] at h'
          cases q : argsL r with
          | none => rw [q] at h'; cases h'
          | some z =>
            rw [q] at h'
            injection h' with h'
            injection h' with a b
            exact .inr ⟨h2, z.1, z.2, rfl, a.symm, b.symm⟩
        · rw [if_neg h2] at h'
          cases h'
    · rw [if_neg hn] at h'
      cases h'
  | [_], h => exact nomatch h
  | [], h => exact nomatch h
theorem tx_ne {a b : Cs} (h : a ≠ b) : decide (tx a = tx b) = false := decide_eq_false fun z => h (tx_inj z)
theorem nameC_len {p : Cs} (h : nameC p = true) : 1 ≤ p.length ∧ p.length ≤ 12 := by
  unfold nameC at h
  simp only [Bool.and_eq_true, decide_eq_true_eq] at h
  exact ⟨h.1, h.2.1⟩
theorem smallC_len {p : Cs} (h : smallC p = true) : 1 ≤ p.length ∧ p.length ≤ 12 := by
  unfold smallC at h
  simp only [Bool.and_eq_true] at h
  exact nameC_len h.1
/-- what stands behind a fact is no bracket -/
theorem FactP.at {ps : List Cs} {f : Fc} (h : FactP ps f) {r : List Cs} (hr : r.getD 0 [] ≠ [40]) : FactAt (ps ++ r) f.k f.as ps.length := by
  cases h with
  | bare hk => exact .bare hk hr
  | empty hk => exact .empty hk
  | @args k as hk h0 h =>
    have e := argsL_between as h0 h
    have e2 : ∀ (as : List Cs) (r : List Cs), as ≠ [] → (∀ a ∈ as, nameC a = true) → argsL (between as ++ r) = some (as, (between as).length) := by
      intro as
      induction as with
      | nil => intro r z; exact absurd rfl z
      | cons a t ih =>
        intro r _ ha
        cases t with
        | nil =>
          show argsL (a :: [41] :: r) = some ([a], 2)
          show (if nameC a = true then (if ([41] : Cs) = [41] then some ([a], 2) else _) else none) = _
          rw [if_pos (ha a (by simp)), if_pos rfl]
        | cons b t =>
          have ih' := ih r (by simp) fun x hx => ha x (List.mem_cons_of_mem _ hx)
          show argsL (a :: [44] :: (between (b :: t) ++ r)) = some (a :: b :: t, (between (b :: t)).length + 2)
          show (if nameC a = true then (if ([44] : Cs) = [41] then some ([a], 2) else if ([44] : Cs) = [44] then (argsL (between (b :: t) ++ r)).map (fun q => (a :: q.1, q.2 + 2)) else none) else none) = _
          rw [if_pos (ha a (by simp)), if_neg (by decide), if_pos rfl, ih']
          rfl
    have e3 := e2 as r h0 h
    have n41 : (between as ++ r).getD 0 [] ≠ [41] := by
      cases as with
      | nil => exact absurd rfl h0
      | cons a t =>
        have ha := h a (by simp)
        have hh : (between (a :: t) ++ r).getD 0 [] = a := by cases t <;> rfl
        rw [hh]
        intro z
        rw [z] at ha
        exact absurd ha (by decide +kernel)
    have z := FactAt.args hk n41 e3
    show FactAt (k :: [40] :: (between as ++ r)) k as ((between as).length + 2)
    exact z
theorem FactP.pos {ps : List Cs} {f : Fc} (h : FactP ps f) : 1 ≤ ps.length := by
  cases h <;> simp
theorem RowP.pos {ps : List Cs} {fs : List Fc} (h : RowP ps fs) : 1 ≤ ps.length := by
  cases h with
  | one h => exact h.pos
  | more h t => rw [List.length_append]; have := h.pos; omega
/-- the head of a row: one fact, then the end or a comma and a row -/
theorem RowP.head {ps : List Cs} {fs : List Fc} (h : RowP ps fs) : ∃ (f : Fc) (n : Nat) (fs' : List Fc), fs = f :: fs' ∧ FactAt ps f.k f.as n ∧ ((n = ps.length ∧ fs' = []) ∨ (n < ps.length ∧ ps.getD n [] = [44] ∧ RowP (ps.drop (n + 1)) fs')) := by
  cases h with
  | @one _ f h =>
    have z := h.at (r := []) (by simp)
    rw [List.append_nil] at z
    exact ⟨f, ps.length, [], rfl, z, .inl ⟨rfl, rfl⟩⟩
  | @more ps r f fs h t =>
    refine ⟨f, ps.length, fs, rfl, h.at (by simp), .inr ⟨by simp, ?_, ?_⟩⟩
    · rw [List.getD_eq_getElem?_getD, List.getElem?_append_right (Nat.le_refl _)]
      simp
    · have e : (ps ++ [44] :: r).drop (ps.length + 1) = r := by
        rw [← List.drop_drop, List.drop_left]
        rfl
      rw [e]
      exact t
end Bk
namespace Bk
open PySem L2 K02
/-! ### lines -/
def cutN : Cs → List Cs
  | [] => [[]]
  | c :: r => if c = 10 then [] :: cutN r else match cutN r with
    | [] => [[c]]
    | q :: qs => (c :: q) :: qs
theorem cutN_ne : ∀ p, cutN p ≠ []
  | [] => by simp [cutN]
  | c :: r => by
    unfold cutN
    split
    · simp
    · split <;> simp
/-- is a line told: its first sign that is no blank -/
def told (p : Cs) : Bool := match p.dropWhile (· == 32) with
  | [] => false
  | c :: _ => !(c == 35)
theorem drop_tw (f : Nat → Bool) : ∀ (l : Cs), l.drop (l.takeWhile f).length = l.dropWhile f
  | [] => rfl
  | a :: r => by
    rw [List.takeWhile_cons, List.dropWhile_cons]
    by_cases h : f a = true
    · rw [if_pos h, if_pos h]
      exact drop_tw f r
    · rw [if_neg h, if_neg h]
      rfl
theorem strip_is (p : Cs) : ∃ q : Cs, Txt.stripChars (S p) (Str.ofString " ") = S q ∧ q.length ≤ p.length ∧ q.head? = (p.dropWhile (· == 32)).head? := by
  have e0 : (Str.ofString " ").cps.contains = fun c => c == 32 := by
    funext c
    have e : (Str.ofString " ").cps = #[32] := by decide +kernel
    rw [e]
    simp [Bool.beq_eq_decide_eq]
  unfold Txt.stripChars
  rw [e0, PyProof.Rows.stripBy_eq]
  obtain ⟨a1, a2, a3⟩ := PyProof.Rows.lo_facts (fun c => c == 32) (S p)
  obtain ⟨b1, b2, b3, b4⟩ := PyProof.Rows.hi_facts (fun c => c == 32) (S p) _ a1
  have elo : stripLo (fun c => c == 32) true (S p) = (p.takeWhile (· == 32)).length := by
    simp [stripLo]
  rw [S_len] at a1 a3 b2 b3
  generalize hlo : stripLo (fun c => c == 32) true (S p) = lo at a1 a2 a3 b1 b2 b3 b4 elo
  generalize hhi : stripHi (fun c => c == 32) true (S p) lo = hi at b1 b2 b3 b4
  refine ⟨(p.drop lo).take (hi - lo), ?_, ?_, ?_⟩
  · rw [← S_of (Builtin.Str.strSub (S p) lo hi), StrLaws.strSub_toList, S_codes]
  · rw [List.length_take, List.length_drop]
    omega
  · rw [← drop_tw, ← elo]
    by_cases hx : lo = p.length
    · rw [hx, List.drop_length, List.take_nil]
    · have hl : lo < p.length := by omega
      have hlt : lo < hi := by
        refine Nat.lt_of_not_le fun z => ?_
        have z1 := b3 lo z hl
        rcases a3 with a3 | a3
        · exact hx a3
        · rw [z1] at a3; cases a3
      rw [List.head?_take]
      rw [if_neg (by omega)]
abbrev aLine : Str := "(),:;="
/-! ### kinds -/
abbrev cs (s : Str) : Cs := s.cps.toList
abbrev kwPassing : Cs := [112, 97, 115, 115, 105, 110, 103]
abbrev kwLasting : Cs := [108, 97, 115, 116, 105, 110, 103]
abbrev kwRule : Cs := [114, 117, 108, 101]
abbrev kwTake : Cs := [116, 97, 107, 101]
abbrev kwKeep : Cs := [107, 101, 101, 112]
abbrev kwLook : Cs := [108, 111, 111, 107]
abbrev kwPut : Cs := [112, 117, 116]
abbrev kwTell : Cs := [116, 101, 108, 108]
def kindP (k : Kd) : List Cs := [if k.l = true then kwLasting else kwPassing, k.n, [48 + k.c]]
end Bk
namespace Bk
open PySem L2 K02
/-! ### parted -/
theorem paired_mono {α β : Type} {R R' : α → β → Prop} : ∀ {l1 : List α} {l2 : List β}, Paired R l1 l2 → (∀ a b, b ∈ l2 → R a b → R' a b) → Paired R' l1 l2
  | _, _, .nil, _ => .nil
  | _, _, .cons r t, h => .cons (h _ _ List.mem_cons_self r) (paired_mono t fun a b hb => h a b (List.mem_cons_of_mem _ hb))
/-- rows of pieces -/
def RowAt (H0 H : Hp) (row : List Cs) (v : V) : Prop := ∃ b, v = .ref b ∧ H0 b = none ∧ H b = some (.lst (row.map tx))
def Rows (H0 H : Hp) (v : V) (rows : List (List Cs)) : Prop := ∃ l vs, v = .ref l ∧ H0 l = none ∧ H l = some (.lst vs) ∧ Paired (RowAt H0 H) rows vs
/-! ### looks and pairs -/
abbrev kwSame : Cs := [115, 97, 109, 101]
abbrev kwUnlike : Cs := [117, 110, 108, 105, 107, 101]
def lookP (k : Lk) : List Cs := [k.l, if k.same = true then kwSame else kwUnlike, k.r]
def pairP (p : Cs × Cs) : List Cs := [p.1, [61], p.2]
structure LTxt (K : PySem.W.Frag) (C : Addr) : Prop where
  cl : Cls K C
  nL : NoAttr K C "left"
  nR : NoAttr K C "right"
end Bk
namespace Bk
open PySem L2 K02
/-! ### parts of a rule -/
inductive Pt where
  | fs (l : List Fc)
  | lk (l : List Lk)
  | pr (l : List (Cs × Cs))
def PartAt (K : PySem.W.Frag) (c : Cl) (H0 H : Hp) (v : V) : Pt → Prop
  | .fs l => Facts K H0 H v l
  | .lk l => Looks c H0 H v l
  | .pr l => Pairs K H0 H v l
def wordAt : Nat → Cs
  | 0 => kwTake
  | 1 => kwKeep
  | 2 => kwLook
  | 3 => kwPut
  | _ => kwTell
/-- the pieces that write a part -/
inductive PartP : Nat → List Cs → Pt → Prop
  | fs {n : Nat} {ps : List Cs} {l : List Fc} (hn : n = 0 ∨ n = 1 ∨ n = 3) (h : RowP ps l) : PartP n ps (.fs l)
  | lk {l : List Lk} (h0 : l ≠ []) (hl : l.length ≤ 1000) (h : ∀ k ∈ l, nameC k.l = true ∧ nameC k.r = true) : PartP 2 (glue [44] (l.map lookP)) (.lk l)
  | pr {l : List (Cs × Cs)} (h0 : l ≠ []) (hl : l.length ≤ 1000) (h : ∀ k ∈ l, nameC k.1 = true ∧ nameC k.2 = true) : PartP 4 (glue [44] (l.map pairP)) (.pr l)
/-- one part with its place among the words, and its pieces -/
structure Pr where
  n : Nat
  ps : List Cs
  p : Pt
def Inc : Nat → List Pr → Prop
  | _, [] => True
  | m, x :: r => m ≤ x.n ∧ x.n < 5 ∧ Inc (x.n + 1) r
structure RuleP (title : Cs) (L : List Pr) : Prop where
  tt : smallC title = true
  ne : L ≠ []
  inc : Inc 0 L
  ok : ∀ x ∈ L, PartP x.n x.ps x.p
  hd : ∃ x ∈ L, x.n = 0 ∨ x.n = 1
  no : ∀ x ∈ L, [59] ∉ x.ps
def rulePs (title : Cs) (L : List Pr) : List Cs := kwRule :: title :: [58] :: glue [59] (L.map fun x => wordAt x.n :: x.ps)
end Bk
namespace Bk
open PySem L2 K02
/-! ### open names -/
def FactOk (f : Fc) : Prop := smallC f.k = true ∧ f.as.length ≤ 20000 ∧ ∀ a ∈ f.as, nameC a = true
/-! ### a rule's parts -/
def findN (n : Nat) (L : List Pr) : Option Pr := L.find? fun x => x.n == n
def fsOf (n : Nat) (L : List Pr) : List Fc := match findN n L with
  | some ⟨_, _, .fs l⟩ => l
  | _ => []
def lkOf (L : List Pr) : List Lk := match findN 2 L with
  | some ⟨_, _, .lk l⟩ => l
  | _ => []
def prOf (L : List Pr) : List (Cs × Cs) := match findN 4 L with
  | some ⟨_, _, .pr l⟩ => l
  | _ => []
def rlOf (title : Cs) (L : List Pr) : Rl := ⟨title, fsOf 0 L, fsOf 1 L, lkOf L, fsOf 3 L, prOf L⟩
/-- what a class of rules must have -/
structure RTxt (K : PySem.W.Frag) (C : Addr) : Prop where
  cl : Cls K C
  n1 : NoAttr K C "title"
  n2 : NoAttr K C "taken"
  n3 : NoAttr K C "kept"
  n4 : NoAttr K C "looks"
  n5 : NoAttr K C "given"
  n6 : NoAttr K C "told"
  n7 : NoAttr K C "names"
structure BTxt (K : PySem.W.Frag) (C : Addr) : Prop where
  cl : Cls K C
  n1 : NoAttr K C "kinds"
  n2 : NoAttr K C "rules"
structure RlOk (r : Rl) : Prop where
  heads : ∀ f ∈ r.take ++ r.keep, FactOk f
  few : (r.take ++ r.keep).length ≤ 20000
  fewA : ((r.take ++ r.keep).flatMap (·.as)).length ≤ 20000
end Bk
namespace Bk
open PySem L2 K02
/-! ### one line heard -/
def KdOk (k : Kd) : Prop := smallC k.n = true ∧ k.c ≤ 4
structure HearIn (K : PySem.W.Frag) (c : Cl) (H0 H : Hp) (lk lr : Addr) (ks : List Kd) (rs : List Rl) (kvs rvs : List V) : Prop where
  hk : H lk = some (.lst kvs)
  pk : Paired (Kind K H) ks kvs
  hr : H lr = some (.lst rvs)
  pr : Paired (RuleO K c H0 H) rs rvs
  ne : lk ≠ lr
  ok : ∃ u, H0 lk = some u
  or : ∃ u, H0 lr = some u
  dom : ∀ b, H b = none → H0 b = none
  fk : ks.length ≤ 10000
  fr : rs.length ≤ 10000
/-- what was there when a new thing came stands apart from it -/
theorem PartAt.apart {K : PySem.W.Frag} {c : Cl} {H0 H : Hp} {v : V} {x : Addr} {o : HO} (hx : H x = none) {p : Pt} (h : PartAt K c H0 H v p) : PartAt K c (upd H0 x o) H v p := by
  have key : ∀ b u, H b = some u → H0 b = none → upd H0 x o b = none := fun b u e n => by rw [upd_ne (ne_of_none e hx)]; exact n
  cases p with
  | fs l =>
    obtain ⟨l, vs, e, n, h1, h2⟩ := h
    exact ⟨l, vs, e, key _ _ h1 n, h1, h2⟩
  | pr l =>
    obtain ⟨l, vs, e, n, h1, h2⟩ := h
    exact ⟨l, vs, e, key _ _ h1 n, h1, h2⟩
  | lk l =>
    obtain ⟨l, vs, e, n, h1, h2⟩ := h
    exact ⟨l, vs, e, key _ _ h1 n, h1, L2.Paired.mapP h2 fun k y z => by
      obtain ⟨a, dx, fs, e, n, z1, z2⟩ := z
      exact ⟨a, dx, fs, e, key _ _ z1 n, z1, z2⟩⟩
/-! ### the second go -/
/-- the facts fit the kinds -/
def FactFits (ks : List Kd) (f : Fc) : Prop := ∃ k ∈ ks, k.n = f.k ∧ f.as.length = k.c
def saidOf (r : Rl) : List Cs := (r.looks.flatMap fun k => [k.l, k.r]) ++ ((r.put.flatMap (·.as)) ++ (r.tell.flatMap fun p => [p.1, p.2]))
/-- a rule in order -/
structure RlGood (ks : List Kd) (r : Rl) : Prop where
  fits : ∀ f ∈ r.take ++ r.keep ++ r.put, FactFits ks f
  takes : ∀ f ∈ r.take, f.k ∉ (ks.filter (·.l)).map (·.n)
  calls : r.take = [] → ∀ f ∈ r.put, f.k ∈ (ks.filter (·.l)).map (·.n)
  said : ∀ a ∈ saidOf r, great a = true → a ∈ opens (r.take ++ r.keep)
  names : ∀ a ∈ saidOf r, nameC a = true
  few : (saidOf r).length ≤ 20000
  fewF : (r.take ++ r.keep ++ r.put).length ≤ 20000
end Bk
namespace Bk
open PySem L2 K02
/-! ### a whole book -/
inductive It where
  | kind (k : Kd)
  | rule (title : Cs) (L : List Pr)
def It.ps : It → List Cs
  | .kind k => kindP k
  | .rule t L => rulePs t L
def ksOf : List It → List Kd
  | [] => []
  | .kind k :: r => k :: ksOf r
  | .rule _ _ :: r => ksOf r
def rsOf : List It → List Rl
  | [] => []
  | .kind _ :: r => rsOf r
  | .rule t L :: r => rlOf t L :: rsOf r
def ItOk : It → Prop
  | .kind k => KdOk k
  | .rule t L => RuleP t L ∧ RlOk (rlOf t L)
/-- the told lines with what they tell -/
structure BookT (ls : List Cs) (its : List (Cs × It)) : Prop where
  lines : ls.filter told = its.map (·.1)
  ok : ∀ x ∈ its, x.1.all (okS aLine) = true ∧ toks x.1 = x.2.ps ∧ ItOk x.2
  nk : ((ksOf (its.map (·.2))).map (·.n)).Nodup
  nr : ((rsOf (its.map (·.2))).map (·.title)).Nodup
  good : ∀ r ∈ rsOf (its.map (·.2)), RlGood (ksOf (its.map (·.2))) r
  few : its.length < 10000
end Bk
/-! MY OWN ADDITIONS: sep.join(..).replace(a, b) of written texts -/
namespace L2
open PySem PySem.Spec PyProof.Rows
section
variable {X : Cx}
end
end L2
/-! MY OWN ADDITIONS: != of data trees, of a list and the empty one -/
namespace L2
open PySem PySem.Spec PyProof.Rows
/-- isinstance(t, tuple), t any tuple -/
theorem call_isinstT {X : Cx} : CallR X (.builtin "isinstance") (fun xs H Q => ∃ (a : Addr) (ys : List V) (n : String) (b : Bool), xs = [.ref a, .ty n] ∧ SqT X.K H a ys ∧ PySem.W.kitOne X.K (.type "tuple") (.type n) = some b ∧ Q (.bl b) H) := by
  intro pins s σ H xs us Q I r h
  obtain ⟨a, ys, n, b, rfl, g, e, q⟩ := h
  obtain ⟨u, u2, rfl, rx, ru⟩ := vals2 r
  have e2 : u2 = Value.type n := ru
  subst e2
  cases (show u = Value.ref a from rx)
  obtain ⟨its, _, ⟨o, h1, h2, _⟩, _⟩ := I.tuple g
  exact PySem.W.kia_one PySem.W.kitx_tuple I.kIn ⟨o, h1, h2⟩ e (fun z => nomatch z) fun tk => ⟨.bl b, H, I.tok _, rfl, q⟩
end L2
namespace Bk
open PySem L2 K02
/-! ### what the laws draw -/
abbrev aAll : Str := "abcdefghijklmnopqrstuvwxyz0123456789ABCDEFGHIJKLMNOPQRSTUVWXYZ"
abbrev aSF : Str := "abcdefghijklmnopqrstuvwxyz0123456789"
theorem app_S (a b : List Nat) : S a ++ S b = S (a ++ b) := by
  rw [← S_of (S a ++ S b), PySem.W.KT.app_list, S_codes, S_codes]
theorem join_S (cs : List Nat) : Txt.join (Str.ofString "") (cs.map fun c => S [c]) = S cs := by
  show Builtin.Str.glued (Str.ofString "") _ = _
  rw [StrLaws.glued_eq_join]
  have e := PyProof.Rows.join_nil_signs (S cs)
  unfold PyProof.Rows.signs at e
  rw [S_codes] at e
  exact e
theorem len_sum : ∀ {as : List (List Nat)} {B : Nat}, (∀ a ∈ as, a.length ≤ B) → ((as.map S).map (·.length)).sum ≤ as.length * B
  | [], _, _ => by simp
  | a :: r, B, h => by
    have z := h a (by simp)
    have ih := len_sum (as := r) (B := B) fun x hx => h x (List.mem_cons_of_mem _ hx)
    rw [List.map_cons, List.map_cons, List.sum_cons, S_len, List.length_cons, Nat.add_mul]
    omega
theorem all_al : aAll.cps.toList.all isAl = true := by decide +kernel
theorem all_len : aAll.length = 62 := by decide +kernel
def spCell (K : PySem.W.Frag) : Sp := fun vs H Q _ => ∃ (a : Addr) (ns : List Int) (k : Int), vs = [.ref a, .int k] ∧ SqL K H a (ns.map V.int) ∧ 0 ≤ k ∧ ∀ v : Int, Q (.int v) H
def spMix : Sp := fun vs H Q _ => ∃ c k : Int, vs = [.int c, .int k] ∧ 0 ≤ k ∧ k ≤ 100 ∧ ∀ (v : Int) (H' : Hp), Same H H' → 0 ≤ v → Q (.int v) H'
def Good (fs : List Nat) (z : List Nat) : Prop := nameC z = true ∧ z.headD 0 ∈ fs
def spNames : Sp := fun vs H Q _ => ∃ (c : Int) (n : Nat) (fs : List Nat), vs = [.int c, .int n, tx fs] ∧ n ≤ 10 ∧ 10 ≤ fs.length ∧ fs.length ≤ 62 ∧ fs.all isAl = true ∧ fs.Nodup ∧
  ∀ (l : Addr) (zs : List (List Nat)) (H' : Hp), Same H H' → H l = none → H' l = some (.lst (zs.map tx)) → zs.length = n → (∀ z ∈ zs, Good fs z) → zs.Nodup → Q (.ref l) H'
def spSome (fs : List Nat) : Sp := fun vs H Q _ => ∃ (c : Int) (n : Nat), vs = [.int c, .int n] ∧ n ≤ 10 ∧
  ∀ (l : Addr) (zs : List (List Nat)) (H' : Hp), Same H H' → H l = none → H' l = some (.lst (zs.map tx)) → zs.length = n → (∀ z ∈ zs, Good fs z) → zs.Nodup → Q (.ref l) H'
def spLaw (K : PySem.W.Frag) : Sp := fun vs H Q _ => ∃ (a : Addr) (ns : List Int), vs = [.ref a] ∧ SqL K H a (ns.map V.int) ∧ ns.length ≤ 63 ∧ ∀ H', Q (.bl true) H'
theorem good_of {fs : List Nat} {c : Nat} {r : List Nat} (hc : c ∈ fs) (hf : fs.all isAl = true) (hr : r.all isAl = true) (hl : r.length ≤ 11) : Good fs ([c] ++ r) := by
  refine ⟨?_, hc⟩
  show nameC (c :: r) = true
  unfold nameC
  rw [List.all_eq_true] at hf
  have z : (c :: r).all isAl = true := by rw [List.all_cons, hf c hc, hr]; rfl
  rw [z]
  simp
  omega
theorem sign_of {x : Str} {i : Int} (h0 : 0 ≤ i) (h1 : i < x.length) : ∃ c, atI x.cps.toList i = some c ∧ c ∈ x.cps.toList := by
  have hl := len_is x
  exact ⟨_, str_at h0 h1, List.mem_of_getElem? (getD_get (by omega))⟩
theorem slice_S0 {T : List Nat} {n : Nat} (h : n ≤ T.length) : Txt.slice (S T) none (some (n : Int)) = S (T.take n) := by
  have e := slice_to (z := S T) (j := (n : Int)) (by omega) (by rw [S_len]; omega)
  rw [← S_of (Txt.slice (S T) none (some (n : Int))), e, S_codes, show ((n : Int)).toNat = n by omega]
/-- names of a drawn form: each once -/
theorem nodup_map_range {α : Type} {n : Nat} {g : Nat → α} (h : ∀ i j, i < n → j < n → g i = g j → i = j) : ((List.range n).map g).Nodup := by
  rw [List.nodup_iff_pairwise_ne, List.pairwise_map]
  refine List.Pairwise.imp_of_mem ?_ (List.nodup_range (n := n))
  intro a b ha hb hne e
  exact hne (h a b (List.mem_range.mp ha) (List.mem_range.mp hb) e)
theorem nodup_getD {l : List Nat} (h : l.Nodup) {i j : Nat} (hi : i < l.length) (hj : j < l.length) (e : l.getD i 0 = l.getD j 0) : i = j := by
  rw [List.getD_eq_getElem?_getD, List.getD_eq_getElem?_getD, List.getElem?_eq_getElem hi, List.getElem?_eq_getElem hj] at e
  have e : l[i] = l[j] := e
  have p := List.pairwise_iff_getElem.mp h
  rcases Nat.lt_trichotomy i j with z | z | z
  · exact absurd e (p i j hi hj z)
  · exact z
  · exact absurd e.symm (p j i hj hi z)
theorem mod_inj {a : Int} {m i j : Nat} (hi : i < m) (hj : j < m) (e : ((a + (0 + (i : Int))) % (m : Int)).toNat = ((a + (0 + (j : Int))) % (m : Int)).toNat) : i = j := by
  have m0 : (0 : Int) < m := by omega
  have h1 := Int.emod_nonneg (a + (0 + (i : Int))) (b := (m : Int)) (by omega)
  have h2 := Int.emod_nonneg (a + (0 + (j : Int))) (b := (m : Int)) (by omega)
  have e' : (a + (0 + (i : Int))) % (m : Int) = (a + (0 + (j : Int))) % (m : Int) := by omega
  have e3 : ((i : Int) - (j : Int)) % (m : Int) = 0 := by
    have z := Int.emod_eq_emod_iff_emod_sub_eq_zero.mp e'
    have z2 : a + (0 + (i : Int)) - (a + (0 + (j : Int))) = (i : Int) - (j : Int) := by omega
    rw [z2] at z
    exact z
  obtain ⟨k, hk⟩ := Int.dvd_of_emod_eq_zero e3
  have hk1 : k = 0 := by
    rcases Int.lt_trichotomy k 0 with h | h | h
    · have : (m : Int) * k ≤ -(m : Int) := by
        have := Int.mul_le_mul_of_nonneg_left (show k ≤ -1 by omega) (Int.le_of_lt m0)
        omega
      omega
    · exact h
    · have : (m : Int) ≤ (m : Int) * k := by
        have := Int.mul_le_mul_of_nonneg_left (show 1 ≤ k by omega) (Int.le_of_lt m0)
        omega
      omega
  rw [hk1] at hk
  omega
theorem cut_ints (ns : List Int) (lo hi : Option Int) : ∃ ms : List Int, cutV (ns.map V.int) lo hi = ms.map V.int ∧ ms.length ≤ ns.length := by
  refine ⟨(ns.drop (HT.sIx ns.length 0 lo)).take (HT.sIx ns.length ns.length hi - HT.sIx ns.length 0 lo), ?_, ?_⟩
  · unfold cutV
    rw [List.length_map, List.map_take, List.map_drop]
  · rw [List.length_take, List.length_drop]
    omega
theorem kit_self {K : PySem.W.Frag} {t : Value} : PySem.W.kitOne K t t = some true := by
  unfold PySem.W.kitOne
  rw [if_pos (beq_self_eq_true t)]
end Bk
namespace Bk
open PySem L2 K02
/-! ### texts joined by one sign; lines of kinds; remarks -/
def joinC (c : Nat) : List Cs → Cs
  | [] => []
  | [a] => a
  | a :: r => a ++ c :: joinC c r
theorem joinC_str (c : Nat) : ∀ (ls : List Str), (Str.join ⟨#[c]⟩ ls).cps.toList = joinC c (ls.map fun s => s.cps.toList)
  | [] => rfl
  | [a] => rfl
  | a :: b :: r => by
    have ih := joinC_str c (b :: r)
    show ((a ++ (⟨#[c]⟩ : Str)) ++ Str.join ⟨#[c]⟩ (b :: r)).cps.toList = _
    rw [PySem.W.KT.app_list, PySem.W.KT.app_list, ih]
    show (a.cps.toList ++ [c]) ++ _ = a.cps.toList ++ c :: _
    simp
theorem joinC_S (c : Nat) (ls : List Cs) : Txt.join ⟨#[c]⟩ (ls.map S) = S (joinC c ls) := by
  show Builtin.Str.glued ⟨#[c]⟩ _ = _
  rw [StrLaws.glued_eq_join, ← S_of (Str.join ⟨#[c]⟩ (ls.map S)), joinC_str, List.map_map]
  have e : ((fun s : Str => s.cps.toList) ∘ S) = id := by
    funext p
    exact S_codes p
  rw [e, List.map_id]
end Bk
namespace Bk
open PySem L2 K02
end Bk
namespace Bk
open PySem L2 K02
end Bk
/-! MY OWN ADDITIONS: for i, x in enumerate(list) -/
namespace L2
open PySem PySem.Spec PyProof.Rows
section
variable {X : Cx} {pins : List (Addr × Obj)} {σ : St} {H : Hp} {s : Shared} {h' : Heap}
end
end L2
/-! MY OWN ADDITIONS: list(reversed(list)) -/
namespace L2
open PySem PySem.Spec PyProof.Rows
section
variable {prog : Program} {w : World} {A : Around} {E : Value → Shared → Prop} {s : Shared}
end
section
variable {X : Cx}
end
end L2
/-! MY OWN ADDITIONS: text * int, list.count, != of lists of ints -/
namespace L2
open PySem PySem.Spec PyProof.Rows
section
variable {X : Cx}
end
end L2
/-! MY OWN ADDITIONS: a comprehension whose target is captured by a block inside it -/
namespace L2
open PySem PySem.Spec PyProof.Rows
structure CompOk2 (outer scope : Scope) (x : Str) (N : List Str) : Prop where
  kind : scope.kind = .function
  one : scope.names.filter (fun y => y.2 == .cell) = [(x, .cell)]
  locs : ∀ y ∈ scope.names, y.2 = .local → scope.names.lookup y.1 = some .local
  tgt : scope.names.lookup x = some .cell
  frees : ∀ y ∈ scope.names, y.2 = .free → (outer.names.lookup y.1 = some .cell ∨ outer.names.lookup y.1 = some .free)
  caps : ∀ y ∈ N.tail, scope.names.lookup y = some .free
  nd : N.Nodup
section
variable {X : Cx}
end
end L2
/-! MY OWN ADDITIONS: comprehensions with any target; zip(list, list); sum(list) -/
namespace L2
open PySem PySem.Spec PyProof.Rows
structure CompOks (outer scope : Scope) (xs : List Str) (N : List Str) : Prop where
  kind : scope.kind = .function
  nocell : ∀ y ∈ scope.names, y.2 ≠ .cell
  locs : ∀ y ∈ scope.names, y.2 = .local → scope.names.lookup y.1 = some .local
  tgt : ∀ x ∈ xs, scope.names.lookup x = some .local
  frees : ∀ y ∈ scope.names, y.2 = .free → (outer.names.lookup y.1 = some .cell ∨ outer.names.lookup y.1 = some .free)
  caps : ∀ y ∈ N.drop xs.length, scope.names.lookup y = some .free
  nd : N.Nodup
section
variable {X : Cx}
end
end L2
/-! MY OWN ADDITIONS: zip(list, list), sum(list) -/
namespace L2
open PySem PySem.Spec PyProof.Rows
section
variable {X : Cx}
theorem ints_val {ks : List Int} : ∀ {us : List Value}, Vals (ks.map V.int) us → us.length = ks.length ∧ ∀ i v, us[i]? = some v → ∃ t, v = Value.int (ks.getD i 0) t := by
  induction ks with
  | nil => intro us r; rw [List.map_nil] at r; cases r; exact ⟨rfl, fun i v h => by simp at h⟩
  | cons z zs ih =>
    intro us r
    rw [List.map_cons] at r
    cases r with
    | cons r1 r2 =>
      obtain ⟨hl, hi⟩ := ih r2
      refine ⟨by rw [List.length_cons, List.length_cons, hl], fun i v h => ?_⟩
      cases i with
      | zero =>
        cases h
        exact r1
      | succ i =>
        obtain ⟨t, e⟩ := hi i v (by simpa using h)
        exact ⟨t, by rw [e]; rfl⟩
end
end L2
/-! MY OWN ADDITIONS: min(list, key=f) -/
namespace L2
open PySem PySem.Spec PyProof.Rows
section
variable {X : Cx} {pins : List (Addr × Obj)} {σ : St}
end
end L2
/-! MY OWN ADDITIONS: products and quotients of great numbers; min(list, key=f) -/
namespace L2
open PySem PySem.Spec PyProof.Rows
section
variable {X : Cx}
end
end L2
/-! MY OWN ADDITIONS: == of lists of ints -/
namespace L2
open PySem PySem.Spec PyProof.Rows
end L2
/-! MY OWN ADDITIONS, 4: the sort's questions, answered by any order: what comes out is sorted. -/
namespace L2
open PySem PySem.W PyProof.Rows
structure WO (lt : Nat → Nat → Bool) : Prop where
  asym : ∀ a b, lt a b = true → lt b a = false
  tr : ∀ a b c, lt b a = false → lt c b = false → lt c a = false
section
variable {lt : Nat → Nat → Bool} {n : Nat} (W : WO lt)
include W
end
end L2
namespace L2
open PySem PySem.W PySem.Calls PyProof.Rows
section
variable {prog : Program} {w : World} {A : Around} {E : Value → Shared → Prop} {s : Shared}
end
end L2
/-! MY OWN ADDITIONS, 5: data that can be sorted (ints, texts, tuples of such), their order, and < as Python answers -/
namespace L2
open PySem PySem.W PySem.Calls PyProof.Rows
inductive Tr where
  | int (i : Int) | str (x : Str) | tup (l : List Tr)
  deriving Inhabited
mutual
def Tr.toD : Tr → Dt
  | .int i => .int i
  | .str x => .str x
  | .tup l => .tup (Tr.toDs l)
def Tr.toDs : List Tr → List Dt
  | [] => []
  | a :: r => a.toD :: Tr.toDs r
end
theorem toDs_length : ∀ (l : List Tr), (Tr.toDs l).length = l.length
  | [] => by unfold Tr.toDs; rfl
  | a :: r => by unfold Tr.toDs; simp [toDs_length r]
theorem toDs_get : ∀ (l : List Tr) (i : Nat) (h : i < l.length) (h' : i < (Tr.toDs l).length), (Tr.toDs l)[i] = (l[i]).toD
  | a :: r, 0, _, _ => by simp [Tr.toDs]
  | a :: r, i + 1, h, h' => by
    have := toDs_get r i (by simpa using h) (by rw [toDs_length]; simpa using h)
    simp only [Tr.toDs, List.getElem_cons_succ]
    exact this
def eqT (a b : Tr) : Bool := eqD a.toD b.toD
end L2
namespace L2
open PySem PySem.W PySem.Calls PyProof.Rows
/-- u < v answers b, the state untouched -/
def LtAt (A : Around) (s : Shared) (u v : Value) (b : Bool) : Prop :=
  ∀ (prog : Program) (w : World) (E : Value → Shared → Prop) (Q : Value → Shared → Prop), Q (.bool b) s → wpAny (model prog w) A (richCompare .Lt u v) Q E s
inductive Duo (A : Around) (s : Shared) : List Value → List Value → Bool → Prop
  | nn : Duo A s [] [] false
  | nc {w : Value} {ws : List Value} : Duo A s [] (w :: ws) true
  | cn {v : Value} {vs : List Value} : Duo A s (v :: vs) [] false
  | eq {v w : Value} {vs ws : List Value} {r : Bool} (e : SeqAt.EqAt A s v w true) (h : Duo A s vs ws r) : Duo A s (v :: vs) (w :: ws) r
  | ne {v w : Value} {vs ws : List Value} {r : Bool} (e : SeqAt.EqAt A s v w false) (h : LtAt A s v w r) : Duo A s (v :: vs) (w :: ws) r
section
open PySem.SeqAt
open PySem.AutoSeq1 (wpAny_loadPart')
open PySem.MeetsSeq PySem.MeetsSeq2 PySem.MeetsSeq3
end
end L2
namespace L2
open PySem PySem.W PySem.Calls PyProof.Rows
/-! trees that Python compares: of one shape as far as both go -/
end L2
namespace L2
open PySem PySem.W PySem.Calls PyProof.Rows
section
variable {prog : Program} {w : World} {A : Around} {E : Value → Shared → Prop} {s : Shared} {Q : Bool → Shared → Prop}
end
/-- by what a tuple begins: 1: a text, 2: an int -/
def hdK : Tr → Nat
  | .tup (.str _ :: _) => 1
  | .tup (.int _ :: _) => 2
  | _ => 0
/-! ### sorted(xs) of a list of tuples -/
section
variable {X : Cx}
end
end L2
/-! MY OWN ADDITIONS, 6: dicts: setdefault, items, sorted(d.items()) -/
namespace L2
open PySem PySem.Spec PyProof.Rows
section
variable {X : Cx} {pins : List (Addr × Obj)} {σ : St} {H H' : Hp} {s : Shared}
end
section
variable {X : Cx} {o e f : Expr} {td ty tx : TE} {apos cpos : Pos}
/-! sorted(d.items()) -/
end
end L2
/-! MY OWN ADDITIONS, 7: the table of a set (pure): what is found, what is free -/
namespace SetP
open PySem
def Ri (xs : Array Nat) : Prop := ∀ i j, i < j → j < xs.size → xs.getD i 0 < xs.getD j 0
/-- a table without dummies whose places rise -/
structure Tb (t : SetTable) : Prop where
  ri : Ri t.place
  nd : t.dummies = #[]
end SetP
/-! the leaps 5 i + 1 go round all the slots of a table of 2 ^ k -/
namespace SetP
def it5 : Nat → Nat → Nat
  | 0, s => s
  | r + 1, s => 5 * it5 r s + 1
def T5 : Nat → Nat
  | 0 => 0
  | r + 1 => 5 * T5 r + 1
theorem it5_eq : ∀ r s, it5 r s = 5 ^ r * s + T5 r
  | 0, s => by simp [it5, T5]
  | r + 1, s => by
    rw [it5, it5_eq r s, T5, Nat.pow_succ, Nat.mul_add, ← Nat.mul_assoc, Nat.mul_comm 5 (5 ^ r), Nat.add_assoc]
theorem T5_pow : ∀ r, 4 * T5 r + 1 = 5 ^ r
  | 0 => rfl
  | r + 1 => by
    have := T5_pow r
    rw [T5, Nat.pow_succ, ← this]
    omega
theorem it5_add : ∀ a b s, it5 (a + b) s = it5 a (it5 b s)
  | 0, b, s => by simp [it5]
  | a + 1, b, s => by
    rw [show a + 1 + b = (a + b) + 1 by omega, it5, it5, it5_add a b s]
theorem T5_add (a b : Nat) : T5 (a + b) = 5 ^ a * T5 b + T5 a := by
  have h := it5_add a b 0
  rw [it5_eq, it5_eq a, it5_eq b] at h
  simpa using h
theorem T5_two : ∀ k, ∃ o, T5 (2 ^ k) = 2 ^ k * (2 * o + 1)
  | 0 => ⟨0, rfl⟩
  | k + 1 => by
    obtain ⟨o, h⟩ := T5_two k
    have e : 2 ^ (k + 1) = 2 ^ k + 2 ^ k := by rw [Nat.pow_succ]; omega
    rw [e, T5_add, ← T5_pow]
    refine ⟨2 * T5 (2 ^ k) * o + T5 (2 ^ k) + o, ?_⟩
    generalize T5 (2 ^ k) = T at *
    generalize 2 ^ k = M at *
    have h3 : (4 * T + 1) * T + T = (2 * (2 * T + 1)) * T := by grind
    rw [h3]
    have h4 : (2 * (2 * T + 1)) * T = (2 * (2 * T + 1)) * (M * (2 * o + 1)) := by rw [← h]
    rw [h4]
    grind
theorem cover : ∀ (k s j : Nat), j < 2 ^ k → ∃ r, r < 2 ^ k ∧ it5 r s % 2 ^ k = j
  | 0, s, j, h => ⟨0, by simp, by simp at h; subst h; simp [Nat.mod_one]⟩
  | k + 1, s, j, h => by
    have e : 2 ^ (k + 1) = 2 * 2 ^ k := by rw [Nat.pow_succ]; omega
    have hM : 0 < 2 ^ k := Nat.two_pow_pos k
    obtain ⟨r, hr, hj⟩ := cover k s (j % 2 ^ k) (Nat.mod_lt _ hM)
    obtain ⟨o, ho⟩ := T5_two k
    have hB : it5 (2 ^ k + r) s = it5 r s + 2 ^ k * ((2 * o + 1) * (4 * it5 r s + 1)) := by
      rw [it5_add, it5_eq (2 ^ k), ← T5_pow, ho]
      generalize it5 r s = A
      generalize 2 ^ k = M
      grind
    rw [e] at h ⊢
    obtain ⟨A, hA⟩ : ∃ A, it5 r s = A := ⟨_, rfl⟩
    rw [hA] at hB hj
    generalize 2 ^ k = M at *
    have a1 := Nat.div_add_mod A M
    have j1 := Nat.div_add_mod j M
    rw [hj] at a1
    generalize j % M = c at *
    have hc : c < M := by
      rw [← hj]; exact Nat.mod_lt _ hM
    have hp : j / M = 0 ∨ j / M = 1 := by
      have : j / M < 2 := Nat.div_lt_of_lt_mul (by rw [Nat.mul_comm]; exact h)
      revert this
      generalize j / M = p
      intro this
      omega
    have key : ∀ q x, x = 2 * M * q + j → x % (2 * M) = j := fun q x e => by
      rw [e, Nat.mul_add_mod]
      exact Nat.mod_eq_of_lt h
    obtain ⟨q, hq⟩ : ∃ q, A / M = 2 * q ∨ A / M = 2 * q + 1 := ⟨A / M / 2, by generalize A / M = z; omega⟩
    generalize A / M = a at *
    generalize j / M = p at *
    obtain ⟨u, hu⟩ : ∃ u, (2 * o + 1) * (4 * A + 1) = 2 * u + 1 := ⟨4 * A * o + o + 2 * A, by grind⟩
    rw [hu] at hB
    rcases hq with rfl | rfl <;> rcases hp with rfl | rfl
    · exact ⟨r, by omega, key q _ (by grind)⟩
    · exact ⟨M + r, by omega, key (q + u) _ (by grind)⟩
    · exact ⟨M + r, by omega, key (q + u + 1) _ (by grind)⟩
    · exact ⟨r, by omega, key q _ (by grind)⟩
end SetP
namespace SetP
open PySem
def adv (t : SetTable) : Nat → SetTable.Probe → SetTable.Probe
  | 0, p => p
  | n + 1, p => adv t n (t.advance p)
def start (mask i pb : Nat) (d : Option Nat) : SetTable.Probe := { j := i, more := SetTable.runEnd mask i - i, i := i, perturb := pb, dummy := d }
/-- the q-th leap -/
def lp (mask : Nat) : Nat → Nat × Nat → Nat × Nat
  | 0, x => x
  | q + 1, x => SetTable.leap mask (lp mask q x).1 (lp mask q x).2
theorem lp_pb (mask : Nat) (x : Nat × Nat) : ∀ q, (lp mask q x).2 = x.2 / 32 ^ q
  | 0 => by simp [lp]
  | q + 1 => by
    rw [lp, SetTable.leap, lp_pb mask x q, Nat.pow_succ, Nat.div_div_eq_div_mul]
theorem lp_zero {mask : Nat} {x : Nat × Nat} (h : x.2 < 2 ^ 64) {q : Nat} (hq : 13 ≤ q) : (lp mask q x).2 = 0 := by
  rw [lp_pb]
  apply Nat.div_eq_of_lt
  calc x.2 < 2 ^ 64 := h
    _ ≤ 32 ^ 13 := by decide
    _ ≤ 32 ^ q := Nat.pow_le_pow_right (by decide) hq
theorem lp_it5 {mask : Nat} {x : Nat × Nat} (h : x.2 < 2 ^ 64) : ∀ r, (lp mask (13 + r) x).1 % (mask + 1) = it5 r (lp mask 13 x).1 % (mask + 1)
  | 0 => rfl
  | r + 1 => by
    have e : lp mask (13 + (r + 1)) x = SetTable.leap mask (lp mask (13 + r) x).1 (lp mask (13 + r) x).2 := rfl
    rw [e, SetTable.leap, lp_zero h (by omega)]
    show ((lp mask (13 + r) x).1 * 5 + 1 + 0 / 32) % (mask + 1) % (mask + 1) = _
    rw [Nat.mod_mod, it5]
    simp only [Nat.zero_div, Nat.add_zero]
    rw [Nat.add_mod, Nat.mul_mod, lp_it5 h r, ← Nat.mul_mod, ← Nat.add_mod, Nat.mul_comm]
/-- the first place on the way where P holds -/
theorem first (P : Nat → Prop) (n : Nat) (h : P n) : ∃ m, m ≤ n ∧ P m ∧ ∀ i, i < m → ¬ P i := by
  induction n using Nat.strongRecOn with
  | ind n ih =>
    by_cases q : ∃ i, i < n ∧ P i
    · obtain ⟨i, h1, h2⟩ := q
      obtain ⟨m, a, b, c⟩ := ih i h1 h2
      exact ⟨m, by omega, b, c⟩
    · exact ⟨n, Nat.le_refl _, h, fun i hi hp => q ⟨i, hi, hp⟩⟩
end SetP
namespace SetP
open PySem
/-- j is come to on the way of h ahead of any empty slot -/
def Home (t : SetTable) (h : Int) (j : Nat) : Prop := ∃ n, n < 10 * (t.mask + 15) ∧ (adv t n (t.probeStart h)).j = j ∧ ∀ m, m < n → t.slot (adv t m (t.probeStart h)).j ≠ .empty
structure TbI (t : SetTable) (hs : Array Int) : Prop where
  tb : Tb t
  sz : t.place.size = hs.size
  le : ∀ i, i < t.place.size → t.place.getD i 0 ≤ t.mask
  fill : hs.size ≤ t.mask
  pw : ∃ k, t.mask + 1 = 2 ^ k
  home : ∀ i, i < hs.size → Home t (hs.getD i 0) (t.place.getD i 0)
theorem adv_mask {t t' : SetTable} (h : t'.mask = t.mask) : ∀ n p, adv t' n p = adv t n p
  | 0, p => rfl
  | n + 1, p => by
    have e : t'.advance p = t.advance p := by simp only [SetTable.advance, h]
    rw [adv, adv, e, adv_mask h n]
end SetP
namespace SetP
open PySem
/-- every slot is the start of some leap -/
theorem leaps {mask k : Nat} (hk : mask + 1 = 2 ^ k) (h : Int) {j : Nat} (hj : j ≤ mask) : ∃ q, q ≤ 13 + mask ∧ (lp mask q (SetTable.bits h % (mask + 1), SetTable.bits h)).1 = j := by
  have hb : SetTable.bits h < 2 ^ 64 := by
    unfold SetTable.bits
    have h1 := Int.emod_lt_of_pos h (show (0 : Int) < 2 ^ 64 by decide)
    have h2 := Int.emod_nonneg h (show (2 ^ 64 : Int) ≠ 0 by decide)
    omega
  let x : Nat × Nat := (SetTable.bits h % (mask + 1), SetTable.bits h)
  obtain ⟨r, hr, hx⟩ := cover k (lp mask 13 x).1 j (by omega)
  rw [← hk] at hx hr
  have h1 := lp_it5 (mask := mask) (x := x) hb r
  have h2 : (lp mask (13 + r) x).1 < mask + 1 := by
    rw [show 13 + r = (12 + r) + 1 by omega, lp, SetTable.leap]
    exact Nat.mod_lt _ (Nat.succ_pos _)
  rw [Nat.mod_eq_of_lt h2, hx] at h1
  exact ⟨13 + r, by omega, h1⟩
def Fr (owner : Array (Option Nat)) (c : Nat) : Prop := (owner.getD c (some 0)).isNone = true
end SetP
namespace SetP
open PySem
/-- the owners of the slots behind the hashes hs; pos: where each stands -/
structure Own (t : SetTable) (owner : Array (Option Nat)) (hs : List Int) (pos : Nat → Nat) : Prop where
  sz : owner.size = t.mask + 1
  at_ : ∀ c, c ≤ t.mask → ∀ i, owner.getD c none = some i ↔ (i < hs.length ∧ pos i = c)
  le : ∀ i, i < hs.length → pos i ≤ t.mask
  home : ∀ i (hi : i < hs.length), ∃ n, n < 10 * (t.mask + 15) ∧ (adv t n (t.probeStart hs[i])).j = pos i ∧ ∀ m, m < n → ¬ Fr owner (adv t m (t.probeStart hs[i])).j
end SetP
namespace SetP
open PySem
end SetP
namespace SetP
open PySem
section
variable {prog : Program} {w : World} {A : Around} {E : Value → Shared → Prop} {s : Shared} {a : Addr} {o : Obj} {es : Array (Int × Value)} {ep : Nat} {t : SetTable} {x : Value} {h : Int} {eqv : Nat → Bool} {Q : SetFound → Shared → Prop}
end
end SetP
namespace SetP
open PySem
theorem above_go (n : Nat) : ∀ (fuel k : Nat), n < 2 ^ (k + fuel) → 2 ^ k ≤ 8 + 2 * n → ∃ k', SetTable.sizeAbove.go n fuel (2 ^ k) = 2 ^ k' ∧ n < 2 ^ k' ∧ 2 ^ k' ≤ 8 + 2 * n
  | 0, k, h1, h2 => ⟨k, rfl, h1, h2⟩
  | fuel + 1, k, h1, h2 => by
    unfold SetTable.sizeAbove.go
    by_cases h : 2 ^ k ≤ n
    · rw [if_pos h, ← Nat.pow_succ]
      exact above_go n fuel (k + 1) (by rw [show k + 1 + fuel = k + (fuel + 1) by omega]; exact h1) (by rw [Nat.pow_succ]; omega)
    · rw [if_neg h]
      exact ⟨k, rfl, by omega, h2⟩
theorem above {n : Nat} (h : n < 2 ^ 60) : ∃ k, SetTable.sizeAbove n = 2 ^ k ∧ n < 2 ^ k ∧ 2 ^ k ≤ 8 + 2 * n :=
  above_go n 64 3 (Nat.lt_of_lt_of_le h (Nat.pow_le_pow_right (by decide) (by decide))) (by omega)
theorem TbI.plain {t : SetTable} {hs : Array Int} (I : TbI t hs) (b : Bool) : TbI { t with plain := b } hs :=
  ⟨⟨I.tb.ri, I.tb.nd⟩, I.sz, I.le, I.fill, I.pw, fun i hi => by
    obtain ⟨n, h1, h2, h3⟩ := I.home i hi
    have e1 : ∀ m p, adv { t with plain := b } m p = adv t m p := fun m p => adv_mask (t := t) (t' := { t with plain := b }) rfl m p
    exact ⟨n, h1, by rw [e1]; exact h2, fun m hm => by rw [e1]; exact h3 m hm⟩⟩
/-- the set at a holds the entries es, its table in order -/
def SI (l : Bool) (h : Heap) (a : Addr) (es : Array (Int × Value)) : Prop :=
  ∃ o ep t, h.get? a = some o ∧ o.ExactSet ∧ o.data = .set es ep t ∧ TbI t (es.map (·.1)) ∧ es.size * 5 < t.mask * 3 ∧ t.mask ≤ 8 * es.size + 20 ∧ (t.mask % 2 == 0) = false ∧ (∀ i (hi : i < es.size), ∃ b, (es[i]).2 = .ref b) ∧ t.led = l ∧ (1 ≤ es.size → t.plain = false)
section
variable {prog : Program} {w : World} {A : Around} {E : Value → Shared → Prop} {s : Shared} {a : Addr} {es : Array (Int × Value)} {x : Value} {h : Int} {eqv : Nat → Bool} {l : Bool}
end
end SetP
/-! a tree's hash, and what a set's search asks of a tree -/
namespace L2
open PySem PySem.Spec PyProof.Rows
end L2
namespace L2
open PySem PySem.Spec PyProof.Rows
section
variable {X : Cx} {pins : List (Addr × Obj)} {σ : St} {H : Hp} {s : Shared}
end
end L2
namespace L2
open PySem PySem.Spec PyProof.Rows
section
variable {X : Cx} {pins : List (Addr × Obj)} {σ : St} {H : Hp} {s : Shared}
end
end L2
/-! set(xs) of a list of tuples: the loop -/
namespace L2
open PySem PySem.Spec PyProof.Rows SetP
def ddS (acc : List Tr) (t : Tr) : List Tr := if acc.any (fun a => eqT a t) = true then acc else acc ++ [t]
/-- each once, as they first come -/
def dd (l : List Tr) : List Tr := l.foldl ddS []
section
variable {X : Cx} {pins : List (Addr × Obj)} {σ : St} {H : Hp} {s : Shared} {a : Addr} {es : Array (Int × Value)} {tr : List Tr} {t : Tr} {x : V} {u : Value} {l : Bool}
end
end L2
namespace L2
open PySem PySem.Spec PyProof.Rows SetP
section
variable {X : Cx} {pins : List (Addr × Obj)} {σ : St} {H : Hp} {s : Shared} {a it l : Addr} {ts : List Tr} {ys : List V} {its : List Value} {ld : Bool}
end
end L2
namespace PySem
section
variable {prog : Program} {w : World} {A : Around} {E : Value → Shared → Prop} {s : Shared}
end
end PySem
/-! a set's walk: collect(set), in whatever order -/
namespace PySem.F
end PySem.F
namespace SetP
open PySem
section
variable {M : Model} {A : Around} {E : Value → Shared → Prop} {s : Shared}
end
/-- the iterator at I over the set at a -/
def ItAt (h : Heap) (I a : Addr) (first : Value) (i n ep : Nat) : Prop := ∃ o, h.get? I = some o ∧ o.cls = .type "set_iterator" ∧ o.data = .fields #[first, .int i 0, .ref a, .int n 0, .int ep 0]
end SetP
namespace SetP
open PySem
section
variable {prog : Program} {w : World} {A : Around} {E : Value → Shared → Prop} {s : Shared} {I a T : Addr} {first : Value} {i ep : Nat} {es : Array (Int × Value)} {t : SetTable} {pl : List Nat} {ord : List Value}
theorem ItAt.typeIs {h : Heap} {n : Nat} (x : ItAt s.heap I a first i n ep) : s.TypeIs (.ref I) "set_iterator" := let ⟨o, ho, hc, _⟩ := x; ⟨o, ho, hc⟩
end
end SetP
namespace SetP
open PySem
section
variable {prog : Program} {w : World} {A : Around} {E : Value → Shared → Prop} {s : Shared} {a : Addr} {ep : Nat} {es : Array (Int × Value)} {t : SetTable}
end
end SetP
namespace SetP
open PySem PySem.W PyProof.Rows
section
variable {prog : Program} {w : World} {A : Around} {E : Value → Shared → Prop} {s : Shared} {a : Addr} {ep : Nat} {es : Array (Int × Value)} {t : SetTable}
end
end SetP
/-! set(list of tuples), sorted(set): the rules -/
namespace L2
open PySem PySem.Spec PyProof.Rows SetP
/-- the set at a: its members -/
def SetO (ld : Bool) (a : Addr) (zs : List V) : HO := .ext fun h => ∃ es, SI ld h a es ∧ es.size < 1000 ∧ Vals zs (es.toList.map (·.2))
section
variable {X : Cx}
end
end L2
/-! f'.. {x!r}' of a tuple of texts -/
namespace L2
open PySem PySem.Spec PyProof.Rows
mutual
def toP : Tr → PyData
  | .int i => .int i
  | .str x => .str x
  | .tup l => .tuple (toPs l)
def toPs : List Tr → List PyData
  | [] => []
  | t :: r => toP t :: toPs r
end
section
variable {X : Cx} {pins : List (Addr × Obj)} {σ : St} {H : Hp} {s : Shared}
end
section
variable {X : Cx} {e : Expr} {te : TE} {pre : Str} {j : Nat} {p1 p2 p3 : Pos}
end
/-- a fact's tree -/
def ftT (k : Str) (as : List Str) : Tr := .tup [.str k, .tup (as.map .str)]
def Shw (x : Str) : Prop := x.length ≤ 100 ∧ ∀ c ∈ x.cps.toList, c < 16 ^ 8
theorem shown_strs : ∀ (as : List Str), (∀ a ∈ as, Shw a) → PyData.showableAll (toPs (as.map .str)) = true ∧ ((PyData.shownAll (toPs (as.map .str))).map (·.length)).sum ≤ 1002 * as.length ∧ (PyData.shownAll (toPs (as.map .str))).length = as.length
  | [], _ => ⟨rfl, Nat.le_refl _, rfl⟩
  | a :: r, h => by
    obtain ⟨z1, z2, z3⟩ := shown_strs r fun b hb => h b (List.mem_cons_of_mem _ hb)
    have ha := h a (List.mem_cons_self ..)
    have y := StrLaws.reprText_len a ha.2
    refine ⟨z1, ?_, ?_⟩
    · show (reprText a).length + ((PyData.shownAll (toPs (r.map .str))).map (·.length)).sum ≤ 1002 * (r.length + 1)
      have := ha.1
      omega
    · show (PyData.shownAll (toPs (r.map .str))).length + 1 = r.length + 1
      omega
theorem shown_fact {k : Str} {as : List Str} (hk : Shw k) (ha : ∀ a ∈ as, Shw a) (hl : as.length ≤ 100) : (toP (ftT k as)).showable = true ∧ (toP (ftT k as)).shown.length ≤ 1000000 := by
  obtain ⟨z1, z2, z3⟩ := shown_strs as ha
  have y := StrLaws.reprText_len k hk.2
  constructor
  · show (true && (PyData.showableAll (toPs (as.map .str)) && true)) = true
    rw [z1]
    rfl
  · show (tupleText [reprText k, tupleText (PyData.shownAll (toPs (as.map .str)))]).length ≤ 1000000
    have a1 := tupleText_len_le [reprText k, tupleText (PyData.shownAll (toPs (as.map .str)))]
    have a2 := tupleText_len_le (PyData.shownAll (toPs (as.map .str)))
    simp only [List.map_cons, List.map_nil, List.sum_cons, List.sum_nil, List.length_cons, List.length_nil] at a1
    rw [z3] at a2
    have := hk.1
    omega
theorem deep_strs : ∀ (as : List Str), Dt.deeps (Tr.toDs (as.map .str)) = 0
  | [] => rfl
  | a :: r => by
    show max 0 (Dt.deeps (Tr.toDs (r.map .str))) = 0
    rw [deep_strs r]
    rfl
theorem deep_fact (k : Str) (as : List Str) : (ftT k as).toD.deep = 2 := by
  show max 0 (max (Dt.deeps (Tr.toDs (as.map .str)) + 1) 0) + 1 = 2
  rw [deep_strs]
  rfl
theorem isD_strs {K : PySem.W.Frag} {H : Hp} {t : Addr} {as : List Str} (h : SqT K H t (as.map .str)) : IsD K H (Tr.tup (as.map .str)).toD (.ref t) := by
  simp only [Tr.toD]
  refine .tup h (by rw [toDs_length, List.length_map, List.length_map]) fun i h1 h2 => ?_
  rw [toDs_get _ i (by rw [toDs_length] at h1; exact h1)]
  simp only [List.getElem_map]
  simp only [Tr.toD]
  exact .str _
theorem isD_fact {K : PySem.W.Frag} {H : Hp} {t t2 : Addr} {k : Str} {as : List Str} (h1 : SqT K H t [.str k, .ref t2]) (h2 : SqT K H t2 (as.map .str)) : IsD K H (ftT k as).toD (.ref t) := by
  show IsD K H (.tup [.str k, (Tr.tup (as.map .str)).toD]) (.ref t)
  refine .tup h1 rfl fun i i1 i2 => ?_
  match i, i1, i2 with
  | 0, _, _ => exact .str _
  | 1, _, _ => exact isD_strs h2
/-! callees that may raise -/
def CalE (P : Program) (w : World) (K : PySem.W.Frag) (mg : Str → Option Value) (base : Heap) (x : Str) (k : Nat) (ps : List Str) (sp : Sp) : Prop :=
  ∃ f fd, FnOk P w K mg base (CXE P w) k f fd ps sp ∧ Binds K fd ps [] ∧ PySem.W.keepIn K (.ref f) = true ∧ mg x = some (.ref f)
section
variable {P : Program} {w : World} {K : PySem.W.Frag} {mg : Str → Option Value} {base : Heap} {N : List Str} {qual : Str} {scope : Scope} {f : Addr} {cd : Value} {A : Around} {outer : List Env} {s₀ : Shared} {H₀ : Hp} {E : XK} {x : Str} {k : Nat} {ps : List Str} {sp : Sp} {p pos : Pos} {e : Expr} {es : List Expr} {t : TA}
theorem pe_callE (c : CalE P w K mg base x k ps sp) (hr : Room k (cxE P w K mg base N qual scope f cd A outer s₀ H₀ E).A) (hg : Gl (cxE P w K mg base N qual scope f cd A outer s₀ H₀ E) x) (ha : PA (cxE P w K mg base N qual scope f cd A outer s₀ H₀ E) (e :: es) t)
    (hdb : (x == ("__debug__" : Str)) = false := by decide) (he : starEach (e :: es) (cxE P w K mg base N qual scope f cd A outer s₀ H₀ E).env = (false, eval e (cxE P w K mg base N qual scope f cd A outer s₀ H₀ E).env) :: starEach es (cxE P w K mg base N qual scope f cd A outer s₀ H₀ E).env := by rfl)
    (hpl : (backTo pos (starEach es (cxE P w K mg base N qual scope f cd A outer s₀ H₀ E).env)).any (·.1) = false := by rfl) : PE (cxE P w K mg base N qual scope f cd A outer s₀ H₀ E) (.Call (.Name x p) (e :: es) [] pos) (tCall sp [] E t) := by
  obtain ⟨f', fd, F, b, kp, mg⟩ := c
  exact pe_call F hr hg mg kp b .nil passE ha hdb he hpl
end
section
variable {X : Cx} {x : Str} {k : Nat} {ps : List Str} {sp : Sp} {p pos : Pos} {e : Expr} {es : List Expr} {t : TA} {pn : List (Addr × Obj)} {R : Value → St → Hp → Prop}
theorem pe_callT (c : CalE X.prog X.w X.K X.mg X.base x k ps sp) (hr : Room k X.A) (hg : Gl X x) (ha : PA (tryCx X pn R) (e :: es) t) (hdb : (x == ("__debug__" : Str)) = false := by decide) (he : starEach (e :: es) X.env = (false, eval e X.env) :: starEach es X.env := by rfl) (hpl : (backTo pos (starEach es X.env)).any (·.1) = false := by rfl) :
    PE (tryCx X pn R) (.Call (.Name x p) (e :: es) [] pos) (tCallX sp [] R t) := by
  obtain ⟨f', fd, F, b, kp, mg⟩ := c
  exact pe_callX F hr hg mg kp b .nil ha hdb he hpl
end
end L2
/-! dict(()) of the text's own empty tuple -/
namespace L2
open PySem PySem.Spec PyProof.Rows
section
variable {X : Cx}
end
end L2
/-! pools: what a pool of facts is, the first fault; the specs of poolrules.pools -/
namespace Bk
open PySem L2 K02
def cOk (p : Cs) : Prop := p ≠ [] ∧ p.length ≤ 100 ∧ ∀ c ∈ p, c < 16 ^ 8
structure FS (f : Fc) : Prop where
  k : cOk f.k
  as : ∀ a ∈ f.as, cOk a
  n : f.as.length ≤ 100
def fT (f : Fc) : Tr := ftT (S f.k) (f.as.map S)
def fault (ks : List Kd) (f : Fc) : Nat := match ks.find? (fun k => decide (k.n = f.k)) with
  | none => 1
  | some k => if k.c = f.as.length then 0 else 2
theorem map_tx (l : List Cs) : l.map tx = (l.map S).map V.str := by rw [List.map_map]; rfl
theorem Fact.isD {K : PySem.W.Frag} {H : Hp} {f : Fc} {v : V} (h : Fact K H f v) : IsD K H (fT f).toD v := by
  obtain ⟨t, t2, rfl, h1, h2⟩ := h
  exact isD_fact h1 (by rw [← map_tx]; exact h2)
/-- kinds and facts as they are handed in -/
structure KF (K : PySem.W.Frag) (H : Hp) (lk lf : Addr) (ks : List Kd) (fs : List Fc) : Prop where
  hk : ∃ kvs, H lk = some (.lst kvs) ∧ Paired (Kind K H) ks kvs
  nd : (ks.map (·.n)).Nodup
  few : ks.length ≤ 10000
  hf : ∃ fvs, H lf = some (.lst fvs) ∧ Paired (Fact K H) fs fvs
  ok : ∀ f ∈ fs, FS f
theorem Fact.sm {K : PySem.W.Frag} {H H' : Hp} (s : Same H H') {f : Fc} {v : V} (h : Fact K H f v) : Fact K H' f v := by
  obtain ⟨t, t2, e, q, q2⟩ := h
  exact ⟨t, t2, e, q.same s, q2.same s⟩
end Bk
namespace Bk
open PySem L2 K02
end Bk
namespace L2
open PySem PySem.Spec PyProof.Rows
end L2
namespace Bk
open PySem L2 K02
theorem hd_fT (f : Fc) : hdK (fT f) = 1 ∧ (fT f).toD.deep ≤ 18 := ⟨rfl, by unfold fT; rw [deep_fact]; decide⟩
end Bk
namespace L2
open PySem
end L2
namespace Bk
open PySem L2 K02
end Bk
namespace L2
end L2
/-! x not in a list of tuples; lists with the same members are alike; t + u of any two tuples -/
namespace L2
open PySem PySem.Spec PyProof.Rows
section
variable {X : Cx}
end
end L2
/-! the law of the pools: what its defs tell -/
namespace Bk
open PySem L2 K02
/-- four kinds of the law -/
structure K4 (ks : List Kd) : Prop where
  len : ks.length = 4
  nd : (ks.map (·.n)).Nodup
  ok : ∀ k ∈ ks, nameC k.n = true ∧ k.c ≤ 4
structure FL (f : Fc) : Prop where
  k : nameC f.k = true
  as : ∀ a ∈ f.as, nameC a = true
  n : f.as.length ≤ 100
end Bk
namespace Bk
open PySem L2 K02
end Bk
namespace Bk
open PySem L2 K02
end Bk
namespace L2
theorem seq_fin {t1 t2 : TS} {D : Ends} {σ : St} {H : Hp} (Good : St → Hp → Prop) (h : (∀ σ' H', Good σ' H' → t2 D σ' H') → t1 { D with nx := t2 D } σ H) (fin : ∀ σ' H', Good σ' H' → t2 D σ' H') : tSeq t1 t2 D σ H := h fin
end L2
namespace Bk
open PySem L2 K02
end Bk
namespace Bk
open PySem L2 K02
structure GF (os : List Cs) (m : Nat) (f : Fc) : Prop where
  k : nameC f.k = true
  as : ∀ a ∈ f.as, nameC a = true ∧ (great a = true → a ∈ os)
  n : f.as.length ≤ m
end Bk
namespace L2
theorem gname_go {i : Nat} {x : V} {σ : St} {H : Hp} {K : St → Hp → Prop} (h : K (σ.set i (some x)) H) : gName i x σ H K := h
end L2
namespace L2
end L2
namespace Bk
open PySem L2 K02
end Bk
/-! exceptions by name: except C as e; isinstance(e, C) -/
namespace PySem.W
open PySem PySem.Spec PySem.Calls PyProof.Rows Builtin Builtin.ObjectAttr Builtin.Getset_descriptor
theorem slot_ve_ga : Slot "ValueError" "__getattribute__" "BaseException.__getattribute__" :=
  .of (owner := "BaseException") (n := "__getattribute__") (by rw [typeLookup_type, builtinLookup_eq_fast]; kernel_rfl) (by decide +kernel) (by decide +kernel) (by decide +kernel)
    (by first | exact .inl (by decide +kernel) | exact .inr (by decide +kernel)) (by rw [isSubtype_type]; kernel_rfl)
structure ExcKit (K : Frag) (D : Addr) : Prop where
  ga : findIn K (.ref D) "__getattribute__" = some (some (.builtin "BaseException.__getattribute__"))
  gt : findIn K (.ref D) "__getattr__" = some none
  cl : findIn K (.ref D) "__class__" = some (some (.builtin "object.__class__"))
  hn : specialIn K (.builtin "object.__class__") "__get__" = some (some (.builtin "getset_descriptor.__get__"))
  hs : specialIn K (.builtin "object.__class__") "__set__" = some (some (.builtin "getset_descriptor.__set__"))
  mo : mroIn K D (.type "object") = some true
  mb : mroIn K D (.type "BaseException") = some true
  ic : isClsIn K D = true
section
variable {prog : Program} {w : World} {A : Around} {E : Value → Shared → Prop} {K : Frag} {x D : Addr} {ox : Obj}
theorem class_getE {tp : Value} {s : Shared} {R : Result → Shared → Prop} (X : K.In s.heap) (hx : s.heap.get? x = some ox) (hc : ox.cls = .ref D) (hm : mroIn K D (.type "object") = some true)
    (h : R (.ok (.ret (.ref D))) s) : codeAny (model prog w) A (.call (.builtin "getset_descriptor.__get__") ⟨[.builtin "object.__class__", .ref x, tp], []⟩) R s := by
  obtain ⟨hh, g, dr, t, os⟩ := s
  have L0 : Looks (model prog w) hh (typeOf (.ref x)) (.ref D) := by rw [← hc]; exact (Looks.ld hx).andThen .now
  have L1 := looks_mroIn (M := model prog w) X hm
  refine codeAny_call_builtin KF.slot_gs.plain KF.entry_gs (KF.slot_gs.check _ _ _ _ _ _ _ _ KF.type_class (KF.args_gs _ _ _) ?_)
  unfold Builtin.«getset_descriptor.__get__» descrGet
  rw [dga_obj]
  refine wpAny_bind (wpAny_pure ?_)
  unfold descrGetter descrCheckInstance descrNameAndClass isInstance
  simp only [KF.owner_class]
  repeat lk
  refine ⟨Code.quiet_builtin _ (by decide +kernel), codeAny_builtin KF.entry_class ?_⟩
  unfold Builtin.«object.__class__» shownTypeOf
  repeat lk
  exact h
theorem exc_class_entry {tk : Tok} {s : Shared} {Q : Fin → Shared → Prop} (Z : ExcKit K D) (X : K.In s.heap) (hx : s.heap.get? x = some ox) (hc : ox.cls = .ref D) (hnc : notCls ox = true) (h : Q (.done (.ret (.ref D))) s) :
    wpAny (model prog w) A (Builtin.«object.__getattribute__» ⟨[.ref x, .str "__class__" tk], []⟩) Q E s := by
  obtain ⟨hh, g, d, t, os⟩ := s
  have L0 : Looks (model prog w) hh (typeOf (.ref x)) (.ref D) := by rw [← hc]; exact (Looks.ld hx).andThen .now
  have L1 := looks_findIn (M := model prog w) X Z.cl
  have f5 : typeOf (Value.builtin "object.__class__") = pure (.type "getset_descriptor") := KF.type_class
  have hT5 : (⟨hh, g, d, t, os⟩ : Shared).TypeIs (.builtin "object.__class__") "getset_descriptor" := KF.type_class
  have f6 := F.slot_gs_get.lookup
  have f7 := F.slot_gs_set.lookup
  unfold Builtin.«object.__getattribute__»
  repeat (any_goals (first | assumption | with_reducible refine Looks.at (by assumption) ?_ | wp_step))
  refine class_getE X hx hc Z.mo ?_
  exact wpAny_pure h
theorem exc_ga_check {M : Model} {nameV : Value} {s : Shared} {Q : Unit → Shared → Prop} (Z : ExcKit K D) (X : K.In s.heap) (hx : s.heap.get? x = some ox) (hc : ox.cls = .ref D) (hq : Q () s) : wpAny M A (checkBuiltinCall "BaseException.__getattribute__" ⟨[.ref x, nameV], []⟩) Q E s := by
  obtain ⟨hh, g, d, t, os⟩ := s
  have hk : builtinKind "BaseException.__getattribute__" = some .slot := by decide +kernel
  have hsplit : splitId "BaseException.__getattribute__" = some ("BaseException", "__getattribute__") := by decide +kernel
  have L0 : Looks M hh (typeOf (.ref x)) (.ref D) := by rw [← hc]; exact (Looks.ld hx).andThen .now
  have L1 : Looks M hh (isSubtype (.ref D) (.type "BaseException")) true := looks_mroIn X Z.mb
  have LI : Looks M hh (isInstance (.ref x) (.type "BaseException")) true := L0.andThen L1
  have ha := F.args_bexc_ga (.ref x) nameV
  simp only [checkBuiltinCall, hk, hsplit]
  refine wpAny_bind (LI.at ?_)
  refine wpAny_ite_split (fun hab => absurd hab (by decide)) fun _ => ?_
  exact wpAny_of_eq ha hq
theorem exc_class {s : Shared} {Q : Option Value → Shared → Prop} (Z : ExcKit K D) (X : K.In s.heap) (hx : s.heap.get? x = some ox) (hc : ox.cls = .ref D) (hnc : notCls ox = true) (h : Q (some (.ref D)) { s with toks := s.toks + 1 }) :
    wpAny (model prog w) A (getAttr? (.ref x) "__class__") Q E s := by
  obtain ⟨hh, g, d, t, os⟩ := s
  have L0 : Looks (model prog w) hh (typeOf (.ref x)) (.ref D) := by rw [← hc]; exact (Looks.ld hx).andThen .now
  have L1 := looks_findIn (M := model prog w) X Z.ga
  have L2 := looks_findIn (M := model prog w) X Z.gt
  have hx2 : (Value.builtin "BaseException.__getattribute__" == Value.builtin "object.__getattribute__") = false := by decide +kernel
  have hx1 : (onTheHeap (Value.ref D) && Value.builtin "BaseException.__getattribute__" == Value.builtin "object.__getattribute__") = false := by rw [hx2]; rfl
  unfold getAttr? getAttrBy? getAttrBy
  refine wpAny_bind (wpAny_mkText (wpAny_bind (wpAny_attempt (wpAny_holding (wpAny_bind (L0.at (wpAny_bind (L1.at ?_))))))))
  dsimp only
  rw [hx1]
  refine wpAny_ite_split (fun hab => absurd hab (by decide)) fun _ => ?_
  unfold getAttrByItsOwn hookBefore
  have f3 := slot_ve_ga.bind (.ref x)
  refine wpAny_bind (show wpAny (model prog w) A (typeLookup (Value.ref D) (Str.ofString "__getattr__")) _ _ _ from L2.at ?_)
  refine wpAny_bind (wpAny_attempt (wpAny_holding ?_))
  unfold callGetattribute
  refine wpAny_ite_split (fun hab => absurd hab (by decide)) fun _ => ?_
  repeat (any_goals (first | assumption | wp_step))
  refine codeAny_call_builtin slot_ve_ga.plain F.entry_bexc_ga (exc_ga_check Z X hx hc (exc_class_entry Z X hx hc hnc ?_))
  exact handed_on rfl (wpAny_pure h)
theorem kitx_exc (Z : ExcKit K D) : KitX K (.ref x) (.ref D) (fun h => h.get? x = some ox ∧ ox.cls = .ref D ∧ notCls ox = true) where
  ty := fun _ _ _ p => by rw [← p.2.1]; exact (Looks.ld p.1).andThen .now
  it := fun _ _ X _ => by
    have hcD : (clsIn K D).isSome = true := Z.ic
    unfold clsIn at hcD
    split at hcD
    · rename_i c' d' cd' sl' ho
      intro A' Q' E' s' k q
      unfold isType loadHead
      exact wpAny_bind (wpAny_loadPart (k _ _ (X _ _ ho)) (wpAny_pure q))
    · cases hcD
  ne := fun h tp dd its n sl X htp => by
    have hcD : (clsIn K D).isSome = true := Z.ic
    refine Bool.eq_false_iff.mpr fun q => ?_
    have e : D = tp := Value.ref.inj (beq_iff_eq.mp q)
    subst e
    unfold clsIn at hcD
    split at hcD
    · rename_i c' d' cd' sl' ho
      have z := (X _ _ ho).symm.trans htp
      cases z
    · cases hcD
  ca := fun X p k => exc_class Z X p.1 p.2.1 p.2.2 k
end
end PySem.W
namespace L2
open PySem PySem.Spec PyProof.Rows
section
variable {X : Cx} {x : Addr} {oe : Obj} {cls : Value}
/-- isinstance(e, C) of the caught exception -/
def rIsE (K : PySem.W.Frag) (x : Addr) (cls : Value) : List V → Hp → VK → Prop := fun xs H Q => ∃ (y : V) (C : Value) (D : Addr) (b : Bool), xs = [.ref x, y] ∧ ((∃ c, y = .ref c ∧ C = .ref c) ∨ ∃ n, y = .ty n ∧ C = .type n) ∧ cls = .ref D ∧ PySem.W.ExcKit K D ∧ PySem.W.kitOne K (.ref D) C = some b ∧ Q (.bl b) H
theorem call_isE (hp : (x, oe) ∈ X.pn) (hc : oe.cls = cls) (hnc : PySem.W.notCls oe = true) : CallR X (.builtin "isinstance") (rIsE X.K x cls) := by
  intro pins s σ H xs us Q I r h
  obtain ⟨y, C, D, b, rfl, hy, e, Z, hk, q⟩ := h
  obtain ⟨u, u2, rfl, rx, ru⟩ := vals2 r
  cases (show u = Value.ref x from rx)
  have e2 : u2 = C := by
    rcases hy with ⟨c, rfl, rfl⟩ | ⟨n, rfl, rfl⟩
    · exact ru
    · exact ru
  subst e2
  have hx := (I.pin (x, oe) (List.mem_append_left _ hp)).1
  exact PySem.W.kia_one (PySem.W.kitx_exc (ox := oe) Z) I.kIn ⟨hx, hc.trans e, hnc⟩ hk (by intro z; cases z) fun tk => ⟨.bl b, H, I.tok _, rfl, q⟩
end
/-- the context of a suite that names the exception -/
abbrev suiteCxA (X : Cx) (x : Addr) (oe : Obj) : Cx := { X with A := X.A.mark (some (.ref x)), calm := false, pn := X.pn ++ [(x, oe)], xe := fun _ _ => False }
def tHA (K : PySem.W.Frag) (C : Value) (i : Nat) (ts : Addr → Value → TS) (tr : Value → TS) : Value → TS := fun cls D σ H => ∃ b, PySem.W.exmOne K cls C = some b ∧
  (b = true → ∀ x, ts x cls { nx := fun σ H => D.nx (σ.set i none) H, rt := D.rt, bk := fun σ H => D.bk (σ.set i none) H, ct := fun σ H => D.ct (σ.set i none) H } (σ.set i (some (.ref x))) H) ∧ (b = false → tr cls D σ H)
/-- del n of a local name -/
theorem del_ok {X : Cx} {pins : List (Addr × Obj)} {σ : St} {H : Hp} {s : Shared} {M : Model} {A : Around} {E : Value → Shared → Prop} {i : Nat} {n : Str} {Q : Bool → Shared → Prop} (I : Inv X pins σ H s) (hN : X.N.Nodup) (hi : X.N[i]? = some n) (hk : X.env.scope.names.lookup n = some .local)
    (hv : ∃ v, σ[i]? = some (some v)) (h : ∀ s', Inv X pins (σ.set i none) H s' → Q true s') : wpAny M A (nsDel X.env.locals n) Q E s := by
  obtain ⟨m, hn, hl⟩ := id I.loc
  have cne := I.cne
  obtain ⟨v0, hv0⟩ := hv
  have hmn : (m n).isSome = true := by
    obtain ⟨u, r, q⟩ := hl i n v0 hi hv0 (.inl hk)
    rcases q with ⟨_, e⟩ | ⟨k, c, e, z⟩
    · rw [e]; rfl
    · have hk' : X.env.kindOf n = some .local := hk
      rcases k with k | k <;> rw [hk'] at k <;> cases k
  refine wpAny_nsDel_keeps hn fun h' v hn' hs => ?_
  rw [hmn]
  have tracked : HOk X.prog X.w H h' := fun b ob e => by
    refine (I.hok b ob e).stay (fun c w' hc q => (hs.2 c ?_).trans q) (fun _ q => q) fun _ _ q => q
    rintro rfl
    rcases hc with rfl | hc
    · rw [I.free] at e; cases e
    · rw [I.free] at hc; cases hc
  refine h _ ⟨I.ok, I.os, I.bare, ⟨fun b o e nn hb hx => ?_, fun b o e nn hb hx => ?_, I.base.free, fun b o e hx => ?_, I.base.tups, I.base.frzs, I.base.tbls⟩, ⟨_, hn', fun j y v' e1 e2 e3 => ?_⟩, fun y c e => ?_, I.free, I.freeC, fun p hp => ?_, tracked, by rw [List.length_set]; exact I.len⟩
  · exact (hs.2 b (Nat.ne_of_lt (Nat.lt_of_lt_of_le (Heap.lt_size e) I.ok.above))).trans (I.base.keep b o e nn hb hx)
  · obtain ⟨sl, e1⟩ := I.base.slot b o e nn hb hx
    exact ⟨sl, (hs.2 b (Nat.ne_of_lt (Nat.lt_of_lt_of_le (Heap.lt_size e) I.ok.above))).trans e1⟩
  · obtain ⟨o', e1⟩ := I.base.there b o e hx
    exact ⟨o', (hs.2 b (Nat.ne_of_lt (Nat.lt_of_lt_of_le (Heap.lt_size e) I.ok.above))).trans e1⟩
  · by_cases hj : j = i
    · subst hj
      rw [List.getElem?_set_self (List.getElem?_eq_some_iff.mp hv0).1] at e2
      cases e2
    · rw [List.getElem?_set_ne (Ne.symm hj)] at e2
      obtain ⟨u', r', q⟩ := hl j y v' e1 e2 e3
      refine ⟨u', r', ?_⟩
      rcases q with ⟨k, e⟩ | ⟨k, c, e, z⟩
      · refine .inl ⟨k, ?_⟩
        have : y ≠ n := fun e => hj (nodup_ix hN e1 (e ▸ hi))
        simp [this, e]
      · exact .inr ⟨k, c, e, z.sameBut hs (cne y c e)⟩
  · obtain ⟨w', z⟩ := I.cell y c e
    exact ⟨w', z.sameBut hs (cne y c e)⟩
  · obtain ⟨e, nn, ne, nf, d⟩ := I.pin p hp
    exact ⟨(hs.2 p.1 ne).trans e, nn, ne, nf, d⟩
/-- the name goes behind the suite -/
theorem goes_ok {X : Cx} {pins : List (Addr × Obj)} {σ : St} {H : Hp} {s : Shared} {M : Model} {A : Around} {E : Value → Shared → Prop} {i : Nat} {n : Str} {pos : Pos} {Q : Unit → Shared → Prop} (I : Inv X pins σ H s) (hN : X.N.Nodup) (hi : X.N[i]? = some n) (hk : X.env.scope.names.lookup n = some .local)
    (h : ∀ s', Inv X pins (σ.set i none) H s' → Q () s') : wpAny M A (do bindName X.env n .none; unbindBehindTheSuite X.env n pos) Q E s := by
  have hp : (X.env.scope.kind == .class || (X.env.scope.kind == .module && X.env.locals != X.env.globals)) = false := by rw [I.ok.kind]; rfl
  have hl : X.env.kindOf n = some .local := hk
  have hiσ : i < σ.length := by rw [I.len]; exact (List.getElem?_eq_some_iff.mp hi).1
  refine wpAny_bind (wpAny_bindName (store_ok (v := .non) I hN hi (.inl hk) rfl (fun s1 I1 => ?_) (.inr hk)))
  unfold unbindBehindTheSuite
  refine wpAny_onRaise ?_
  unfold unbindName
  refine wpAny_bind (wpAny_point (wpAny_bind ?_))
  unfold deleteName
  simp only [hl, hp]
  rw [if_neg (by decide)]
  refine wpAny_bind (del_ok I1 hN hi hk ⟨.non, List.getElem?_set_self hiσ⟩ fun s2 I2 => ?_)
  simp only [Bool.not_true, Bool.false_eq_true, if_false]
  rw [List.set_set] at I2
  exact wpAny_pure (wpAny_point (h _ I2))
theorem ph_as {X : Cx} {C : Value} {nm n : Str} {i : Nat} {np pos : Pos} {b₀ : Stmt} {body : List Stmt} {rest : List ExceptHandler} {ts : Addr → Value → TS} {tr : Value → TS} (hN : X.N.Nodup) (hi : X.N[i]? = some n) (hx : X.env.scope.names.lookup n = some .local)
    (hg : Gl X nm) (hm : X.mg nm = some C) (hs : ∀ a oe cls, oe.cls = cls → PySem.W.notCls oe = true → PSs (suiteCxA X a oe) (b₀ :: body) (ts a cls)) (hr : PH X rest tr)
    (hdb : (nm == ("__debug__" : Str)) = false := by decide) : PH X (.ExceptHandler (some (.Name nm np)) (some n) (b₀ :: body) pos :: rest) (tHA X.K C i ts tr) := by
  intro pins s σ H D x cls B a0 L h
  obtain ⟨b, eb, ht, hf⟩ := h
  have I : Inv X pins σ H s := L.land s.heap (Heap.UpToSlots.of_keeps fun _ _ q => q) L.fl.1
  have Is : Inv (suiteCx X x) pins σ H s := I.cx rfl (fun z => nomatch z) fun _ q => q
  obtain ⟨oe, he, hc⟩ := L.fl.there
  have lt : PySem.W.Looks (model X.prog X.w) s.heap (typeOf (.ref x)) cls := by
    subst hc
    exact (PySem.W.Looks.ld he).andThen .now
  refine wpAny_handleBy_cons (codeAny_handlers_test (ld_glob (X := suiteCx X x) Is hg hm ((PySem.W.exm_one I.kIn lt eb).here ?_) hdb)) (by intro q; cases q)
  cases b with
  | false => exact hr pins s σ H D x cls B a0 L (hf rfl)
  | true =>
    refine codeAny_handlers_suite_as (lands_againW L.fl fun h' fl' sm => ?_)
    have I' : Inv X pins σ H { s with heap := h' } := L.land h' sm fl'.1
    obtain ⟨oe', vs', he', hc', hd', _⟩ := fl'.first
    have hnc' : PySem.W.notCls oe' = true := by
      unfold PySem.W.notCls
      rw [hd']
    have hfrm : ∀ b ∈ frs X.stack, b ≠ x := fun b hb e => by
      obtain ⟨_, o2, e2, hd2⟩ := fl'.2.2.1.mem hb
      rw [e, he'] at e2
      cases e2
      exact absurd hd' (hd2 _)
    have hxs : x ∉ frs X.stack := fun hm => hfrm x hm rfl
    have hloc : x ≠ X.env.locals := fun e => by
      obtain ⟨m, ⟨o, es, ep, ho, hdd, _⟩, _⟩ := I'.loc
      have ho : h'.get? X.env.locals = some o := ho
      rw [← e, he'] at ho
      cases ho
      rw [hd'] at hdd
      cases hdd
    have hfs : x ∉ X.fs := fun hm => by
      rcases I.ok.stk with z | ⟨z, _⟩
      · exact hxs (by rw [z]; exact hm)
      · refine hxs ?_
        rw [z]
        unfold frs
        rw [List.filterMap_cons]
        split
        · exact hm
        · exact List.mem_cons_of_mem _ hm
    have I2 : Inv (suiteCxA X x oe') pins σ H { s with heap := h' } :=
      ⟨I'.ok.cx rfl (fun z => nomatch z), I'.os, I'.bare, I'.base, I'.loc, I'.cell, I'.free, I'.freeC, (fun p hp => by
        rcases List.mem_append.mp hp with q | q
        · rcases List.mem_append.mp q with q | q
          · exact I'.pin p (List.mem_append_left _ q)
          · have e := List.mem_singleton.mp q
            subst e
            exact ⟨he', L.fr, hloc, hfs, fun v z => by rw [hd'] at z; cases z⟩
        · exact I'.pin p (List.mem_append_right _ q)), I'.hok, I'.len⟩
    refine store_ok (X := suiteCxA X x oe') (v := .ref x) I2 hN hi (.inl hx) rfl (fun s1 I3 => ?_) (.inr hx)
    refine wpAny_mono (hs x oe' cls hc' hnc' pins _ _ H _ I3 (ht rfl x)) (fun fw s2 q => ?_) fun _ _ z => False.elim z
    have back : ∀ {σ' : St} {H' : Hp}, Inv (suiteCxA X x oe') pins σ' H' s2 → Inv X pins σ' H' s2 := fun {σ' H'} J => J.cx (X := suiteCxA X x oe') (A' := X.A) rfl I.ok.hd fun p z => by
      rcases List.mem_append.mp z with q | q
      · exact List.mem_append_left _ (List.mem_append_left _ q)
      · exact List.mem_append_right _ q
    dsimp only
    cases fw with
    | next =>
      obtain ⟨σ', H', J, q⟩ := q
      exact goes_ok (back J) hN hi hx fun s' J' => ⟨_, H', J', q⟩
    | brk =>
      obtain ⟨σ', H', J, q⟩ := q
      exact goes_ok (back J) hN hi hx fun s' J' => ⟨_, H', J', q⟩
    | cont =>
      obtain ⟨σ', H', J, q⟩ := q
      exact goes_ok (back J) hN hi hx fun s' J' => ⟨_, H', J', q⟩
    | ret u =>
      obtain ⟨v, σ', H', J, r, q⟩ := q
      exact goes_ok (back J) hN hi hx fun s' J' => ⟨v, _, H', J', r, q⟩
end L2
/-! f'.. {x!r}' of a text, of a list of texts -/
namespace L2
open PySem PySem.Spec PyProof.Rows
section
variable {X : Cx} {e : Expr} {te : TE} {pre : Str} {j : Nat} {p1 p2 p3 : Pos}
def tFrepS (te : TE) : TE := fun σ H Q => te σ H fun y H1 => ∃ z, y = .str z ∧ z.length ≤ 50000 ∧ (∀ c ∈ z.cps.toList, c < 16 ^ 8) ∧ ∀ x, Q (.str x) H1
theorem pe_frepS (he : PE X e te) (hp : pre.length ≤ 1000 := by decide) : PE X (.JoinedStr [.Constant (.str pre) j p1, .FormattedValue e 114 none p2] p3) (tFrepS te) := by
  intro pins s σ H Q I h
  refine wpAny_JoinedStr ?_
  refine Calls.Constant_str ⟨pre, _, rfl, ?_, ?_⟩
  · show (Str.empty ++ pre).length ≤ sizeLine
    rw [strLen_append, sizeLine_eq]
    have : Str.empty.length = 0 := rfl
    omega
  refine wpAny_FormattedValue_repr (thn (he pins _ σ H _ (I.tok _) h) fun u s1 ⟨y, H1, I1, r1, z, ez, hz, hc, q⟩ => ?_)
  subst ez
  obtain ⟨t, rfl⟩ := r1
  have hl := StrLaws.reprText_len z hc
  have hlen : (Str.empty ++ pre ++ reprText z).length ≤ sizeLine := by
    rw [strLen_append, strLen_append, sizeLine_eq]
    have : Str.empty.length = 0 := rfl
    omega
  refine wpAny_pyReprObj_str ?_ (by rw [sizeLine_eq]; omega)
  exact wpAny_formatField_str ⟨_, _, rfl, hlen, hlen, .str _, H1, (I1.tok _).tok _, ⟨_, rfl⟩, q _⟩ ⟨_, _, rfl, hlen, hlen, .str _, H1, ((I1.tok _).tok _).tok _, ⟨_, rfl⟩, q _⟩ (by rw [sizeLine_eq]; omega)
theorem shown_texts : ∀ (as : List Str), (∀ a ∈ as, a.length ≤ 20000 ∧ ∀ c ∈ a.cps.toList, c < 16 ^ 8) → PyData.showableAll (as.map PyData.str) = true ∧ ((PyData.shownAll (as.map PyData.str)).map (·.length)).sum ≤ 10 * (as.map (·.length)).sum + 2 * as.length ∧ (PyData.shownAll (as.map PyData.str)).length = as.length
  | [], _ => ⟨rfl, Nat.le_refl _, rfl⟩
  | a :: r, h => by
    obtain ⟨z1, z2, z3⟩ := shown_texts r fun b hb => h b (List.mem_cons_of_mem _ hb)
    have ha := h a (List.mem_cons_self ..)
    have y := StrLaws.reprText_len a ha.2
    refine ⟨z1, ?_, ?_⟩
    · show (reprText a).length + ((PyData.shownAll (r.map PyData.str)).map (·.length)).sum ≤ 10 * (a.length + (r.map (·.length)).sum) + 2 * (r.length + 1)
      omega
    · show (PyData.shownAll (r.map PyData.str)).length + 1 = r.length + 1
      omega
theorem reads_strs {s : Shared} : ∀ {as : List Str} {its : List Value}, Vals (as.map V.str) its → ∃ bs, ReadsAll s.heap its (as.map PyData.str) bs
  | [], _, .nil => ⟨_, .nil⟩
  | a :: r, _, .cons h t => by
    obtain ⟨tk, rfl⟩ := h
    obtain ⟨bs, z⟩ := reads_strs t
    exact ⟨_, .cons (.str a tk) z⟩
def tFrepL (K : PySem.W.Frag) (te : TE) : TE := fun σ H Q => te σ H fun y H1 => ∃ (a : Addr) (as : List Str), y = .ref a ∧ SqL K H1 a (as.map V.str) ∧ (∀ b ∈ as, b.length ≤ 20000 ∧ ∀ c ∈ b.cps.toList, c < 16 ^ 8) ∧ (as.map (·.length)).sum ≤ 50000 ∧ as.length ≤ 50000 ∧ ∀ x, Q (.str x) H1
theorem pe_frepL (hg : X.A.guards = some []) (hu : X.A.units + 64 < cLine) (he : PE X e te) (hp : pre.length ≤ 1000 := by decide) : PE X (.JoinedStr [.Constant (.str pre) j p1, .FormattedValue e 114 none p2] p3) (tFrepL X.K te) := by
  intro pins s σ H Q I h
  refine wpAny_JoinedStr ?_
  refine Calls.Constant_str ⟨pre, _, rfl, ?_, ?_⟩
  · show (Str.empty ++ pre).length ≤ sizeLine
    rw [strLen_append, sizeLine_eq]
    have : Str.empty.length = 0 := rfl
    omega
  refine wpAny_FormattedValue_repr (thn (he pins _ σ H _ (I.tok _) h) fun u s1 ⟨y, H1, I1, r1, a, as, ey, hL, hb, hsum, hlen, q⟩ => ?_)
  subst ey
  cases (show u = Value.ref a from r1)
  obtain ⟨its, rv, ⟨o1, n1, p1, c1, d1, f1⟩, _⟩ := I1.list hL
  obtain ⟨bs, rd⟩ := reads_strs (s := s1) rv
  obtain ⟨w1, w2, w3⟩ := shown_texts as hb
  have hR : Reads s1.heap (.ref a) (.list (as.map PyData.str)) (a :: bs) := .list p1 c1 (by assumption) (by simpa using rd)
  have hsh : (PyData.list (as.map PyData.str)).shown.length ≤ 1000000 := by
    show (listText (PyData.shownAll (as.map PyData.str))).length ≤ 1000000
    have z := listText_len_le (PyData.shownAll (as.map PyData.str))
    omega
  have hdp : (PyData.list (as.map PyData.str)).depth ≤ 1 := by
    show PyData.depthAll (as.map PyData.str) + 1 ≤ 1
    have z : ∀ l : List Str, PyData.depthAll (l.map PyData.str) = 0 := fun l => by
      induction l with
      | nil => rfl
      | cons b r ih => show max 0 (PyData.depthAll (r.map PyData.str)) = 0; rw [ih]; rfl
    rw [z]
    decide
  have hnd : (PyData.list (as.map PyData.str)).hasDict = false := by
    show PyData.hasDictAll (as.map PyData.str) = false
    have z : ∀ l : List Str, PyData.hasDictAll (l.map PyData.str) = false := fun l => by
      induction l with
      | nil => rfl
      | cons b r ih => show (false || PyData.hasDictAll (r.map PyData.str)) = false; rw [ih]; rfl
    exact z as
  have hlen2 : (Str.empty ++ pre ++ (PyData.list (as.map PyData.str)).shown).length ≤ sizeLine := by
    rw [strLen_append, strLen_append, sizeLine_eq]
    have : Str.empty.length = 0 := rfl
    omega
  refine pyReprObj_of_reads hR w1 (fun z => by rw [hnd] at z; cases z) hg (by omega) (fun _ _ z => z) (fun h' tk t' kp => ?_) (by rw [sizeLine_eq]; omega)
  exact wpAny_formatField_str ⟨_, _, rfl, hlen2, hlen2, .str _, H1, I1.kept kp, ⟨_, rfl⟩, q _⟩ ⟨_, _, rfl, hlen2, hlen2, .str _, H1, I1.kept kp, ⟨_, rfl⟩, q _⟩ (by rw [sizeLine_eq]; omega)
end
end L2
/-! reading with refusal: what is read of a row of pieces, or nothing -/
namespace Bk
open PySem L2 K02
def argsO (l : List Cs) : Option (List Cs × Nat) := if l.getD 0 [] = [41] then some ([], 1) else argsL l
def factO (l : List Cs) : Option (Fc × Nat) := if smallC (l.getD 0 []) = true then (if l.getD 1 [] = [40] then (argsO (l.drop 2)).map fun q => (⟨l.getD 0 [], q.1⟩, q.2 + 2) else some (⟨l.getD 0 [], []⟩, 1)) else none
def rowO : Nat → List Cs → Option (List Fc)
  | 0, _ => none
  | f + 1, l => (factO l).bind fun q => if q.2 = l.length then some [q.1] else if l.getD q.2 [] = [44] then (rowO f (l.drop (q.2 + 1))).map (q.1 :: ·) else none
structure TokOk (ps : List Cs) : Prop where
  n : ps.length ≤ 20000
  sum : (ps.map List.length).sum ≤ 20000
  cod : ∀ p ∈ ps, ∀ c ∈ p, c < 16 ^ 8
theorem len_of_sum : ∀ {ps : List Cs} {p : Cs}, p ∈ ps → p.length ≤ (ps.map List.length).sum
  | q :: r, p, h => by
    rw [List.map_cons, List.sum_cons]
    rcases List.mem_cons.mp h with rfl | h
    · omega
    · have := len_of_sum h; omega
theorem TokOk.at {ps : List Cs} (h : TokOk ps) (i : Nat) : (ps.getD i []).length ≤ 20000 ∧ ∀ c ∈ ps.getD i [], c < 16 ^ 8 := by
  rw [List.getD_eq_getElem?_getD]
  cases e : ps[i]? with
  | none => exact ⟨Nat.zero_le _, fun c hc => nomatch hc⟩
  | some p =>
    have hm := List.mem_of_getElem? e
    exact ⟨Nat.le_trans (len_of_sum hm) h.sum, h.cod p hm⟩
theorem toksF_sum : ∀ (l cur : Cs), ((toksF l cur).map List.length).sum ≤ l.length + cur.length
  | [], cur => by
    show ((shut cur []).map List.length).sum ≤ _
    unfold shut
    by_cases h : cur = [] <;> simp [h]
  | c :: r, cur => by
    show ((if isAl c = true then toksF r (cur ++ [c]) else shut cur (if c = 32 then toksF r [] else [c] :: toksF r [])).map List.length).sum ≤ _
    have e1 := toksF_sum r (cur ++ [c])
    have e2 := toksF_sum r []
    rw [List.length_append, List.length_singleton] at e1
    rw [List.length_nil] at e2
    by_cases ha : isAl c = true
    · rw [if_pos ha, List.length_cons]
      omega
    · rw [if_neg ha, List.length_cons]
      unfold shut
      by_cases h : cur = [] <;> by_cases h2 : c = 32 <;> simp [h, h2] <;> omega
theorem toksF_mem : ∀ (l cur : Cs), ∀ p ∈ toksF l cur, ∀ c ∈ p, c ∈ l ∨ c ∈ cur
  | [], cur, p, hp, c, hc => by
    have hp' : p ∈ shut cur [] := hp
    unfold shut at hp'
    by_cases h : cur = []
    · rw [if_pos h] at hp'; cases hp'
    · rw [if_neg h] at hp'
      rw [List.mem_singleton.mp hp'] at hc
      exact .inr hc
  | d :: r, cur, p, hp, c, hc => by
    have hp' : p ∈ (if isAl d = true then toksF r (cur ++ [d]) else shut cur (if d = 32 then toksF r [] else [d] :: toksF r [])) := hp
    by_cases ha : isAl d = true
    · rw [if_pos ha] at hp'
      rcases toksF_mem r _ p hp' c hc with z | z
      · exact .inl (List.mem_cons_of_mem _ z)
      · rcases List.mem_append.mp z with z | z
        · exact .inr z
        · rw [List.mem_singleton.mp z]; exact .inl (List.mem_cons_self ..)
    · rw [if_neg ha] at hp'
      have key : p ∈ (if d = 32 then toksF r [] else [d] :: toksF r []) → c ∈ d :: r ∨ c ∈ cur := fun hp' => by
        by_cases h2 : d = 32
        · rw [if_pos h2] at hp'
          rcases toksF_mem r _ p hp' c hc with z | z
          · exact .inl (List.mem_cons_of_mem _ z)
          · cases z
        · rw [if_neg h2] at hp'
          rcases List.mem_cons.mp hp' with rfl | hp'
          · rw [List.mem_singleton.mp hc]; exact .inl (List.mem_cons_self ..)
          · rcases toksF_mem r _ p hp' c hc with z | z
            · exact .inl (List.mem_cons_of_mem _ z)
            · cases z
      unfold shut at hp'
      by_cases h : cur = []
      · rw [if_pos h] at hp'; exact key hp'
      · rw [if_neg h] at hp'
        rcases List.mem_cons.mp hp' with rfl | hp'
        · exact .inr hc
        · exact key hp'
theorem TokOk.of {l : Cs} (h : l.length ≤ 20000) (hc : ∀ c ∈ l, c < 16 ^ 8) : TokOk (toks l) := by
  refine ⟨Nat.le_trans (toks_len l) h, ?_, fun p hp c hcp => ?_⟩
  · have z := toksF_sum l []
    rw [List.length_nil] at z
    exact Nat.le_trans z h
  · rcases toksF_mem l [] p hp c hcp with z | z
    · exact hc c z
    · cases z
/-- refused with C, whatever is new -/
def Ref (C : Addr) (H : Hp) (E : XK) : Prop := ∀ H', Same H H' → E (.ref C) none H'
theorem Ref.sm {C : Addr} {H H' : Hp} {E : XK} (h : Ref C H E) (s : Same H H') : Ref C H' E := fun H2 s2 => h H2 (Same.trans s s2)
def spPiecesE (C : Addr) : Sp := fun vs H Q E => ∃ x m, vs = [.str x, .str m] ∧ x.length ≤ 20000 ∧ (∀ c ∈ x.cps.toList, c < 16 ^ 8) ∧ 32 ∉ m.cps.toList ∧ (x.cps.toList.all (okS m) = false → Ref C H E) ∧
  (x.cps.toList.all (okS m) = true → ∀ (l : Addr) (H' : Hp), Same H H' → H l = none → H' l = some (.lst ((toks x.cps.toList).map tx)) → Q (.ref l) H')
def spArgsE (C : Addr) : Sp := fun vs H Q E => ∃ (l : Addr) (ps : List Cs) (p : Nat), vs = [.ref l, .int p] ∧ H l = some (.lst (ps.map tx)) ∧ TokOk ps ∧ (argsO (ps.drop p) = none → Ref C H E) ∧
  ∀ as n, argsO (ps.drop p) = some (as, n) → ∀ (t t2 : Addr) (H' : Hp), Same H H' → H' t = some (.tup [.ref t2, .int ((p + n : Nat) : Int)]) → H' t2 = some (.tup (as.map tx)) → Q (.ref t) H'
def spFactE (C : Addr) : Sp := fun vs H Q E => ∃ (l : Addr) (ps : List Cs) (p : Nat), vs = [.ref l, .int p] ∧ H l = some (.lst (ps.map tx)) ∧ TokOk ps ∧ (factO (ps.drop p) = none → Ref C H E) ∧
  ∀ g n, factO (ps.drop p) = some (g, n) → ∀ (t t1 t2 : Addr) (H' : Hp), Same H H' → H' t = some (.tup [.ref t1, .int ((p + n : Nat) : Int)]) → H' t1 = some (.tup [tx g.k, .ref t2]) → H' t2 = some (.tup (g.as.map tx)) → Q (.ref t) H'
def spRowE (K : PySem.W.Frag) (C : Addr) : Sp := fun vs H Q E => ∃ (l : Addr) (ps : List Cs), vs = [.ref l] ∧ H l = some (.lst (ps.map tx)) ∧ TokOk ps ∧ (rowO (ps.length + 1) ps = none → Ref C H E) ∧
  ∀ fs, rowO (ps.length + 1) ps = some fs → ∀ v H', Same H H' → Facts K H H' v fs → Q v H'
/-- what a text reads as: of one fact, of a row of facts -/
def oneX (mk : Str) (x : Cs) : Option Fc := if x.all (okS mk) = true then (factO (toks x)).bind fun q => if q.2 = (toks x).length then some q.1 else none else none
def rowX (mk : Str) (x : Cs) : Option (List Fc) := if x.all (okS mk) = true then (if toks x = [] then some [] else rowO ((toks x).length + 1) (toks x)) else none
def spReadF (K : PySem.W.Frag) (C : Addr) (mk : Str) : Sp := fun vs H Q E => ∃ x, vs = [.str x] ∧ x.length ≤ 20000 ∧ (∀ c ∈ x.cps.toList, c < 16 ^ 8) ∧ (oneX mk x.cps.toList = none → Ref C H E) ∧
  ∀ g, oneX mk x.cps.toList = some g → ∀ (t1 t2 : Addr) (H' : Hp), Same H H' → H' t1 = some (.tup [tx g.k, .ref t2]) → H' t2 = some (.tup (g.as.map tx)) → Q (.ref t1) H'
def spReadR (K : PySem.W.Frag) (C : Addr) (mk : Str) : Sp := fun vs H Q E => ∃ x, vs = [.str x] ∧ x.length ≤ 20000 ∧ (∀ c ∈ x.cps.toList, c < 16 ^ 8) ∧ (rowX mk x.cps.toList = none → Ref C H E) ∧
  ∀ fs, rowX mk x.cps.toList = some fs → ∀ v H', Same H H' → Facts K H H' v fs → Q v H'
/-! ### the walk of the arguments -/
theorem argsL_none1 {l : List Cs} (h : nameC (l.getD 0 []) = false) : argsL l = none := by
  match l, h with
  | [], _ => rfl
  | [_], _ => rfl
  | a :: m :: r, h =>
    show (if nameC a = true then _ else none) = none
    rw [if_neg (by rw [show nameC a = false from h]; decide)]
theorem argsL_step {l : List Cs} (h : nameC (l.getD 0 []) = true) : argsL l = if l.getD 1 [] = [41] then some ([l.getD 0 []], 2) else if l.getD 1 [] = [44] then (argsL (l.drop 2)).map fun q => (l.getD 0 [] :: q.1, q.2 + 2) else none := by
  match l, h with
  | [], h => exact absurd h (by decide)
  | [a], h => rfl
  | a :: m :: r, h =>
    show (if nameC a = true then _ else none) = _
    rw [if_pos (show nameC a = true from h)]
    rfl
theorem argsL_le : ∀ (k : Nat) (l : List Cs), l.length ≤ k → ∀ as n, argsL l = some (as, n) → 1 ≤ n ∧ n ≤ l.length
  | 0, [], _, _, _, h => nomatch h
  | k + 1, [], _, _, _, h => nomatch h
  | k + 1, [_], _, _, _, h => nomatch h
  | k + 1, a :: m :: r, hk, as, n, h => by
    obtain ⟨nm, mk, r', e, _, q⟩ := argsL_inv h
    cases e
    rcases q with ⟨_, _, rfl⟩ | ⟨_, as', n', h', _, rfl⟩
    · simp
    · have z := argsL_le k r (by simp only [List.length_cons] at hk; omega) _ _ h'
      simp only [List.length_cons]
      omega
theorem argsO_le {l : List Cs} {as : List Cs} {n : Nat} (h : argsO l = some (as, n)) : 1 ≤ n ∧ n ≤ l.length := by
  unfold argsO at h
  by_cases h0 : l.getD 0 [] = [41]
  · rw [if_pos h0] at h
    cases h
    cases l with
    | nil => cases h0
    | cons a r => simp
  · rw [if_neg h0] at h
    exact argsL_le _ _ (Nat.le_refl _) _ _ h
theorem small_len {l : List Cs} (h : smallC (l.getD 0 []) = true) : 1 ≤ l.length := by
  cases l with
  | nil => exact absurd h (by decide)
  | cons a r => simp
theorem factO_le {l : List Cs} {g : Fc} {n : Nat} (h : factO l = some (g, n)) : 1 ≤ n ∧ n ≤ l.length := by
  unfold factO at h
  by_cases h0 : smallC (l.getD 0 []) = true
  · rw [if_pos h0] at h
    have h1 := small_len h0
    by_cases h2 : l.getD 1 [] = [40]
    · rw [if_pos h2] at h
      obtain ⟨q, e, z⟩ := Option.map_eq_some_iff.mp h
      cases z
      have := argsO_le (as := q.1) (n := q.2) e
      rw [List.length_drop] at this
      omega
    · rw [if_neg h2] at h
      cases h
      omega
  · rw [if_neg h0] at h
    cases h
theorem names_okS {mk : Str} (l : Cs) : l.all (okS mk) = (l.drop (nameLen l)).all (okS mk) := by
  induction l with
  | nil => rfl
  | cons c r ih =>
    rw [nameLen_cons]
    by_cases h : isAl c = true
    · rw [if_pos h, List.drop_succ_cons, List.all_cons, ← ih]
      have : okS mk c = true := by unfold okS; rw [h]; rfl
      rw [this, Bool.true_and]
    · rw [if_neg h]
      rfl
/-- the walks' states -/
def piecesV (x m : Str) (l : Addr) (H : Hp) (n : Nat) (σ : St) (H' : Hp) : Prop := ∃ (p : Nat) (done : List Cs) (o3 o4 : Option V), n = x.length - p ∧ σ = [some (.str x), some (.str m), some (.ref l), some (.int p), o3, o4] ∧ p ≤ x.length ∧ Same H H' ∧ H' l = some (.lst (done.map tx)) ∧ done ++ toks (x.cps.toList.drop p) = toks x.cps.toList ∧ x.cps.toList.all (okS m) = (x.cps.toList.drop p).all (okS m)
def argsV (l ln : Addr) (ps : List Cs) (o : Option (List Cs × Nat)) (p0 : Nat) (H : Hp) (m : Nat) (σ : St) (H' : Hp) : Prop := ∃ (p : Nat) (done : List Cs) (o3 o4 : Option V), m = (ps.drop p).length ∧ σ = [some (.ref l), some (.int p), some (.ref ln), o3, o4] ∧ Same H H' ∧ H' l = some (.lst (ps.map tx)) ∧ H' ln = some (.lst (done.map tx)) ∧ p0 ≤ p ∧ o = (argsL (ps.drop p)).map (fun q => (done ++ q.1, p - p0 + q.2)) ∧ done.length + (ps.drop p).length ≤ 20000
def rowV (K : PySem.W.Frag) (l lf : Addr) (ps : List Cs) (o : Option (List Fc)) (H : Hp) (m : Nat) (σ : St) (H' : Hp) : Prop := ∃ (p f : Nat) (done : List Fc) (vs : List V) (o3 : Option V), m = (ps.drop p).length ∧ σ = [some (.ref l), some (.ref lf), some (.int p), o3] ∧ Same H H' ∧ H' l = some (.lst (ps.map tx)) ∧ H' lf = some (.lst vs) ∧ Paired (Fact K H') done vs ∧ (ps.drop p).length < f ∧ o = (rowO f (ps.drop p)).map (done ++ ·) ∧ done.length + (ps.drop p).length ≤ 20000
end Bk
/-! k03, the pure part: the program's reading (pieces, then facts) and the law's (sign by sign) are one -/
namespace R3
abbrev Cs := List Nat
inductive Tk where
  | nm (w : Cs) | lp | rp | cm
abbrev Fc := Bk.Fc
variable (isN sm : Nat → Bool)
def flush (w : Cs) : List Tk := if w = [] then [] else [.nm w]
def tk : Cs → Cs → Option (List Tk)
  | [], w => some (flush w)
  | c :: r, w =>
    if isN c = true then tk r (w ++ [c])
    else if c = 40 then (tk r []).map fun t => flush w ++ .lp :: t
    else if c = 41 then (tk r []).map fun t => flush w ++ .rp :: t
    else if c = 44 then (tk r []).map fun t => flush w ++ .cm :: t
    else if c = 32 then (tk r []).map fun t => flush w ++ t
    else none
def okA (v : Cs) : Bool := decide (v.length ≤ 12)
def okK (w : Cs) : Bool := okA w && (match w with | [] => false | c :: _ => sm c)
/-- the arguments, where a name is wanted -/
def args : List Tk → List Cs → Option (List Cs × List Tk)
  | .nm v :: .rp :: t, as => if okA v = true then some (as ++ [v], t) else none
  | .nm v :: .cm :: t, as => if okA v = true then args t (as ++ [v]) else none
  | _, _ => none
/-- behind a kind's name -/
def behindK (k : Cs) : List Tk → Option (Fc × List Tk)
  | .lp :: .rp :: t => some (⟨k, []⟩, t)
  | .lp :: t => (args t []).map fun q => (⟨k, q.1⟩, q.2)
  | t => some (⟨k, []⟩, t)
def fact1 : List Tk → Option (Fc × List Tk)
  | .nm k :: t => if okK sm k = true then behindK k t else none
  | _ => none
/-- behind a fact; where a fact is wanted -/
def row : Nat → List Tk → List Fc → Option (List Fc)
  | 0, _, _ => none
  | f + 1, t, fs => match fact1 sm t with
    | none => none
    | some (x, []) => some (fs ++ [x])
    | some (x, .cm :: t') => row f t' (fs ++ [x])
    | some (_, _) => none
def behind (f : Nat) (fs : List Fc) (q : Option (Fc × List Tk)) : Option (List Fc) := match q with
    | none => none
    | some (x, []) => some (fs ++ [x])
    | some (x, .cm :: t') => row sm f t' (fs ++ [x])
    | some (_, _) => none
theorem row_succ (f : Nat) (t : List Tk) (fs : List Fc) : row sm (f + 1) t fs = behind sm f fs (fact1 sm t) := by
  unfold row behind
  rfl
/-! the law's -/
def lnext (st c : Nat) : Option Nat :=
  let n := isN c
  match st with
  | 0 => if c = 32 then some 0 else if n = true then some 1 else none
  | 1 => if n = true then some 1 else if c = 32 then some 2 else if c = 40 then some 3 else if c = 44 then some 0 else none
  | 2 => if c = 32 then some 2 else if c = 40 then some 3 else if c = 44 then some 0 else none
  | 3 => if c = 32 then some 3 else if n = true then some 4 else if c = 41 then some 7 else none
  | 4 => if n = true then some 4 else if c = 32 then some 5 else if c = 44 then some 6 else if c = 41 then some 7 else none
  | 5 => if c = 32 then some 5 else if c = 44 then some 6 else if c = 41 then some 7 else none
  | 6 => if c = 32 then some 6 else if n = true then some 4 else none
  | 7 => if c = 32 then some 7 else if c = 44 then some 0 else none
  | _ => none
def okW (k : Cs) (as : List Cs) : Bool := okK sm k && as.all okA
/-- st: the state; k: the kind's name so far; as: the arguments so far, the last one growing in state 4 -/
def lrun : Cs → Nat → Cs → List Cs → List Fc → Option (List Fc)
  | [], st, _, _, fs => if st = 0 then some fs else none
  | c :: r, st, k, as, fs => match lnext isN st c with
    | none => none
    | some 1 => if st = 1 then lrun r 1 (k ++ [c]) [] fs else lrun r 1 [c] [] fs
    | some 4 => if st = 4 then lrun r 4 k (as.dropLast ++ [as.getLastD [] ++ [c]]) fs else lrun r 4 k (as ++ [[c]]) fs
    | some 0 => if st = 0 then lrun r 0 k as fs else if okW sm k as = true then lrun r 0 k as (fs ++ [⟨k, as⟩]) else none
    | some st' => lrun r st' k as fs
structure Sg : Prop where
  n32 : isN 32 = false
  n40 : isN 40 = false
  n41 : isN 41 = false
  n44 : isN 44 = false
def afterA (k : Cs) (as : List Cs) : List Tk → Option (Fc × List Tk)
  | .rp :: t => some (⟨k, as⟩, t)
  | .cm :: t => (args t as).map fun q => (⟨k, q.1⟩, q.2)
  | _ => none
structure All (r : Cs) : Prop where
  s0 : ∀ k as fs f, r.length < f → lrun isN sm (r ++ [44]) 0 k as fs = (tk isN r []).bind fun t => row sm f t fs
  s1 : ∀ k fs f, r.length < f → k ≠ [] → lrun isN sm (r ++ [44]) 1 k [] fs = (tk isN r k).bind fun t => row sm (f + 1) t fs
  s2 : ∀ k fs f, r.length < f → lrun isN sm (r ++ [44]) 2 k [] fs = if okK sm k = true then (tk isN r []).bind fun t => behind sm f fs (behindK k t) else none
  s3 : ∀ k fs f, r.length < f → lrun isN sm (r ++ [44]) 3 k [] fs = if okK sm k = true then (tk isN r []).bind fun t => behind sm f fs (behindK k (.lp :: t)) else none
  s4 : ∀ k as v fs f, r.length < f → v ≠ [] → lrun isN sm (r ++ [44]) 4 k (as ++ [v]) fs = if okW sm k as = true then (tk isN r v).bind fun t => behind sm f fs ((args t as).map fun q => (⟨k, q.1⟩, q.2)) else none
  s5 : ∀ k as fs f, r.length < f → lrun isN sm (r ++ [44]) 5 k as fs = if okW sm k as = true then (tk isN r []).bind fun t => behind sm f fs (afterA k as t) else none
  s6 : ∀ k as fs f, r.length < f → lrun isN sm (r ++ [44]) 6 k as fs = if okW sm k as = true then (tk isN r []).bind fun t => behind sm f fs ((args t as).map fun q => (⟨k, q.1⟩, q.2)) else none
  s7 : ∀ k as fs f, r.length < f → lrun isN sm (r ++ [44]) 7 k as fs = if okW sm k as = true then (tk isN r []).bind fun t => behind sm f fs (some (⟨k, as⟩, t)) else none
theorem row_no {f : Nat} {t : List Tk} {fs : List Fc} (h : fact1 sm t = none) : row sm f t fs = none := by
  cases f with
  | zero => rfl
  | succ f => rw [row_succ, h]; rfl
theorem okW_nil (k : Cs) : okW sm k [] = okK sm k := by simp [okW]
theorem okW_snoc (k : Cs) (as : List Cs) (v : Cs) : okW sm k (as ++ [v]) = (okW sm k as && okA v) := by simp [okW, Bool.and_assoc]
variable (S : Sg isN)
include S
theorem all_nil : All isN sm [] := by
  have l0 : lnext isN 0 44 = none := by simp [lnext, S.n44]
  have l1 : lnext isN 1 44 = some 0 := by simp [lnext, S.n44]
  have l2 : lnext isN 2 44 = some 0 := by simp [lnext]
  have l3 : lnext isN 3 44 = none := by simp [lnext, S.n44]
  have l4 : lnext isN 4 44 = some 6 := by simp [lnext, S.n44]
  have l5 : lnext isN 5 44 = some 6 := by simp [lnext]
  have l6 : lnext isN 6 44 = none := by simp [lnext, S.n44]
  have l7 : lnext isN 7 44 = some 0 := by simp [lnext]
  refine ⟨fun k as fs f hf => ?_, fun k fs f hf hk => ?_, fun k fs f hf => ?_, fun k fs f hf => ?_, fun k as v fs f hf hv => ?_, fun k as fs f hf => ?_, fun k as fs f hf => ?_, fun k as fs f hf => ?_⟩
  · simp only [List.nil_append, lrun, l0, tk, flush, if_true, Option.bind_some]
    rw [row_no sm rfl]
  · simp only [List.nil_append, lrun, l1, tk, flush, if_neg hk, Option.bind_some, okW_nil, row_succ, fact1]
    cases h : okK sm k <;> simp [behind, behindK]
  · simp only [List.nil_append, lrun, l2, tk, flush, if_true, Option.bind_some, okW_nil, behindK, behind]
    cases h : okK sm k <;> simp
  · simp only [List.nil_append, lrun, l3, tk, flush, if_true, Option.bind_some, behindK, args, Option.map_none, behind]
    cases h : okK sm k <;> simp
  · simp only [List.nil_append, lrun, l4, tk, flush, if_neg hv, Option.bind_some, args, Option.map_none, behind]
    cases h : okW sm k as <;> simp
  · simp only [List.nil_append, lrun, l5, tk, flush, if_true, Option.bind_some, afterA, behind]
    cases h : okW sm k as <;> simp
  · simp only [List.nil_append, lrun, l6, tk, flush, if_true, Option.bind_some, args, Option.map_none, behind]
    cases h : okW sm k as <;> simp
  · simp only [List.nil_append, lrun, l7, tk, flush, if_true, Option.bind_some, behind]
    cases h : okW sm k as <;> simp
omit S in
theorem tk_head : ∀ (r w : Cs), w ≠ [] → ∀ t, tk isN r w = some t → ∃ w' t', t = .nm w' :: t'
  | [], w, hw, t, h => by
    simp only [tk, flush, if_neg hw, Option.some.injEq] at h
    exact ⟨w, [], h.symm⟩
  | c :: r, w, hw, t, h => by
    unfold tk at h
    have key : ∀ (z : List Tk), ∃ w' t', (flush w ++ z) = .nm w' :: t' := fun z => ⟨w, z, by simp [flush, hw]⟩
    split at h
    · exact tk_head r (w ++ [c]) (by simp) t h
    · split at h
      · obtain ⟨a, _, e⟩ := Option.map_eq_some_iff.mp h; rw [← e]; exact key _
      · split at h
        · obtain ⟨a, _, e⟩ := Option.map_eq_some_iff.mp h; rw [← e]; exact key _
        · split at h
          · obtain ⟨a, _, e⟩ := Option.map_eq_some_iff.mp h; rw [← e]; exact key _
          · split at h
            · obtain ⟨a, _, e⟩ := Option.map_eq_some_iff.mp h; rw [← e]; exact key _
            · cases h
omit S in
theorem args_nm (k v : Cs) (as : List Cs) : ∀ (t : List Tk), ((args (.nm v :: t) as).map fun q => ((⟨k, q.1⟩ : Fc), q.2)) = if okA v = true then afterA k (as ++ [v]) t else none
  | [] => by simp [args, afterA]
  | .nm w :: t => by simp [args, afterA]
  | .lp :: t => by simp [args, afterA]
  | .rp :: t => by simp only [args, afterA]; cases okA v <;> simp
  | .cm :: t => by simp only [args, afterA]; cases okA v <;> simp
theorem all_cons (c : Nat) (r : Cs) (h : All isN sm r) : All isN sm (c :: r) := by
  by_cases hn : isN c = true
  · have c1 : c ≠ 32 := fun e => by rw [e, S.n32] at hn; cases hn
    have c2 : c ≠ 40 := fun e => by rw [e, S.n40] at hn; cases hn
    have c3 : c ≠ 41 := fun e => by rw [e, S.n41] at hn; cases hn
    have c4 : c ≠ 44 := fun e => by rw [e, S.n44] at hn; cases hn
    have tke : ∀ w, tk isN (c :: r) w = tk isN r (w ++ [c]) := fun w => by rw [tk, if_pos hn]
    have l0 : lnext isN 0 c = some 1 := by simp [lnext, hn, c1]
    have l1 : lnext isN 1 c = some 1 := by simp [lnext, hn]
    have l2 : lnext isN 2 c = none := by simp [lnext, c1, c2, c4]
    have l3 : lnext isN 3 c = some 4 := by simp [lnext, hn, c1]
    have l4 : lnext isN 4 c = some 4 := by simp [lnext, hn]
    have l5 : lnext isN 5 c = none := by simp [lnext, c1, c3, c4]
    have l6 : lnext isN 6 c = some 4 := by simp [lnext, hn, c1]
    have l7 : lnext isN 7 c = none := by simp [lnext, c1, c4]
    have hd : ∀ {β : Type} (F G : List Tk → Option β), (∀ w t, F (.nm w :: t) = G (.nm w :: t)) → (tk isN r ([] ++ [c])).bind F = (tk isN r ([] ++ [c])).bind G := fun F G e => by
      cases q : tk isN r ([] ++ [c]) with
      | none => rfl
      | some t => obtain ⟨w', t', rfl⟩ := tk_head isN r _ (by simp) t q; exact e w' t'
    have hno : ∀ {β : Type} (F : List Tk → Option β), (∀ w t, F (.nm w :: t) = none) → (tk isN r ([] ++ [c])).bind F = none := fun F e => by
      rw [hd F (fun _ => none) e]
      cases tk isN r ([] ++ [c]) <;> rfl
    refine ⟨fun k as fs f hf => ?_, fun k fs f hf hk => ?_, fun k fs f hf => ?_, fun k fs f hf => ?_, fun k as v fs f hf hv => ?_, fun k as fs f hf => ?_, fun k as fs f hf => ?_, fun k as fs f hf => ?_⟩
    all_goals (simp only [List.length_cons] at hf; rw [tke])
    · obtain ⟨f, rfl⟩ : ∃ g, f = g + 1 := ⟨f - 1, by omega⟩
      simp only [List.cons_append, lrun, l0]
      exact h.s1 [c] fs f (by omega) (by simp)
    · simp only [List.cons_append, lrun, l1, if_true]
      exact h.s1 (k ++ [c]) fs f (by omega) (by simp)
    · simp only [List.cons_append, lrun, l2]
      rw [hno _ fun w t => by simp [behindK, behind]]
      split <;> rfl
    · simp only [List.cons_append, lrun, l3]
      have z := h.s4 k [] [c] fs f (by omega) (by simp)
      rw [List.nil_append] at z
      show lrun isN sm (r ++ [44]) 4 k ([] ++ [[c]]) fs = _
      rw [List.nil_append, z, okW_nil]
      congr 1
      refine hd _ _ fun w t => ?_
      simp [behindK]
    · simp only [List.cons_append, lrun, l4, if_true, List.dropLast_concat]
      rw [show (as ++ [v]).getLastD [] = v by simp]
      exact h.s4 k as (v ++ [c]) fs f (by omega) (by simp)
    · simp only [List.cons_append, lrun, l5]
      rw [hno _ fun w t => by simp [afterA, behind]]
      split <;> rfl
    · simp only [List.cons_append, lrun, l6]
      exact h.s4 k as [c] fs f (by omega) (by simp)
    · simp only [List.cons_append, lrun, l7]
      rw [hno _ fun w t => by simp [behind]]
      split <;> rfl
  · have hn : isN c = false := by simpa using hn
    by_cases c1 : c = 32
    · subst c1
      have tke : ∀ w, tk isN (32 :: r) w = (tk isN r []).map fun t => flush w ++ t := fun w => by simp [tk, hn]
      refine ⟨fun k as fs f hf => ?_, fun k fs f hf hk => ?_, fun k fs f hf => ?_, fun k fs f hf => ?_, fun k as v fs f hf hv => ?_, fun k as fs f hf => ?_, fun k as fs f hf => ?_, fun k as fs f hf => ?_⟩
      all_goals (simp only [List.length_cons] at hf; rw [tke, Option.bind_map]; simp only [List.cons_append, lrun, lnext, hn, if_true, Bool.false_eq_true, if_false, flush, List.nil_append, Function.comp_def])
      · exact h.s0 k as fs f (by omega)
      · rw [h.s2 k fs f (by omega)]
        simp only [if_neg hk, List.cons_append, List.nil_append, row_succ, fact1]
        cases okK sm k <;> simp [behind]
      · exact h.s2 k fs f (by omega)
      · exact h.s3 k fs f (by omega)
      · rw [h.s5 k (as ++ [v]) fs f (by omega), okW_snoc]
        simp only [if_neg hv, List.cons_append, List.nil_append, args_nm]
        cases okW sm k as <;> cases okA v <;> simp [behind]
      · exact h.s5 k as fs f (by omega)
      · exact h.s6 k as fs f (by omega)
      · exact h.s7 k as fs f (by omega)
    · by_cases c2 : c = 40
      · subst c2
        have l0 : lnext isN 0 40 = none := by simp [lnext, hn]
        have l1 : lnext isN 1 40 = some 3 := by simp [lnext, hn]
        have l2 : lnext isN 2 40 = some 3 := by simp [lnext, hn]
        have l3 : lnext isN 3 40 = none := by simp [lnext, hn]
        have l4 : lnext isN 4 40 = none := by simp [lnext, hn]
        have l5 : lnext isN 5 40 = none := by simp [lnext, hn]
        have l6 : lnext isN 6 40 = none := by simp [lnext, hn]
        have l7 : lnext isN 7 40 = none := by simp [lnext, hn]
        have tke : ∀ w, tk isN (40 :: r) w = (tk isN r []).map fun t => flush w ++ .lp :: t := fun w => by simp [tk, hn]
        have no : ∀ (F : List Tk → Option (List Fc)), (∀ t, F t = none) → (tk isN r []).bind F = none := fun F e => by
          cases tk isN r [] with
          | none => rfl
          | some t => exact e t
        refine ⟨fun k as fs f hf => ?_, fun k fs f hf hk => ?_, fun k fs f hf => ?_, fun k fs f hf => ?_, fun k as v fs f hf hv => ?_, fun k as fs f hf => ?_, fun k as fs f hf => ?_, fun k as fs f hf => ?_⟩
        all_goals (simp only [List.length_cons] at hf; rw [tke, Option.bind_map]; simp only [List.cons_append, lrun, l0, l1, l2, l3, l4, l5, l6, l7, flush, if_true, List.nil_append, Function.comp_def])
        · exact (no _ fun t => row_no sm rfl).symm
        · rw [h.s3 k fs f (by omega)]
          simp only [if_neg hk, List.cons_append, List.nil_append, row_succ, fact1]
          cases okK sm k <;> simp [behind]
        · exact h.s3 k fs f (by omega)
        · rw [no _ fun t => by simp [behindK, args, behind]]; split <;> rfl
        · rw [no _ fun t => by simp [if_neg hv, args, behind]]; split <;> rfl
        · rw [no _ fun t => by simp [afterA, behind]]; split <;> rfl
        · rw [no _ fun t => by simp [args, behind]]; split <;> rfl
        · rw [no _ fun t => by simp [behind]]; split <;> rfl
      · by_cases c3 : c = 41
        · subst c3
          have l0 : lnext isN 0 41 = none := by simp [lnext, hn]
          have l1 : lnext isN 1 41 = none := by simp [lnext, hn]
          have l2 : lnext isN 2 41 = none := by simp [lnext, hn]
          have l3 : lnext isN 3 41 = some 7 := by simp [lnext, hn]
          have l4 : lnext isN 4 41 = some 7 := by simp [lnext, hn]
          have l5 : lnext isN 5 41 = some 7 := by simp [lnext, hn]
          have l6 : lnext isN 6 41 = none := by simp [lnext, hn]
          have l7 : lnext isN 7 41 = none := by simp [lnext, hn]
          have tke : ∀ w, tk isN (41 :: r) w = (tk isN r []).map fun t => flush w ++ .rp :: t := fun w => by simp [tk, hn]
          have no : ∀ (F : List Tk → Option (List Fc)), (∀ t, F t = none) → (tk isN r []).bind F = none := fun F e => by
            cases tk isN r [] with
            | none => rfl
            | some t => exact e t
          refine ⟨fun k as fs f hf => ?_, fun k fs f hf hk => ?_, fun k fs f hf => ?_, fun k fs f hf => ?_, fun k as v fs f hf hv => ?_, fun k as fs f hf => ?_, fun k as fs f hf => ?_, fun k as fs f hf => ?_⟩
          all_goals (simp only [List.length_cons] at hf; rw [tke, Option.bind_map]; simp only [List.cons_append, lrun, l0, l1, l2, l3, l4, l5, l6, l7, flush, if_true, List.nil_append, Function.comp_def])
          · exact (no _ fun t => row_no sm rfl).symm
          · exact (no _ fun t => by simp only [if_neg hk, List.cons_append, List.nil_append, row_succ, fact1]; cases okK sm k <;> simp [behind, behindK]).symm
          · rw [no _ fun t => by simp [behindK, behind]]; split <;> rfl
          · rw [h.s7 k [] fs f (by omega), okW_nil]
            simp only [behindK]
          · rw [h.s7 k (as ++ [v]) fs f (by omega), okW_snoc]
            simp only [if_neg hv, List.cons_append, List.nil_append, args_nm, afterA]
            cases okW sm k as <;> cases okA v <;> simp [behind]
          · rw [h.s7 k as fs f (by omega)]
            simp only [afterA]
          · rw [no _ fun t => by simp [args, behind]]; split <;> rfl
          · rw [no _ fun t => by simp [behind]]; split <;> rfl
        · by_cases c4 : c = 44
          · subst c4
            have l0 : lnext isN 0 44 = none := by simp [lnext, hn]
            have l1 : lnext isN 1 44 = some 0 := by simp [lnext, hn]
            have l2 : lnext isN 2 44 = some 0 := by simp [lnext, hn]
            have l3 : lnext isN 3 44 = none := by simp [lnext, hn]
            have l4 : lnext isN 4 44 = some 6 := by simp [lnext, hn]
            have l5 : lnext isN 5 44 = some 6 := by simp [lnext, hn]
            have l6 : lnext isN 6 44 = none := by simp [lnext, hn]
            have l7 : lnext isN 7 44 = some 0 := by simp [lnext, hn]
            have tke : ∀ w, tk isN (44 :: r) w = (tk isN r []).map fun t => flush w ++ .cm :: t := fun w => by simp [tk, hn]
            have no : ∀ (F : List Tk → Option (List Fc)), (∀ t, F t = none) → (tk isN r []).bind F = none := fun F e => by
              cases tk isN r [] with
              | none => rfl
              | some t => exact e t
            refine ⟨fun k as fs f hf => ?_, fun k fs f hf hk => ?_, fun k fs f hf => ?_, fun k fs f hf => ?_, fun k as v fs f hf hv => ?_, fun k as fs f hf => ?_, fun k as fs f hf => ?_, fun k as fs f hf => ?_⟩
            all_goals (simp only [List.length_cons] at hf; rw [tke, Option.bind_map]; simp only [List.cons_append, lrun, l0, l1, l2, l3, l4, l5, l6, l7, flush, if_true, List.nil_append, Function.comp_def])
            · exact (no _ fun t => row_no sm rfl).symm
            · rw [okW_nil]
              simp only [if_neg hk, List.cons_append, List.nil_append, row_succ, fact1]
              have z := h.s0 k [] (fs ++ [⟨k, []⟩]) f (by omega)
              cases okK sm k <;> simp [behind, behindK, z]
            · rw [okW_nil]
              have z := h.s0 k [] (fs ++ [⟨k, []⟩]) f (by omega)
              simp [behind, behindK, z]
            · rw [no _ fun t => by simp [behindK, args, behind]]; split <;> rfl
            · rw [h.s6 k (as ++ [v]) fs f (by omega), okW_snoc]
              simp only [if_neg hv, List.cons_append, List.nil_append, args_nm, afterA]
              cases okW sm k as <;> cases okA v <;> simp [behind]
            · rw [h.s6 k as fs f (by omega)]
              simp only [afterA]
            · rw [no _ fun t => by simp [args, behind]]; split <;> rfl
            · have z := h.s0 k as (fs ++ [⟨k, as⟩]) f (by omega)
              simp [behind, z]
          · have tke : ∀ w, tk isN (c :: r) w = none := fun w => by simp [tk, hn, c1, c2, c3, c4]
            have l0 : lnext isN 0 c = none := by simp [lnext, hn, c1, c2, c3, c4]
            have l1 : lnext isN 1 c = none := by simp [lnext, hn, c1, c2, c3, c4]
            have l2 : lnext isN 2 c = none := by simp [lnext, hn, c1, c2, c3, c4]
            have l3 : lnext isN 3 c = none := by simp [lnext, hn, c1, c2, c3, c4]
            have l4 : lnext isN 4 c = none := by simp [lnext, hn, c1, c2, c3, c4]
            have l5 : lnext isN 5 c = none := by simp [lnext, hn, c1, c2, c3, c4]
            have l6 : lnext isN 6 c = none := by simp [lnext, hn, c1, c2, c3, c4]
            have l7 : lnext isN 7 c = none := by simp [lnext, hn, c1, c2, c3, c4]
            refine ⟨fun k as fs f hf => ?_, fun k fs f hf hk => ?_, fun k fs f hf => ?_, fun k fs f hf => ?_, fun k as v fs f hf hv => ?_, fun k as fs f hf => ?_, fun k as fs f hf => ?_, fun k as fs f hf => ?_⟩
            all_goals (rw [tke]; simp only [List.cons_append, lrun, l0, l1, l2, l3, l4, l5, l6, l7, Option.bind_none, ite_self])
theorem all_ : ∀ r, All isN sm r
  | [] => all_nil isN sm S
  | c :: r => all_cons isN sm S c r (all_ r)
/-- THE TWO READINGS ARE ONE -/
theorem lrun_row (r : Cs) (k : Cs) (as : List Cs) : lrun isN sm (r ++ [44]) 0 k as [] = (tk isN r []).bind fun t => row sm (r.length + 1) t [] := (all_ isN sm S r).s0 k as [] _ (Nat.lt_succ_self _)
end R3
/-! find of a text, max of a list of ints, == and != of lists whose members are alike -/
namespace L2
open PySem PySem.Spec PyProof.Rows
mutual
theorem eqD_refl : ∀ d : Dt, eqD d d = true
  | .non => by unfold eqD; rfl
  | .bl b => by unfold eqD; exact beq_self_eq_true b
  | .int i => by unfold eqD; exact beq_self_eq_true i
  | .str x => by unfold eqD; exact beq_self_eq_true x
  | .tup ds => by unfold eqD; exact eqDs_refl ds
theorem eqDs_refl : ∀ ds : List Dt, eqDs ds ds = true
  | [] => by unfold eqDs; rfl
  | d :: r => by unfold eqDs; rw [eqD_refl d, eqDs_refl r]; rfl
end
section
variable {X : Cx}
def rFind : V → List V → Hp → VK → Prop := fun x vs H Q => ∃ z y, x = .str z ∧ vs = [.str y] ∧ Q (.int (Txt.find z y)) H
theorem mt_find : MtR X "str.find" rFind := by
  intro pins s σ H x vs v us Q I rx rv h
  obtain ⟨z, y, rfl, rfl, q⟩ := h
  obtain ⟨t, rfl⟩ := rx
  obtain ⟨u, rfl, t', rfl⟩ := vals1 rv
  exact SC.find ⟨.int _, H, I.tok _, ⟨_, rfl⟩, q⟩
theorem call_maxL : CallR X (.builtin "max") (fun xs H Q => ∃ (p : Addr) (ks : List Int), xs = [.ref p] ∧ X.calm = true ∧ SqL X.K H p (ks.map V.int) ∧ ks ≠ [] ∧ ∀ m ∈ ks, (∀ k ∈ ks, k ≤ m) → Q (.int m) H) := by
  intro pins s σ H xs us Q I r h
  obtain ⟨p, ks, rfl, hc, hq, hne, q⟩ := h
  obtain ⟨u, rfl, rx⟩ := vals1 r
  cases rx
  obtain ⟨its, r', pl, hz⟩ := I.list hq
  obtain ⟨hl, hi⟩ := ints_val r'
  have hlt : p < s.heap.objs.size := by
    obtain ⟨_, e, _⟩ := pl.isList
    exact Heap.lt_size e
  have hpos : 0 < ks.length := List.length_pos_iff.mpr hne
  refine call_max_walk (wpAny_pyIter_list pl.isList ?_)
  refine ⟨s.heap.objs.size, [s.heap.objs.size, p], [s.heap.objs.size], its.toArray.size, _, _, fun i j => decide (ks.getD i 0 > ks.getD j 0), rfl, Walks.list (A := X.A.in1) (I.ok.hd hc) _ p (Nat.ne_of_lt hlt) its.toArray,
    ⟨⟨_, Heap.get?_push_size _ rfl, rfl, rfl⟩, pl.isList.push _⟩, fun b hb => ?_, (by rw [List.size_toArray, hl]; exact hpos), CmpOf.ints_gt (fun i => ks.getD i 0) (fun i v hP => hi i v (by simpa using hP)), fun v h' tk hP hk => ?_⟩
  · show b < (s.heap.push _).objs.size
    rw [Heap.size_push]
    rcases (by simpa using hb : b = s.heap.objs.size ∨ b = p) with e | e <;> rw [e]
    · exact Nat.lt_succ_self _
    · exact Nat.lt_succ_of_lt hlt
  · have el : its.toArray.size = ks.length := by rw [List.size_toArray, hl]
    rw [el] at hP
    obtain ⟨b1, b2⟩ := argBest_gt (fun i => ks.getD i 0) (ks.length - 1)
    have hP' : its[argBest (fun i j => decide (ks.getD i 0 > ks.getD j 0)) (ks.length - 1)]? = some v := by rw [← List.getElem?_toArray]; exact hP
    obtain ⟨t, ev⟩ := hi _ v hP'
    generalize argBest (fun i j => decide (ks.getD i 0 > ks.getD j 0)) (ks.length - 1) = j at b1 b2 ev
    have hj : j < ks.length := by omega
    have ej : ks.getD j 0 = ks[j] := by simp [List.getD_eq_getElem?_getD, hj]
    have b2 : ∀ i, i ≤ ks.length - 1 → ks.getD i 0 ≤ ks.getD j 0 := b2
    rw [ej] at ev b2
    refine ⟨.int ks[j], H, I.kept (t' := tk) fun b o e => hk b o (fun hm => ?_) (Heap.get?_push_of_some _ e), ⟨t, ev⟩, q _ (List.getElem_mem hj) fun k hk => ?_⟩
    · rw [List.mem_singleton.mp hm] at e
      exact Nat.lt_irrefl _ (Heap.lt_size e)
    · obtain ⟨i, hi', rfl⟩ := List.mem_iff_getElem.mp hk
      have z := b2 i (by omega)
      rw [show ks.getD i 0 = ks[i] by simp [List.getD_eq_getElem?_getD, hi']] at z
      exact z
/-- two lists, alike member by member -/
def Alike (K : PySem.W.Frag) (H : Hp) (x y : V) : Prop := ∃ (a b : Addr) (xs ys : List V) (ds : List Dt), x = .ref a ∧ y = .ref b ∧ SqL K H a xs ∧ SqL K H b ys ∧ ds.length = xs.length ∧ ds.length = ys.length ∧ (∀ d ∈ ds, d.deep ≤ 20) ∧
  (∀ (i : Nat) (h0 : i < ds.length) (h1 : i < xs.length), IsD K H ds[i] xs[i]) ∧ (∀ (i : Nat) (h0 : i < ds.length) (h1 : i < ys.length), IsD K H ds[i] ys[i])
def rEqS (K : PySem.W.Frag) : R2 := fun x y H Q => Alike K H x y ∧ Q (.bl true) H
def rNeS (K : PySem.W.Frag) : R2 := fun x y H Q => Alike K H x y ∧ Q (.bl false) H
theorem alike_at {pins : List (Addr × Obj)} {σ : St} {H : Hp} {s : Shared} (I : Inv X pins σ H s) (hu : X.A.units + 64 < cLine) {a b : Addr} {xs ys : List V} {ds : List Dt} {its its2 : List Value} (rv1 : Vals xs its) (rv2 : Vals ys its2) (e1 : ds.length = xs.length) (e2 : ds.length = ys.length) (hd : ∀ d ∈ ds, d.deep ≤ 20)
    (h1 : ∀ (i : Nat) (h0 : i < ds.length) (h1 : i < xs.length), IsD X.K H ds[i] xs[i]) (h2 : ∀ (i : Nat) (h0 : i < ds.length) (h1 : i < ys.length), IsD X.K H ds[i] ys[i]) (j : Nat) (j1 : j < its.toArray.size) (j2 : j < its2.toArray.size) : SeqAt.EqAt X.A.in1 s its.toArray[j] its2.toArray[j] true := by
  have len1 := rv1.length
  have len2 := rv2.length
  have j1' : j < its.length := by simpa using j1
  have j2' : j < its2.length := by simpa using j2
  obtain ⟨u1, f1, q1⟩ := rv1.get (i := j) (x := xs[j]'(by omega)) (by simp)
  obtain ⟨u2, f2, q2⟩ := rv2.get (i := j) (x := ys[j]'(by omega)) (by simp)
  have c1 : its.toArray[j] = u1 := by
    have z := List.getElem?_eq_some_iff.mp f1
    simpa using z.2
  have c2 : its2.toArray[j] = u2 := by
    have z := List.getElem?_eq_some_iff.mp f2
    simpa using z.2
  rw [c1, c2]
  have z := isD_eq I rfl 20 X.A.in1 (hd _ (List.getElem_mem (show j < ds.length by omega))) (by show X.A.units + 1 + 20 < cLine; omega) (h1 j (by omega) (by omega)) (h2 j (by omega) (by omega)) q1 q2
  rw [eqD_refl] at z
  exact z
theorem op_eqS (hu : X.A.units + 64 < cLine) : OpR X (compareOp .Eq) (rEqS X.K) := by
  intro pins s σ H x y v u Q I rx ry h
  obtain ⟨⟨a, b, xs, ys, ds, rfl, rfl, g1, g2, l1, l2, hd, h1, h2⟩, q⟩ := h
  cases rx
  cases ry
  obtain ⟨its, rv1, ⟨o1, n1, p1, c1, d1, f1⟩, _⟩ := I.list g1
  obtain ⟨its2, rv2, ⟨o2, n2, p2, c2, d2, f2⟩, _⟩ := I.list g2
  have i1 : s.heap.IsList a its.toArray := ⟨o1, p1, c1, n1, by assumption⟩
  have i2 : s.heap.IsList b its2.toArray := ⟨o2, p2, c2, n2, by assumption⟩
  have len1 := rv1.length
  have len2 := rv2.length
  refine SeqAt.RcAt.lists (e := fun _ => true) i1 i2 (by simp; omega) (by omega) (fun j j1 j2 => alike_at (a := a) (b := b) I hu rv1 rv2 l1 l2 hd h1 h2 j j1 j2) _ _ _ _ ?_
  refine ⟨.bl _, H, I, rfl, ?_⟩
  have e : (List.range its.toArray.size).all (fun _ => true) = true := by simp
  rw [e]
  exact q
theorem op_neS (hu : X.A.units + 64 < cLine) : OpR X (compareOp .NotEq) (rNeS X.K) := by
  intro pins s σ H x y v u Q I rx ry h
  obtain ⟨⟨a, b, xs, ys, ds, rfl, rfl, g1, g2, l1, l2, hd, h1, h2⟩, q⟩ := h
  cases rx
  cases ry
  obtain ⟨its, rv1, ⟨o1, n1, p1, c1, d1, f1⟩, _⟩ := I.list g1
  obtain ⟨its2, rv2, ⟨o2, n2, p2, c2, d2, f2⟩, _⟩ := I.list g2
  have i1 : s.heap.IsList a its.toArray := ⟨o1, p1, c1, n1, by assumption⟩
  have i2 : s.heap.IsList b its2.toArray := ⟨o2, p2, c2, n2, by assumption⟩
  have len1 := rv1.length
  have len2 := rv2.length
  refine SeqAt.RcNeAt.lists (e := fun _ => true) i1 i2 (by simp; omega) (by omega) (fun j j1 j2 => alike_at (a := a) (b := b) I hu rv1 rv2 l1 l2 hd h1 h2 j j1 j2) _ _ _ _ ?_
  refine ⟨.bl _, H, I, rfl, ?_⟩
  have e : (List.range its.toArray.size).all (fun _ => true) = true := by simp
  rw [e]
  exact q
/-- lists of texts, of bools -/
theorem Alike.plain {K : PySem.W.Frag} {H : Hp} {a b : Addr} {ds : List Dt} {xs : List V} (h1 : SqL K H a xs) (h2 : SqL K H b xs) (hl : ds.length = xs.length) (hd : ∀ d ∈ ds, d.deep ≤ 20) (h : ∀ (i : Nat) (h0 : i < ds.length) (h1 : i < xs.length), IsD K H ds[i] xs[i]) : Alike K H (.ref a) (.ref b) :=
  ⟨a, b, xs, xs, ds, rfl, rfl, h1, h2, hl, hl, hd, h, h⟩
theorem Alike.bools {K : PySem.W.Frag} {H : Hp} {a b : Addr} {bs : List Bool} (h1 : SqL K H a (bs.map V.bl)) (h2 : SqL K H b (bs.map V.bl)) : Alike K H (.ref a) (.ref b) := by
  refine .plain (ds := bs.map Dt.bl) h1 h2 (by simp) (fun d hd => ?_) fun i h0 h1 => ?_
  · obtain ⟨b, _, rfl⟩ := List.mem_map.mp hd
    simp [Dt.deep]
  · rw [List.getElem_map, List.getElem_map]
    exact .bl _
theorem Alike.texts {K : PySem.W.Frag} {H : Hp} {a b : Addr} {bs : List Str} (h1 : SqL K H a (bs.map V.str)) (h2 : SqL K H b (bs.map V.str)) : Alike K H (.ref a) (.ref b) := by
  refine .plain (ds := bs.map Dt.str) h1 h2 (by simp) (fun d hd => ?_) fun i h0 h1 => ?_
  · obtain ⟨b, _, rfl⟩ := List.mem_map.mp hd
    simp [Dt.deep]
  · rw [List.getElem_map, List.getElem_map]
    exact .str _
end
end L2
/-! the program's reading and the law's are one -/
namespace Bk
open PySem L2 K02
def cvt (p : Cs) : R3.Tk := if p = [40] then .lp else if p = [41] then .rp else if p = [44] then .cm else .nm p
def IsPc (p : Cs) : Prop := (p ≠ [] ∧ p.all isAl = true) ∨ p = [40] ∨ p = [41] ∨ p = [44]
def smN (c : Nat) : Bool := decide (c ∈ aSmall.cps.toList)
theorem cvt_name {p : Cs} (h : p.all isAl = true) : cvt p = .nm p := by
  have z : ∀ c, isAl c = false → p ≠ [c] := fun c hc e => by rw [e, List.all_cons, hc] at h; cases h
  unfold cvt
  rw [if_neg (z 40 al_open), if_neg (z 41 al_shut), if_neg (z 44 al_comma)]
theorem IsPc.nm {p : Cs} (h : IsPc p) (h1 : p ≠ [40]) (h2 : p ≠ [41]) (h3 : p ≠ [44]) : p ≠ [] ∧ p.all isAl = true := by
  rcases h with h | h | h | h
  · exact h
  · exact absurd h h1
  · exact absurd h h2
  · exact absurd h h3
theorem nameC_mark {c : Nat} (h : isAl c = false) : nameC [c] = false := by
  unfold nameC
  simp [h]
theorem smallC_mark {c : Nat} (h : isAl c = false) : smallC [c] = false := by
  unfold smallC
  rw [nameC_mark h, Bool.false_and]
theorem nameC_of {p : Cs} (h : p ≠ [] ∧ p.all isAl = true) : nameC p = R3.okA p := by
  unfold nameC R3.okA
  have z : 1 ≤ p.length := List.length_pos_iff.mpr h.1
  rw [h.2, decide_eq_true z, Bool.true_and, Bool.and_true]
theorem smallC_of {p : Cs} (h : p ≠ [] ∧ p.all isAl = true) : smallC p = R3.okK smN p := by
  unfold smallC R3.okK
  rw [nameC_of h]
  cases p with
  | nil => exact absurd rfl h.1
  | cons c r => rfl
theorem cvt_cases (p : Cs) (h : IsPc p) : (p = [40] ∧ cvt p = .lp) ∨ (p = [41] ∧ cvt p = .rp) ∨ (p = [44] ∧ cvt p = .cm) ∨ (p ≠ [40] ∧ p ≠ [41] ∧ p ≠ [44] ∧ cvt p = .nm p ∧ p ≠ [] ∧ p.all isAl = true) := by
  by_cases h1 : p = [40]
  · subst h1; exact .inl ⟨rfl, rfl⟩
  by_cases h2 : p = [41]
  · subst h2; exact .inr (.inl ⟨rfl, rfl⟩)
  by_cases h3 : p = [44]
  · subst h3; exact .inr (.inr (.inl ⟨rfl, rfl⟩))
  have z := h.nm h1 h2 h3
  exact .inr (.inr (.inr ⟨h1, h2, h3, cvt_name z.2, z⟩))
theorem shut_cvt {w : Cs} (hw : w.all isAl = true) (r : List Cs) : (shut w r).map cvt = R3.flush w ++ r.map cvt := by
  unfold shut R3.flush
  by_cases h : w = []
  · rw [if_pos h, if_pos h]; rfl
  · rw [if_neg h, if_neg h, List.map_cons, cvt_name hw]; rfl
theorem tk_toks {mk : Str} (hm : ∀ c, decide (c ∈ mk.cps.toList) = isMark c) : ∀ (x w : Cs), w.all isAl = true → R3.tk isAl x w = if x.all (okS mk) = true then some ((toksF x w).map cvt) else none
  | [], w, hw => by
    rw [List.all_nil, if_pos rfl]
    show some (R3.flush w) = some ((shut w []).map cvt)
    rw [shut_cvt hw]
    simp
  | c :: r, w, hw => by
    have ih0 := tk_toks hm r [] rfl
    unfold R3.tk
    show _ = if _ then some ((if isAl c = true then toksF r (w ++ [c]) else shut w (if c = 32 then toksF r [] else [c] :: toksF r [])).map cvt) else none
    rw [List.all_cons]
    by_cases ha : isAl c = true
    · have ih := tk_toks hm r (w ++ [c]) (by rw [List.all_append, hw]; simp [ha])
      rw [if_pos ha, if_pos ha, ih]
      have : okS mk c = true := by unfold okS; rw [ha]; rfl
      rw [this, Bool.true_and]
    · rw [if_neg ha, if_neg ha, shut_cvt hw]
      have ha' : isAl c = false := by simpa using ha
      have mark : isMark c = true → c ≠ 32 → okS mk c = true ∧ (if c = 32 then toksF r [] else [c] :: toksF r []).map cvt = cvt [c] :: (toksF r []).map cvt := fun hc h32 => by
        rw [if_neg h32]
        refine ⟨?_, rfl⟩
        unfold okS
        rw [hm, hc, ha']
        rfl
      have done : ∀ {k : R3.Tk}, okS mk c = true → cvt [c] = k → c ≠ 32 → (R3.tk isAl r []).map (fun t => R3.flush w ++ k :: t) = if (okS mk c && r.all (okS mk)) = true then some (R3.flush w ++ (if c = 32 then toksF r [] else [c] :: toksF r []).map cvt) else none := fun {k} hok hk h32 => by
        rw [ih0, hok, Bool.true_and, if_neg h32, List.map_cons, hk]
        by_cases hr : r.all (okS mk) = true
        · rw [if_pos hr, if_pos hr]; rfl
        · rw [if_neg hr, if_neg hr]; rfl
      by_cases h40 : c = 40
      · rw [if_pos h40]
        exact done (mark (by rw [h40]; rfl) (by omega)).1 (by rw [h40]; rfl) (by omega)
      rw [if_neg h40]
      by_cases h41 : c = 41
      · rw [if_pos h41]
        exact done (mark (by rw [h41]; rfl) (by omega)).1 (by rw [h41]; rfl) (by omega)
      rw [if_neg h41]
      by_cases h44 : c = 44
      · rw [if_pos h44]
        exact done (mark (by rw [h44]; rfl) (by omega)).1 (by rw [h44]; rfl) (by omega)
      rw [if_neg h44]
      have hmk : isMark c = false := by unfold isMark; simp [h40, h41, h44]
      by_cases h32 : c = 32
      · have hok : okS mk c = true := by unfold okS; rw [h32]; simp
        rw [if_pos h32, ih0, hok, Bool.true_and, if_pos h32]
        by_cases hr : r.all (okS mk) = true
        · rw [if_pos hr, if_pos hr]; rfl
        · rw [if_neg hr, if_neg hr]; rfl
      · have hok : okS mk c = false := by unfold okS; rw [ha', hm, hmk]; simpa using h32
        rw [if_neg h32, hok, Bool.false_and, if_neg (by decide)]
theorem toksF_pc {mk : Str} (hm : ∀ c, decide (c ∈ mk.cps.toList) = isMark c) : ∀ (x w : Cs), w.all isAl = true → x.all (okS mk) = true → ∀ p ∈ toksF x w, IsPc p
  | [], w, hw, _, p, hp => by
    have hp : p ∈ shut w [] := hp
    unfold shut at hp
    by_cases h : w = []
    · rw [if_pos h] at hp; cases hp
    · rw [if_neg h] at hp
      rw [List.mem_singleton.mp hp]
      exact .inl ⟨h, hw⟩
  | c :: r, w, hw, hx, p, hp => by
    rw [List.all_cons, Bool.and_eq_true] at hx
    have hp : p ∈ (if isAl c = true then toksF r (w ++ [c]) else shut w (if c = 32 then toksF r [] else [c] :: toksF r [])) := hp
    by_cases ha : isAl c = true
    · rw [if_pos ha] at hp
      exact toksF_pc hm r _ (by rw [List.all_append, hw]; simp [ha]) hx.2 p hp
    · rw [if_neg ha] at hp
      have key : p ∈ (if c = 32 then toksF r [] else [c] :: toksF r []) → IsPc p := fun hp => by
        by_cases h32 : c = 32
        · rw [if_pos h32] at hp
          exact toksF_pc hm r [] rfl hx.2 p hp
        · rw [if_neg h32] at hp
          rcases List.mem_cons.mp hp with rfl | hp
          · have z := hx.1
            unfold okS at z
            have ha' : isAl c = false := by simpa using ha
            rw [ha', hm, Bool.false_or, show (c == 32) = false by simpa using h32, Bool.or_false] at z
            unfold isMark at z
            have z' : c = 40 ∨ c = 41 ∨ c = 44 := by simpa using z
            rcases z' with e | e | e
            · exact .inr (.inl (by rw [e]))
            · exact .inr (.inr (.inl (by rw [e])))
            · exact .inr (.inr (.inr (by rw [e])))
          · exact toksF_pc hm r [] rfl hx.2 p hp
      unfold shut at hp
      by_cases h : w = []
      · rw [if_pos h] at hp; exact key hp
      · rw [if_neg h] at hp
        rcases List.mem_cons.mp hp with rfl | hp
        · exact .inl ⟨h, hw⟩
        · exact key hp
theorem args_argsL : ∀ (k : Nat) (l : List Cs), l.length ≤ k → (∀ p ∈ l, IsPc p) → ∀ as, R3.args (l.map cvt) as = (argsL l).map fun q => (as ++ q.1, (l.drop q.2).map cvt)
  | _, [], _, _, as => by simp [R3.args, argsL]
  | _, [a], _, hp, as => by
    rw [List.map_cons, List.map_nil]
    cases cvt a <;> simp [R3.args, argsL]
  | 0, a :: m :: r, h, _, _ => by simp at h
  | k + 1, a :: m :: r, h, hp, as => by
    have ih := args_argsL k r (by simp only [List.length_cons] at h; omega) (fun p q => hp p (List.mem_cons_of_mem _ (List.mem_cons_of_mem _ q)))
    have ha := cvt_cases a (hp a (List.mem_cons_self ..))
    have hm := cvt_cases m (hp m (List.mem_cons_of_mem _ (List.mem_cons_self ..)))
    rw [List.map_cons, List.map_cons]
    have e : argsL (a :: m :: r) = if nameC a = true then (if m = [41] then some ([a], 2) else if m = [44] then (argsL r).map (fun q => (a :: q.1, q.2 + 2)) else none) else none := rfl
    rw [e]
    rcases ha with ⟨rfl, c⟩ | ⟨rfl, c⟩ | ⟨rfl, c⟩ | ⟨n1, n2, n3, c, nn⟩
    · rw [c, nameC_mark al_open]; simp [R3.args]
    · rw [c, nameC_mark al_shut]; simp [R3.args]
    · rw [c, nameC_mark al_comma]; simp [R3.args]
    rw [c, nameC_of nn]
    rcases hm with ⟨rfl, d⟩ | ⟨rfl, d⟩ | ⟨rfl, d⟩ | ⟨m1, m2, m3, d, _⟩
    · rw [d]; simp [R3.args]
    · rw [d]
      cases hk : R3.okA a with
      | false => simp [R3.args, hk]
      | true => simp [R3.args, hk]
    · rw [d]
      cases hk : R3.okA a with
      | false => simp [R3.args, hk]
      | true =>
        simp only [R3.args, hk, if_true, ih]
        cases argsL r with
        | none => simp
        | some q => simp
    · rw [d, if_neg m2, if_neg m3]
      simp [R3.args]
theorem fact1_factO (l : List Cs) (hp : ∀ p ∈ l, IsPc p) : R3.fact1 smN (l.map cvt) = (factO l).map fun q => (q.1, (l.drop q.2).map cvt) := by
  match l, hp with
  | [], _ =>
    have z : factO [] = none := by unfold factO; rw [if_neg (by decide)]
    rw [z]
    rfl
  | a :: r, hp =>
    rw [List.map_cons]
    have e : factO (a :: r) = if smallC a = true then (if r.getD 0 [] = [40] then (argsO (r.drop 1)).map (fun q => ((⟨a, q.1⟩ : Fc), q.2 + 2)) else some (⟨a, []⟩, 1)) else none := rfl
    rw [e]
    have ha := cvt_cases a (hp a (List.mem_cons_self ..))
    rcases ha with ⟨rfl, c⟩ | ⟨rfl, c⟩ | ⟨rfl, c⟩ | ⟨n1, n2, n3, c, nn⟩
    · rw [c, smallC_mark al_open]; simp [R3.fact1]
    · rw [c, smallC_mark al_shut]; simp [R3.fact1]
    · rw [c, smallC_mark al_comma]; simp [R3.fact1]
    rw [c, smallC_of nn]
    show (if R3.okK smN a = true then R3.behindK a (r.map cvt) else none) = _
    cases hk : R3.okK smN a with
    | false => rw [if_neg (by decide), if_neg (by decide)]; rfl
    | true =>
      rw [if_pos rfl, if_pos rfl]
      match r, hp with
      | [], _ => simp [R3.behindK]
      | b :: r2, hp =>
        have hb := cvt_cases b (hp b (List.mem_cons_of_mem _ (List.mem_cons_self ..)))
        have g : (b :: r2).getD 0 [] = b := rfl
        have g2 : (b :: r2).drop 1 = r2 := rfl
        rw [g, g2, List.map_cons]
        rcases hb with ⟨rfl, d⟩ | ⟨rfl, d⟩ | ⟨rfl, d⟩ | ⟨b1, b2, b3, d, _⟩
        · rw [d, if_pos rfl]
          have hp2 : ∀ p ∈ r2, IsPc p := fun p q => hp p (List.mem_cons_of_mem _ (List.mem_cons_of_mem _ q))
          have ia := args_argsL r2.length r2 (Nat.le_refl _) hp2 []
          match r2, hp2, ia with
          | [], _, _ => simp [R3.behindK, R3.args, argsO, argsL]
          | x :: r3, hp2, ia =>
            have hx := cvt_cases x (hp2 x (List.mem_cons_self ..))
            have key : x ≠ [41] → R3.behindK a (.lp :: cvt x :: r3.map cvt) = (R3.args ((x :: r3).map cvt) []).map (fun q => ((⟨a, q.1⟩ : Fc), q.2)) := fun hne => by
              rcases hx with ⟨rfl, y⟩ | ⟨rfl, y⟩ | ⟨rfl, y⟩ | ⟨_, _, _, y, _⟩
              · rw [List.map_cons, y]; rfl
              · exact absurd rfl hne
              · rw [List.map_cons, y]; rfl
              · rw [List.map_cons, y]; rfl
            by_cases hne : x = [41]
            · subst hne
              rfl
            · rw [List.map_cons, key hne, ia]
              have z : argsO (x :: r3) = argsL (x :: r3) := by unfold argsO; rw [if_neg (show ¬ (x :: r3).getD 0 [] = [41] from hne)]
              rw [z]
              cases argsL (x :: r3) with
              | none => rfl
              | some q => simp
        · rw [d]; simp [R3.behindK, d]
        · rw [d]; simp [R3.behindK, d]
        · rw [d, if_neg b1]; simp [R3.behindK, d]
theorem row_rowO : ∀ (f : Nat) (l : List Cs), (∀ p ∈ l, IsPc p) → ∀ fs, R3.row smN f (l.map cvt) fs = (rowO f l).map (fs ++ ·)
  | 0, l, _, fs => rfl
  | f + 1, l, hp, fs => by
    rw [R3.row_succ, fact1_factO l hp]
    unfold rowO
    cases hF : factO l with
    | none => rfl
    | some q =>
      obtain ⟨g, n⟩ := q
      have hle := factO_le hF
      show R3.behind smN f fs (some (g, (l.drop n).map cvt)) = (if n = l.length then some [g] else if l.getD n [] = [44] then (rowO f (l.drop (n + 1))).map (g :: ·) else none).map (fs ++ ·)
      by_cases hn : n = l.length
      · rw [if_pos hn, List.drop_of_length_le (by omega)]
        rfl
      · rw [if_neg hn]
        have hlt : n < l.length := by omega
        have ed : l.drop n = l[n] :: l.drop (n + 1) := List.drop_eq_getElem_cons hlt
        have eg : l.getD n [] = l[n] := by simp [List.getD_eq_getElem?_getD, hlt]
        rw [eg, ed, List.map_cons]
        have ih := row_rowO f (l.drop (n + 1)) (fun p q => hp p (List.mem_of_mem_drop q)) (fs ++ [g])
        rcases cvt_cases l[n] (hp _ (List.getElem_mem hlt)) with ⟨e, y⟩ | ⟨e, y⟩ | ⟨e, y⟩ | ⟨_, _, e, y, _⟩
        · rw [y, e]; rfl
        · rw [y, e]; rfl
        · rw [y, e, if_pos rfl]
          show R3.row smN f ((l.drop (n + 1)).map cvt) (fs ++ [g]) = _
          rw [ih, Option.map_map]
          congr 1
          funext z
          simp
        · rw [y, if_neg e]; rfl
theorem rowO_fuel : ∀ (f g : Nat) (l : List Cs), l.length < f → l.length < g → rowO f l = rowO g l
  | 0, _, _, h, _ => absurd h (Nat.not_lt_zero _)
  | _, 0, _, _, h => absurd h (Nat.not_lt_zero _)
  | f + 1, g + 1, l, hf, hg => by
    unfold rowO
    cases hF : factO l with
    | none => rfl
    | some q =>
      have hle := factO_le (g := q.1) (n := q.2) hF
      show (if q.2 = l.length then some [q.1] else if l.getD q.2 [] = [44] then (rowO f (l.drop (q.2 + 1))).map (q.1 :: ·) else none) = (if q.2 = l.length then some [q.1] else if l.getD q.2 [] = [44] then (rowO g (l.drop (q.2 + 1))).map (q.1 :: ·) else none)
      by_cases hn : q.2 = l.length
      · rw [if_pos hn, if_pos hn]
      · rw [if_neg hn, if_neg hn]
        have z : (l.drop (q.2 + 1)).length = l.length - (q.2 + 1) := List.length_drop ..
        rw [rowO_fuel f g (l.drop (q.2 + 1)) (by omega) (by omega)]
theorem sg : R3.Sg isAl := ⟨al_blank, al_open, al_shut, al_comma⟩
/-- what the law reads -/
def lawX (x : Cs) : Option (List Fc) := if x.all (· == 32) = true then some [] else R3.lrun isAl smN (x ++ [44]) 0 [] [] []
theorem toks_blank_all : ∀ (x : Cs), x.all (· == 32) = true → toks x = []
  | [], _ => rfl
  | c :: r, h => by
    rw [List.all_cons, Bool.and_eq_true] at h
    have e : c = 32 := eq_of_beq h.1
    rw [e, toks_blank]
    exact toks_blank_all r h.2
theorem toks_nil_blank {mk : Str} (hm : ∀ c, decide (c ∈ mk.cps.toList) = isMark c) : ∀ (x : Cs), x.all (okS mk) = true → toks x = [] → x.all (· == 32) = true
  | [], _, _ => rfl
  | c :: r, h, e => by
    rw [List.all_cons, Bool.and_eq_true] at h
    by_cases h32 : c = 32
    · rw [h32, toks_blank] at e
      rw [List.all_cons, toks_nil_blank hm r h.2 e, h32]
      rfl
    · exfalso
      by_cases ha : isAl c = true
      · have z := toks_step_name (l := c :: r) (by rw [nameLen_cons, if_pos ha]; omega)
        rw [e] at z
        cases z
      · rw [toks_other (by simpa using ha) h32] at e
        cases e
theorem lawX_rowX {mk : Str} (hm : ∀ c, decide (c ∈ mk.cps.toList) = isMark c) (x : Cs) : lawX x = rowX mk x := by
  unfold lawX rowX
  by_cases hb : x.all (· == 32) = true
  · have hok : x.all (okS mk) = true := by
      rw [List.all_eq_true] at hb ⊢
      intro c hc
      have e : c = 32 := eq_of_beq (hb c hc)
      unfold okS
      rw [e]
      simp
    rw [if_pos hb, if_pos hok, toks_blank_all x hb, if_pos rfl]
  · rw [if_neg hb, R3.lrun_row isAl smN sg, tk_toks hm x [] rfl]
    by_cases hok : x.all (okS mk) = true
    · rw [if_pos hok, if_pos hok]
      have hn : toks x ≠ [] := fun e => hb (toks_nil_blank hm x hok e)
      rw [if_neg hn]
      show R3.row smN (x.length + 1) ((toks x).map cvt) [] = _
      rw [row_rowO _ (toks x) (toksF_pc hm x [] rfl hok), rowO_fuel (x.length + 1) ((toks x).length + 1) (toks x) (by have := toks_len x; omega) (by omega)]
      cases rowO ((toks x).length + 1) (toks x) <;> simp
    · rw [if_neg hok, if_neg hok]
      rfl
theorem rowO_ne : ∀ (f : Nat) (l : List Cs), rowO f l ≠ some []
  | 0, l, h => nomatch h
  | f + 1, l, h => by
    unfold rowO at h
    cases hF : factO l with
    | none => rw [hF] at h; cases h
    | some q =>
      rw [hF] at h
      have h : (if q.2 = l.length then some [q.1] else if l.getD q.2 [] = [44] then (rowO f (l.drop (q.2 + 1))).map (q.1 :: ·) else none) = some [] := h
      split at h
      · cases h
      · split at h
        · cases hr : rowO f (l.drop (q.2 + 1)) with
          | none => rw [hr] at h; cases h
          | some z => rw [hr] at h; cases h
        · cases h
/-- one fact alone -/
theorem oneX_is (mk : Str) (x : Cs) : oneX mk x = match rowX mk x with | some [g] => some g | _ => none := by
  unfold oneX rowX
  by_cases hok : x.all (okS mk) = true
  · rw [if_pos hok, if_pos hok]
    by_cases h0 : toks x = []
    · rw [if_pos h0, h0]
      have z : factO [] = none := by unfold factO; rw [if_neg (by decide)]
      rw [z]
      rfl
    · rw [if_neg h0]
      unfold rowO
      cases hF : factO (toks x) with
      | none => rfl
      | some q =>
        show (if q.2 = (toks x).length then some q.1 else none) = match (if q.2 = (toks x).length then some [q.1] else if (toks x).getD q.2 [] = [44] then (rowO (toks x).length ((toks x).drop (q.2 + 1))).map (q.1 :: ·) else none) with | some [g] => some g | _ => none
        by_cases hn : q.2 = (toks x).length
        · rw [if_pos hn, if_pos hn]
        · rw [if_neg hn, if_neg hn]
          by_cases h44 : (toks x).getD q.2 [] = [44]
          · rw [if_pos h44]
            cases hr : rowO (toks x).length ((toks x).drop (q.2 + 1)) with
            | none => rfl
            | some z =>
              cases z with
              | nil => exact absurd hr (rowO_ne _ _)
              | cons a r => rfl
          · rw [if_neg h44]
  · rw [if_neg hok, if_neg hok]
end Bk
/-! the texts of rows of facts; the specs of k03's defs -/
namespace Bk
open PySem L2 K02
def factC (g : Fc) : Cs := if g.as = [] then g.k else ((g.k ++ [40]) ++ joinC 44 g.as) ++ [41]
def rowC : List Cs → Cs
  | [] => []
  | [a] => a
  | a :: r => a ++ 44 :: 32 :: rowC r
theorem rowC_str : ∀ (ls : List Str), (Str.join (Str.ofString ", ") ls).cps.toList = rowC (ls.map fun s => s.cps.toList)
  | [] => rfl
  | [a] => rfl
  | a :: b :: r => by
    have ih := rowC_str (b :: r)
    show ((a ++ (Str.ofString ", ")) ++ Str.join (Str.ofString ", ") (b :: r)).cps.toList = _
    rw [PySem.W.KT.app_list, PySem.W.KT.app_list, ih]
    have e : (Str.ofString ", ").cps.toList = [44, 32] := by decide +kernel
    rw [e]
    show (a.cps.toList ++ [44, 32]) ++ _ = a.cps.toList ++ 44 :: 32 :: _
    simp
theorem rowC_S (ls : List Cs) : Txt.join (Str.ofString ", ") (ls.map S) = S (rowC ls) := by
  show Builtin.Str.glued (Str.ofString ", ") _ = _
  rw [StrLaws.glued_eq_join, ← S_of (Str.join (Str.ofString ", ") (ls.map S)), rowC_str, List.map_map]
  have e : ((fun s : Str => s.cps.toList) ∘ S) = id := by
    funext p
    exact S_codes p
  rw [e, List.map_id]
/-- the facts that the law draws -/
structure FG (g : Fc) : Prop where
  k : smallC g.k = true
  as : ∀ a ∈ g.as, nameC a = true
  n : g.as.length ≤ 4
def facP (g : Fc) : List Cs := if g.as = [] then [g.k] else g.k :: [40] :: between g.as
theorem facP_is {g : Fc} (h : FG g) : FactP (facP g) g := by
  unfold facP
  by_cases e : g.as = []
  · rw [if_pos e]
    have z := FactP.bare h.k
    cases g
    cases e
    exact z
  · rw [if_neg e]
    exact .args h.k e h.as
theorem name_all {p : Cs} (h : nameC p = true) : p.all isAl = true ∧ p ≠ [] := by
  unfold nameC at h
  simp only [Bool.and_eq_true, decide_eq_true_eq] at h
  exact ⟨h.2.2, fun e => by rw [e] at h; simp at h⟩
theorem toks_between : ∀ (as : List Cs) (r : Cs), as ≠ [] → (∀ a ∈ as, nameC a = true) → toks (joinC 44 as ++ 41 :: r) = between as ++ toks r
  | [], _, h, _ => absurd rfl h
  | [a], r, _, h => by
    have z := name_all (h a (List.mem_cons_self ..))
    show toks (a ++ 41 :: r) = a :: [41] :: toks r
    rw [toks_name z.1 z.2 (show Stops (41 :: r) from al_shut), toks_mark rfl]
  | a :: b :: t, r, _, h => by
    have z := name_all (h a (List.mem_cons_self ..))
    have ih := toks_between (b :: t) r (by simp) fun x hx => h x (List.mem_cons_of_mem _ hx)
    show toks ((a ++ 44 :: joinC 44 (b :: t)) ++ 41 :: r) = a :: [44] :: (between (b :: t) ++ toks r)
    rw [List.append_assoc, List.cons_append, toks_name z.1 z.2 (show Stops (44 :: (joinC 44 (b :: t) ++ 41 :: r)) from al_comma), toks_mark rfl, ih]
theorem toks_fact {g : Fc} (h : FG g) {r : Cs} (hr : Stops r) : toks (factC g ++ r) = facP g ++ toks r := by
  have hk := h.k
  unfold smallC at hk
  rw [Bool.and_eq_true] at hk
  have z := name_all hk.1
  unfold factC facP
  by_cases e : g.as = []
  · rw [if_pos e, if_pos e, toks_name z.1 z.2 hr]
    rfl
  · rw [if_neg e, if_neg e, List.append_assoc, List.append_assoc, List.append_assoc]
    show toks (g.k ++ 40 :: (joinC 44 g.as ++ 41 :: r)) = g.k :: [40] :: (between g.as ++ toks r)
    rw [toks_name z.1 z.2 (show Stops (40 :: (joinC 44 g.as ++ 41 :: r)) from al_open), toks_mark rfl, toks_between g.as r e h.as]
theorem toks_row : ∀ (fs : List Fc), fs ≠ [] → (∀ g ∈ fs, FG g) → RowP (toks (rowC (fs.map factC))) fs
  | [], h, _ => absurd rfl h
  | [g], _, h => by
    have hg := h g (List.mem_cons_self ..)
    have z := toks_fact hg (r := []) trivial
    rw [List.append_nil, show toks [] = [] from rfl, List.append_nil] at z
    show RowP (toks (factC g)) [g]
    rw [z]
    exact .one (facP_is hg)
  | g :: g2 :: t, _, h => by
    have hg := h g (List.mem_cons_self ..)
    have ih := toks_row (g2 :: t) (by simp) fun x hx => h x (List.mem_cons_of_mem _ hx)
    show RowP (toks (factC g ++ 44 :: 32 :: rowC ((g2 :: t).map factC))) (g :: g2 :: t)
    rw [toks_fact hg (show Stops (44 :: 32 :: rowC ((g2 :: t).map factC)) from al_comma), toks_mark rfl, toks_blank]
    exact .more (facP_is hg) ih
theorem factO_at {ps : List Cs} {k : Cs} {as : List Cs} {n : Nat} (h : FactAt ps k as n) : factO ps = some (⟨k, as⟩, n) := by
  unfold factO
  cases h with
  | @bare _ r hk h =>
    rw [if_pos (show smallC ((k :: r).getD 0 []) = true from hk), if_neg (show ¬ (k :: r).getD 1 [] = [40] from h)]
    rfl
  | @empty _ r hk =>
    rw [if_pos (show smallC ((k :: [40] :: [41] :: r).getD 0 []) = true from hk), if_pos (show (k :: [40] :: [41] :: r).getD 1 [] = [40] from rfl)]
    rfl
  | @args _ r _ n hk h0 h =>
    rw [if_pos (show smallC ((k :: [40] :: r).getD 0 []) = true from hk), if_pos (show (k :: [40] :: r).getD 1 [] = [40] from rfl)]
    show (argsO r).map _ = _
    unfold argsO
    rw [if_neg h0, h]
    rfl
theorem rowO_of : ∀ (f : Nat) {ps : List Cs} {fs : List Fc}, RowP ps fs → ps.length < f → rowO f ps = some fs
  | 0, _, _, _, h => absurd h (Nat.not_lt_zero _)
  | f + 1, ps, fs, h, hf => by
    obtain ⟨g, n, fs', rfl, hF, alt⟩ := h.head
    unfold rowO
    rw [factO_at hF]
    show (if n = ps.length then some [(⟨g.k, g.as⟩ : Fc)] else if ps.getD n [] = [44] then (rowO f (ps.drop (n + 1))).map ((⟨g.k, g.as⟩ : Fc) :: ·) else none) = some (g :: fs')
    rcases alt with ⟨e, rfl⟩ | ⟨hn, h44, hr⟩
    · rw [if_pos e]
    · rw [if_neg (by omega), if_pos h44, rowO_of f hr (by rw [List.length_drop]; omega)]
      rfl
theorem joinC_all {f : Nat → Bool} (h44 : f 44 = true) : ∀ (as : List Cs), (∀ a ∈ as, a.all f = true) → (joinC 44 as).all f = true
  | [], _ => rfl
  | [a], h => h a (List.mem_cons_self ..)
  | a :: b :: t, h => by
    have ih := joinC_all h44 (b :: t) fun x hx => h x (List.mem_cons_of_mem _ hx)
    show (a ++ 44 :: joinC 44 (b :: t)).all f = true
    rw [List.all_append, List.all_cons, ih, h44, h a (List.mem_cons_self ..)]
    rfl
theorem factC_all {f : Nat → Bool} (hal : ∀ c, isAl c = true → f c = true) (h40 : f 40 = true) (h41 : f 41 = true) (h44 : f 44 = true) {g : Fc} (h : FG g) : (factC g).all f = true := by
  have nm : ∀ p : Cs, p.all isAl = true → p.all f = true := fun p hp => by
    rw [List.all_eq_true] at hp ⊢
    exact fun c hc => hal c (hp c hc)
  have hk := h.k
  unfold smallC at hk
  rw [Bool.and_eq_true] at hk
  unfold factC
  by_cases e : g.as = []
  · rw [if_pos e]; exact nm _ (name_all hk.1).1
  · rw [if_neg e]
    simp only [List.all_append, List.all_cons, List.all_nil, h40, h41, Bool.and_true]
    rw [nm _ (name_all hk.1).1, joinC_all h44 g.as fun a ha => nm _ (name_all (h.as a ha)).1]
    rfl
theorem rowC_all {f : Nat → Bool} (h44 : f 44 = true) (h32 : f 32 = true) : ∀ (ls : List Cs), (∀ l ∈ ls, l.all f = true) → (rowC ls).all f = true
  | [], _ => rfl
  | [a], h => h a (List.mem_cons_self ..)
  | a :: b :: t, h => by
    have ih := rowC_all h44 h32 (b :: t) fun x hx => h x (List.mem_cons_of_mem _ hx)
    show (a ++ 44 :: 32 :: rowC (b :: t)).all f = true
    rw [List.all_append, List.all_cons, List.all_cons, ih, h44, h32, h a (List.mem_cons_self ..)]
    rfl
theorem text_all {f : Nat → Bool} (hal : ∀ c, isAl c = true → f c = true) (h32 : f 32 = true) (h40 : f 40 = true) (h41 : f 41 = true) (h44 : f 44 = true) {fs : List Fc} (h : ∀ g ∈ fs, FG g) : (rowC (fs.map factC)).all f = true := by
  refine rowC_all h44 h32 _ fun l hl => ?_
  obtain ⟨g, hg, rfl⟩ := List.mem_map.mp hl
  exact factC_all hal h40 h41 h44 (h g hg)
/-- the text of a row of facts is read as that row -/
theorem rowX_text {mk : Str} (hm : ∀ c, decide (c ∈ mk.cps.toList) = isMark c) {fs : List Fc} (h : ∀ g ∈ fs, FG g) : rowX mk (rowC (fs.map factC)) = some fs := by
  have hok : (rowC (fs.map factC)).all (okS mk) = true := by
    refine text_all (fun c hc => by unfold okS; rw [hc]; rfl) ?_ ?_ ?_ ?_ h
    · unfold okS; simp
    · unfold okS; rw [hm]; rfl
    · unfold okS; rw [hm]; rfl
    · unfold okS; rw [hm]; rfl
  unfold rowX
  rw [if_pos hok]
  by_cases h0 : fs = []
  · subst h0
    rfl
  · have hr := toks_row fs h0 h
    have hp := hr.pos
    rw [if_neg (fun e => by rw [e] at hp; simp at hp), rowO_of _ hr (Nat.lt_succ_self _)]
theorem al_small {c : Nat} (h : isAl c = true) : c < 128 := by
  unfold isAl at h
  simp only [Bool.or_eq_true, decide_eq_true_eq] at h
  have z1 : ∀ c ∈ aSmall.cps.toList, c < 128 := by decide +kernel
  have z2 : ∀ c ∈ aGreat.cps.toList, c < 128 := by decide +kernel
  have z3 : ∀ c ∈ aFig.cps.toList, c < 128 := by decide +kernel
  rcases h with h | h | h
  · exact z1 c h
  · exact z2 c h
  · exact z3 c h
theorem text_128 {fs : List Fc} (h : ∀ g ∈ fs, FG g) : ∀ c ∈ rowC (fs.map factC), c < 128 := by
  have z := text_all (f := fun c => decide (c < 128)) (fun c hc => decide_eq_true (al_small hc)) rfl rfl rfl rfl h
  rw [List.all_eq_true] at z
  exact fun c hc => of_decide_eq_true (z c hc)
theorem joinC_le : ∀ (as : List Cs), (∀ a ∈ as, a.length ≤ 12) → (joinC 44 as).length ≤ as.length * 13
  | [], _ => Nat.zero_le _
  | [a], h => by have := h a (List.mem_cons_self ..); show a.length ≤ 1 * 13; omega
  | a :: b :: t, h => by
    have ih := joinC_le (b :: t) fun x hx => h x (List.mem_cons_of_mem _ hx)
    have := h a (List.mem_cons_self ..)
    show (a ++ 44 :: joinC 44 (b :: t)).length ≤ (b :: t).length.succ * 13
    rw [List.length_append, List.length_cons]
    omega
theorem FG.klen {g : Fc} (h : FG g) : g.k.length ≤ 12 := (smallC_len h.k).2
theorem FG.alen {g : Fc} (h : FG g) : ∀ a ∈ g.as, a.length ≤ 12 := fun a ha => (nameC_len (h.as a ha)).2
theorem factC_le {g : Fc} (h : FG g) : (factC g).length ≤ 70 := by
  have z := joinC_le g.as h.alen
  have z2 := h.klen
  have z3 := h.n
  unfold factC
  by_cases e : g.as = []
  · rw [if_pos e]; omega
  · rw [if_neg e]
    simp only [List.length_append, List.length_cons, List.length_nil]
    omega
theorem rowC_le : ∀ (ls : List Cs), (∀ l ∈ ls, l.length ≤ 70) → (rowC ls).length ≤ ls.length * 72
  | [], _ => Nat.zero_le _
  | [a], h => by have := h a (List.mem_cons_self ..); show a.length ≤ 1 * 72; omega
  | a :: b :: t, h => by
    have ih := rowC_le (b :: t) fun x hx => h x (List.mem_cons_of_mem _ hx)
    have := h a (List.mem_cons_self ..)
    show (a ++ 44 :: 32 :: rowC (b :: t)).length ≤ (b :: t).length.succ * 72
    rw [List.length_append, List.length_cons, List.length_cons]
    omega
theorem text_le {fs : List Fc} (h : ∀ g ∈ fs, FG g) : (rowC (fs.map factC)).length ≤ fs.length * 72 := by
  have z := rowC_le (fs.map factC) fun l hl => by
    obtain ⟨g, hg, rfl⟩ := List.mem_map.mp hl
    exact factC_le (h g hg)
  rw [List.length_map] at z
  exact z
/-! ### the signs' sorts -/
def sortC (c : Nat) : Cs := if isAl c = true then [110] else if c = 32 ∨ c = 40 ∨ c = 41 ∨ c = 44 then [c] else [120]
def nxI : Option Nat → Int
  | none => -1
  | some n => n
def rowsN : List Str := [" n", "n (,", " (,", " n)", "n ,)", " ,)", " n", " ,"]
def waysN : List (List Nat) := [[0, 1], [1, 2, 3, 0], [2, 3, 0], [3, 4, 7], [4, 5, 6, 7], [5, 6, 7], [6, 4], [7, 0]]
/-! ### specs -/
def spFT3 (K : PySem.W.Frag) : Sp := fun vs H Q _ => ∃ (v : V) (g : Fc), vs = [v] ∧ Fact K H g v ∧ FG g ∧ Q (tx (factC g)) H
def spFsT (K : PySem.W.Frag) : Sp := fun vs H Q _ => ∃ (a : Addr) (xs : List V) (fs : List Fc), vs = [.ref a] ∧ (SqL K H a xs ∨ SqT K H a xs) ∧ Paired (Fact K H) fs xs ∧ (∀ g ∈ fs, FG g) ∧ fs.length ≤ 63 ∧ ∀ H', Same H H' → Q (tx (rowC (fs.map factC))) H'
def spSort : Sp := fun vs H Q _ => ∃ c, vs = [.str ⟨#[c]⟩] ∧ Q (tx (sortC c)) H
def spNext : Sp := fun vs H Q _ => ∃ st c : Nat, vs = [.int st, tx (sortC c)] ∧ st ≤ 7 ∧ ∀ H', Same H H' → Q (.int (nxI (R3.lnext isAl st c))) H'
def spReadL (K : PySem.W.Frag) : Sp := fun vs H Q _ => ∃ x, vs = [.str x] ∧ x.length ≤ 19999 ∧ (lawX x.cps.toList = none → ∀ H', Same H H' → Q .non H') ∧ ∀ fs, lawX x.cps.toList = some fs → ∀ v H', Same H H' → Facts K H H' v fs → Q v H'
def spSpoil : Sp := fun vs H Q _ => ∃ (x : Str) (way p : Int) (c : Nat), vs = [.str x, .int way, .int p, .str ⟨#[c]⟩] ∧ x.length ≤ 10000 ∧ 0 ≤ p ∧ ∀ z : Str, z.length ≤ 2 * x.length + 1 → (∀ d ∈ z.cps.toList, d ∈ x.cps.toList ∨ d = 32 ∨ d = c) → Q (.str z) H
def spPlaceL : Sp := fun vs H Q _ => ∃ (x : Str) (p n : Int), vs = [.str x, .int p, .int n] ∧ x.length ≤ 10000 ∧ 0 ≤ p ∧ p ≤ x.length ∧ ∀ k : Int, 0 ≤ k → Q (.int k) H
def spSignL : Sp := fun vs H Q _ => ∃ n : Int, vs = [.int n] ∧ ∀ c, c < 128 → Q (.str ⟨#[c]⟩) H
def spRowD (K : PySem.W.Frag) : Sp := fun vs H Q _ => ∃ (a : Addr) (ns : List Int), vs = [.ref a] ∧ SqL K H a (ns.map V.int) ∧ ns.length ≤ 63 ∧ ∀ (l : Addr) (us : List V) (fs : List Fc) (H' : Hp), Same H H' → H l = none → H' l = some (.lst us) → Paired (Fact K H') fs us → (∀ g ∈ fs, FG g) → fs.length ≤ 63 → Q (.ref l) H'
def spRefu (mk : Str) : Sp := fun vs H Q _ => ∃ x, vs = [.str x] ∧ x.length ≤ 20000 ∧ (∀ c ∈ x.cps.toList, c < 16 ^ 8) ∧ rowX mk x.cps.toList = none ∧ ∀ l H', Same H H' → H' l = some (.lst ([true, true, false, false, false].map V.bl)) → Q (.ref l) H'
def DueV (K : PySem.W.Frag) (H : Hp) (o : Option (List Fc)) (v : V) : Prop := (o = none ∧ v = .non) ∨ ∃ fs l us, o = some fs ∧ v = .ref l ∧ H l = some (.lst us) ∧ Paired (Fact K H) fs us
def spSingle (K : PySem.W.Frag) (mk : Str) : Sp := fun vs H Q _ => ∃ x v, vs = [.str x, v] ∧ x.length ≤ 20000 ∧ (∀ c ∈ x.cps.toList, c < 16 ^ 8) ∧ DueV K H (rowX mk x.cps.toList) v ∧ ∀ H', Same H H' → Q (.bl true) H'
end Bk
namespace L2
open PySem PySem.Spec PyProof.Rows Bk
theorem comp_tup {tt : TT} {te : TE} {caps : List Nat} {σ : St} {H1 : Hp} {Q : VK} {K : PySem.W.Frag} {a : Addr} {xs : List V} {D : Addr} (hn : xs.length < sizeLine) (Pv : Nat → List V → Hp → Prop) (h0 : Pv 0 [] (upd H1 D (.lst [])))
    (hl : ∀ i ys H, Pv i ys H → SqT K H a xs) (hD : ∀ i ys H, Pv i ys H → H D = some (.lst ys) ∧ ys.length ≤ i)
    (hs : ∀ i ys H, i < xs.length → Pv i ys H → tt (compS σ (some (xs.getD i .non)) caps) H fun b H2 =>
      if b = true then te (compS σ (some (xs.getD i .non)) caps) H2 fun y H3 => H3 D = some (.lst ys) ∧ Pv (i + 1) (ys ++ [y]) (upd H3 D (.lst (ys ++ [y])))
      else Pv (i + 1) ys H2)
    (hd : ∀ ys H, Pv xs.length ys H → Q (.ref D) H) : CompW tt te caps σ Q (Itt K a) H1 D :=
  comp_by (J := Itt K a) (Q := Q) (D := D) (H1 := H1) xs.length hn (fun i => xs.getD i .non) Pv h0 (fun ys H p => ⟨xs, hl _ ys H p, Nat.le_refl _⟩)
    (fun i ys H p h => ⟨xs, xs[i], hl i ys H p, by simp [h]⟩) (fun i ys H x H' p h y => ⟨y.1, by
      have z := y.2 xs (hl i ys H p)
      rw [List.getD_eq_getElem?_getD, z] <;> rfl⟩) hD hs hd
section
variable {te : TE} {caps : List Nat} {σ : St} {H1 : Hp} {Q : VK} {K : PySem.W.Frag} {a : Addr} {xs : List V} {D : Addr} {gs : List V}
theorem text_step {i : Nat} {ys : List V} {H' : Hp} (hn : gs.length = xs.length) (hD0 : H1 D = none) (he : ∀ (i : Nat) x g H' R, xs[i]? = some x → gs[i]? = some g → Same H1 H' → (∀ H'', Same H' H'' → R g H'') → te (compS σ (some x) caps) H' R) (hi : i < xs.length)
    (p : Same H1 H' ∧ H' D = some (.lst ys) ∧ ys = gs.take i) : tAll (compS σ (some (xs.getD i .non)) caps) H' fun b H2 =>
      if b = true then te (compS σ (some (xs.getD i .non)) caps) H2 fun y H3 => H3 D = some (.lst ys) ∧ (Same H1 (upd H3 D (.lst (ys ++ [y]))) ∧ upd H3 D (.lst (ys ++ [y])) D = some (.lst (ys ++ [y])) ∧ ys ++ [y] = gs.take (i + 1))
      else (Same H1 H2 ∧ H2 D = some (.lst ys) ∧ ys = gs.take (i + 1)) := by
  have hx : xs.getD i .non = xs[i] := by rw [List.getD_eq_getElem?_getD, List.getElem?_eq_getElem hi]; rfl
  rw [hx]
  unfold tAll
  simp only [if_true]
  have hig : i < gs.length := by omega
  refine he i _ gs[i] _ _ (List.getElem?_eq_getElem hi) (List.getElem?_eq_getElem hig) p.1 fun H3 s3 => ?_
  refine ⟨s3 _ _ p.2.1, Same.upd_new (Same.trans p.1 s3) hD0 _, upd_same, ?_⟩
  rw [p.2.2, List.take_succ_eq_append_getElem hig]
theorem comp_txL (hn : gs.length = xs.length) (hz : xs.length < sizeLine) (hD0 : H1 D = none) (hl : SqL K H1 a xs) (he : ∀ (i : Nat) x g H' R, xs[i]? = some x → gs[i]? = some g → Same H1 H' → (∀ H'', Same H' H'' → R g H'') → te (compS σ (some x) caps) H' R)
    (hd : ∀ H', Same H1 H' → H' D = some (.lst gs) → Q (.ref D) H') : CompW tAll te caps σ Q (Itl K a) H1 D := by
  refine comp_list (K := K) (a := a) (xs := xs) hz (fun i ys H' => Same H1 H' ∧ H' D = some (.lst ys) ∧ ys = gs.take i) ⟨same_new hD0 _, upd_same, rfl⟩ (fun i ys H' p => p.1.seq hl) (fun i ys H' p => ⟨p.2.1, by rw [p.2.2, List.length_take]; omega⟩) (fun i ys H' hi p => text_step hn hD0 he hi p) (fun ys H' p => ?_)
  have z := p.2.2
  rw [List.take_of_length_le (by omega)] at z
  exact hd H' p.1 (z ▸ p.2.1)
theorem comp_txT (hn : gs.length = xs.length) (hz : xs.length < sizeLine) (hD0 : H1 D = none) (hl : SqT K H1 a xs) (he : ∀ (i : Nat) x g H' R, xs[i]? = some x → gs[i]? = some g → Same H1 H' → (∀ H'', Same H' H'' → R g H'') → te (compS σ (some x) caps) H' R)
    (hd : ∀ H', Same H1 H' → H' D = some (.lst gs) → Q (.ref D) H') : CompW tAll te caps σ Q (Itt K a) H1 D := by
  refine comp_tup (K := K) (a := a) (xs := xs) hz (fun i ys H' => Same H1 H' ∧ H' D = some (.lst ys) ∧ ys = gs.take i) ⟨same_new hD0 _, upd_same, rfl⟩ (fun i ys H' p => hl.same p.1) (fun i ys H' p => ⟨p.2.1, by rw [p.2.2, List.length_take]; omega⟩) (fun i ys H' hi p => text_step hn hD0 he hi p) (fun ys H' p => ?_)
  have z := p.2.2
  rw [List.take_of_length_le (by omega)] at z
  exact hd H' p.1 (z ▸ p.2.1)
end
end L2
namespace K03
open PySem L2 K02 Bk
set_option maxHeartbeats 4000000
def top (i : Nat) : Stmt := PySem.Challenge.pw_poolrules_k03_rows_of_facts_read.main.body.getD i (.Pass ⟨0, 0, 0, 0⟩)
abbrev s_is_small_word : Stmt := top 12
abbrev s_is_name : Stmt := top 13
abbrev s_is_name_sign : Stmt := top 14
abbrev s_fact_text : Stmt := top 15
abbrev s_facts_text : Stmt := top 16
abbrev s_read_fact : Stmt := top 17
abbrev s_read_facts : Stmt := top 18
abbrev s_row_of_facts : Stmt := top 19
abbrev s_pieces : Stmt := top 20
abbrev s_name_end : Stmt := top 21
abbrev s_piece_at : Stmt := top 22
abbrev s_fact_at : Stmt := top 23
abbrev s_arguments_at : Stmt := top 24
abbrev s__law_cell_at : Stmt := top 26
abbrev s__law_mix : Stmt := top 27
abbrev s__law_names : Stmt := top 28
abbrev s__law_titles : Stmt := top 29
abbrev s__law_opens : Stmt := top 30
abbrev s__law_words : Stmt := top 31
abbrev s__law_sign : Stmt := top 32
abbrev s__law_fact_text : Stmt := top 33
abbrev s__law_sort : Stmt := top 34
abbrev s__law_next : Stmt := top 35
abbrev s__law_read : Stmt := top 36
abbrev s__law_spoiled : Stmt := top 37
abbrev s__law_place : Stmt := top 38
abbrev s__law_row : Stmt := top 39
abbrev s__law_refusal : Stmt := top 40
abbrev s__law_single : Stmt := top 41
abbrev s_law : Stmt := top 42
section
variable {P : Program} {w : World} {K : PySem.W.Frag} {mg : Str → Option Value} {base : Heap} {f : Addr} {fd : FuncData} {c : Cl}
theorem sc_is_name_sign : FnScope ["sign"] ["sign"] (defScope s_is_name_sign) := ⟨rfl, rfl, rfl, by decide +kernel, rfl, by decide +kernel, by decide +kernel⟩
theorem ok_is_name_sign {u1 u2 u3 : Value} (F : Fun K "is_name_sign" "is_name_sign" s_is_name_sign f fd) (m_SMALL : mg "SMALL" = some u1) (r_SMALL : RelV (.str aSmall) u1) (m_GREAT : mg "GREAT" = some u2) (r_GREAT : RelV (.str aGreat) u2) (m_FIGURES : mg "FIGURES" = some u3) (r_FIGURES : RelV (.str aFig) u3) :
    FnOk P w K mg base CX0 1 f fd ["sign"] spSign := by
  refine F.ok sc_is_name_sign (fun vs H Q E h => ?_) (fun cdv A outer s H vs Q E hr h => ?_)
  · obtain ⟨c, rfl, _⟩ := h
    rfl
  obtain ⟨c, rfl, q⟩ := h
  refine ⟨_, (pss_one (ps_ret (pe_or (pe_cmpR op_in_str (pv 0) (pe_glob rfl m_SMALL r_SMALL) (by with_unfolding_all rfl)) (pe_or (pe_cmpR op_in_str (pv 0) (pe_glob rfl m_GREAT r_GREAT) (by with_unfolding_all rfl)) (pe_one (pe_cmpR op_in_str (pv 0) (pe_glob rfl m_FIGURES r_FIGURES) (by with_unfolding_all rfl))))))), ?_⟩
  refine ⟨_, rfl, _, _, rfl, rfl, _, rfl, ?_⟩
  rw [StrLaws.found_one]
  refine ite2 (fun z => ?_) (fun z => ?_)
  · have e : isAl c = true := by unfold isAl; rw [z]; rfl
    rw [e] at q
    exact q
  refine ⟨_, rfl, _, _, rfl, rfl, _, rfl, ?_⟩
  rw [StrLaws.found_one]
  have z' : decide (c ∈ aSmall.cps.toList) = false := by simpa using z
  refine ite2 (fun y => ?_) (fun y => ?_)
  · have e : isAl c = true := by unfold isAl; rw [y]; simp
    rw [e] at q
    exact q
  have y' : decide (c ∈ aGreat.cps.toList) = false := by simpa using y
  refine ⟨_, rfl, _, _, rfl, rfl, ?_⟩
  rw [StrLaws.found_one]
  have e : isAl c = decide (c ∈ aFig.cps.toList) := by unfold isAl; rw [z', y']; rfl
  rw [e] at q
  exact q
theorem sc_is_name : FnScope ["text"] ["text"] (defScope s_is_name) := ⟨rfl, rfl, rfl, by decide +kernel, rfl, by decide +kernel, by decide +kernel⟩
theorem ok_is_name {u1 : Value} (F : Fun K "is_name" "is_name" s_is_name f fd) (c_is_name_sign : Cal P w K mg base "is_name_sign" 1 ["sign"] spSign)
    (m_len : mg "len" = none) (m_all : mg "all" = none) (m_LONGEST : mg "LONGEST" = some u1) (r_LONGEST : RelV (.int 12) u1) : FnOk P w K mg base CX0 2 f fd ["text"] (spBl nameB) := by
  refine F.ok sc_is_name (fun vs H Q E h => ?_) (fun cdv A outer s H vs Q E hr h => ?_)
  · obtain ⟨c, rfl, _⟩ := h
    rfl
  obtain ⟨x, rfl, hx, q⟩ := h
  refine ⟨_, (pss_one (ps_ret (pe_and (pe_chain op_le op_le pe_int (pe_callB call_len_str rfl m_len PySem.boot_len (pa_cons (pv 0) pa_nil)) (pe_glob rfl m_LONGEST r_LONGEST)) (pe_one (pe_callB call_all rfl m_all PyProof.Rows.boot_all (pa_cons (pe_comp [] rfl (by kernel_rfl) (pi_str (pv 0)) (fun _ _ _ _ _ => pts_nil) (fun _ _ _ _ _ => (pe_callC c_is_name_sign (hr.mono (by decide)) rfl (pa_cons (pv 0) pa_nil)))) pa_nil)))))), ?_⟩
  refine ⟨_, rfl, x, rfl, sz (by omega), _, _, rfl, rfl, _, rfl, ?_⟩
  refine ite2 (fun c1 => ?_) (fun c1 => ?_)
  · refine ⟨_, _, rfl, rfl, _, rfl, ?_⟩
    refine ite2 (fun c2 => ?_) (fun c2 => ?_)
    · refine ⟨_, rfl, x, rfl, fun D hD => ?_⟩
      refine comp_str (x := x) (szl (show x.cps.size ≤ 100000 by have z : x.cps.size ≤ 20000 := hx; omega)) (fun i ys H' => Same H H' ∧ H' D = some (.lst ys) ∧ ys = ((x.cps.toList.take i).map isAl).map V.bl) ⟨same_new hD _, upd_same, rfl⟩ (fun i ys H' p => ⟨p.2.1, ?_⟩) (fun i ys H' hi p => ?_) (fun ys H' p => ?_)
      · rw [p.2.2]
        simp
        omega
      · refine ⟨_, rfl, _, rfl, p.2.1, ?_⟩
        refine ⟨fun b o e => ?_, upd_same, ?_⟩
        · rw [upd_ne (ne_of_none e hD)]
          exact p.1 b o e
        · rw [p.2.2]
          have hi' : i < x.cps.toList.length := by simpa using hi
          rw [List.take_succ_eq_append_getElem hi']
          simp [Array.getD_eq_getD_getElem?, hi]
      · refine ⟨D, (x.cps.toList.map isAl), rfl, rfl, .inl (.inl ?_), ?_⟩
        · rw [p.2.1, p.2.2, List.take_of_length_le (by simp)]
        · have e : nameB x = (x.cps.toList.map isAl).all id := by
            unfold nameB
            rw [c1, c2]
            simp [List.all_map, Function.comp_def]
          have q' := q H' p.1
          rw [e] at q'
          exact q'
    · have e : nameB x = false := by
        unfold nameB
        have c2' : decide ((x.length : Int) ≤ 12) = false := by simpa using c2
        rw [c2']
        simp
      have q' := q H (Same.refl H)
      rw [e] at q'
      exact q'
  · have e : nameB x = false := by
      unfold nameB
      have c1' : decide ((1 : Int) ≤ x.length) = false := by simpa using c1
      rw [c1']
      simp
    have q' := q H (Same.refl H)
    rw [e] at q'
    exact ⟨_, rfl, iteF q'⟩
theorem sc_is_small_word : FnScope ["text"] ["text"] (defScope s_is_small_word) := ⟨rfl, rfl, rfl, by decide +kernel, rfl, by decide +kernel, by decide +kernel⟩
theorem ok_is_small_word {u1 : Value} (F : Fun K "is_small_word" "is_small_word" s_is_small_word f fd) (c_is_name : Cal P w K mg base "is_name" 2 ["text"] (spBl nameB))
    (m_SMALL : mg "SMALL" = some u1) (r_SMALL : RelV (.str aSmall) u1) : FnOk P w K mg base CX0 3 f fd ["text"] (spBl smallB) := by
  refine F.ok sc_is_small_word (fun vs H Q E h => ?_) (fun cdv A outer s H vs Q E hr h => ?_)
  · obtain ⟨c, rfl, _⟩ := h
    rfl
  obtain ⟨x, rfl, hx, q⟩ := h
  refine ⟨_, (pss_one (ps_ret (pe_and (pe_callC c_is_name (hr.mono (by decide)) rfl (pa_cons (pv 0) pa_nil)) (pe_one (pe_cmpR op_in_str (pe_ix ix_str (pv 0) pe_int (fun _ _ => rfl)) (pe_glob rfl m_SMALL r_SMALL) (by with_unfolding_all rfl)))))), ?_⟩
  refine ⟨_, rfl, x, rfl, hx, fun H' sm => ⟨_, rfl, ?_⟩⟩
  have q' := q H' sm
  unfold smallB at q'
  refine ite2 (fun c => ?_) (fun c => ?_)
  · refine ⟨_, rfl, x, 0, _, rfl, rfl, sz (by omega), head_at (name_pos c), _, _, rfl, rfl, ?_⟩
    rw [StrLaws.found_one]
    rw [c, Bool.true_and] at q'
    exact q'
  · have e : nameB x = false := by simpa using c
    rw [e, Bool.false_and] at q'
    exact q'
theorem sc_name_end : FnScope ["text", "start", "end"] ["text", "start"] (defScope s_name_end) := ⟨rfl, rfl, rfl, by decide +kernel, rfl, by decide +kernel, by decide +kernel⟩
theorem ok_name_end (F : Fun K "name_end" "name_end" s_name_end f fd) (c_is_name_sign : Cal P w K mg base "is_name_sign" 1 ["sign"] spSign) (m_len : mg "len" = none) : FnOk P w K mg base CX0 2 f fd ["text", "start"] spEnd := by
  refine F.ok sc_name_end (fun vs H Q E h => ?_) (fun cdv A outer s H vs Q E hr h => ?_)
  · obtain ⟨x, p, rfl, _⟩ := h
    rfl
  obtain ⟨x, p, rfl, hx, hp, q⟩ := h
  have hl := len_is x
  refine ⟨_, (pss_cons (ps_set (i := 2) sc_name_end.nd rfl (Or.inl rfl) (pv 1))
  (pss_cons (ps_while PassesOwn.never (PW.pt (pw_and (pt_cmpR op_lt (pv 2) (pe_callB call_len_str rfl m_len PySem.boot_len (pa_cons (pv 0) pa_nil)) (nomark _)) (pw_and1 (pt_val (pe_callC c_is_name_sign (hr.mono (by decide)) rfl (pa_cons (pe_ix ix_str (pv 0) (pv 2) (fun _ _ => rfl)) pa_nil))))))
  (pss_one (ps_aug (i := 2) sc_name_end.nd rfl (Or.inl rfl) pe_int ip_add)))
  (pss_one (ps_ret (pv 2))))), ?_⟩
  refine ⟨_, rfl, fun m σ H' => H' = H ∧ ∃ j : Nat, m = x.length - (p + j) ∧ σ = [some (.str x), some (.int p), some (.int ((p + j : Nat) : Int))] ∧ p + j ≤ x.length ∧ nameLen (x.cps.toList.drop p) = j + nameLen (x.cps.toList.drop (p + j)), ⟨_, rfl, 0, rfl, rfl, hp, by simp⟩, ?_⟩
  rintro m σ H' ⟨rfl, j, rfl, rfl, hj, e⟩
  refine ⟨_, rfl, _, rfl, x, rfl, sz (by omega), _, _, rfl, rfl, _, rfl, ?_⟩
  refine ite2 (fun c => ?_) (fun c => ?_)
  · have c' : p + j < x.length := by
      have z := of_decide_eq_true c
      omega
    have hd : x.cps.toList.drop (p + j) = x.cps.toList.getD (p + j) 0 :: x.cps.toList.drop (p + j + 1) := drop_get (by omega)
    rw [hd, nameLen_cons] at e
    refine ⟨_, rfl, _, rfl, x, _, _, rfl, rfl, sz (by omega), str_at (by omega) (by omega), _, rfl, _, rfl, ?_⟩
    rw [show ((p + j : Nat) : Int).toNat = p + j by omega]
    refine ite2 (fun c2 => ?_) (fun c2 => ?_)
    · rw [if_pos c2] at e
      refine ⟨fun σ' H2 => H2 = H' ∧ σ' = [some (.str x), some (.int p), some (.int ((p + (j + 1) : Nat) : Int))], fun σ' H2 z => ⟨x.length - (p + (j + 1)), by omega, z.1, j + 1, rfl, z.2, by omega, by rw [← Nat.add_assoc]; omega⟩, ?_⟩
      refine ⟨_, rfl, _, _, rfl, rfl, rfl, ?_⟩
      show [some (V.str x), some (V.int p), some (V.int (((p + j : Nat) : Int) + 1))] = _
      rw [show ((p + (j + 1) : Nat) : Int) = ((p + j : Nat) : Int) + 1 by omega]
    · rw [if_neg c2] at e
      refine ⟨_, rfl, ?_⟩
      rw [e] at q
      exact q
  · have c' : ¬ (p + j < x.length) := fun z => c (decide_eq_true (by omega))
    have hd : x.cps.toList.drop (p + j) = [] := List.drop_eq_nil_of_le (by omega)
    rw [hd] at e
    refine iteF ⟨_, rfl, ?_⟩
    rw [e] at q
    exact q
theorem sc_piece_at : FnScope ["found", "place"] ["found", "place"] (defScope s_piece_at) := ⟨rfl, rfl, rfl, by decide +kernel, rfl, by decide +kernel, by decide +kernel⟩
theorem ok_piece_at (F : Fun K "piece_at" "piece_at" s_piece_at f fd) (m_len : mg "len" = none) : FnOk P w K mg base CX0 1 f fd ["found", "place"] spPiece := by
  refine F.ok sc_piece_at (fun vs H Q E h => ?_) (fun cdv A outer s H vs Q E hr h => ?_)
  · obtain ⟨l, ps, p, rfl, _⟩ := h
    rfl
  obtain ⟨l, ps, p, rfl, hL, hz, q⟩ := h
  refine ⟨_, (pss_cons (ps_if (pt_cmpR op_lt (pv 1) (pe_callB call_len_seq rfl m_len PySem.boot_len (pa_cons (pv 0) pa_nil)) (nomark _))
  (pss_one (ps_ret (pe_ix ix_list (pv 0) (pv 1) (fun _ _ => rfl))))
  pss_nil)
  (pss_one (ps_ret pe_str))), ?_⟩
  refine ⟨_, rfl, _, rfl, l, _, rfl, .inl (SqL.of hL), _, _, rfl, rfl, _, rfl, ?_⟩
  refine ite2 (fun c => ?_) (fun c => ?_)
  · have c' : p < ps.length := by
      have z := of_decide_eq_true c
      rw [List.length_map] at z
      omega
    refine ⟨_, rfl, _, rfl, l, _, _, tx (ps.getD p []), rfl, rfl, SqL.of hL, ?_, q⟩
    refine atI_nat ?_
    rw [List.getElem?_map, List.getD_eq_getElem?_getD, List.getElem?_eq_getElem c']
    rfl
  · have c' : ps.length ≤ p := by
      have z : ¬ ((p : Int) < (((ps.map tx).length : Nat) : Int)) := fun z => c (decide_eq_true z)
      rw [List.length_map] at z
      omega
    have e : ps.getD p [] = [] := by
      rw [List.getD_eq_getElem?_getD, List.getElem?_eq_none c']
      rfl
    rw [e] at q
    exact q
end
end K03
namespace K03
open PySem L2 K02 Bk
set_option maxHeartbeats 4000000
section
variable {P : Program} {w : World} {K : PySem.W.Frag} {mg : Str → Option Value} {base : Heap} {f : Addr} {fd : FuncData} {C : Addr}
theorem sc_pieces : FnScope ["text", "marks", "found", "place", "end", "sign"] ["text", "marks"] (defScope s_pieces) := ⟨rfl, rfl, rfl, by decide +kernel, rfl, by decide +kernel, by decide +kernel⟩
theorem ok_pieces (F : Fun K "pieces" "pieces" s_pieces f fd) (c_name_end : Cal P w K mg base "name_end" 2 ["text", "start"] spEnd) (m_len : mg "len" = none) (m_NoLine : mg "NoLine" = some (.ref C)) (x_NoLine : PySem.W.excIn K C bmV newV = true) : FnOk P w K mg base (CXE P w) 3 f fd ["text", "marks"] (spPiecesE C) := by
  refine F.okE sc_pieces (fun vs H Q E h => ?_) (fun cdv A outer s H vs Q E hr h => ?_)
  · obtain ⟨x, m, rfl, _⟩ := h
    rfl
  obtain ⟨x, mk, rfl, hx, hcod, hm32, hno, q⟩ := h
  have hl := len_is x
  refine ⟨_, (pss_cons (ps_set (i := 2) sc_pieces.nd rfl (Or.inl rfl) (pe_lst pa_nil))
  (pss_cons (ps_set (i := 3) sc_pieces.nd rfl (Or.inl rfl) pe_int)
  (pss_cons (ps_while passLoop (pt_cmpR op_lt (pv 3) (pe_callB call_len_str rfl m_len PySem.boot_len (pa_cons (pv 0) pa_nil)) (nomark _))
  (pss_cons (ps_set (i := 4) sc_pieces.nd rfl (Or.inl rfl) (pe_callC c_name_end (hr.mono (by decide)) rfl (pa_cons (pv 0) (pa_cons (pv 3) pa_nil))))
  (pss_cons (ps_if (pt_cmpR op_gt (pv 4) (pv 3) (nomark _))
  (pss_cons (ps_expr (pe_bm PySem.F.plainAttrs_list PySem.F.slot_list_append PySem.F.type_list_append mt_append (pv 2) (pa_cons (pe_slice sl_str (pv 0) (po_some (pv 3)) (po_some (pv 4))) pa_nil)))
  (pss_cons (ps_set (i := 3) sc_pieces.nd rfl (Or.inl rfl) (pv 4))
  (pss_one ps_continue)))
  pss_nil)
  (pss_cons (ps_set (i := 5) sc_pieces.nd rfl (Or.inl rfl) (pe_ix ix_str (pv 0) (pv 3) (fun _ _ => rfl)))
  (pss_cons (ps_if (pt_cmpR op_in_str (pv 5) (pv 1) (by with_unfolding_all rfl))
  (pss_one (ps_expr (pe_bm PySem.F.plainAttrs_list PySem.F.slot_list_append PySem.F.type_list_append mt_append (pv 2) (pa_cons (pv 5) pa_nil))))
  (pss_one (ps_if (pt_cmpR op_ne (pv 5) pe_str (nomark _))
  (pss_one (ps_raise x_NoLine m_NoLine rfl (pa_cons (pe_frepS (pv 5)) pa_nil)))
  pss_nil)))
  (pss_one (ps_aug (i := 3) sc_pieces.nd rfl (Or.inl rfl) pe_int ip_add)))))))
  (pss_one (ps_ret (pv 2)))))), ?_⟩
  refine ⟨(by show 0 ≤ sizeLine; decide), fun l hl0 => ?_⟩
  refine ⟨piecesV x mk l H, ⟨_, 0, [], none, none, rfl, rfl, Nat.zero_le _, same_new hl0 _, upd_same, rfl, rfl⟩, ?_⟩
  rintro m σ H' ⟨p, done, o3, o4, rfl, rfl, hp, sm, hL, e, eall⟩
  have hlen : done.length ≤ 20000 := by
    have z := congrArg List.length e
    rw [List.length_append] at z
    have z2 := toks_len x.cps.toList
    omega
  refine ⟨_, rfl, _, rfl, x, rfl, sz (by omega), _, _, rfl, rfl, _, rfl, ?_⟩
  refine ite2 (fun c => ?_) (fun c => ?_)
  · have c' : p < x.length := by
      have z := of_decide_eq_true c
      omega
    refine ⟨fun σ' H2 => ∃ m', m' < x.length - p ∧ piecesV x mk l H m' σ' H2, fun σ' H2 z => z, ?_⟩
    refine ⟨_, rfl, _, rfl, x, p, rfl, hx, hp, ?_⟩
    refine ⟨_, rfl, _, rfl, _, _, rfl, rfl, _, rfl, ?_⟩
    have hd := drop_get (l := x.cps.toList) (i := p) (by omega)
    have hnl := nameLen_le (x.cps.toList.drop p)
    rw [List.length_drop] at hnl
    refine ite2 (fun c2 => ?_) (fun c2 => ?_)
    · have c2' : 0 < nameLen (x.cps.toList.drop p) := by
        have z := of_decide_eq_true c2
        omega
      refine ⟨_, rfl, .inl ⟨rfl, _, SqL.of hL⟩, _, rfl, _, rfl, _, rfl, _, rfl, _, rfl, x, rfl, sz (by omega), ?_⟩
      rw [slice_S (by omega)]
      refine ⟨l, _, _, rfl, rfl, hL, (by rw [List.length_map]; exact szl (by omega)), ?_⟩
      refine ⟨_, rfl, x.length - (p + nameLen (x.cps.toList.drop p)), by omega, p + nameLen (x.cps.toList.drop p), done ++ [(x.cps.toList.drop p).take (nameLen (x.cps.toList.drop p))], _, _, rfl, rfl, by omega, Same.upd_new sm hl0 _, ?_, ?_, ?_⟩
      · rw [upd_same, List.map_append]
        rfl
      · rw [toks_step_name (by omega), List.drop_drop] at e
        rw [List.append_assoc]
        exact e
      · rw [eall]
        have z := names_okS (mk := mk) (x.cps.toList.drop p)
        rw [List.drop_drop] at z
        exact z
    · have c2' : nameLen (x.cps.toList.drop p) = 0 := by
        have z : ¬ ((p : Int) < ((p + nameLen (x.cps.toList.drop p) : Nat) : Int)) := fun z => c2 (decide_eq_true z)
        omega
      have hal : isAl (x.cps.toList.getD p 0) = false := by
        rw [hd] at c2'
        exact nameLen_zero c2'
      refine ⟨_, rfl, _, rfl, x, p, _, rfl, rfl, sz (by omega), str_at (by omega) (by omega), ?_⟩
      rw [show ((p : Nat) : Int).toNat = p by omega]
      refine ⟨_, rfl, _, rfl, _, _, rfl, rfl, _, rfl, ?_⟩
      rw [StrLaws.found_one]
      rw [hd] at e
      rw [hd, List.all_cons] at eall
      refine ite2 (fun c3 => ?_) (fun c3 => ?_)
      · have hb : x.cps.toList.getD p 0 ≠ 32 := fun z => hm32 (by have := of_decide_eq_true c3; rw [z] at this; exact this)
        rw [toks_other hal hb] at e
        have ok1 : okS mk (x.cps.toList.getD p 0) = true := by unfold okS; rw [c3]; simp
        rw [ok1, Bool.true_and] at eall
        refine ⟨_, rfl, .inl ⟨rfl, _, SqL.of hL⟩, _, rfl, l, _, _, rfl, rfl, hL, (by rw [List.length_map]; exact szl (by omega)), ?_⟩
        refine ⟨_, rfl, _, _, rfl, rfl, x.length - (p + 1), by omega, p + 1, done ++ [[x.cps.toList.getD p 0]], _, _, rfl, rfl, by omega, Same.upd_new sm hl0 _, ?_, ?_, eall⟩
        · rw [upd_same, List.map_append]
          rfl
        · rw [List.append_assoc]
          exact e
      · have c3' : decide (x.cps.toList.getD p 0 ∈ mk.cps.toList) = false := by simpa using c3
        refine ⟨_, rfl, rfl, _, rfl, ?_⟩
        by_cases hb : x.cps.toList.getD p 0 = 32
        · have ok1 : okS mk (x.cps.toList.getD p 0) = true := by unfold okS; rw [hb]; simp
          rw [ok1, Bool.true_and] at eall
          rw [hb] at e ⊢
          rw [toks_blank] at e
          have z : decide (V.str ⟨#[32]⟩ = V.str (Str.ofString " ")) = true := by decide +kernel
          rw [z]
          refine iteF ?_
          exact ⟨_, rfl, _, _, rfl, rfl, x.length - (p + 1), by omega, p + 1, done, _, _, rfl, rfl, by omega, sm, hL, e, eall⟩
        · have z : decide (V.str ⟨#[x.cps.toList.getD p 0]⟩ = V.str (Str.ofString " ")) = false := tx_ne (a := [x.cps.toList.getD p 0]) (b := [32]) (by simpa using hb)
          rw [z]
          have ok1 : okS mk (x.cps.toList.getD p 0) = false := by
            unfold okS
            rw [hal, c3', Bool.false_or, Bool.false_or]
            simpa using hb
          rw [ok1, Bool.false_and] at eall
          refine iteT ⟨_, rfl, _, rfl, (by show (1 : Nat) ≤ 50000; decide), ?_, fun _ => ⟨(by show 1 ≤ sizeLine; decide), hno eall _ sm⟩⟩
          intro c hc
          have hc' : c = x.cps.toList.getD p 0 := by simpa using hc
          rw [hc']
          exact hcod _ (List.mem_of_getElem? (getD_get (by omega)))
  · have c' : p = x.length := by
      have z : ¬ ((p : Int) < (x.length : Int)) := fun z => c (decide_eq_true z)
      omega
    have hd : x.cps.toList.drop p = [] := List.drop_eq_nil_of_le (by omega)
    rw [hd] at e eall
    have e' : done = toks x.cps.toList := by
      rw [← e]
      show done = done ++ []
      rw [List.append_nil]
    rw [e'] at hL
    exact ⟨_, rfl, q eall l H' sm hl0 hL⟩
theorem sc_arguments_at : FnScope ["found", "place", "names", "name", "mark"] ["found", "place"] (defScope s_arguments_at) := ⟨rfl, rfl, rfl, by decide +kernel, rfl, by decide +kernel, by decide +kernel⟩
theorem ok_arguments_at (F : Fun K "arguments_at" "arguments_at" s_arguments_at f fd) (c_piece_at : Cal P w K mg base "piece_at" 1 ["found", "place"] spPiece) (c_is_name : Cal P w K mg base "is_name" 2 ["text"] (spBl nameB)) (m_tuple : mg "tuple" = none) (m_NoLine : mg "NoLine" = some (.ref C)) (x_NoLine : PySem.W.excIn K C bmV newV = true) :
    FnOk P w K mg base (CXE P w) 3 f fd ["found", "place"] (spArgsE C) := by
  refine F.okE sc_arguments_at (fun vs H Q E h => ?_) (fun cdv A outer s H vs Q E hr h => ?_)
  · obtain ⟨l, ps, p, rfl, _⟩ := h
    rfl
  obtain ⟨l, ps, p, rfl, hL, hT, hno, q⟩ := h
  have hz := hT.n
  refine ⟨_, (pss_cons (ps_set (i := 2) sc_arguments_at.nd rfl (Or.inl rfl) (pe_lst pa_nil))
  (pss_cons (ps_if (pt_cmpR op_eq (pe_callC c_piece_at (hr.mono (by decide)) rfl (pa_cons (pv 0) (pa_cons (pv 1) pa_nil))) pe_str (nomark _))
  (pss_one (ps_ret (pe_tup (pa_cons (pe_tup pa_nil) (pa_cons (pe_op op_add (pv 1) pe_int) pa_nil)))))
  pss_nil)
  (pss_one (ps_while passLoop (pt_val pe_bl)
  (pss_cons (ps_set (i := 3) sc_arguments_at.nd rfl (Or.inl rfl) (pe_callC c_piece_at (hr.mono (by decide)) rfl (pa_cons (pv 0) (pa_cons (pv 1) pa_nil))))
  (pss_cons (ps_if (pt_not (pt_val (pe_callC c_is_name (hr.mono (by decide)) rfl (pa_cons (pv 3) pa_nil))))
  (pss_one (ps_raise x_NoLine m_NoLine rfl (pa_cons (pe_frepS (pv 3)) pa_nil)))
  pss_nil)
  (pss_cons (ps_expr (pe_bm PySem.F.plainAttrs_list PySem.F.slot_list_append PySem.F.type_list_append mt_append (pv 2) (pa_cons (pv 3) pa_nil)))
  (pss_cons (ps_set (i := 4) sc_arguments_at.nd rfl (Or.inl rfl) (pe_callC c_piece_at (hr.mono (by decide)) rfl (pa_cons (pv 0) (pa_cons (pe_op op_add (pv 1) pe_int) pa_nil))))
  (pss_cons (ps_aug (i := 1) sc_arguments_at.nd rfl (Or.inl rfl) pe_int ip_add)
  (pss_cons (ps_if (pt_cmpR op_eq (pv 4) pe_str (nomark _))
  (pss_one (ps_ret (pe_tup (pa_cons (pe_callTy call_tuple_of rfl m_tuple PyProof.Rows.Boot.«tuple» (pa_cons (pv 2) pa_nil)) (pa_cons (pv 1) pa_nil)))))
  pss_nil)
  (pss_one (ps_if (pt_cmpR op_ne (pv 4) pe_str (nomark _))
  (pss_one (ps_raise x_NoLine m_NoLine rfl (pa_cons (pe_frepS (pv 4)) pa_nil)))
  pss_nil)))))))))))), ?_⟩
  refine ⟨(by show 0 ≤ sizeLine; decide), fun ln hn0 => ?_⟩
  have hLn : l ≠ ln := fun z => by rw [z, hn0] at hL; cases hL
  have hL1 : upd H ln (.lst []) l = some (.lst (ps.map tx)) := by rw [upd_ne hLn]; exact hL
  refine ⟨_, rfl, _, rfl, l, ps, p, rfl, hL1, hz, rfl, _, rfl, ?_⟩
  have g00 : (ps.drop p).getD 0 [] = ps.getD p [] := getD_drop
  by_cases h41 : ps.getD p [] = [41]
  · rw [h41]
    have z : decide (tx [41] = V.str (Str.ofString ")")) = true := by decide +kernel
    rw [z]
    have eO : argsO (ps.drop p) = some ([], 1) := by unfold argsO; rw [g00, if_pos h41]
    refine iteT ⟨(by show 0 ≤ sizeLine; decide), fun t2 ht2 => ?_⟩
    refine ⟨_, rfl, _, _, rfl, rfl, (by show 2 ≤ sizeLine; decide), fun t ht => ?_⟩
    have h12 : t2 ≠ t := fun z => by rw [← z, upd_same] at ht; cases ht
    refine q _ _ eO t t2 _ (Same.trans (same_new hn0 _) (Same.trans (same_new ht2 _) (same_new ht _))) upd_same ?_
    rw [upd_ne h12]
    exact upd_same
  · have z : decide (tx (ps.getD p []) = V.str (Str.ofString ")")) = false := tx_ne (b := [41]) h41
    rw [z]
    have eO : argsO (ps.drop p) = argsL (ps.drop p) := by unfold argsO; rw [g00, if_neg h41]
    rw [eO] at hno q
    refine iteF ?_
    refine ⟨argsV l ln ps (argsL (ps.drop p)) p H, ⟨_, p, [], none, none, rfl, rfl, same_new hn0 _, hL1, upd_same, Nat.le_refl _, ?_, by rw [List.length_drop]; simp; omega⟩, ?_⟩
    · cases argsL (ps.drop p) <;> simp
    rintro m σ H' ⟨p', done, o3, o4, rfl, rfl, sm, hL', hN', hpp, eo, hdl⟩
    have g0 : (ps.drop p').getD 0 [] = ps.getD p' [] := getD_drop
    have g1 : (ps.drop p').getD 1 [] = ps.getD (p' + 1) [] := getD_drop
    refine ⟨_, rfl, ?_⟩
    refine iteT ⟨fun σ' H2 => ∃ m', m' < (ps.drop p').length ∧ argsV l ln ps (argsL (ps.drop p)) p H m' σ' H2, fun σ' H2 z => z, ?_⟩
    refine ⟨_, rfl, _, rfl, l, ps, p', rfl, hL', hz, ?_⟩
    have hat := hT.at p'
    refine ⟨_, rfl, S (ps.getD p' []), rfl, by rw [S_len]; omega, fun H2 sm2 => ⟨_, rfl, ?_⟩⟩
    rw [nameB_S]
    cases hnm : nameC (ps.getD p' []) with
    | false =>
      have hn := argsL_none1 (l := ps.drop p') (by rw [g0]; exact hnm)
      rw [hn] at eo
      exact iteT ⟨_, rfl, S (ps.getD p' []), rfl, by rw [S_len]; omega, by rw [S_codes]; exact hat.2, fun _ => ⟨(by show 1 ≤ sizeLine; decide), hno eo _ (Same.trans sm sm2)⟩⟩
    | true =>
    refine iteF ?_
    have hstep := argsL_step (l := ps.drop p') (by rw [g0]; exact hnm)
    rw [g0, g1, List.drop_drop] at hstep
    have hN2 := sm2 _ _ hN'
    have hL2 := sm2 _ _ hL'
    have hpl : 1 ≤ (ps.drop p').length := by
      cases hd : ps.drop p' with
      | nil => rw [hd] at g0; rw [← g0] at hnm; exact absurd hnm (by decide)
      | cons a r => simp
    refine ⟨_, rfl, .inl ⟨rfl, _, SqL.of hN2⟩, _, rfl, ln, _, _, rfl, rfl, hN2, (by rw [List.length_map]; exact szl (by omega)), ?_⟩
    have hL3 : upd H2 ln (.lst (done.map tx ++ [tx (ps.getD p' [])])) l = some (.lst (ps.map tx)) := by rw [upd_ne hLn]; exact hL2
    refine ⟨_, rfl, _, rfl, _, _, rfl, rfl, l, ps, p' + 1, rfl, hL3, hz, ?_⟩
    refine ⟨_, rfl, _, _, rfl, rfl, ?_⟩
    have sm3 : Same H (upd H2 ln (.lst (done.map tx ++ [tx (ps.getD p' [])]))) := Same.upd_new (Same.trans sm sm2) hn0 _
    refine ⟨_, rfl, rfl, _, rfl, ?_⟩
    by_cases h41' : ps.getD (p' + 1) [] = [41]
    · rw [h41']
      rw [if_pos h41'] at hstep
      rw [hstep] at eo
      have z : decide (tx [41] = V.str (Str.ofString ")")) = true := by decide +kernel
      rw [z]
      refine iteT ⟨_, rfl, ln, _, rfl, .inl ⟨SqL.of upd_same, fun t2 ht2 => ?_⟩⟩
      refine ⟨_, rfl, (by show 2 ≤ sizeLine; decide), fun t ht => ?_⟩
      have h12 : t2 ≠ t := fun z => by rw [← z, upd_same] at ht; cases ht
      refine q _ _ eo t t2 _ (Same.trans sm3 (Same.trans (same_new ht2 _) (same_new ht _))) ?_ ?_
      · rw [upd_same]
        show some (HO.tup [V.ref t2, V.int (((p' : Nat) : Int) + 2)]) = some (HO.tup [V.ref t2, V.int ((p + (p' - p + 2) : Nat) : Int)])
        rw [show ((p + (p' - p + 2) : Nat) : Int) = (p' : Int) + 2 by omega]
      · rw [upd_ne h12, upd_same, List.map_append]
        rfl
    · have z : decide (tx (ps.getD (p' + 1) []) = V.str (Str.ofString ")")) = false := tx_ne (b := [41]) h41'
      rw [z]
      rw [if_neg h41'] at hstep
      refine iteF ?_
      refine ⟨_, rfl, rfl, _, rfl, ?_⟩
      by_cases h44 : ps.getD (p' + 1) [] = [44]
      · rw [h44]
        rw [if_pos h44] at hstep
        have z2 : decide (tx [44] = V.str (Str.ofString ",")) = true := by decide +kernel
        rw [z2]
        refine iteF ?_
        have hp2 : 2 ≤ (ps.drop p').length := by
          match hd : ps.drop p' with
          | [] => rw [hd] at hpl; exact absurd hpl (by decide)
          | [a] => rw [hd] at g1; rw [← g1] at h44; exact absurd h44 (by simp)
          | a :: b :: r => simp
        have hd2 : (ps.drop (p' + 2)).length + 2 = (ps.drop p').length := by
          rw [List.length_drop] at hp2 ⊢
          rw [List.length_drop]
          omega
        refine ⟨(ps.drop (p' + 2)).length, by omega, p' + 2, done ++ [ps.getD p' []], _, _, rfl, rfl, sm3, hL3, ?_, by omega, ?_, by rw [List.length_append]; simp only [List.length_cons, List.length_nil]; omega⟩
        · rw [upd_same, List.map_append]
          rfl
        · rw [eo, hstep]
          cases argsL (ps.drop (p' + 2)) with
          | none => rfl
          | some q =>
            show some (done ++ (ps.getD p' [] :: q.1), p' - p + (q.2 + 2)) = some (done ++ [ps.getD p' []] ++ q.1, p' + 2 - p + q.2)
            rw [List.append_assoc, show p' - p + (q.2 + 2) = p' + 2 - p + q.2 by omega]
            rfl
      · have z2 : decide (tx (ps.getD (p' + 1) []) = V.str (Str.ofString ",")) = false := tx_ne (b := [44]) h44
        rw [z2]
        rw [if_neg h44] at hstep
        rw [hstep] at eo
        have hat1 := hT.at (p' + 1)
        exact iteT ⟨_, rfl, S (ps.getD (p' + 1) []), rfl, by rw [S_len]; omega, by rw [S_codes]; exact hat1.2, fun _ => ⟨(by show 1 ≤ sizeLine; decide), hno eo _ sm3⟩⟩
end
end K03
namespace K03
open PySem L2 K02 Bk
set_option maxHeartbeats 4000000
section
variable {P : Program} {w : World} {K : PySem.W.Frag} {mg : Str → Option Value} {base : Heap} {f : Addr} {fd : FuncData} {C : Addr}
theorem sc_fact_at : FnScope ["found", "place", "kind", "reading"] ["found", "place"] (defScope s_fact_at) := ⟨rfl, rfl, rfl, by decide +kernel, rfl, by decide +kernel, by decide +kernel⟩
theorem ok_fact_at (F : Fun K "fact_at" "fact_at" s_fact_at f fd) (c_piece_at : Cal P w K mg base "piece_at" 1 ["found", "place"] spPiece) (c_is_small_word : Cal P w K mg base "is_small_word" 3 ["text"] (spBl smallB)) (c_arguments_at : CalE P w K mg base "arguments_at" 3 ["found", "place"] (spArgsE C)) (m_NoLine : mg "NoLine" = some (.ref C)) (x_NoLine : PySem.W.excIn K C bmV newV = true) :
    FnOk P w K mg base (CXE P w) 4 f fd ["found", "place"] (spFactE C) := by
  refine F.okE sc_fact_at (fun vs H Q E h => ?_) (fun cdv A outer s H vs Q E hr h => ?_)
  · obtain ⟨l, ps, p, rfl, _⟩ := h
    rfl
  obtain ⟨l, ps, p, rfl, hL, hT, hno, q⟩ := h
  have hz := hT.n
  refine ⟨_, (pss_cons (ps_set (i := 2) sc_fact_at.nd rfl (Or.inl rfl) (pe_callC c_piece_at (hr.mono (by decide)) rfl (pa_cons (pv 0) (pa_cons (pv 1) pa_nil))))
  (pss_cons (ps_if (pt_not (pt_val (pe_callC c_is_small_word (hr.mono (by decide)) rfl (pa_cons (pv 2) pa_nil))))
  (pss_one (ps_raise x_NoLine m_NoLine rfl (pa_cons (pe_frepS (pv 2)) pa_nil)))
  pss_nil)
  (pss_cons (ps_if (pt_cmpR op_ne (pe_callC c_piece_at (hr.mono (by decide)) rfl (pa_cons (pv 0) (pa_cons (pe_op op_add (pv 1) pe_int) pa_nil))) pe_str (nomark _))
  (pss_one (ps_ret (pe_tup (pa_cons (pe_tup (pa_cons (pv 2) (pa_cons (pe_tup pa_nil) pa_nil))) (pa_cons (pe_op op_add (pv 1) pe_int) pa_nil)))))
  pss_nil)
  (pss_cons (ps_set (i := 3) sc_fact_at.nd rfl (Or.inl rfl) (pe_callE c_arguments_at (hr.mono (by decide)) rfl (pa_cons (pv 0) (pa_cons (pe_op op_add (pv 1) pe_int) pa_nil))))
  (pss_one (ps_ret (pe_tup (pa_cons (pe_tup (pa_cons (pv 2) (pa_cons (pe_ix ix_tup (pv 3) pe_int (fun _ _ => rfl)) pa_nil))) (pa_cons (pe_ix ix_tup (pv 3) pe_int (fun _ _ => rfl)) pa_nil))))))))), ?_⟩
  have g0 : (ps.drop p).getD 0 [] = ps.getD p [] := getD_drop
  have g1 : (ps.drop p).getD 1 [] = ps.getD (p + 1) [] := getD_drop
  have hat := hT.at p
  have eF : factO (ps.drop p) = if smallC (ps.getD p []) = true then (if ps.getD (p + 1) [] = [40] then (argsO (ps.drop (p + 2))).map fun q => (⟨ps.getD p [], q.1⟩, q.2 + 2) else some (⟨ps.getD p [], []⟩, 1)) else none := by
    unfold factO
    rw [g0, g1, List.drop_drop]
  refine ⟨_, rfl, _, rfl, l, ps, p, rfl, hL, hz, ?_⟩
  refine ⟨_, rfl, S (ps.getD p []), rfl, by rw [S_len]; omega, fun H1 s1 => ⟨_, rfl, ?_⟩⟩
  rw [smallB_S]
  cases hk : smallC (ps.getD p []) with
  | false =>
    rw [hk, if_neg (by decide)] at eF
    exact iteT ⟨_, rfl, S (ps.getD p []), rfl, by rw [S_len]; omega, by rw [S_codes]; exact hat.2, fun _ => ⟨(by show 1 ≤ sizeLine; decide), hno eF _ s1⟩⟩
  | true =>
  rw [hk, if_pos rfl] at eF
  refine iteF ?_
  have hL1 := s1 _ _ hL
  refine ⟨_, rfl, _, rfl, _, _, rfl, rfl, l, ps, p + 1, rfl, hL1, hz, rfl, _, rfl, ?_⟩
  by_cases h40 : ps.getD (p + 1) [] = [40]
  · rw [h40]
    rw [if_pos h40] at eF
    have z : decide (tx [40] = V.str (Str.ofString "(")) = true := by decide +kernel
    rw [z]
    refine iteF ?_
    refine ⟨_, rfl, _, rfl, _, _, rfl, rfl, l, ps, p + 2, rfl, hL1, hT, fun hn => ?_, fun as n ha t t2 H2 s2 ht ht2 => ?_⟩
    · rw [hn] at eF
      exact (hno eF).sm s1
    rw [ha] at eF
    refine ⟨_, rfl, _, rfl, t, _, 0, .ref t2, rfl, rfl, SqT.of ht, rfl, (by show 2 ≤ sizeLine; decide), fun t1 ht1 => ?_⟩
    have ht1' := same_new ht1 (.tup [tx (ps.getD p []), .ref t2])
    refine ⟨_, rfl, t, _, 1, _, rfl, rfl, SqT.of (ht1' _ _ ht), rfl, (by show 2 ≤ sizeLine; decide), fun t0 ht0 => ?_⟩
    have h10 : t1 ≠ t0 := fun z => by rw [← z, upd_same] at ht0; cases ht0
    refine q _ _ eF t0 t1 t2 _ (Same.trans s1 (Same.trans s2 (Same.trans ht1' (same_new ht0 _)))) ?_ ?_ ((same_new ht0 _) _ _ (ht1' _ _ ht2))
    · rw [upd_same, show p + 2 + n = p + (n + 2) by omega]
    · rw [upd_ne h10]
      exact upd_same
  · have z : decide (tx (ps.getD (p + 1) []) = V.str (Str.ofString "(")) = false := tx_ne (b := [40]) h40
    rw [z]
    rw [if_neg h40] at eF
    refine iteT ⟨_, rfl, (by show 0 ≤ sizeLine; decide), fun t2 ht2 => ?_⟩
    refine ⟨(by show 2 ≤ sizeLine; decide), fun t1 ht1 => ?_⟩
    refine ⟨_, rfl, _, _, rfl, rfl, (by show 2 ≤ sizeLine; decide), fun t0 ht0 => ?_⟩
    have h10 : t1 ≠ t0 := fun z => by rw [← z, upd_same] at ht0; cases ht0
    refine q _ _ eF t0 t1 t2 _ (Same.trans s1 (Same.trans (same_new ht2 _) (Same.trans (same_new ht1 _) (same_new ht0 _)))) upd_same ?_ ((same_new ht0 _) _ _ ((same_new ht1 _) _ _ upd_same))
    rw [upd_ne h10]
    exact upd_same
theorem sc_row_of_facts : FnScope ["found", "facts", "place", "reading"] ["found"] (defScope s_row_of_facts) := ⟨rfl, rfl, rfl, by decide +kernel, rfl, by decide +kernel, by decide +kernel⟩
theorem ok_row_of_facts (F : Fun K "row_of_facts" "row_of_facts" s_row_of_facts f fd) (c_fact_at : CalE P w K mg base "fact_at" 4 ["found", "place"] (spFactE C)) (m_len : mg "len" = none) (m_NoLine : mg "NoLine" = some (.ref C)) (x_NoLine : PySem.W.excIn K C bmV newV = true) : FnOk P w K mg base (CXE P w) 5 f fd ["found"] (spRowE K C) := by
  refine F.okE sc_row_of_facts (fun vs H Q E h => ?_) (fun cdv A outer s H vs Q E hr h => ?_)
  · obtain ⟨l, ps, rfl, _⟩ := h
    rfl
  obtain ⟨l, ps, rfl, hL, hT, hno, q⟩ := h
  have hz := hT.n
  refine ⟨_, (pss_cons (ps_set (i := 1) sc_row_of_facts.nd rfl (Or.inl rfl) (pe_lst pa_nil))
  (pss_cons (ps_set (i := 2) sc_row_of_facts.nd rfl (Or.inl rfl) pe_int)
  (pss_one (ps_while passLoop (pt_val pe_bl)
  (pss_cons (ps_set (i := 3) sc_row_of_facts.nd rfl (Or.inl rfl) (pe_callE c_fact_at (hr.mono (by decide)) rfl (pa_cons (pv 0) (pa_cons (pv 2) pa_nil))))
  (pss_cons (ps_expr (pe_bm PySem.F.plainAttrs_list PySem.F.slot_list_append PySem.F.type_list_append mt_append (pv 1) (pa_cons (pe_ix ix_tup (pv 3) pe_int (fun _ _ => rfl)) pa_nil)))
  (pss_cons (ps_set (i := 2) sc_row_of_facts.nd rfl (Or.inl rfl) (pe_ix ix_tup (pv 3) pe_int (fun _ _ => rfl)))
  (pss_cons (ps_if (pt_cmpR op_eq (pv 2) (pe_callB call_len_seq rfl m_len PySem.boot_len (pa_cons (pv 0) pa_nil)) (nomark _))
  (pss_one (ps_ret (pv 1)))
  pss_nil)
  (pss_cons (ps_if (pt_cmpR op_ne (pe_ix ix_list (pv 0) (pv 2) (fun _ _ => rfl)) pe_str (nomark _))
  (pss_one (ps_raise x_NoLine m_NoLine rfl (pa_cons (pe_frepL hr.gd hr.units (pv 0)) pa_nil)))
  pss_nil)
  (pss_one (ps_aug (i := 2) sc_row_of_facts.nd rfl (Or.inl rfl) pe_int ip_add))))))))))), ?_⟩
  refine ⟨(by show 0 ≤ sizeLine; decide), fun lf hlf => ?_⟩
  have hne : l ≠ lf := ne_of_none hL hlf
  generalize hO : rowO (ps.length + 1) ps = o at hno q
  refine ⟨rowV K l lf ps o H, ⟨_, 0, ps.length + 1, [], [], none, rfl, rfl, same_new hlf _, by rw [upd_ne hne]; exact hL, upd_same, .nil, by rw [List.drop_zero]; omega, ?_, by rw [List.drop_zero]; simpa using hz⟩, ?_⟩
  · rw [List.drop_zero, hO]
    cases o <;> simp
  rintro m σ H' ⟨p, fu, done, us, o3, rfl, rfl, sm, hL', hf', pr, hfu, eo, hdl⟩
  obtain ⟨fu, rfl⟩ : ∃ k, fu = k + 1 := ⟨fu - 1, by omega⟩
  have eo : o = ((factO (ps.drop p)).bind fun q => if q.2 = (ps.drop p).length then some [q.1] else if (ps.drop p).getD q.2 [] = [44] then (rowO fu ((ps.drop p).drop (q.2 + 1))).map (q.1 :: ·) else none).map (done ++ ·) := eo
  refine ⟨_, rfl, iteT ⟨fun σ' H2 => ∃ m', m' < (ps.drop p).length ∧ rowV K l lf ps o H m' σ' H2, fun σ' H2 z => z, ?_⟩⟩
  refine ⟨_, rfl, _, rfl, l, ps, p, rfl, hL', hT, fun hn => ?_, fun f1 n hF t t1 t2 H2 s2 ht ht1 ht2 => ?_⟩
  · rw [hn] at eo
    exact (hno eo).sm sm
  rw [hF] at eo
  have eo : o = (if n = (ps.drop p).length then some [f1] else if (ps.drop p).getD n [] = [44] then (rowO fu ((ps.drop p).drop (n + 1))).map (f1 :: ·) else none).map (done ++ ·) := eo
  have hle := factO_le hF
  have hdr : (ps.drop p).length = ps.length - p := List.length_drop ..
  have hf2 := s2 _ _ hf'
  have hL2 := s2 _ _ hL'
  have hlen : us.length ≤ 20000 := by
    have z := pr.length
    omega
  refine ⟨_, rfl, .inl ⟨rfl, _, SqL.of hf2⟩, _, rfl, t, _, 0, _, rfl, rfl, SqT.of ht, rfl, lf, _, _, rfl, rfl, hf2, szl (by omega), ?_⟩
  have htn : t ≠ lf := ne_of ht hf2 (by intro z; cases z)
  have kp : Kp (upd H lf (.lst [])) H2 (upd H2 lf (.lst (us ++ [V.ref t1]))) := Kp.upd upd_same hf2 (by intro xs z; cases z) (by intro o u z; cases z)
  have pr' : Paired (Fact K (upd H2 lf (.lst (us ++ [V.ref t1])))) (done ++ [f1]) (us ++ [V.ref t1]) := by
    refine (L2.Paired.mapP pr fun a b z => Fact.keep kp (Fact.keep (H0 := H) (Kp.same s2) z)).snoc ?_
    exact Fact.keep kp ⟨t1, t2, rfl, SqT.of ht1, SqT.of ht2⟩
  have hL3 : upd H2 lf (.lst (us ++ [V.ref t1])) l = some (.lst (ps.map tx)) := by rw [upd_ne hne]; exact hL2
  have sm3 : Same H (upd H2 lf (.lst (us ++ [V.ref t1]))) := Same.upd_new (Same.trans sm s2) hlf _
  refine ⟨_, rfl, t, _, 1, _, rfl, rfl, SqT.of (by rw [upd_ne htn]; exact ht), rfl, ?_⟩
  refine ⟨_, rfl, _, rfl, l, _, rfl, .inl (SqL.of hL3), rfl, _, rfl, ?_⟩
  rw [List.length_map]
  by_cases hend : n = (ps.drop p).length
  · rw [if_pos hend] at eo
    have z : decide (V.int ((p + n : Nat) : Int) = V.int (ps.length : Int)) = true := by
      refine decide_eq_true ?_
      rw [show p + n = ps.length by omega]
    rw [z]
    exact iteT ⟨_, rfl, q _ eo _ _ sm3 ⟨lf, _, rfl, hlf, upd_same, pr'⟩⟩
  · rw [if_neg hend] at eo
    have z : decide (V.int ((p + n : Nat) : Int) = V.int (ps.length : Int)) = false := by
      refine decide_eq_false fun z => ?_
      have z' : ((p + n : Nat) : Int) = (ps.length : Int) := by injection z
      omega
    rw [z]
    refine iteF ?_
    have gn : (ps.drop p).getD n [] = ps.getD (p + n) [] := getD_drop
    rw [gn] at eo
    refine ⟨_, rfl, _, rfl, l, _, _, tx (ps.getD (p + n) []), rfl, rfl, SqL.of hL3, ?_, rfl, _, rfl, ?_⟩
    · refine atI_nat ?_
      rw [List.getElem?_map, List.getElem?_eq_getElem (by omega), List.getD_eq_getElem?_getD, List.getElem?_eq_getElem (by omega)]
      rfl
    · by_cases h44 : ps.getD (p + n) [] = [44]
      · rw [h44]
        rw [if_pos h44] at eo
        have z2 : decide (tx [44] = V.str (Str.ofString ",")) = true := by decide +kernel
        rw [z2]
        refine iteF ⟨_, rfl, _, _, rfl, rfl, (ps.drop (p + n + 1)).length, ?_, p + n + 1, fu, done ++ [f1], _, _, rfl, rfl, sm3, hL3, upd_same, pr', ?_, ?_, ?_⟩
        · rw [List.length_drop, List.length_drop]; omega
        · rw [List.length_drop]; omega
        · rw [eo, List.drop_drop, show p + (n + 1) = p + n + 1 by omega, Option.map_map]
          congr 1
          funext z
          simp
        · rw [List.length_append, List.length_drop]; simp only [List.length_cons, List.length_nil]; omega
      · have z2 : decide (tx (ps.getD (p + n) []) = V.str (Str.ofString ",")) = false := tx_ne (b := [44]) h44
        rw [z2]
        rw [if_neg h44] at eo
        refine iteT ⟨_, rfl, l, ps.map S, rfl, SqL.of (by rw [← map_tx]; exact hL3), fun b hb => ?_, ?_, by rw [List.length_map]; omega, fun _ => ⟨(by show 1 ≤ sizeLine; decide), hno eo _ sm3⟩⟩
        · obtain ⟨a, ha, rfl⟩ := List.mem_map.mp hb
          exact ⟨by rw [S_len]; exact Nat.le_trans (len_of_sum ha) hT.sum, by rw [S_codes]; exact hT.cod a ha⟩
        · rw [List.map_map, show ((fun x : Str => x.length) ∘ S) = List.length from funext fun a => S_len a]
          have := hT.sum
          omega
theorem sc_read_fact : FnScope ["text", "found", "reading"] ["text"] (defScope s_read_fact) := ⟨rfl, rfl, rfl, by decide +kernel, rfl, by decide +kernel, by decide +kernel⟩
theorem ok_read_fact {u1 : Value} {mk : Str} (F : Fun K "read_fact" "read_fact" s_read_fact f fd) (c_pieces : CalE P w K mg base "pieces" 3 ["text", "marks"] (spPiecesE C)) (c_fact_at : CalE P w K mg base "fact_at" 4 ["found", "place"] (spFactE C)) (m_len : mg "len" = none) (m_MARKS : mg "MARKS" = some u1) (r_MARKS : RelV (.str mk) u1) (h32 : 32 ∉ mk.cps.toList) (m_NoLine : mg "NoLine" = some (.ref C)) (x_NoLine : PySem.W.excIn K C bmV newV = true) :
    FnOk P w K mg base (CXE P w) 5 f fd ["text"] (spReadF K C mk) := by
  refine F.okE sc_read_fact (fun vs H Q E h => ?_) (fun cdv A outer s H vs Q E hr h => ?_)
  · obtain ⟨x, rfl, _⟩ := h
    rfl
  obtain ⟨x, rfl, hx, hc, hno, q⟩ := h
  refine ⟨_, (pss_cons (ps_set (i := 1) sc_read_fact.nd rfl (Or.inl rfl) (pe_callE c_pieces (hr.mono (by decide)) rfl (pa_cons (pv 0) (pa_cons (pe_glob rfl m_MARKS r_MARKS) pa_nil))))
  (pss_cons (ps_set (i := 2) sc_read_fact.nd rfl (Or.inl rfl) (pe_callE c_fact_at (hr.mono (by decide)) rfl (pa_cons (pv 1) (pa_cons pe_int pa_nil))))
  (pss_cons (ps_if (pt_cmpR op_ne (pe_ix ix_tup (pv 2) pe_int (fun _ _ => rfl)) (pe_callB call_len_seq rfl m_len PySem.boot_len (pa_cons (pv 1) pa_nil)) (nomark _))
  (pss_one (ps_raise x_NoLine m_NoLine rfl (pa_cons (pe_frepS (pv 0)) pa_nil)))
  pss_nil)
  (pss_one (ps_ret (pe_ix ix_tup (pv 2) pe_int (fun _ _ => rfl))))))), ?_⟩
  unfold oneX at hno q
  refine ⟨_, rfl, x, mk, rfl, hx, hc, h32, fun hok => ?_, fun hok l H1 s1 hl0 hL => ?_⟩
  · rw [hok, if_neg (by decide)] at hno
    exact hno rfl
  rw [hok, if_pos rfl] at hno q
  have hT : TokOk (toks x.cps.toList) := TokOk.of (by rw [len_is]; exact hx) hc
  refine ⟨_, rfl, l, toks x.cps.toList, 0, rfl, hL, hT, fun hn => ?_, fun g n hF t t1 t2 H2 s2 ht ht1 ht2 => ?_⟩
  · rw [List.drop_zero] at hn
    rw [hn] at hno
    exact (hno rfl).sm s1
  rw [List.drop_zero] at hF
  rw [hF] at hno q
  have hno : (if n = (toks x.cps.toList).length then some g else none) = none → Ref C H E := hno
  have q : ∀ g', (if n = (toks x.cps.toList).length then some g else none) = some g' → ∀ (t1 t2 : Addr) (H' : Hp), Same H H' → H' t1 = some (.tup [tx g'.k, .ref t2]) → H' t2 = some (.tup (g'.as.map tx)) → Q (.ref t1) H' := q
  have s3 := Same.trans s1 s2
  refine ⟨_, rfl, t, _, 1, _, rfl, rfl, SqT.of ht, rfl, _, rfl, l, _, rfl, .inl (SqL.of (s2 _ _ hL)), rfl, _, rfl, ?_⟩
  rw [List.length_map, Nat.zero_add]
  by_cases hend : n = (toks x.cps.toList).length
  · rw [if_pos hend] at q
    rw [hend, decide_eq_true rfl]
    refine iteF ⟨_, rfl, t, _, 0, _, rfl, rfl, SqT.of ht, rfl, q g rfl t1 t2 _ s3 ht1 ht2⟩
  · rw [if_neg hend] at hno
    have z : decide (V.int (n : Int) = V.int ((toks x.cps.toList).length : Int)) = false := by
      refine decide_eq_false fun z => ?_
      have z' : (n : Int) = ((toks x.cps.toList).length : Int) := by injection z
      omega
    rw [z]
    exact iteT ⟨_, rfl, x, rfl, by omega, hc, fun _ => ⟨(by show 1 ≤ sizeLine; decide), hno rfl _ s3⟩⟩
theorem sc_read_facts : FnScope ["text", "found"] ["text"] (defScope s_read_facts) := ⟨rfl, rfl, rfl, by decide +kernel, rfl, by decide +kernel, by decide +kernel⟩
theorem ok_read_facts {u1 : Value} {mk : Str} (F : Fun K "read_facts" "read_facts" s_read_facts f fd) (c_pieces : CalE P w K mg base "pieces" 3 ["text", "marks"] (spPiecesE C)) (c_row_of_facts : CalE P w K mg base "row_of_facts" 5 ["found"] (spRowE K C)) (m_len : mg "len" = none) (m_MARKS : mg "MARKS" = some u1) (r_MARKS : RelV (.str mk) u1) (h32 : 32 ∉ mk.cps.toList) :
    FnOk P w K mg base (CXE P w) 6 f fd ["text"] (spReadR K C mk) := by
  refine F.okE sc_read_facts (fun vs H Q E h => ?_) (fun cdv A outer s H vs Q E hr h => ?_)
  · obtain ⟨x, rfl, _⟩ := h
    rfl
  obtain ⟨x, rfl, hx, hc, hno, q⟩ := h
  refine ⟨_, (pss_cons (ps_set (i := 1) sc_read_facts.nd rfl (Or.inl rfl) (pe_callE c_pieces (hr.mono (by decide)) rfl (pa_cons (pv 0) (pa_cons (pe_glob rfl m_MARKS r_MARKS) pa_nil))))
  (pss_cons (ps_if (pt_cmpR op_eq (pe_callB call_len_seq rfl m_len PySem.boot_len (pa_cons (pv 1) pa_nil)) pe_int (nomark _))
  (pss_one (ps_ret (pe_lst pa_nil)))
  pss_nil)
  (pss_one (ps_ret (pe_callE c_row_of_facts (hr.mono (by decide)) rfl (pa_cons (pv 1) pa_nil)))))), ?_⟩
  unfold rowX at hno q
  refine ⟨_, rfl, x, mk, rfl, hx, hc, h32, fun hok => ?_, fun hok l H1 s1 hl0 hL => ?_⟩
  · rw [hok, if_neg (by decide)] at hno
    exact hno rfl
  rw [hok, if_pos rfl] at hno q
  have hT : TokOk (toks x.cps.toList) := TokOk.of (by rw [len_is]; exact hx) hc
  refine ⟨_, rfl, l, _, rfl, .inl (SqL.of hL), rfl, _, rfl, ?_⟩
  rw [List.length_map]
  by_cases h0 : toks x.cps.toList = []
  · rw [if_pos h0] at q
    rw [h0]
    refine iteT ⟨(by show 0 ≤ sizeLine; decide), fun l2 hl2 => ?_⟩
    exact q [] rfl _ _ (Same.trans s1 (same_new hl2 _)) ⟨l2, [], rfl, s1.free hl2, upd_same, .nil⟩
  · rw [if_neg h0] at hno q
    have z : decide (V.int ((toks x.cps.toList).length : Int) = V.int 0) = false := by
      refine decide_eq_false fun z => h0 ?_
      have z' : ((toks x.cps.toList).length : Int) = 0 := by injection z
      exact List.eq_nil_of_length_eq_zero (by omega)
    rw [z]
    refine iteF ⟨_, rfl, l, toks x.cps.toList, rfl, hL, hT, fun hn => (hno hn).sm s1, fun fs hfs v H2 s2 hF => ?_⟩
    refine q fs hfs v H2 (Same.trans s1 s2) ?_
    obtain ⟨lf, vs, e, h1, h2, h3⟩ := hF
    exact ⟨lf, vs, e, s1.free h1, h2, h3⟩
end
end K03
namespace K03
open PySem L2 K02 Bk
set_option maxHeartbeats 4000000
section
variable {P : Program} {w : World} {K : PySem.W.Frag} {mg : Str → Option Value} {base : Heap} {f : Addr} {fd : FuncData}
theorem get_of {α : Type} {l : List α} {i : Nat} {x : α} (h : l[i]? = some x) : ∃ hi : i < l.length, l[i] = x := List.getElem?_eq_some_iff.mp h
theorem fact_words {g : Fc} (h : FG g) : ((g.as.map S).map (·.length)).sum + (g.as.map S).length * (Str.ofString ",").length ≤ 16777216 := by
  have z := len_sum h.alen
  have z2 := h.n
  have e : (Str.ofString ",").length = 1 := by decide +kernel
  rw [List.length_map, e]
  have : g.as.length * 12 ≤ 4 * 12 := Nat.mul_le_mul_right _ z2
  omega
theorem comma_S : Str.ofString "," = (⟨#[44]⟩ : Str) := by decide +kernel
theorem pieces_S (k : Cs) (as : List Cs) : S k ++ Str.ofString "(" ++ Txt.join (Str.ofString ",") (as.map S) ++ Str.ofString ")" = S (((k ++ [40]) ++ joinC 44 as) ++ [41]) := by
  have e1 : Str.ofString "(" = S [40] := by decide +kernel
  have e2 : Str.ofString ")" = S [41] := by decide +kernel
  rw [e1, e2, comma_S, joinC_S, app_S, app_S, app_S]
theorem sc_fact_text : FnScope ["fact"] ["fact"] (defScope s_fact_text) := ⟨rfl, rfl, rfl, by decide +kernel, rfl, by decide +kernel, by decide +kernel⟩
theorem ok_fact_text (F : Fun K "fact_text" "fact_text" s_fact_text f fd) (m_len : mg "len" = none) : FnOk P w K mg base CX0 1 f fd ["fact"] (spFT3 K) := by
  refine F.ok sc_fact_text (fun vs H Q E h => ?_) (fun cdv A outer s H vs Q E hr h => ?_)
  · obtain ⟨v, g, rfl, _⟩ := h
    rfl
  obtain ⟨v, g, rfl, ⟨t, t2, rfl, h1, h2⟩, hg, q⟩ := h
  refine ⟨_, (pss_cons (ps_if (pt_cmpR op_eq (pe_callB call_len_seq rfl m_len PySem.boot_len (pa_cons (pe_ix ix_tup (pv 0) pe_int (fun _ _ => rfl)) pa_nil)) pe_int (nomark _))
  (pss_one (ps_ret (pe_ix ix_tup (pv 0) pe_int (fun _ _ => rfl))))
  pss_nil)
  (pss_one (ps_ret (pe_op op_add_str (pe_op op_add_str (pe_op op_add_str (pe_ix ix_tup (pv 0) pe_int (fun _ _ => rfl)) pe_str) (pe_bm PySem.F.plainAttrs_str PySem.F.slot_str_join PySem.F.type_str_join mt_join pe_str (pa_cons (pe_ix ix_tup (pv 0) pe_int (fun _ _ => rfl)) pa_nil))) pe_str)))), ?_⟩
  have hk := hg.klen
  have hj := joinC_le g.as hg.alen
  have hn := hg.n
  refine ⟨_, rfl, t, _, 1, _, rfl, rfl, h1, rfl, t2, _, rfl, .inr h2, rfl, _, rfl, ?_⟩
  rw [List.length_map]
  unfold factC at q
  by_cases e : g.as = []
  · rw [if_pos e] at q
    rw [e]
    exact iteT ⟨_, rfl, t, _, 0, _, rfl, rfl, h1, rfl, q⟩
  · rw [if_neg e] at q
    have z : decide (V.int (g.as.length : Int) = V.int 0) = false := by
      refine decide_eq_false fun z => e ?_
      have z' : (g.as.length : Int) = 0 := by injection z
      exact List.eq_nil_of_length_eq_zero (by omega)
    rw [z]
    have hjs : (Txt.join (Str.ofString ",") (g.as.map S)).length ≤ 100 := by rw [comma_S, joinC_S, S_len]; omega
    refine iteF ⟨_, rfl, t, _, 0, _, rfl, rfl, h1, rfl, _, _, rfl, rfl, ?_, ?_⟩
    · rw [S_len, sizeLine_eq]; have : (Str.ofString "(").length = 1 := by decide +kernel
      omega
    refine ⟨rfl, _, rfl, t, _, 1, _, rfl, rfl, h1, rfl, _, t2, g.as.map S, rfl, rfl, .inr (by rw [← map_tx]; exact h2), fact_words hg, _, _, rfl, rfl, ?_, _, _, rfl, rfl, ?_, ?_⟩
    · rw [strLen_append, S_len, sizeLine_eq]
      have : (Str.ofString "(").length = 1 := by decide +kernel
      omega
    · rw [strLen_append, strLen_append, S_len, sizeLine_eq]
      have : (Str.ofString "(").length = 1 := by decide +kernel
      have : (Str.ofString ")").length = 1 := by decide +kernel
      omega
    · rw [pieces_S]
      exact q
theorem sc__law_fact_text : FnScope ["_law_fact"] ["_law_fact"] (defScope s__law_fact_text) := ⟨rfl, rfl, rfl, by decide +kernel, rfl, by decide +kernel, by decide +kernel⟩
theorem ok__law_fact_text (F : Fun K "_law_fact_text" "_law_fact_text" s__law_fact_text f fd) (m_len : mg "len" = none) : FnOk P w K mg base CX0 1 f fd ["_law_fact"] (spFT3 K) := by
  refine F.ok sc__law_fact_text (fun vs H Q E h => ?_) (fun cdv A outer s H vs Q E hr h => ?_)
  · obtain ⟨v, g, rfl, _⟩ := h
    rfl
  obtain ⟨v, g, rfl, ⟨t, t2, rfl, h1, h2⟩, hg, q⟩ := h
  refine ⟨_, (pss_cons (ps_if (pt_cmpR op_eq (pe_callB call_len_seq rfl m_len PySem.boot_len (pa_cons (pe_ix ix_tup (pv 0) pe_int (fun _ _ => rfl)) pa_nil)) pe_int (nomark _))
  (pss_one (ps_ret (pe_ix ix_tup (pv 0) pe_int (fun _ _ => rfl))))
  pss_nil)
  (pss_one (ps_ret (pe_op op_add_str (pe_op op_add_str (pe_op op_add_str (pe_ix ix_tup (pv 0) pe_int (fun _ _ => rfl)) pe_str) (pe_bm PySem.F.plainAttrs_str PySem.F.slot_str_join PySem.F.type_str_join mt_join pe_str (pa_cons (pe_ix ix_tup (pv 0) pe_int (fun _ _ => rfl)) pa_nil))) pe_str)))), ?_⟩
  have hk := hg.klen
  have hj := joinC_le g.as hg.alen
  have hn := hg.n
  refine ⟨_, rfl, t, _, 1, _, rfl, rfl, h1, rfl, t2, _, rfl, .inr h2, rfl, _, rfl, ?_⟩
  rw [List.length_map]
  unfold factC at q
  by_cases e : g.as = []
  · rw [if_pos e] at q
    rw [e]
    exact iteT ⟨_, rfl, t, _, 0, _, rfl, rfl, h1, rfl, q⟩
  · rw [if_neg e] at q
    have z : decide (V.int (g.as.length : Int) = V.int 0) = false := by
      refine decide_eq_false fun z => e ?_
      have z' : (g.as.length : Int) = 0 := by injection z
      exact List.eq_nil_of_length_eq_zero (by omega)
    rw [z]
    have hjs : (Txt.join (Str.ofString ",") (g.as.map S)).length ≤ 100 := by rw [comma_S, joinC_S, S_len]; omega
    refine iteF ⟨_, rfl, t, _, 0, _, rfl, rfl, h1, rfl, _, _, rfl, rfl, ?_, ?_⟩
    · rw [S_len, sizeLine_eq]; have : (Str.ofString "(").length = 1 := by decide +kernel
      omega
    refine ⟨rfl, _, rfl, t, _, 1, _, rfl, rfl, h1, rfl, _, t2, g.as.map S, rfl, rfl, .inr (by rw [← map_tx]; exact h2), fact_words hg, _, _, rfl, rfl, ?_, _, _, rfl, rfl, ?_, ?_⟩
    · rw [strLen_append, S_len, sizeLine_eq]
      have : (Str.ofString "(").length = 1 := by decide +kernel
      omega
    · rw [strLen_append, strLen_append, S_len, sizeLine_eq]
      have : (Str.ofString "(").length = 1 := by decide +kernel
      have : (Str.ofString ")").length = 1 := by decide +kernel
      omega
    · rw [pieces_S]
      exact q
theorem sc_facts_text : FnScope ["facts"] ["facts"] (defScope s_facts_text) := ⟨rfl, rfl, rfl, by decide +kernel, rfl, by decide +kernel, by decide +kernel⟩
theorem ok_facts_text (F : Fun K "facts_text" "facts_text" s_facts_text f fd) (c_fact_text : Cal P w K mg base "fact_text" 1 ["fact"] (spFT3 K)) : FnOk P w K mg base CX0 2 f fd ["facts"] (spFsT K) := by
  refine F.ok sc_facts_text (fun vs H Q E h => ?_) (fun cdv A outer s H vs Q E hr h => ?_)
  · obtain ⟨a, xs, fs, rfl, _⟩ := h
    rfl
  obtain ⟨a, xs, fs, rfl, hx, pf, hg, hn, q⟩ := h
  have zl := Paired.length pf
  have hgl : ((fs.map factC).map tx).length = xs.length := by simpa using zl
  have hsum : (((fs.map factC).map S).map (·.length)).sum + ((fs.map factC).map S).length * (Str.ofString ", ").length ≤ 16777216 := by
    have z := len_sum (as := fs.map factC) (B := 70) fun l hl => by
      obtain ⟨g, hg', rfl⟩ := List.mem_map.mp hl
      exact factC_le (hg g hg')
    have e : (Str.ofString ", ").length = 2 := by decide +kernel
    rw [List.length_map, List.length_map, e]
    rw [List.length_map] at z
    omega
  rcases hx with hx | hx
  · refine ⟨_, (pss_one (ps_ret (pe_bm PySem.F.plainAttrs_str PySem.F.slot_str_join PySem.F.type_str_join mt_join pe_str (pa_cons (pe_comp [] rfl (by kernel_rfl) (pi_list (pv 0)) (fun _ _ _ _ _ => pts_nil) (fun _ _ _ _ _ => (pe_callC c_fact_text (hr.mono (by decide)) rfl (pa_cons (pv 0) pa_nil)))) pa_nil)))), ?_⟩
    refine ⟨rfl, _, rfl, a, rfl, ⟨_, hx⟩, fun D hD => ?_⟩
    refine comp_txL (K := K) (xs := xs) (gs := (fs.map factC).map tx) hgl (szl (by omega)) hD hx (fun i x g H' R hxi hgi sm hQ => ?_) (fun H2 s2 hL => ?_)
    · obtain ⟨hi, ex⟩ := get_of hxi
      have hif : i < fs.length := by omega
      have hF := Fact.sm sm (paired_at pf i hif hi)
      rw [ex] at hF
      obtain ⟨hg1, eg⟩ := get_of hgi
      have eg : tx (factC fs[i]) = g := by rw [← eg, List.getElem_map, List.getElem_map]
      exact ⟨_, rfl, x, fs[i], rfl, hF, hg _ (List.getElem_mem hif), by rw [eg]; exact hQ _ (Same.refl _)⟩
    · refine ⟨_, D, (fs.map factC).map S, rfl, rfl, .inl (SqL.of (by rw [← map_tx]; exact hL)), hsum, ?_⟩
      rw [rowC_S]
      exact q _ s2
  · refine ⟨_, (pss_one (ps_ret (pe_bm PySem.F.plainAttrs_str PySem.F.slot_str_join PySem.F.type_str_join mt_join pe_str (pa_cons (pe_comp [] rfl (by kernel_rfl) (pi_tup (pv 0)) (fun _ _ _ _ _ => pts_nil) (fun _ _ _ _ _ => (pe_callC c_fact_text (hr.mono (by decide)) rfl (pa_cons (pv 0) pa_nil)))) pa_nil)))), ?_⟩
    refine ⟨rfl, _, rfl, a, rfl, ⟨_, hx⟩, fun D hD => ?_⟩
    refine comp_txT (K := K) (xs := xs) (gs := (fs.map factC).map tx) hgl (szl (by omega)) hD hx (fun i x g H' R hxi hgi sm hQ => ?_) (fun H2 s2 hL => ?_)
    · obtain ⟨hi, ex⟩ := get_of hxi
      have hif : i < fs.length := by omega
      have hF := Fact.sm sm (paired_at pf i hif hi)
      rw [ex] at hF
      obtain ⟨hg1, eg⟩ := get_of hgi
      have eg : tx (factC fs[i]) = g := by rw [← eg, List.getElem_map, List.getElem_map]
      exact ⟨_, rfl, x, fs[i], rfl, hF, hg _ (List.getElem_mem hif), by rw [eg]; exact hQ _ (Same.refl _)⟩
    · refine ⟨_, D, (fs.map factC).map S, rfl, rfl, .inl (SqL.of (by rw [← map_tx]; exact hL)), hsum, ?_⟩
      rw [rowC_S]
      exact q _ s2
theorem sc__law_sort : FnScope ["_law_sign_here"] ["_law_sign_here"] (defScope s__law_sort) := ⟨rfl, rfl, rfl, by decide +kernel, rfl, by decide +kernel, by decide +kernel⟩
theorem ok__law_sort (F : Fun K "_law_sort" "_law_sort" s__law_sort f fd) : FnOk P w K mg base CX0 1 f fd ["_law_sign_here"] spSort := by
  refine F.ok sc__law_sort (fun vs H Q E h => ?_) (fun cdv A outer s H vs Q E hr h => ?_)
  · obtain ⟨c, rfl, _⟩ := h
    rfl
  obtain ⟨c, rfl, q⟩ := h
  refine ⟨_, (pss_cons (ps_if (pt_cmpR op_in_str (pv 0) pe_str (by with_unfolding_all rfl))
  (pss_one (ps_ret pe_str))
  pss_nil)
  (pss_cons (ps_if (pt_cmpR op_in_str (pv 0) pe_str (by with_unfolding_all rfl))
  (pss_one (ps_ret (pv 0)))
  pss_nil)
  (pss_one (ps_ret pe_str)))), ?_⟩
  refine ⟨_, rfl, _, _, rfl, rfl, _, rfl, ?_⟩
  rw [StrLaws.found_one]
  have e1 : decide (c ∈ (Str.ofString "abcdefghijklmnopqrstuvwxyz0123456789ABCDEFGHIJKLMNOPQRSTUVWXYZ").cps.toList) = isAl c := by
    have z : (Str.ofString "abcdefghijklmnopqrstuvwxyz0123456789ABCDEFGHIJKLMNOPQRSTUVWXYZ").cps.toList = aSmall.cps.toList ++ aFig.cps.toList ++ aGreat.cps.toList := by decide +kernel
    rw [z]
    unfold isAl
    simp only [List.mem_append, Bool.decide_or]
    cases decide (c ∈ aSmall.cps.toList) <;> cases decide (c ∈ aFig.cps.toList) <;> cases decide (c ∈ aGreat.cps.toList) <;> rfl
  have e2 : decide (c ∈ (Str.ofString " (),").cps.toList) = decide (c = 32 ∨ c = 40 ∨ c = 41 ∨ c = 44) := by
    have z : (Str.ofString " (),").cps.toList = [32, 40, 41, 44] := by decide +kernel
    rw [z]
    simp
  rw [e1]
  unfold sortC at q
  cases ha : isAl c with
  | true =>
    rw [ha, if_pos rfl] at q
    have e : (Str.ofString "n") = S [110] := by decide +kernel
    exact iteT (by rw [e]; exact q)
  | false =>
    rw [ha, if_neg (by decide)] at q
    refine iteF ⟨_, rfl, _, _, rfl, rfl, _, rfl, ?_⟩
    rw [StrLaws.found_one, e2]
    by_cases hc : c = 32 ∨ c = 40 ∨ c = 41 ∨ c = 44
    · rw [decide_eq_true hc]
      rw [if_pos hc] at q
      exact iteT ⟨_, rfl, q⟩
    · rw [decide_eq_false hc]
      rw [if_neg hc] at q
      have e : (Str.ofString "x") = S [120] := by decide +kernel
      exact iteF (by rw [e]; exact q)
end
end K03
namespace K03
open PySem L2 K02 Bk
set_option maxHeartbeats 400000
section
variable {P : Program} {w : World} {K : PySem.W.Frag} {mg : Str → Option Value} {base : Heap} {f : Addr} {fd : FuncData}
theorem slice_sub (x : Str) (lo hi : Option Int) : (Txt.slice x lo hi).length ≤ x.length ∧ ∀ d ∈ (Txt.slice x lo hi).cps.toList, d ∈ x.cps.toList := by
  refine ⟨Txt.slice_le x lo hi, fun d hd => ?_⟩
  unfold Txt.slice at hd
  split at hd
  · exact hd
  · have hd : d ∈ (Builtin.Str.strSliceIndices lo hi 1 x.length).filterMap (x.cps[·]?) := by simpa using hd
    obtain ⟨i, _, e⟩ := List.mem_filterMap.mp hd
    obtain ⟨h1, h2⟩ := Array.getElem?_eq_some_iff.mp e
    rw [← h2]
    exact Array.mem_toList_iff.mpr (Array.getElem_mem h1)
theorem sc__law_sign : FnScope ["_law_cell", "_law_some"] ["_law_cell"] (defScope s__law_sign) := ⟨rfl, rfl, rfl, by decide +kernel, rfl, by decide +kernel, by decide +kernel⟩
theorem ok__law_sign (F : Fun K "_law_sign" "_law_sign" s__law_sign f fd) : FnOk P w K mg base CX0 1 f fd ["_law_cell"] spSignL := by
  refine F.ok sc__law_sign (fun vs H Q E h => ?_) (fun cdv A outer s H vs Q E hr h => ?_)
  · obtain ⟨n, rfl, _⟩ := h
    rfl
  obtain ⟨n, rfl, q⟩ := h
  refine ⟨_, (pss_cons (ps_set (i := 1) sc__law_sign.nd rfl (Or.inl rfl) pe_str)
  (pss_cons (ps_set (i := 1) sc__law_sign.nd rfl (Or.inl rfl) (pe_op op_add_str (pv 1) pe_str))
  (pss_one (ps_ret (pe_ix ix_str (pv 1) (pe_op op_mod (pv 0) pe_int) (fun _ _ => rfl)))))), ?_⟩
  refine ⟨_, rfl, _, _, rfl, rfl, (by decide +kernel), ?_⟩
  have md := mid (a := n) (b := 95) (by decide)
  refine ⟨_, rfl, _, rfl, _, _, rfl, rfl, (by show (0 : Int) < 95; decide), ?_⟩
  generalize hx : (Str.ofString " !\"#$&'()*+,-./0123456789:;<=>?@ABCDEFGHIJKLMNOPQRSTUVWXYZ[\\]^_`" ++ Str.ofString "abcdefghijklmnopqrstuvwxyz{|}~\n") = x
  have hl : x.length = 95 := by rw [← hx]; decide +kernel
  have hc : ∀ c ∈ x.cps.toList, c < 128 := by rw [← hx]; decide +kernel
  obtain ⟨c, e, hm⟩ := sign_of (x := x) (i := n % 95) (by omega) (by rw [hl]; omega)
  exact ⟨x, _, _, rfl, rfl, sz (by omega), e, q c (hc c hm)⟩
theorem next_ok {st c : Nat} (h : st ≤ 7) : ∃ (z : Str) (ws : List Nat), rowsN[st]? = some z ∧ waysN[st]? = some ws ∧ ((Txt.find z (S (sortC c)) = -1 ∧ R3.lnext isAl st c = none) ∨ ∃ (j n : Nat), Txt.find z (S (sortC c)) = (j : Int) ∧ ws[j]? = some n ∧ R3.lnext isAl st c = some n) := by
  have hs : (isAl c = true ∧ sortC c = [110] ∧ c ≠ 32 ∧ c ≠ 40 ∧ c ≠ 41 ∧ c ≠ 44) ∨ c = 32 ∨ c = 40 ∨ c = 41 ∨ c = 44 ∨ (isAl c = false ∧ sortC c = [120] ∧ c ≠ 32 ∧ c ≠ 40 ∧ c ≠ 41 ∧ c ≠ 44) := by
    unfold sortC
    cases ha : isAl c with
    | true =>
      refine .inl ⟨rfl, rfl, ?_, ?_, ?_, ?_⟩ <;> (intro e; rw [e] at ha; exact absurd ha (by decide +kernel))
    | false =>
      by_cases h1 : c = 32
      · exact .inr (.inl h1)
      by_cases h2 : c = 40
      · exact .inr (.inr (.inl h2))
      by_cases h3 : c = 41
      · exact .inr (.inr (.inr (.inl h3)))
      by_cases h4 : c = 44
      · exact .inr (.inr (.inr (.inr (.inl h4))))
      refine .inr (.inr (.inr (.inr (.inr ⟨rfl, ?_, h1, h2, h3, h4⟩))))
      rw [if_neg (by decide), if_neg (by omega)]
  have key : ∀ st', st' ≤ 7 → st' = 0 ∨ st' = 1 ∨ st' = 2 ∨ st' = 3 ∨ st' = 4 ∨ st' = 5 ∨ st' = 6 ∨ st' = 7 := fun st' h => by omega
  rcases hs with ⟨ha, e, n1, n2, n3, n4⟩ | rfl | rfl | rfl | rfl | ⟨ha, e, n1, n2, n3, n4⟩
  · rcases key st h with rfl | rfl | rfl | rfl | rfl | rfl | rfl | rfl
    · exact ⟨_, _, rfl, rfl, .inr ⟨1, 1, by rw [e]; decide +kernel, rfl, by simp [R3.lnext, ha, n1, n2, n3, n4]⟩⟩
    · exact ⟨_, _, rfl, rfl, .inr ⟨0, 1, by rw [e]; decide +kernel, rfl, by simp [R3.lnext, ha, n1, n2, n3, n4]⟩⟩
    · exact ⟨_, _, rfl, rfl, .inl ⟨by rw [e]; decide +kernel, by simp [R3.lnext, ha, n1, n2, n3, n4]⟩⟩
    · exact ⟨_, _, rfl, rfl, .inr ⟨1, 4, by rw [e]; decide +kernel, rfl, by simp [R3.lnext, ha, n1, n2, n3, n4]⟩⟩
    · exact ⟨_, _, rfl, rfl, .inr ⟨0, 4, by rw [e]; decide +kernel, rfl, by simp [R3.lnext, ha, n1, n2, n3, n4]⟩⟩
    · exact ⟨_, _, rfl, rfl, .inl ⟨by rw [e]; decide +kernel, by simp [R3.lnext, ha, n1, n2, n3, n4]⟩⟩
    · exact ⟨_, _, rfl, rfl, .inr ⟨1, 4, by rw [e]; decide +kernel, rfl, by simp [R3.lnext, ha, n1, n2, n3, n4]⟩⟩
    · exact ⟨_, _, rfl, rfl, .inl ⟨by rw [e]; decide +kernel, by simp [R3.lnext, ha, n1, n2, n3, n4]⟩⟩
  · rcases key st h with rfl | rfl | rfl | rfl | rfl | rfl | rfl | rfl
    · exact ⟨_, _, rfl, rfl, .inr ⟨0, 0, by decide +kernel, rfl, by decide +kernel⟩⟩
    · exact ⟨_, _, rfl, rfl, .inr ⟨1, 2, by decide +kernel, rfl, by decide +kernel⟩⟩
    · exact ⟨_, _, rfl, rfl, .inr ⟨0, 2, by decide +kernel, rfl, by decide +kernel⟩⟩
    · exact ⟨_, _, rfl, rfl, .inr ⟨0, 3, by decide +kernel, rfl, by decide +kernel⟩⟩
    · exact ⟨_, _, rfl, rfl, .inr ⟨1, 5, by decide +kernel, rfl, by decide +kernel⟩⟩
    · exact ⟨_, _, rfl, rfl, .inr ⟨0, 5, by decide +kernel, rfl, by decide +kernel⟩⟩
    · exact ⟨_, _, rfl, rfl, .inr ⟨0, 6, by decide +kernel, rfl, by decide +kernel⟩⟩
    · exact ⟨_, _, rfl, rfl, .inr ⟨0, 7, by decide +kernel, rfl, by decide +kernel⟩⟩
  · rcases key st h with rfl | rfl | rfl | rfl | rfl | rfl | rfl | rfl
    · exact ⟨_, _, rfl, rfl, .inl ⟨by decide +kernel, by decide +kernel⟩⟩
    · exact ⟨_, _, rfl, rfl, .inr ⟨2, 3, by decide +kernel, rfl, by decide +kernel⟩⟩
    · exact ⟨_, _, rfl, rfl, .inr ⟨1, 3, by decide +kernel, rfl, by decide +kernel⟩⟩
    · exact ⟨_, _, rfl, rfl, .inl ⟨by decide +kernel, by decide +kernel⟩⟩
    · exact ⟨_, _, rfl, rfl, .inl ⟨by decide +kernel, by decide +kernel⟩⟩
    · exact ⟨_, _, rfl, rfl, .inl ⟨by decide +kernel, by decide +kernel⟩⟩
    · exact ⟨_, _, rfl, rfl, .inl ⟨by decide +kernel, by decide +kernel⟩⟩
    · exact ⟨_, _, rfl, rfl, .inl ⟨by decide +kernel, by decide +kernel⟩⟩
  · rcases key st h with rfl | rfl | rfl | rfl | rfl | rfl | rfl | rfl
    · exact ⟨_, _, rfl, rfl, .inl ⟨by decide +kernel, by decide +kernel⟩⟩
    · exact ⟨_, _, rfl, rfl, .inl ⟨by decide +kernel, by decide +kernel⟩⟩
    · exact ⟨_, _, rfl, rfl, .inl ⟨by decide +kernel, by decide +kernel⟩⟩
    · exact ⟨_, _, rfl, rfl, .inr ⟨2, 7, by decide +kernel, rfl, by decide +kernel⟩⟩
    · exact ⟨_, _, rfl, rfl, .inr ⟨3, 7, by decide +kernel, rfl, by decide +kernel⟩⟩
    · exact ⟨_, _, rfl, rfl, .inr ⟨2, 7, by decide +kernel, rfl, by decide +kernel⟩⟩
    · exact ⟨_, _, rfl, rfl, .inl ⟨by decide +kernel, by decide +kernel⟩⟩
    · exact ⟨_, _, rfl, rfl, .inl ⟨by decide +kernel, by decide +kernel⟩⟩
  · rcases key st h with rfl | rfl | rfl | rfl | rfl | rfl | rfl | rfl
    · exact ⟨_, _, rfl, rfl, .inl ⟨by decide +kernel, by decide +kernel⟩⟩
    · exact ⟨_, _, rfl, rfl, .inr ⟨3, 0, by decide +kernel, rfl, by decide +kernel⟩⟩
    · exact ⟨_, _, rfl, rfl, .inr ⟨2, 0, by decide +kernel, rfl, by decide +kernel⟩⟩
    · exact ⟨_, _, rfl, rfl, .inl ⟨by decide +kernel, by decide +kernel⟩⟩
    · exact ⟨_, _, rfl, rfl, .inr ⟨2, 6, by decide +kernel, rfl, by decide +kernel⟩⟩
    · exact ⟨_, _, rfl, rfl, .inr ⟨1, 6, by decide +kernel, rfl, by decide +kernel⟩⟩
    · exact ⟨_, _, rfl, rfl, .inl ⟨by decide +kernel, by decide +kernel⟩⟩
    · exact ⟨_, _, rfl, rfl, .inr ⟨1, 0, by decide +kernel, rfl, by decide +kernel⟩⟩
  · rcases key st h with rfl | rfl | rfl | rfl | rfl | rfl | rfl | rfl <;> exact ⟨_, _, rfl, rfl, .inl ⟨by rw [e]; decide +kernel, by simp [R3.lnext, ha, n1, n2, n3, n4]⟩⟩
theorem sc__law_next : FnScope ["_law_state", "_law_sort_here", "_law_rows", "_law_ways", "_law_at"] ["_law_state", "_law_sort_here"] (defScope s__law_next) := ⟨rfl, rfl, rfl, by decide +kernel, rfl, by decide +kernel, by decide +kernel⟩
theorem ok__law_next (F : Fun K "_law_next" "_law_next" s__law_next f fd) : FnOk P w K mg base CX0 1 f fd ["_law_state", "_law_sort_here"] spNext := by
  refine F.ok sc__law_next (fun vs H Q E h => ?_) (fun cdv A outer s H vs Q E hr h => ?_)
  · obtain ⟨st, c, rfl, _⟩ := h
    rfl
  obtain ⟨st, c, rfl, hst, q⟩ := h
  refine ⟨_, (@pss_cons _ _ _ _ _ (@ps_set _ _ 2 _ _ _ _ sc__law_next.nd rfl (Or.inl rfl) (@pe_lst _ _ _ _ (@pa_cons _ _ _ _ _ (@pe_str _ _ _ _) (@pa_cons _ _ _ _ _ (@pe_str _ _ _ _) (@pa_cons _ _ _ _ _ (@pe_str _ _ _ _) (@pa_cons _ _ _ _ _ (@pe_str _ _ _ _) (@pa_cons _ _ _ _ _ (@pe_str _ _ _ _) (@pa_cons _ _ _ _ _ (@pe_str _ _ _ _) (@pa_cons _ _ _ _ _ (@pe_str _ _ _ _) (@pa_cons _ _ _ _ _ (@pe_str _ _ _ _) (@pa_nil _) rfl) rfl) rfl) rfl) rfl) rfl) rfl) rfl)) (by kernel_rfl) (Or.inl rfl)) (@pss_cons _ _ _ _ _ (@ps_set _ _ 3 _ _ _ _ sc__law_next.nd rfl (Or.inl rfl) (@pe_lst _ _ _ _ (@pa_cons _ _ _ _ _ (@pe_tup _ _ _ _ _ (@pa_cons _ _ _ _ _ (@pe_int _ _ _ _) (@pa_cons _ _ _ _ _ (@pe_int _ _ _ _) (@pa_nil _) rfl) rfl)) (@pa_cons _ _ _ _ _ (@pe_tup _ _ _ _ _ (@pa_cons _ _ _ _ _ (@pe_int _ _ _ _) (@pa_cons _ _ _ _ _ (@pe_int _ _ _ _) (@pa_cons _ _ _ _ _ (@pe_int _ _ _ _) (@pa_cons _ _ _ _ _ (@pe_int _ _ _ _) (@pa_nil _) rfl) rfl) rfl) rfl)) (@pa_cons _ _ _ _ _ (@pe_tup _ _ _ _ _ (@pa_cons _ _ _ _ _ (@pe_int _ _ _ _) (@pa_cons _ _ _ _ _ (@pe_int _ _ _ _) (@pa_cons _ _ _ _ _ (@pe_int _ _ _ _) (@pa_nil _) rfl) rfl) rfl)) (@pa_cons _ _ _ _ _ (@pe_tup _ _ _ _ _ (@pa_cons _ _ _ _ _ (@pe_int _ _ _ _) (@pa_cons _ _ _ _ _ (@pe_int _ _ _ _) (@pa_cons _ _ _ _ _ (@pe_int _ _ _ _) (@pa_nil _) rfl) rfl) rfl)) (@pa_cons _ _ _ _ _ (@pe_tup _ _ _ _ _ (@pa_cons _ _ _ _ _ (@pe_int _ _ _ _) (@pa_cons _ _ _ _ _ (@pe_int _ _ _ _) (@pa_cons _ _ _ _ _ (@pe_int _ _ _ _) (@pa_cons _ _ _ _ _ (@pe_int _ _ _ _) (@pa_nil _) rfl) rfl) rfl) rfl)) (@pa_cons _ _ _ _ _ (@pe_tup _ _ _ _ _ (@pa_cons _ _ _ _ _ (@pe_int _ _ _ _) (@pa_cons _ _ _ _ _ (@pe_int _ _ _ _) (@pa_cons _ _ _ _ _ (@pe_int _ _ _ _) (@pa_nil _) rfl) rfl) rfl)) (@pa_cons _ _ _ _ _ (@pe_tup _ _ _ _ _ (@pa_cons _ _ _ _ _ (@pe_int _ _ _ _) (@pa_cons _ _ _ _ _ (@pe_int _ _ _ _) (@pa_nil _) rfl) rfl)) (@pa_cons _ _ _ _ _ (@pe_tup _ _ _ _ _ (@pa_cons _ _ _ _ _ (@pe_int _ _ _ _) (@pa_cons _ _ _ _ _ (@pe_int _ _ _ _) (@pa_nil _) rfl) rfl)) (@pa_nil _) rfl) rfl) rfl) rfl) rfl) rfl) rfl) rfl)) (by kernel_rfl) (Or.inl rfl)) (@pss_cons _ _ _ _ _ (ps_set (i := 4) sc__law_next.nd rfl (Or.inl rfl) (pe_bm PySem.F.plainAttrs_str PySem.F.slot_str_find PySem.F.type_str_find mt_find (pe_ix ix_list (pv 2) (pv 0) (fun _ _ => rfl)) (pa_cons (pv 1) pa_nil))) (@pss_cons _ _ _ _ _ (ps_if (pt_cmpR op_lt (pv 4) pe_int (nomark _))
  (pss_one (ps_ret (pe_un un_neg pe_int)))
  pss_nil) (pss_one (ps_ret (pe_ix ix_tup (pe_ix ix_list (pv 3) (pv 0) (fun _ _ => rfl)) (pv 4) (fun _ _ => rfl)))))))), ?_⟩
  have z8 : 8 ≤ sizeLine := by decide
  have z2 : 2 ≤ sizeLine := by decide
  have z3 : 3 ≤ sizeLine := by decide
  have z4 : 4 ≤ sizeLine := by decide
  refine ⟨z8, fun lr hlr => ?_⟩
  have s0 := same_new hlr (.lst (rowsN.map V.str))
  have g0 := upd_same (H := H) (a := lr) (o := .lst (rowsN.map V.str))
  refine ⟨z2, fun t0 h0 => ⟨z4, fun t1 h1 => ⟨z3, fun t2 h2 => ⟨z3, fun t3 h3 => ⟨z4, fun t4 h4 => ⟨z3, fun t5 h5 => ⟨z2, fun t6 h6 => ⟨z2, fun t7 h7 => ⟨z8, fun lw hlw => ?_⟩⟩⟩⟩⟩⟩⟩⟩⟩
  have a0 := same_new h0 (.tup [.int 0, .int 1])
  have b0 := upd_same (H := upd H lr (.lst (rowsN.map V.str))) (a := t0) (o := .tup [.int 0, .int 1])
  have a1 := same_new h1 (.tup [.int 1, .int 2, .int 3, .int 0])
  have b1 := upd_same (H := upd (upd H lr (.lst (rowsN.map V.str))) t0 (.tup [.int 0, .int 1])) (a := t1) (o := .tup [.int 1, .int 2, .int 3, .int 0])
  have a2 := same_new h2 (.tup [.int 2, .int 3, .int 0])
  have b2 := upd_same (H := upd (upd (upd H lr (.lst (rowsN.map V.str))) t0 (.tup [.int 0, .int 1])) t1 (.tup [.int 1, .int 2, .int 3, .int 0])) (a := t2) (o := .tup [.int 2, .int 3, .int 0])
  have a3 := same_new h3 (.tup [.int 3, .int 4, .int 7])
  have b3 := upd_same (H := upd (upd (upd (upd H lr (.lst (rowsN.map V.str))) t0 (.tup [.int 0, .int 1])) t1 (.tup [.int 1, .int 2, .int 3, .int 0])) t2 (.tup [.int 2, .int 3, .int 0])) (a := t3) (o := .tup [.int 3, .int 4, .int 7])
  have a4 := same_new h4 (.tup [.int 4, .int 5, .int 6, .int 7])
  have b4 := upd_same (H := upd (upd (upd (upd (upd H lr (.lst (rowsN.map V.str))) t0 (.tup [.int 0, .int 1])) t1 (.tup [.int 1, .int 2, .int 3, .int 0])) t2 (.tup [.int 2, .int 3, .int 0])) t3 (.tup [.int 3, .int 4, .int 7])) (a := t4) (o := .tup [.int 4, .int 5, .int 6, .int 7])
  have a5 := same_new h5 (.tup [.int 5, .int 6, .int 7])
  have b5 := upd_same (H := upd (upd (upd (upd (upd (upd H lr (.lst (rowsN.map V.str))) t0 (.tup [.int 0, .int 1])) t1 (.tup [.int 1, .int 2, .int 3, .int 0])) t2 (.tup [.int 2, .int 3, .int 0])) t3 (.tup [.int 3, .int 4, .int 7])) t4 (.tup [.int 4, .int 5, .int 6, .int 7])) (a := t5) (o := .tup [.int 5, .int 6, .int 7])
  have a6 := same_new h6 (.tup [.int 6, .int 4])
  have b6 := upd_same (H := upd (upd (upd (upd (upd (upd (upd H lr (.lst (rowsN.map V.str))) t0 (.tup [.int 0, .int 1])) t1 (.tup [.int 1, .int 2, .int 3, .int 0])) t2 (.tup [.int 2, .int 3, .int 0])) t3 (.tup [.int 3, .int 4, .int 7])) t4 (.tup [.int 4, .int 5, .int 6, .int 7])) t5 (.tup [.int 5, .int 6, .int 7])) (a := t6) (o := .tup [.int 6, .int 4])
  have a7 := same_new h7 (.tup [.int 7, .int 0])
  have b7 := upd_same (H := upd (upd (upd (upd (upd (upd (upd (upd H lr (.lst (rowsN.map V.str))) t0 (.tup [.int 0, .int 1])) t1 (.tup [.int 1, .int 2, .int 3, .int 0])) t2 (.tup [.int 2, .int 3, .int 0])) t3 (.tup [.int 3, .int 4, .int 7])) t4 (.tup [.int 4, .int 5, .int 6, .int 7])) t5 (.tup [.int 5, .int 6, .int 7])) t6 (.tup [.int 6, .int 4])) (a := t7) (o := .tup [.int 7, .int 0])
  have a8 := same_new hlw (.lst [.ref t0, .ref t1, .ref t2, .ref t3, .ref t4, .ref t5, .ref t6, .ref t7])
  have b8 := upd_same (H := upd (upd (upd (upd (upd (upd (upd (upd (upd H lr (.lst (rowsN.map V.str))) t0 (.tup [.int 0, .int 1])) t1 (.tup [.int 1, .int 2, .int 3, .int 0])) t2 (.tup [.int 2, .int 3, .int 0])) t3 (.tup [.int 3, .int 4, .int 7])) t4 (.tup [.int 4, .int 5, .int 6, .int 7])) t5 (.tup [.int 5, .int 6, .int 7])) t6 (.tup [.int 6, .int 4])) t7 (.tup [.int 7, .int 0])) (a := lw) (o := .lst [.ref t0, .ref t1, .ref t2, .ref t3, .ref t4, .ref t5, .ref t6, .ref t7])
  have c0 := a8 _ _ (a7 _ _ (a6 _ _ (a5 _ _ (a4 _ _ (a3 _ _ (a2 _ _ (a1 _ _ (b0))))))))
  have c1 := a8 _ _ (a7 _ _ (a6 _ _ (a5 _ _ (a4 _ _ (a3 _ _ (a2 _ _ (b1)))))))
  have c2 := a8 _ _ (a7 _ _ (a6 _ _ (a5 _ _ (a4 _ _ (a3 _ _ (b2))))))
  have c3 := a8 _ _ (a7 _ _ (a6 _ _ (a5 _ _ (a4 _ _ (b3)))))
  have c4 := a8 _ _ (a7 _ _ (a6 _ _ (a5 _ _ (b4))))
  have c5 := a8 _ _ (a7 _ _ (a6 _ _ (b5)))
  have c6 := a8 _ _ (a7 _ _ (b6))
  have c7 := a8 _ _ (b7)
  have cr := a8 _ _ (a7 _ _ (a6 _ _ (a5 _ _ (a4 _ _ (a3 _ _ (a2 _ _ (a1 _ _ (a0 _ _ (g0)))))))))
  have sm := Same.trans s0 (Same.trans a0 (Same.trans a1 (Same.trans a2 (Same.trans a3 (Same.trans a4 (Same.trans a5 (Same.trans a6 (Same.trans a7 (a8)))))))))
  generalize hH : upd _ lw _ = H9
  have c0 : H9 t0 = some (.tup [.int 0, .int 1]) := by rw [← hH]; exact c0
  have c1 : H9 t1 = some (.tup [.int 1, .int 2, .int 3, .int 0]) := by rw [← hH]; exact c1
  have c2 : H9 t2 = some (.tup [.int 2, .int 3, .int 0]) := by rw [← hH]; exact c2
  have c3 : H9 t3 = some (.tup [.int 3, .int 4, .int 7]) := by rw [← hH]; exact c3
  have c4 : H9 t4 = some (.tup [.int 4, .int 5, .int 6, .int 7]) := by rw [← hH]; exact c4
  have c5 : H9 t5 = some (.tup [.int 5, .int 6, .int 7]) := by rw [← hH]; exact c5
  have c6 : H9 t6 = some (.tup [.int 6, .int 4]) := by rw [← hH]; exact c6
  have c7 : H9 t7 = some (.tup [.int 7, .int 0]) := by rw [← hH]; exact c7
  have b8 : H9 lw = some (.lst [.ref t0, .ref t1, .ref t2, .ref t3, .ref t4, .ref t5, .ref t6, .ref t7]) := by rw [← hH]; exact b8
  have cr : H9 lr = some (.lst (rowsN.map V.str)) := by rw [← hH]; exact cr
  have sm : Same H H9 := by rw [← hH]; exact sm
  obtain ⟨z, ws, hz, hw, alt⟩ := next_ok (c := c) hst
  have q := q H9 sm
  have hat : atI (rowsN.map V.str) ((st : Nat) : Int) = some (V.str z) := atI_nat (by rw [List.getElem?_map, hz]; rfl)
  have hwt : ∃ t, atI [V.ref t0, .ref t1, .ref t2, .ref t3, .ref t4, .ref t5, .ref t6, .ref t7] ((st : Nat) : Int) = some (.ref t) ∧ SqT K H9 t (ws.map fun n => V.int (n : Nat)) := by
    rcases (by omega : st = 0 ∨ st = 1 ∨ st = 2 ∨ st = 3 ∨ st = 4 ∨ st = 5 ∨ st = 6 ∨ st = 7) with rfl | rfl | rfl | rfl | rfl | rfl | rfl | rfl
    · cases hw; exact ⟨t0, rfl, SqT.of c0⟩
    · cases hw; exact ⟨t1, rfl, SqT.of c1⟩
    · cases hw; exact ⟨t2, rfl, SqT.of c2⟩
    · cases hw; exact ⟨t3, rfl, SqT.of c3⟩
    · cases hw; exact ⟨t4, rfl, SqT.of c4⟩
    · cases hw; exact ⟨t5, rfl, SqT.of c5⟩
    · cases hw; exact ⟨t6, rfl, SqT.of c6⟩
    · cases hw; exact ⟨t7, rfl, SqT.of c7⟩
  obtain ⟨t, ht, hT⟩ := hwt
  refine ⟨_, rfl, _, rfl, lr, _, _, _, rfl, rfl, SqL.of cr, hat, rfl, _, rfl, z, _, rfl, rfl, ?_⟩
  refine ⟨_, rfl, _, _, rfl, rfl, _, rfl, ?_⟩
  rcases alt with ⟨ef, en⟩ | ⟨j, n, ef, ej, en⟩
  · rw [ef]
    rw [en] at q
    exact iteT ⟨_, rfl, q⟩
  · rw [ef]
    rw [en] at q
    rw [decide_eq_false (by omega)]
    have hj : atI (ws.map fun n => V.int (n : Nat)) (j : Int) = some (V.int (n : Nat)) := atI_nat (by rw [List.getElem?_map, ej]; rfl)
    exact iteF ⟨_, rfl, _, rfl, lw, _, _, _, rfl, rfl, SqL.of b8, ht, _, rfl, t, _, _, _, rfl, rfl, hT, hj, q⟩
theorem sc__law_spoiled : FnScope ["_law_text", "_law_way", "_law_at", "_law_sign_here"] ["_law_text", "_law_way", "_law_at", "_law_sign_here"] (defScope s__law_spoiled) := ⟨rfl, rfl, rfl, by decide +kernel, rfl, by decide +kernel, by decide +kernel⟩
theorem ok__law_spoiled (F : Fun K "_law_spoiled" "_law_spoiled" s__law_spoiled f fd) : FnOk P w K mg base CX0 1 f fd ["_law_text", "_law_way", "_law_at", "_law_sign_here"] spSpoil := by
  refine F.ok sc__law_spoiled (fun vs H Q E h => ?_) (fun cdv A outer s H vs Q E hr h => ?_)
  · obtain ⟨x, way, p, c, rfl, _⟩ := h
    rfl
  obtain ⟨x, way, p, c, rfl, hx, hp, q⟩ := h
  refine ⟨_, (pss_cons (ps_if (pt_cmpR op_eq (pv 1) pe_int (nomark _))
  (pss_one (ps_ret (pe_op op_add_str (pe_op op_add_str (pe_slice sl_str (pv 0) po_none (po_some (pv 2))) pe_str) (pe_slice sl_str (pv 0) (po_some (pv 2)) po_none))))
  pss_nil)
  (pss_cons (ps_if (pt_cmpR op_eq (pv 1) pe_int (nomark _))
  (pss_one (ps_ret (pe_op op_add_str (pe_op op_add_str (pe_slice sl_str (pv 0) po_none (po_some (pv 2))) (pv 3)) (pe_slice sl_str (pv 0) (po_some (pv 2)) po_none))))
  pss_nil)
  (pss_cons (ps_if (pt_cmpR op_eq (pv 1) pe_int (nomark _))
  (pss_one (ps_ret (pe_op op_add_str (pe_slice sl_str (pv 0) po_none (po_some (pv 2))) (pe_slice sl_str (pv 0) (po_some (pe_op op_add (pv 2) pe_int)) po_none))))
  pss_nil)
  (pss_one (ps_ret (pe_op op_add_str (pe_op op_add_str (pe_slice sl_str (pv 0) po_none (po_some (pv 2))) (pv 3)) (pe_slice sl_str (pv 0) (po_some (pe_op op_add (pv 2) pe_int)) po_none))))))), ?_⟩
  have sub : ∀ (lo hi : Option Int), (Txt.slice x lo hi).length ≤ x.length ∧ ∀ d ∈ (Txt.slice x lo hi).cps.toList, d ∈ x.cps.toList := fun lo hi => slice_sub x lo hi
  have e32 : Str.ofString " " = (⟨#[32]⟩ : Str) := by decide +kernel
  have hsz : x.length ≤ sizeLine := sz (by omega)
  have l1 : (⟨#[c]⟩ : Str).length = 1 := rfl
  have l32 : (⟨#[32]⟩ : Str).length = 1 := rfl
  have sl := fun lo hi => (sub lo hi).1
  have mem2 : ∀ (a b m : Str), (∀ d ∈ a.cps.toList, d ∈ x.cps.toList) → (∀ d ∈ b.cps.toList, d ∈ x.cps.toList) → (∀ d ∈ m.cps.toList, d = 32 ∨ d = c) → ∀ d ∈ ((a ++ m) ++ b).cps.toList, d ∈ x.cps.toList ∨ d = 32 ∨ d = c := fun a b m ha hb hm d hd => by
    rw [PySem.W.KT.app_list, PySem.W.KT.app_list] at hd
    rcases List.mem_append.mp hd with hd | hd
    · rcases List.mem_append.mp hd with hd | hd
      · exact .inl (ha d hd)
      · exact .inr (hm d hd)
    · exact .inl (hb d hd)
  refine ⟨_, rfl, rfl, _, rfl, ite2 (fun c1 => ?_) (fun c1 => ?_)⟩
  · rw [e32]
    refine ⟨_, rfl, _, rfl, _, rfl, x, rfl, hsz, _, _, rfl, rfl, ?_, ?_⟩
    · have := sl none (some p); rw [l32, sizeLine_eq]; omega
    refine ⟨_, rfl, _, rfl, _, rfl, x, rfl, hsz, _, _, rfl, rfl, ?_, ?_⟩
    · have := sl none (some p); have := sl (some p) none; rw [strLen_append, l32, sizeLine_eq]; omega
    refine q _ ?_ (mem2 _ _ _ (sub _ _).2 (sub _ _).2 fun d hd => .inl (by simpa using hd))
    have := sl none (some p); have := sl (some p) none; rw [strLen_append, strLen_append, l32]; omega
  refine ⟨_, rfl, rfl, _, rfl, ite2 (fun c2 => ?_) (fun c2 => ?_)⟩
  · refine ⟨_, rfl, _, rfl, _, rfl, x, rfl, hsz, _, rfl, _, _, rfl, rfl, ?_, ?_⟩
    · have := sl none (some p); rw [l1, sizeLine_eq]; omega
    refine ⟨_, rfl, _, rfl, _, rfl, x, rfl, hsz, _, _, rfl, rfl, ?_, ?_⟩
    · have := sl none (some p); have := sl (some p) none; rw [strLen_append, l1, sizeLine_eq]; omega
    refine q _ ?_ (mem2 _ _ _ (sub _ _).2 (sub _ _).2 fun d hd => .inr (by simpa using hd))
    have := sl none (some p); have := sl (some p) none; rw [strLen_append, strLen_append, l1]; omega
  refine ⟨_, rfl, rfl, _, rfl, ite2 (fun c3 => ?_) (fun c3 => ?_)⟩
  · refine ⟨_, rfl, _, rfl, _, rfl, x, rfl, hsz, _, rfl, _, rfl, _, _, rfl, rfl, _, rfl, x, rfl, hsz, _, _, rfl, rfl, ?_, ?_⟩
    · have := sl none (some p); have := sl (some (p + 1)) none; rw [sizeLine_eq]; omega
    refine q _ ?_ fun d hd => ?_
    · have := sl none (some p); have := sl (some (p + 1)) none; rw [strLen_append]; omega
    · rw [PySem.W.KT.app_list] at hd
      rcases List.mem_append.mp hd with hd | hd
      · exact .inl ((sub _ _).2 d hd)
      · exact .inl ((sub _ _).2 d hd)
  · refine ⟨_, rfl, _, rfl, _, rfl, x, rfl, hsz, _, rfl, _, _, rfl, rfl, ?_, ?_⟩
    · have := sl none (some p); rw [l1, sizeLine_eq]; omega
    refine ⟨_, rfl, _, rfl, _, _, rfl, rfl, _, rfl, x, rfl, hsz, _, _, rfl, rfl, ?_, ?_⟩
    · have := sl none (some p); have := sl (some (p + 1)) none; rw [strLen_append, l1, sizeLine_eq]; omega
    refine q _ ?_ (mem2 _ _ _ (sub _ _).2 (sub _ _).2 fun d hd => .inr (by simpa using hd))
    have := sl none (some p); have := sl (some (p + 1)) none; rw [strLen_append, strLen_append, l1]; omega
theorem sc__law_place : FnScope ["_law_text", "_law_at", "_law_number", "_law_k"] ["_law_text", "_law_at", "_law_number"] (defScope s__law_place) := ⟨rfl, rfl, rfl, by decide +kernel, rfl, by decide +kernel, by decide +kernel⟩
theorem ok__law_place (F : Fun K "_law_place" "_law_place" s__law_place f fd) (m_len : mg "len" = none) (m_range : mg "range" = none) : FnOk P w K mg base CX0 1 f fd ["_law_text", "_law_at", "_law_number"] spPlaceL := by
  refine F.ok sc__law_place (fun vs H Q E h => ?_) (fun cdv A outer s H vs Q E hr h => ?_)
  · obtain ⟨x, p, n, rfl, _⟩ := h
    rfl
  obtain ⟨x, p, n, rfl, hx, hp, hpl, q⟩ := h
  refine ⟨_, (pss_cons (ps_if (pt_cmpR op_eq (pe_op op_mod (pv 2) pe_int) pe_int (nomark _))
  (pss_one (ps_for PassesOwn.never rfl (pi_range2 rfl m_range (pa_cons (pv 1) (pa_cons (pe_callB call_len_str rfl m_len PySem.boot_len (pa_cons (pv 0) pa_nil)) pa_nil))) (pg_name (i := 3) sc__law_place.nd rfl (Or.inl rfl))
  (pss_one (ps_if (pt_cmpR op_in_str (pe_ix ix_str (pv 0) (pv 3) (fun _ _ => rfl)) pe_str (by with_unfolding_all rfl))
  (pss_one (ps_ret (pv 3)))
  pss_nil))))
  pss_nil)
  (pss_one (ps_ret (pv 1)))), ?_⟩
  refine ⟨_, rfl, _, _, rfl, rfl, (by show (0 : Int) < 2; decide), rfl, _, rfl, ?_⟩
  refine ite2 (fun c1 => ?_) (fun c1 => ?_)
  · have hl := len_is x
    refine ⟨_, rfl, _, rfl, x, rfl, sz (by omega), p, _, rfl, ⟨by omega, by omega, by omega, by omega⟩, ?_⟩
    refine for_range (lo := p) (fun i σ H' => H' = H ∧ ∃ o, σ = [some (.str x), some (.int p), some (.int n), o]) ⟨rfl, none, rfl⟩ ?_ ?_
    · rintro i σ H' hi ⟨rfl, o, rfl⟩
      have hi' : p + (i : Int) < x.length := by omega
      refine ⟨_, rfl, _, rfl, x, _, _, rfl, rfl, sz (by omega), str_at (by omega) (by omega), _, _, rfl, rfl, _, rfl, ?_⟩
      refine ite2 (fun c2 => ?_) (fun c2 => ?_)
      · exact ⟨_, rfl, q _ (by omega)⟩
      · exact ⟨rfl, _, rfl⟩
    · rintro σ H' ⟨rfl, o, rfl⟩
      exact ⟨_, rfl, q _ hp⟩
  · exact ⟨_, rfl, q _ hp⟩
end
end K03
namespace K03
open PySem L2 K02 Bk
set_option maxHeartbeats 1000000
section
variable {P : Program} {w : World} {K : PySem.W.Frag} {mg : Str → Option Value} {base : Heap} {f : Addr} {fd : FuncData}
theorem at_mod {α : Type} {xs : List α} {v : Int} {m : Int} (hm : m = xs.length) (h : 1 ≤ xs.length) : ∃ (j : Nat) (hj : j < xs.length), atI xs (v % m) = some xs[j] := by
  have hp : (0 : Int) < (xs.length : Int) := by omega
  subst hm
  have md := mid (a := v) hp
  refine ⟨(v % (xs.length : Int)).toNat, by omega, ?_⟩
  have z := atI_nat (xs := xs) (j := (v % (xs.length : Int)).toNat) (v := xs[(v % (xs.length : Int)).toNat]'(by omega)) (by rw [List.getElem?_eq_getElem])
  rw [show (((v % (xs.length : Int)).toNat : Nat) : Int) = v % (xs.length : Int) by omega] at z
  exact z
theorem sc__law_row : FnScope ["_law_script", "_law_titles_here", "_law_names_here", "_law_facts", "_law_cells", "_law_cell", "_law_number", "_law_args"] ["_law_script"] (defScope s__law_row) := ⟨rfl, rfl, rfl, by decide +kernel, rfl, by decide +kernel, by decide +kernel⟩
theorem ok__law_row (F : Fun K "_law_row" "_law_row" s__law_row f fd) (c__law_cell_at : Cal P w K mg base "_law_cell_at" 1 ["_law_script", "_law_k"] (spCell K)) (c__law_mix : Cal P w K mg base "_law_mix" 1 ["_law_cell", "_law_k"] spMix) (c__law_titles : Cal P w K mg base "_law_titles" 3 ["_law_cell", "_law_many"] (spSome aSmall.cps.toList)) (c__law_opens : Cal P w K mg base "_law_opens" 3 ["_law_cell", "_law_many"] (spSome aGreat.cps.toList)) (c__law_words : Cal P w K mg base "_law_words" 3 ["_law_cell", "_law_many"] (spSome aSF.cps.toList))
    (m_range : mg "range" = none) (m_tuple : mg "tuple" = none) : FnOk P w K mg base CX0 4 f fd ["_law_script"] (spRowD K) := by
  refine F.ok sc__law_row (fun vs H Q E h => ?_) (fun cdv A outer s H vs Q E hr h => ?_)
  · obtain ⟨a, ns, rfl, _⟩ := h
    rfl
  obtain ⟨a, ns, rfl, hS, hn, q⟩ := h
  refine ⟨_, (pss_cons (ps_set (i := 1) sc__law_row.nd rfl (Or.inl rfl) (pe_callC c__law_titles (hr.mono (by decide)) rfl (pa_cons (pe_callC c__law_cell_at (hr.mono (by decide)) rfl (pa_cons (pv 0) (pa_cons pe_int pa_nil))) (pa_cons pe_int pa_nil))))
  (pss_cons (ps_set (i := 2) sc__law_row.nd rfl (Or.inr rfl) (pe_op op_cat (pe_callC c__law_opens (hr.mono (by decide)) rfl (pa_cons (pe_callC c__law_cell_at (hr.mono (by decide)) rfl (pa_cons (pv 0) (pa_cons pe_int pa_nil))) (pa_cons pe_int pa_nil))) (pe_callC c__law_words (hr.mono (by decide)) rfl (pa_cons (pe_callC c__law_cell_at (hr.mono (by decide)) rfl (pa_cons (pv 0) (pa_cons pe_int pa_nil))) (pa_cons pe_int pa_nil)))))
  (pss_cons (ps_set (i := 3) sc__law_row.nd rfl (Or.inl rfl) (pe_lst pa_nil))
  (pss_cons (ps_set (i := 4) sc__law_row.nd rfl (Or.inl rfl) (pe_slice sl_list (pv 0) (po_some pe_int) (po_some pe_int)))
  (pss_cons (ps_if (pt_cmpR op_eq (pe_op op_mod (pe_callC c__law_cell_at (hr.mono (by decide)) rfl (pa_cons (pv 0) (pa_cons pe_int pa_nil))) pe_int) pe_int (nomark _))
  (pss_one (ps_set (i := 4) sc__law_row.nd rfl (Or.inl rfl) (pe_slice sl_list (pv 0) (po_some pe_int) (po_some pe_int))))
  pss_nil)
  (pss_cons (ps_for PassesOwn.never rfl (pi_list (pv 4)) (pg_name (i := 5) sc__law_row.nd rfl (Or.inl rfl))
  (pss_cons (ps_set (i := 6) sc__law_row.nd rfl (Or.inr rfl) (pe_callC c__law_mix (hr.mono (by decide)) rfl (pa_cons (pv 5) (pa_cons pe_int pa_nil))))
  (pss_cons (ps_setc (i := 7) [2, 6] sc__law_row.nd rfl (Or.inl rfl) rfl (by kernel_rfl) (pi_range1 rfl m_range (pa_cons (pe_op op_mod (pv 6) pe_int) pa_nil)) (fun _ _ _ _ _ => pts_nil) (fun _ _ _ _ _ => (pe_ix (r := rIxL K) ix_list (pv 1) (pe_op op_mod (pe_op op_fdiv (pv 2) (pe_op op_add pe_int (pe_op op_mul pe_int (pv 0)))) pe_int) (fun _ _ => rfl))))
  (pss_one (ps_expr (pe_bm PySem.F.plainAttrs_list PySem.F.slot_list_append PySem.F.type_list_append mt_append (pv 3) (pa_cons (pe_tup (pa_cons (pe_ix ix_list (pv 1) (pe_op op_mod (pe_op op_fdiv (pv 6) pe_int) pe_int) (fun _ _ => rfl)) (pa_cons (pe_callTy call_tuple_of rfl m_tuple PyProof.Rows.Boot.«tuple» (pa_cons (pv 7) pa_nil)) pa_nil))) pa_nil)))))))
  (pss_one (ps_ret (pv 3))))))))), ?_⟩
  refine ⟨_, rfl, a, ns, 0, rfl, hS, by decide, fun v => ⟨v, 6, rfl, by decide, fun lt zs H1 s1 hlt hLt hz hzg hznd => ?_⟩⟩
  have hS1 : SqL K H1 a (ns.map V.int) := s1.seq hS
  refine ⟨_, rfl, a, ns, 1, rfl, hS1, by decide, fun v1 => ⟨v1, 5, rfl, by decide, fun lo os H2 s2 hlo hLo ho hog hond => ?_⟩⟩
  have hS2 : SqL K H2 a (ns.map V.int) := s2.seq hS1
  refine ⟨_, rfl, a, ns, 2, rfl, hS2, by decide, fun v2 => ⟨v2, 5, rfl, by decide, fun lw ws H3 s3 hlw hLw hw hwg hwnd => ?_⟩⟩
  refine ⟨lo, lw, _, _, rfl, rfl, s3 _ _ hLo, hLw, (by rw [List.length_map, List.length_map, sizeLine_eq]; omega), fun ln hln => ?_⟩
  have s4 : Same H3 (upd H3 ln (.lst (os.map tx ++ ws.map tx))) := same_new hln _
  have hL4 := upd_same (H := H3) (a := ln) (o := .lst (os.map tx ++ ws.map tx))
  rw [← List.map_append] at s4 hL4 ⊢
  have sA := Same.trans s1 (Same.trans s2 (Same.trans s3 s4))
  have hLt4 : upd H3 ln (.lst ((os ++ ws).map tx)) lt = some (.lst (zs.map tx)) := s4 _ _ (s3 _ _ (s2 _ _ hLt))
  generalize upd H3 ln (.lst ((os ++ ws).map tx)) = H4 at s4 hL4 sA hLt4 ⊢
  refine ⟨(by show 0 ≤ sizeLine; decide), fun lf hlf => ?_⟩
  have s5 := same_new hlf (.lst [])
  have hlf5 := upd_same (H := H4) (a := lf) (o := .lst [])
  have hlfH : H lf = none := sA.free hlf
  have sB := Same.trans sA s5
  have hS5 : SqL K (upd H4 lf (.lst [])) a (ns.map V.int) := sB.seq hS
  refine ⟨_, rfl, _, rfl, _, rfl, a, _, rfl, hS5, fun lc0 hlc0 => ?_⟩
  obtain ⟨ms0, ems0, hms0⟩ := cut_ints ns (some 3) (some 55)
  have ems0 : cutV (ns.map V.int) (some 3) (some 55) = ms0.map V.int := ems0
  rw [ems0]
  have s6 := same_new hlc0 (.lst (ms0.map V.int))
  have hL6 := upd_same (H := upd H4 lf (.lst [])) (a := lc0) (o := .lst (ms0.map V.int))
  have sC := Same.trans sB s6
  have hlf6 := s6 _ _ hlf5
  generalize upd (upd H4 lf (.lst [])) lc0 (.lst (ms0.map V.int)) = H6 at s6 hL6 sC hlf6 ⊢
  have hS6 : SqL K H6 a (ns.map V.int) := sC.seq hS
  have s46 := Same.trans s5 s6
  refine ⟨_, rfl, a, ns, 1, rfl, hS6, by decide, fun v3 => ⟨_, _, rfl, rfl, (by show (0 : Int) < 3; decide), rfl, _, rfl, ite2 (fun c => ?_) (fun c => ?_)⟩⟩
  · refine ⟨_, rfl, _, rfl, _, rfl, a, _, rfl, hS6, fun lc hlc => ?_⟩
    obtain ⟨ms, ems, hms⟩ := cut_ints ns (some 3) (some 5)
    have ems : cutV (ns.map V.int) (some 3) (some 5) = ms.map V.int := ems
    rw [ems]
    have s7 := same_new hlc (.lst (ms.map V.int))
    have hL7 := upd_same (H := H6) (a := lc) (o := .lst (ms.map V.int))
    have hlf7 := s7 _ _ hlf6
    generalize upd H6 lc (.lst (ms.map V.int)) = H7 at s7 hL7 hlf7 ⊢
    have sD := Same.trans sC s7
    have s47 := Same.trans s46 s7
    have hne : lc ≠ lf := (ne_of_none hlf6 hlc).symm
    have hlfa : H4 lf = none := hlf
    refine ⟨_, rfl, lc, rfl, ⟨_, SqL.of hL7⟩, for_list (K := K) (a := lc) (xs := ms.map V.int) (fun i σ H' => Same H4 H' ∧ H' lc = some (.lst (ms.map V.int)) ∧ ∃ us fs o5 o6 o7, H' lf = some (.lst us) ∧ Paired (Fact K H') fs us ∧ (∀ g ∈ fs, FG g) ∧ fs.length ≤ i ∧ σ = [some (.ref a), some (.ref lt), some (.ref ln), some (.ref lf), some (.ref lc), o5, o6, o7]) ⟨s47, hL7, [], [], none, none, none, hlf7, .nil, (fun g hg => nomatch hg), Nat.le_refl _, rfl⟩ (fun i σ H' _ p => SqL.of p.2.1) ?_ ?_⟩
    · rintro i y σ H' hi ⟨sm, hlc', us, fs, o5, o6, o7, hlf', pf, hg, hfl, rfl⟩
      obtain ⟨hi1, ey⟩ := get_of hi
      rw [List.getElem_map] at ey
      subst ey
      have hi2 : i < ms.length := by simpa using hi1
      refine ⟨_, rfl, _, 4, rfl, by decide, by decide, fun v H8 s8 v0 => ?_⟩
      have hln8 := s8 _ _ (sm _ _ hL4)
      have hlt8 := s8 _ _ (sm _ _ hLt4)
      have md4 := mid (a := v) (b := 4) (by decide)
      have hnl : (os ++ ws).length = 10 := by rw [List.length_append]; omega
      refine ⟨_, rfl, _, _, rfl, rfl, (by show (0 : Int) < 4; decide), v % 4, rfl, by omega, by omega, fun D hD => ?_⟩
      refine comp_range (n := (v % 4).toNat) (lo := 0) (by rw [sizeLine_eq]; omega) (fun i ys H' => Same H8 H' ∧ H' D = some (.lst ys) ∧ ∃ as : List Cs, ys = as.map tx ∧ as.length = i ∧ ∀ b ∈ as, b ∈ os ++ ws) ⟨same_new hD _, upd_same, [], rfl, rfl, fun b hb => nomatch hb⟩ (fun i ys H' p => ⟨p.2.1, ?_⟩) (fun i ys H' hi p => ?_) (fun ys H9 p => ?_)
      · obtain ⟨_, _, as, e, hl, _⟩ := p
        rw [e, List.length_map]
        omega
      · obtain ⟨sm', hDD, as, e, hl, ham⟩ := p
        unfold tAll
        simp only [if_true]
        obtain ⟨j, hj, ej⟩ := at_mod (xs := (os ++ ws).map tx) (m := 10) (v := v / (24 + 7 * (0 + (i : Int)))) (by rw [List.length_map, hnl]; rfl) (by rw [List.length_map]; omega)
        have hj' : j < (os ++ ws).length := by simpa using hj
        rw [List.getElem_map] at ej
        refine ⟨_, rfl, _, rfl, _, rfl, _, _, rfl, rfl, .inl ⟨by decide, by decide⟩, _, _, rfl, rfl, _, _, rfl, rfl, ⟨by omega, by omega⟩, _, _, rfl, rfl, (by show (0 : Int) < 10; decide), ln, _, _, _, rfl, rfl, SqL.of (sm' _ _ hln8), ej, hDD, ?_⟩
        refine ⟨Same.upd_new sm' hD _, upd_same, as ++ [(os ++ ws)[j]], by rw [e]; simp, by rw [List.length_append, hl]; rfl, fun b hb => ?_⟩
        rcases List.mem_append.mp hb with z | z
        · exact ham b z
        · rw [List.mem_singleton.mp z]; exact List.getElem_mem hj'
      obtain ⟨s9, hD9, as, e, hl, ham⟩ := p
      subst e
      have s89 := Same.trans s8 s9
      have hlf9 := s89 _ _ hlf'
      have hlt9 := s9 _ _ hlt8
      obtain ⟨j, hj, ej⟩ := at_mod (xs := zs.map tx) (m := 6) (v := v / 4) (by rw [List.length_map, hz]; rfl) (by rw [List.length_map]; omega)
      have hj' : j < zs.length := by simpa using hj
      rw [List.getElem_map] at ej
      have hul := Paired.length pf
      refine ⟨_, rfl, .inl ⟨rfl, _, SqL.of hlf9⟩, _, rfl, _, rfl, _, _, rfl, rfl, ⟨by decide, by decide⟩, _, _, rfl, rfl, (by show (0 : Int) < 6; decide), lt, _, _, _, rfl, rfl, SqL.of hlt9, ej, ?_⟩
      refine ⟨_, rfl, D, _, rfl, .inl ⟨SqL.of hD9, fun t2 ht2 => ⟨(by show 2 ≤ sizeLine; decide), fun t1 ht1 => ?_⟩⟩⟩
      have st2 := same_new ht2 (.tup (as.map tx))
      have st1 := same_new ht1 (.tup [tx zs[j], .ref t2])
      have hlfX := st1 _ _ (st2 _ _ hlf9)
      refine ⟨lf, _, _, rfl, rfl, hlfX, (by rw [sizeLine_eq]; omega), ?_⟩
      have sX := Same.trans s89 (Same.trans st2 st1)
      have kp : Kp (upd H4 lf (.lst [])) (upd (upd H9 t2 (.tup (as.map tx))) t1 (.tup [tx zs[j], .ref t2])) (upd (upd (upd H9 t2 (.tup (as.map tx))) t1 (.tup [tx zs[j], .ref t2])) lf (.lst (us ++ [V.ref t1]))) := Kp.upd hlf5 hlfX (by intro xs z; cases z) (by intro o u z; cases z)
      refine ⟨Same.upd_new (Same.trans sm sX) hlf _, ?_, us ++ [V.ref t1], fs ++ [⟨zs[j], as⟩], _, _, _, upd_same, ?_, ?_, ?_, rfl⟩
      · rw [upd_ne hne]
        exact sX _ _ hlc'
      · refine (L2.Paired.mapP pf fun a b z => Fact.keep kp (Fact.keep (H0 := H4) (Kp.same sX) z)).snoc ?_
        exact Fact.keep kp ⟨t1, t2, rfl, SqT.of upd_same, SqT.of (st1 _ _ upd_same)⟩
      · intro g hgm
        rcases List.mem_append.mp hgm with z | z
        · exact hg g z
        · rw [List.mem_singleton.mp z]
          have hk := hzg zs[j] (List.getElem_mem hj')
          refine ⟨?_, fun b hb => ?_, by rw [hl]; omega⟩
          · show (nameC zs[j] && decide (zs[j].headD 0 ∈ aSmall.cps.toList)) = true
            rw [hk.1, decide_eq_true hk.2]
            rfl
          · rcases List.mem_append.mp (ham b hb) with z | z
            · exact (hog b z).1
            · exact (hwg b z).1
      · rw [List.length_append, List.length_singleton]
        omega
    · rintro σ H' ⟨sm, hlc', us, fs, o5, o6, o7, hlf', pf, hg, hfl, rfl⟩
      rw [List.length_map] at hfl
      exact ⟨_, rfl, q lf us fs H' (Same.trans sA sm) hlfH hlf' pf hg (by omega)⟩
  · have s7 := Same.refl H6
    have hL7 := hL6
    have hlf7 := hlf6
    have sD := sC
    have s47 := s46
    have hms := hms0
    have hne : lc0 ≠ lf := (ne_of_none hlf5 hlc0).symm
    have hlfa : H4 lf = none := hlf
    refine ⟨_, rfl, lc0, rfl, ⟨_, SqL.of hL7⟩, for_list (K := K) (a := lc0) (xs := ms0.map V.int) (fun i σ H' => Same H4 H' ∧ H' lc0 = some (.lst (ms0.map V.int)) ∧ ∃ us fs o5 o6 o7, H' lf = some (.lst us) ∧ Paired (Fact K H') fs us ∧ (∀ g ∈ fs, FG g) ∧ fs.length ≤ i ∧ σ = [some (.ref a), some (.ref lt), some (.ref ln), some (.ref lf), some (.ref lc0), o5, o6, o7]) ⟨s47, hL7, [], [], none, none, none, hlf7, .nil, (fun g hg => nomatch hg), Nat.le_refl _, rfl⟩ (fun i σ H' _ p => SqL.of p.2.1) ?_ ?_⟩
    · rintro i y σ H' hi ⟨sm, hlc', us, fs, o5, o6, o7, hlf', pf, hg, hfl, rfl⟩
      obtain ⟨hi1, ey⟩ := get_of hi
      rw [List.getElem_map] at ey
      subst ey
      have hi2 : i < ms0.length := by simpa using hi1
      refine ⟨_, rfl, _, 4, rfl, by decide, by decide, fun v H8 s8 v0 => ?_⟩
      have hln8 := s8 _ _ (sm _ _ hL4)
      have hlt8 := s8 _ _ (sm _ _ hLt4)
      have md4 := mid (a := v) (b := 4) (by decide)
      have hnl : (os ++ ws).length = 10 := by rw [List.length_append]; omega
      refine ⟨_, rfl, _, _, rfl, rfl, (by show (0 : Int) < 4; decide), v % 4, rfl, by omega, by omega, fun D hD => ?_⟩
      refine comp_range (n := (v % 4).toNat) (lo := 0) (by rw [sizeLine_eq]; omega) (fun i ys H' => Same H8 H' ∧ H' D = some (.lst ys) ∧ ∃ as : List Cs, ys = as.map tx ∧ as.length = i ∧ ∀ b ∈ as, b ∈ os ++ ws) ⟨same_new hD _, upd_same, [], rfl, rfl, fun b hb => nomatch hb⟩ (fun i ys H' p => ⟨p.2.1, ?_⟩) (fun i ys H' hi p => ?_) (fun ys H9 p => ?_)
      · obtain ⟨_, _, as, e, hl, _⟩ := p
        rw [e, List.length_map]
        omega
      · obtain ⟨sm', hDD, as, e, hl, ham⟩ := p
        unfold tAll
        simp only [if_true]
        obtain ⟨j, hj, ej⟩ := at_mod (xs := (os ++ ws).map tx) (m := 10) (v := v / (24 + 7 * (0 + (i : Int)))) (by rw [List.length_map, hnl]; rfl) (by rw [List.length_map]; omega)
        have hj' : j < (os ++ ws).length := by simpa using hj
        rw [List.getElem_map] at ej
        refine ⟨_, rfl, _, rfl, _, rfl, _, _, rfl, rfl, .inl ⟨by decide, by decide⟩, _, _, rfl, rfl, _, _, rfl, rfl, ⟨by omega, by omega⟩, _, _, rfl, rfl, (by show (0 : Int) < 10; decide), ln, _, _, _, rfl, rfl, SqL.of (sm' _ _ hln8), ej, hDD, ?_⟩
        refine ⟨Same.upd_new sm' hD _, upd_same, as ++ [(os ++ ws)[j]], by rw [e]; simp, by rw [List.length_append, hl]; rfl, fun b hb => ?_⟩
        rcases List.mem_append.mp hb with z | z
        · exact ham b z
        · rw [List.mem_singleton.mp z]; exact List.getElem_mem hj'
      obtain ⟨s9, hD9, as, e, hl, ham⟩ := p
      subst e
      have s89 := Same.trans s8 s9
      have hlf9 := s89 _ _ hlf'
      have hlt9 := s9 _ _ hlt8
      obtain ⟨j, hj, ej⟩ := at_mod (xs := zs.map tx) (m := 6) (v := v / 4) (by rw [List.length_map, hz]; rfl) (by rw [List.length_map]; omega)
      have hj' : j < zs.length := by simpa using hj
      rw [List.getElem_map] at ej
      have hul := Paired.length pf
      refine ⟨_, rfl, .inl ⟨rfl, _, SqL.of hlf9⟩, _, rfl, _, rfl, _, _, rfl, rfl, ⟨by decide, by decide⟩, _, _, rfl, rfl, (by show (0 : Int) < 6; decide), lt, _, _, _, rfl, rfl, SqL.of hlt9, ej, ?_⟩
      refine ⟨_, rfl, D, _, rfl, .inl ⟨SqL.of hD9, fun t2 ht2 => ⟨(by show 2 ≤ sizeLine; decide), fun t1 ht1 => ?_⟩⟩⟩
      have st2 := same_new ht2 (.tup (as.map tx))
      have st1 := same_new ht1 (.tup [tx zs[j], .ref t2])
      have hlfX := st1 _ _ (st2 _ _ hlf9)
      refine ⟨lf, _, _, rfl, rfl, hlfX, (by rw [sizeLine_eq]; omega), ?_⟩
      have sX := Same.trans s89 (Same.trans st2 st1)
      have kp : Kp (upd H4 lf (.lst [])) (upd (upd H9 t2 (.tup (as.map tx))) t1 (.tup [tx zs[j], .ref t2])) (upd (upd (upd H9 t2 (.tup (as.map tx))) t1 (.tup [tx zs[j], .ref t2])) lf (.lst (us ++ [V.ref t1]))) := Kp.upd hlf5 hlfX (by intro xs z; cases z) (by intro o u z; cases z)
      refine ⟨Same.upd_new (Same.trans sm sX) hlf _, ?_, us ++ [V.ref t1], fs ++ [⟨zs[j], as⟩], _, _, _, upd_same, ?_, ?_, ?_, rfl⟩
      · rw [upd_ne hne]
        exact sX _ _ hlc'
      · refine (L2.Paired.mapP pf fun a b z => Fact.keep kp (Fact.keep (H0 := H4) (Kp.same sX) z)).snoc ?_
        exact Fact.keep kp ⟨t1, t2, rfl, SqT.of upd_same, SqT.of (st1 _ _ upd_same)⟩
      · intro g hgm
        rcases List.mem_append.mp hgm with z | z
        · exact hg g z
        · rw [List.mem_singleton.mp z]
          have hk := hzg zs[j] (List.getElem_mem hj')
          refine ⟨?_, fun b hb => ?_, by rw [hl]; omega⟩
          · show (nameC zs[j] && decide (zs[j].headD 0 ∈ aSmall.cps.toList)) = true
            rw [hk.1, decide_eq_true hk.2]
            rfl
          · rcases List.mem_append.mp (ham b hb) with z | z
            · exact (hog b z).1
            · exact (hwg b z).1
      · rw [List.length_append, List.length_singleton]
        omega
    · rintro σ H' ⟨sm, hlc', us, fs, o5, o6, o7, hlf', pf, hg, hfl, rfl⟩
      rw [List.length_map] at hfl
      exact ⟨_, rfl, q lf us fs H' (Same.trans sA sm) hlfH hlf' pf hg (by omega)⟩
end
end K03
namespace K03
open PySem L2 K02 Bk
set_option maxHeartbeats 1000000
section
variable {P : Program} {w : World} {K : PySem.W.Frag} {mg : Str → Option Value} {base : Heap} {f : Addr} {fd : FuncData} {C CP CK CF CN : Addr} {mk : Str}
theorem fT_deep (g : Fc) : ∃ ds, (fT g).toD = .tup ds ∧ (fT g).toD.deep ≤ 20 := by
  have e : (fT g).toD = .tup [.str (S g.k), .tup (Tr.toDs ((g.as.map S).map Tr.str))] := by simp [fT, ftT, Tr.toD, Tr.toDs]
  exact ⟨_, e, Nat.le_trans (hd_fT g).2 (by decide)⟩
theorem sc__law_refusal : FnScope ["_law_text", "_law_flags", "e"] ["_law_text"] (defScope s__law_refusal) := ⟨rfl, rfl, rfl, by decide +kernel, rfl, by decide +kernel, by decide +kernel⟩
theorem ok__law_refusal (F : Fun K "_law_refusal" "_law_refusal" s__law_refusal f fd) (c_read_facts : CalE P w K mg base "read_facts" 6 ["text"] (spReadR K C mk)) (m_isinstance : mg "isinstance" = none) (m_ValueError : mg "ValueError" = none) (m_PoolError : mg "PoolError" = some (.ref CP)) (m_NoLine : mg "NoLine" = some (.ref C)) (m_NoKind : mg "NoKind" = some (.ref CK)) (m_NoFact : mg "NoFact" = some (.ref CF)) (m_NoName : mg "NoName" = some (.ref CN))
    (xP : PySem.W.exmOne K (.ref C) (.ref CP) = some true) (Z : PySem.W.ExcKit K C) (kL : PySem.W.kitOne K (.ref C) (.ref C) = some true) (kV : PySem.W.kitOne K (.ref C) (.type "ValueError") = some true) (kK : PySem.W.kitOne K (.ref C) (.ref CK) = some false) (kF : PySem.W.kitOne K (.ref C) (.ref CF) = some false) (kN : PySem.W.kitOne K (.ref C) (.ref CN) = some false) :
    FnOk P w K mg base CX0 7 f fd ["_law_text"] (spRefu mk) := by
  refine F.ok sc__law_refusal (fun vs H Q E h => ?_) (fun cdv A outer s H vs Q E hr h => ?_)
  · obtain ⟨x, rfl, _⟩ := h
    rfl
  obtain ⟨x, rfl, hx, hc, hno, q⟩ := h
  refine ⟨_, (pss_cons (ps_set (i := 1) sc__law_refusal.nd rfl (Or.inl rfl) (pe_lst pa_nil))
  (pss_cons (ps_try (fun pn R => (pss_one (ps_expr (pe_callT c_read_facts (hr.mono (by decide)) rfl (pa_cons (pv 0) pa_nil))))) (ph_as (i := 2) sc__law_refusal.nd rfl rfl rfl m_PoolError (fun a oe cls hc hnc => (pss_cons (ps_set (i := 1) sc__law_refusal.nd rfl (Or.inl rfl) (pe_lst (pa_cons (pe_callB (id (α := CallR _ _ (rIsE K a cls)) (call_isE (oe := oe) (List.mem_append_right _ (List.mem_singleton.mpr rfl)) hc hnc)) rfl m_isinstance PyProof.Rows.boot_isinstance (pa_cons (pv 2) (pa_cons (pe_glob (v := .ref _) rfl m_NoLine rfl) pa_nil))) (pa_cons (pe_callB (id (α := CallR _ _ (rIsE K a cls)) (call_isE (oe := oe) (List.mem_append_right _ (List.mem_singleton.mpr rfl)) hc hnc)) rfl m_isinstance PyProof.Rows.boot_isinstance (pa_cons (pv 2) (pa_cons (pe_bltn rfl m_ValueError PyProof.Rows.Boot.«ValueError» (v := .ty "ValueError") rfl) pa_nil))) pa_nil))))
  (pss_one (ps_set (i := 1) sc__law_refusal.nd rfl (Or.inl rfl) (pe_op op_cat (pv 1) (pe_lst (pa_cons (pe_callB (id (α := CallR _ _ (rIsE K a cls)) (call_isE (oe := oe) (List.mem_append_right _ (List.mem_singleton.mpr rfl)) hc hnc)) rfl m_isinstance PyProof.Rows.boot_isinstance (pa_cons (pv 2) (pa_cons (pe_glob (v := .ref _) rfl m_NoKind rfl) pa_nil))) (pa_cons (pe_callB (id (α := CallR _ _ (rIsE K a cls)) (call_isE (oe := oe) (List.mem_append_right _ (List.mem_singleton.mpr rfl)) hc hnc)) rfl m_isinstance PyProof.Rows.boot_isinstance (pa_cons (pv 2) (pa_cons (pe_glob (v := .ref _) rfl m_NoFact rfl) pa_nil))) (pa_cons (pe_callB (id (α := CallR _ _ (rIsE K a cls)) (call_isE (oe := oe) (List.mem_append_right _ (List.mem_singleton.mpr rfl)) hc hnc)) rfl m_isinstance PyProof.Rows.boot_isinstance (pa_cons (pv 2) (pa_cons (pe_glob (v := .ref _) rfl m_NoName rfl) pa_nil))) pa_nil))))))))) ph_nil))
  (pss_one (ps_ret (pv 1))))), ?_⟩
  refine ⟨(by show 0 ≤ sizeLine; decide), fun l0 hl0 => ?_⟩
  have s0 := same_new hl0 (.lst [])
  refine ⟨_, rfl, x, rfl, hx, hc, fun _ H1 s1 => ?_, fun fs hfs => by rw [hno] at hfs; cases hfs⟩
  refine ⟨true, xP, fun _ e => ?_, fun z => by cases z⟩
  refine ⟨_, rfl, _, .ref C, C, true, rfl, .inl ⟨C, rfl, rfl⟩, rfl, Z, kL, ?_⟩
  refine ⟨_, rfl, _, .type "ValueError", C, true, rfl, .inr ⟨_, rfl, rfl⟩, rfl, Z, kV, ?_⟩
  refine ⟨(by show 2 ≤ sizeLine; decide), fun l1 hl1 => ?_⟩
  have s2 := same_new hl1 (.lst [.bl true, .bl true])
  refine ⟨_, rfl, ?_⟩
  refine ⟨_, rfl, _, .ref CK, C, false, rfl, .inl ⟨CK, rfl, rfl⟩, rfl, Z, kK, ?_⟩
  refine ⟨_, rfl, _, .ref CF, C, false, rfl, .inl ⟨CF, rfl, rfl⟩, rfl, Z, kF, ?_⟩
  refine ⟨_, rfl, _, .ref CN, C, false, rfl, .inl ⟨CN, rfl, rfl⟩, rfl, Z, kN, ?_⟩
  refine ⟨(by show 3 ≤ sizeLine; decide), fun l2 hl2 => ?_⟩
  have s3 := same_new hl2 (.lst [.bl false, .bl false, .bl false])
  refine ⟨l1, l2, _, _, rfl, rfl, s3 _ _ upd_same, upd_same, (by show 5 ≤ sizeLine; decide), fun l3 hl3 => ?_⟩
  exact ⟨_, rfl, q l3 _ (Same.trans s0 (Same.trans s1 (Same.trans s2 (Same.trans s3 (same_new hl3 _))))) upd_same⟩
theorem sc__law_single : FnScope ["_law_text", "_law_due", "_law_found", "_law_flags", "e"] ["_law_text", "_law_due"] (defScope s__law_single) := ⟨rfl, rfl, rfl, by decide +kernel, rfl, by decide +kernel, by decide +kernel⟩
theorem ok__law_single (F : Fun K "_law_single" "_law_single" s__law_single f fd) (c_read_fact : CalE P w K mg base "read_fact" 5 ["text"] (spReadF K C mk)) (m_isinstance : mg "isinstance" = none) (m_len : mg "len" = none) (m_tuple : mg "tuple" = none) (m_ValueError : mg "ValueError" = none) (m_PoolError : mg "PoolError" = some (.ref CP)) (m_NoLine : mg "NoLine" = some (.ref C))
    (xP : PySem.W.exmOne K (.ref C) (.ref CP) = some true) (Z : PySem.W.ExcKit K C) (kL : PySem.W.kitOne K (.ref C) (.ref C) = some true) (kV : PySem.W.kitOne K (.ref C) (.type "ValueError") = some true) :
    FnOk P w K mg base CX0 6 f fd ["_law_text", "_law_due"] (spSingle K mk) := by
  refine F.ok sc__law_single (fun vs H Q E h => ?_) (fun cdv A outer s H vs Q E hr h => ?_)
  · obtain ⟨x, v, rfl, _⟩ := h
    rfl
  obtain ⟨x, v, rfl, hx, hc, due, q⟩ := h
  refine ⟨_, (pss_cons (ps_set (i := 2) sc__law_single.nd rfl (Or.inl rfl) pe_non)
  (pss_cons (ps_set (i := 3) sc__law_single.nd rfl (Or.inl rfl) (pe_lst pa_nil))
  (pss_cons (ps_try (fun pn R => (pss_one (ps_set (i := 2) sc__law_single.nd rfl (Or.inl rfl) (pe_callT c_read_fact (hr.mono (by decide)) rfl (pa_cons (pv 0) pa_nil))))) (ph_as (i := 4) sc__law_single.nd rfl rfl rfl m_PoolError (fun a oe cls hc hnc => (pss_one (ps_set (i := 3) sc__law_single.nd rfl (Or.inl rfl) (pe_lst (pa_cons (pe_callB (id (α := CallR _ _ (rIsE K a cls)) (call_isE (oe := oe) (List.mem_append_right _ (List.mem_singleton.mpr rfl)) hc hnc)) rfl m_isinstance PyProof.Rows.boot_isinstance (pa_cons (pv 4) (pa_cons (pe_glob (v := .ref _) rfl m_NoLine rfl) pa_nil))) (pa_cons (pe_callB (id (α := CallR _ _ (rIsE K a cls)) (call_isE (oe := oe) (List.mem_append_right _ (List.mem_singleton.mpr rfl)) hc hnc)) rfl m_isinstance PyProof.Rows.boot_isinstance (pa_cons (pv 4) (pa_cons (pe_bltn rfl m_ValueError PyProof.Rows.Boot.«ValueError» (v := .ty "ValueError") rfl) pa_nil))) pa_nil)))))) ph_nil))
  (pss_cons (ps_if (PW.pt (pw_or (pt_cmpR op_isN (pv 1) pe_non (nomark _)) (pw_or1 (pt_cmpR op_ne (pe_callB call_len_seq rfl m_len PySem.boot_len (pa_cons (pv 1) pa_nil)) pe_int (nomark _)))))
  (pss_one (ps_ret (pe_cmpR (op_eqS hr.units) (pv 3) (pe_lst (pa_cons pe_bl (pa_cons pe_bl pa_nil))) (nomark _))))
  pss_nil)
  (pss_one (ps_ret (pe_and (pe_cmpR (op_eqS hr.units) (pv 3) (pe_lst pa_nil) (nomark _)) (pe_and (pe_callB call_isinstT rfl m_isinstance PyProof.Rows.boot_isinstance (pa_cons (pv 2) (pa_cons (pe_bltn rfl m_tuple PyProof.Rows.Boot.«tuple» (v := .ty "tuple") rfl) pa_nil))) (pe_one (pe_cmpR (op_eqD hr.units) (pv 2) (pe_ix ix_list (pv 1) pe_int (fun _ _ => rfl)) (nomark _))))))))))), ?_⟩
  refine ⟨(by show 0 ≤ sizeLine; decide), fun l0 hl0 => ?_⟩
  have s0 := same_new hl0 (.lst [])
  have hone := oneX_is mk x.cps.toList
  refine ⟨_, rfl, x, rfl, hx, hc, fun hn H1 s1 => ?_, fun g hg t1 t2 H1 s1 h1 h2 => ?_⟩
  · refine ⟨true, xP, fun _ e => ?_, fun z => by cases z⟩
    refine ⟨_, rfl, _, .ref C, C, true, rfl, .inl ⟨C, rfl, rfl⟩, rfl, Z, kL, ?_⟩
    refine ⟨_, rfl, _, .type "ValueError", C, true, rfl, .inr ⟨_, rfl, rfl⟩, rfl, Z, kV, ?_⟩
    refine ⟨(by show 2 ≤ sizeLine; decide), fun l1 hl1 => ?_⟩
    have s2 := same_new hl1 (.lst [.bl true, .bl true])
    have sA := Same.trans s0 (Same.trans s1 s2)
    rcases due with ⟨e0, rfl⟩ | ⟨fs, l, us, e0, rfl, hL, pf⟩
    · refine ⟨_, rfl, rfl, _, rfl, ?_⟩
      refine iteT (iteT ⟨_, rfl, (by show 2 ≤ sizeLine; decide), fun l2 hl2 => ?_⟩)
      have s3 := same_new hl2 (.lst [.bl true, .bl true])
      exact ⟨Alike.bools (bs := [true, true]) (SqL.of (s3 _ _ upd_same)) (SqL.of upd_same), q _ (Same.trans sA s3)⟩
    · have hlen : fs.length ≠ 1 := fun e => by
        match fs, e with
        | [g], _ =>
          rw [e0, hn] at hone
          cases hone
      have zl := Paired.length pf
      refine ⟨_, rfl, rfl, _, rfl, ?_⟩
      refine iteF ?_
      refine ⟨_, rfl, l, _, rfl, .inl (SqL.of (sA _ _ hL)), rfl, _, rfl, ?_⟩
      have z : decide (V.int (us.length : Int) = V.int 1) = false := by
        refine decide_eq_false fun z => hlen ?_
        have z' : (us.length : Int) = 1 := by injection z
        omega
      rw [z]
      refine iteT ⟨_, rfl, (by show 2 ≤ sizeLine; decide), fun l2 hl2 => ?_⟩
      have s3 := same_new hl2 (.lst [.bl true, .bl true])
      exact ⟨Alike.bools (bs := [true, true]) (SqL.of (s3 _ _ upd_same)) (SqL.of upd_same), q _ (Same.trans sA s3)⟩
  · have sA := Same.trans s0 s1
    rw [hg] at hone
    rcases due with ⟨e0, rfl⟩ | ⟨fs, l, us, e0, rfl, hL, pf⟩
    · rw [e0] at hone
      cases hone
    have hfs : fs = [g] := by
      rw [e0] at hone
      match fs, hone with
      | [g'], h => cases h; rfl
    subst hfs
    have zl := Paired.length pf
    obtain ⟨u, rfl⟩ : ∃ u, us = [u] := by
      match us, zl with
      | [u], _ => exact ⟨u, rfl⟩
    have hF : Fact K H1 g u := Fact.sm sA (paired_at pf 0 (by simp) (by simp))
    refine ⟨_, rfl, rfl, _, rfl, iteF ?_⟩
    refine ⟨_, rfl, l, _, rfl, .inl (SqL.of (sA _ _ hL)), rfl, _, rfl, iteF ?_⟩
    refine ⟨_, rfl, (by show 0 ≤ sizeLine; decide), fun l2 hl2 => ?_⟩
    have s3 := same_new hl2 (.lst [])
    refine ⟨Alike.bools (bs := []) (SqL.of (s3 _ _ (s1 _ _ upd_same))) (SqL.of upd_same), ?_⟩
    refine ⟨_, rfl, iteT ?_⟩
    refine ⟨_, rfl, t1, _, _, true, rfl, SqT.of (s3 _ _ h1), kit_self, _, rfl, iteT ?_⟩
    have d1 : IsD K (upd H1 l2 (.lst [])) (fT g).toD (.ref t1) := Fact.isD ⟨t1, t2, rfl, SqT.of (s3 _ _ h1), SqT.of (s3 _ _ h2)⟩
    have d2 : IsD K (upd H1 l2 (.lst [])) (fT g).toD u := Fact.isD (Fact.sm s3 hF)
    obtain ⟨du, hdu, deep⟩ : ∃ ds, (fT g).toD = .tup ds ∧ (fT g).toD.deep ≤ 20 := fT_deep g
    refine ⟨_, rfl, _, rfl, l, _, 0, _, rfl, rfl, SqL.of (s3 _ _ (sA _ _ hL)), rfl, _, _, d1, d2, deep, ⟨_, hdu⟩, ⟨_, hdu⟩, ?_⟩
    rw [eqD_refl]
    exact q _ (Same.trans sA s3)
end
end K03
namespace K03
open PySem L2 K02 Bk
set_option maxHeartbeats 1000000
section
variable {P : Program} {w : World} {K : PySem.W.Frag} {mg : Str → Option Value} {base : Heap} {f : Addr} {fd : FuncData}
theorem drop_nil {p : Nat → Bool} : ∀ {l : Cs}, l.dropWhile p = [] → l.all p = true
  | [], _ => rfl
  | c :: r, h => by
    rw [List.dropWhile_cons] at h
    by_cases hc : p c = true
    · rw [if_pos hc] at h
      rw [List.all_cons, hc, drop_nil h]
      rfl
    · rw [if_neg hc] at h
      cases h
theorem drop_all {p : Nat → Bool} : ∀ {l : Cs}, l.all p = true → l.dropWhile p = []
  | [], _ => rfl
  | c :: r, h => by
    rw [List.all_cons, Bool.and_eq_true] at h
    rw [List.dropWhile_cons, if_pos h.1, drop_all h.2]
theorem lnext_le {st c n : Nat} (h : R3.lnext isAl st c = some n) : n ≤ 7 := by
  unfold R3.lnext at h
  dsimp only at h
  split at h <;> (repeat' split at h) <;> first | (cases h; omega) | cases h
structure LrOk (o : Option (List Fc)) (r : Cs) (n st : Nat) (k : Cs) (as : List Cs) (fs : List Fc) (ws : List Cs) : Prop where
  le : st ≤ 7
  run : o = R3.lrun isAl smN r st k as fs
  wk : st ≠ 0 → ws = k :: as
  k0 : st ≠ 0 → k ≠ []
  one : st = 1 → as = []
  four : st = 4 → as ≠ []
  wn : ws.length ≤ n
  wl : ∀ p ∈ ws, p.length ≤ n
  fn : fs.length ≤ n
def readV (K : PySem.W.Frag) (o : Option (List Fc)) (x : Str) (z : Cs) (H : Hp) (i : Nat) (σ : St) (H' : Hp) : Prop := ∃ (st : Nat) (k : Cs) (as : List Cs) (fs : List Fc) (ws : List Cs) (lf lw : Addr) (us : List V) (o4 o5 : Option V),
  LrOk o (z.drop i) i st k as fs ws ∧ Same H H' ∧ H lf = none ∧ H lw = none ∧ lf ≠ lw ∧ H' lf = some (.lst us) ∧ Paired (Fact K H') fs us ∧ H' lw = some (.lst (ws.map tx)) ∧ σ = [some (.str x), some (.ref lf), some (.ref lw), some (.int st), o4, o5]
theorem sc__law_read : FnScope ["_law_text", "_law_facts", "_law_words_here", "_law_state", "_law_sign_here", "_law_came"] ["_law_text"] (defScope s__law_read) := ⟨rfl, rfl, rfl, by decide +kernel, rfl, by decide +kernel, by decide +kernel⟩
theorem ok__law_read (F : Fun K "_law_read" "_law_read" s__law_read f fd) (c__law_sort : Cal P w K mg base "_law_sort" 1 ["_law_sign_here"] spSort) (c__law_next : Cal P w K mg base "_law_next" 1 ["_law_state", "_law_sort_here"] spNext) (m_len : mg "len" = none) (m_max : mg "max" = none) (m_tuple : mg "tuple" = none) : FnOk P w K mg base CX0 2 f fd ["_law_text"] (spReadL K) := by
  refine F.ok sc__law_read (fun vs H Q E h => ?_) (fun cdv A outer s H vs Q E hr h => ?_)
  · obtain ⟨x, rfl, _⟩ := h
    rfl
  obtain ⟨x, rfl, hx, qn, qs⟩ := h
  have hxl := len_is x
  refine ⟨_, (pss_cons (ps_if (pt_cmpR op_eq (pe_bm PySem.F.plainAttrs_str PySem.F.slot_str_strip PySem.F.type_str_strip mt_strip (pv 0) (pa_cons pe_str pa_nil)) pe_str (nomark _))
  (pss_one (ps_ret (pe_lst pa_nil)))
  pss_nil)
  (pss_cons (ps_set (i := 1) sc__law_read.nd rfl (Or.inl rfl) (pe_lst pa_nil))
  (pss_cons (ps_set (i := 2) sc__law_read.nd rfl (Or.inl rfl) (pe_lst pa_nil))
  (pss_cons (ps_set (i := 3) sc__law_read.nd rfl (Or.inl rfl) pe_int)
  (pss_cons (ps_for PassesOwn.never rfl (pi_str (pe_op op_add_str (pv 0) pe_str)) (pg_name (i := 4) sc__law_read.nd rfl (Or.inl rfl))
  (pss_cons (ps_set (i := 5) sc__law_read.nd rfl (Or.inl rfl) (pe_callC c__law_next (hr.mono (by decide)) rfl (pa_cons (pv 3) (pa_cons (pe_callC c__law_sort (hr.mono (by decide)) rfl (pa_cons (pv 4) pa_nil)) pa_nil))))
  (pss_cons (ps_if (pt_cmpR op_lt (pv 5) pe_int (nomark _))
  (pss_one (ps_ret pe_non))
  pss_nil)
  (pss_cons (ps_if (PW.pt (pw_and (pt_cmpR op_eq (pv 5) (pv 3) (nomark _)) (pw_and1 (PW.pt (pw_or (pt_cmpR op_eq (pv 5) pe_int (nomark _)) (pw_or1 (pt_cmpR op_eq (pv 5) pe_int (nomark _))))))))
  (pss_one (ps_asg (pe_op op_add_str (pe_ix ix_list (pv 2) (pe_op op_sub (pe_callB call_len_seq rfl m_len PySem.boot_len (pa_cons (pv 2) pa_nil)) pe_int) (fun _ _ => rfl)) (pv 4)) (pg_sub (pv 2) (pe_op op_sub (pe_callB call_len_seq rfl m_len PySem.boot_len (pa_cons (pv 2) pa_nil)) pe_int) set_list)))
  pss_nil)
  (pss_cons (ps_if (PW.pt (pw_and (pt_cmpR op_ne (pv 5) (pv 3) (nomark _)) (pw_and1 (pt_cmpR op_eq (pv 5) pe_int (nomark _)))))
  (pss_one (ps_set (i := 2) sc__law_read.nd rfl (Or.inl rfl) (pe_lst (pa_cons (pv 4) pa_nil))))
  pss_nil)
  (pss_cons (ps_if (PW.pt (pw_and (pt_cmpR op_ne (pv 5) (pv 3) (nomark _)) (pw_and1 (pt_cmpR op_eq (pv 5) pe_int (nomark _)))))
  (pss_one (ps_set (i := 2) sc__law_read.nd rfl (Or.inl rfl) (pe_op op_cat (pv 2) (pe_lst (pa_cons (pv 4) pa_nil)))))
  pss_nil)
  (pss_cons (ps_if (PW.pt (pw_and (pt_cmpR op_ne (pv 5) (pv 3) (nomark _)) (pw_and1 (pt_cmpR op_eq (pv 5) pe_int (nomark _)))))
  (pss_cons (ps_if (PW.pt (pw_or (pt_cmpR op_gt (pe_callB call_maxL rfl m_max PyProof.Rows.boot_max (pa_cons (pe_comp [] rfl (by kernel_rfl) (pi_list (pv 2)) (fun _ _ _ _ _ => pts_nil) (fun _ _ _ _ _ => (pe_callB call_len_str rfl m_len PySem.boot_len (pa_cons (pv 0) pa_nil)))) pa_nil)) pe_int (nomark _)) (pw_or1 (pt_cmpR op_notin_str (pe_ix ix_str (pe_ix ix_list (pv 2) pe_int (fun _ _ => rfl)) pe_int (fun _ _ => rfl)) pe_str (by with_unfolding_all rfl)))))
  (pss_one (ps_ret pe_non))
  pss_nil)
  (pss_one (ps_expr (pe_bm PySem.F.plainAttrs_list PySem.F.slot_list_append PySem.F.type_list_append mt_append (pv 1) (pa_cons (pe_tup (pa_cons (pe_ix ix_list (pv 2) pe_int (fun _ _ => rfl)) (pa_cons (pe_callTy call_tuple_of rfl m_tuple PyProof.Rows.Boot.«tuple» (pa_cons (pe_slice sl_list (pv 2) (po_some pe_int) po_none) pa_nil)) pa_nil))) pa_nil)))))
  pss_nil)
  (pss_one (ps_set (i := 3) sc__law_read.nd rfl (Or.inl rfl) (pv 5))))))))))
  (pss_cons (ps_if (pt_cmpR op_ne (pv 3) pe_int (nomark _))
  (pss_one (ps_ret pe_non))
  pss_nil)
  (pss_one (ps_ret (pv 1))))))))), ?_⟩
  obtain ⟨b, eb, hb, eh⟩ := strip_is x.cps.toList
  refine ⟨_, rfl, rfl, _, _, rfl, rfl, sz (by omega), ?_⟩
  rw [S_of] at eb
  rw [eb]
  refine ⟨rfl, _, rfl, ?_⟩
  have e0 : (Str.ofString "") = S [] := by decide +kernel
  rw [e0]
  by_cases hbl : x.cps.toList.all (· == 32) = true
  · have hd : x.cps.toList.dropWhile (· == 32) = [] := drop_all hbl
    rw [hd] at eh
    have hb0 : b = [] := by
      cases b with
      | nil => rfl
      | cons y r => cases eh
    subst hb0
    rw [decide_eq_true rfl]
    have hL : lawX x.cps.toList = some [] := by unfold lawX; rw [if_pos hbl]
    exact iteT ⟨(by show 0 ≤ sizeLine; decide), fun l hl => qs [] hL _ _ (same_new hl _) ⟨l, [], rfl, hl, upd_same, .nil⟩⟩
  have hbn : b ≠ [] := fun e => by
    rw [e] at eh
    refine hbl ?_
    have z : x.cps.toList.dropWhile (· == 32) = [] := by
      cases h : x.cps.toList.dropWhile (· == 32) with
      | nil => rfl
      | cons y r => rw [h] at eh; cases eh
    exact drop_nil z
  rw [decide_eq_false (fun z : V.str (S b) = V.str (S []) => hbn (S_inj (V.str.inj z)))]
  refine iteF ?_
  have hLx : lawX x.cps.toList = R3.lrun isAl smN (x.cps.toList ++ [44]) 0 [] [] [] := by unfold lawX; rw [if_neg hbl]
  rw [hLx] at qn qs
  generalize ho : R3.lrun isAl smN (x.cps.toList ++ [44]) 0 [] [] [] = o at qn qs
  refine ⟨(by show 0 ≤ sizeLine; decide), fun lf hlf => ⟨(by show 0 ≤ sizeLine; decide), fun lw hlw => ?_⟩⟩
  have s1 := same_new hlf (.lst [])
  have s2 := same_new hlw (.lst [])
  have hne : lf ≠ lw := fun e => by rw [← e, upd_same] at hlw; cases hlw
  have ez : (x ++ Str.ofString ",").cps.toList = x.cps.toList ++ [44] := by
    rw [PySem.W.KT.app_list]
    rfl
  have hzl : (x ++ Str.ofString ",").cps.size = x.length + 1 := by
    have z := congrArg List.length ez
    simpa [Str.length] using z
  refine ⟨_, rfl, _, _, rfl, rfl, (by show x.length + 1 ≤ sizeLine; rw [sizeLine_eq]; omega), _, rfl, ?_⟩
  refine for_str (x := x ++ Str.ofString ",") (readV K o x (x.cps.toList ++ [44]) H) ⟨0, [], [], [], [], lf, lw, [], none, none, ⟨by omega, ho.symm, (fun h => absurd rfl h), (fun h => absurd rfl h), (fun _ => rfl), (fun h => by cases h), by simp, (fun p hp => nomatch hp), by simp⟩, Same.trans s1 s2, hlf, s1.free hlw, hne, s2 _ _ upd_same, .nil, upd_same, rfl⟩ ?_ ?_
  · rintro i c σ H' hc ⟨st, k, as, fs, ws, lf, lw, us, o4, o5, ok, sm, hlf0, hlw0, hne, hlf', pf, hlw', rfl⟩
    have hci : (x.cps.toList ++ [44])[i]? = some c := by
      rw [← ez, ← hc]
      simp
    obtain ⟨hi, ec⟩ := List.getElem?_eq_some_iff.mp hci
    have hi_le : i ≤ x.cps.toList.length := by rw [List.length_append, List.length_singleton] at hi; omega
    have hdr : (x.cps.toList ++ [44]).drop i = c :: (x.cps.toList ++ [44]).drop (i + 1) := by rw [List.drop_eq_getElem_cons hi, ec]
    have run := ok.run
    rw [hdr] at run
    generalize hr' : (x.cps.toList ++ [44]).drop (i + 1) = r at run
    have run : o = match R3.lnext isAl st c with
      | none => none
      | some 1 => if st = 1 then R3.lrun isAl smN r 1 (k ++ [c]) [] fs else R3.lrun isAl smN r 1 [c] [] fs
      | some 4 => if st = 4 then R3.lrun isAl smN r 4 k (as.dropLast ++ [as.getLastD [] ++ [c]]) fs else R3.lrun isAl smN r 4 k (as ++ [[c]]) fs
      | some 0 => if st = 0 then R3.lrun isAl smN r 0 k as fs else if R3.okW smN k as = true then R3.lrun isAl smN r 0 k as (fs ++ [⟨k, as⟩]) else none
      | some st' => R3.lrun isAl smN r st' k as fs := run
    refine ⟨_, rfl, _, rfl, c, rfl, ?_⟩
    refine ⟨st, c, rfl, ok.le, fun H1 t1 => ?_⟩
    cases hn : R3.lnext isAl st c with
    | none =>
      rw [hn] at run
      exact ⟨_, rfl, _, _, rfl, rfl, _, rfl, iteT (qn run _ (Same.trans sm t1))⟩
    | some n =>
    rw [hn] at run
    have hn7 := lnext_le hn
    have smx := Same.trans sm t1
    have hlf1 := t1 _ _ hlf'
    have hlw1 := t1 _ _ hlw'
    have pf1 : Paired (Fact K H1) fs us := paired_mono pf fun _ _ _ => Fact.sm t1
    have dI : ∀ a b : Nat, decide (V.int (a : Int) = V.int (b : Int)) = decide (a = b) := fun a b => by
      rw [decide_eq_decide]
      exact ⟨fun z => by have := V.int.inj z; omega, fun z => by rw [z]⟩
    have hnI : nxI (some n) = ((n : Nat) : Int) := rfl
    rw [hnI]
    refine ⟨_, rfl, _, _, rfl, rfl, _, rfl, ?_⟩
    rw [show decide ((n : Int) < 0) = false from decide_eq_false (by omega)]
    refine iteF ?_
    refine ⟨_, rfl, _, rfl, rfl, _, rfl, ?_⟩
    by_cases hns : n = st
    · subst hns
      rw [decide_eq_true rfl]
      refine iteT ⟨_, rfl, rfl, _, rfl, ?_⟩
      by_cases h1 : n = 1
      · rw [show decide (V.int (n : Int) = V.int 1) = true from (dI n 1).trans (decide_eq_true h1)]
        have hws := ok.wk (by omega)
        have hwn := ok.wn
        obtain ⟨pre, wd, ew⟩ : ∃ pre wd, ws = pre ++ [wd] := ⟨ws.dropLast, ws.getLast (by rw [hws]; simp), (List.dropLast_concat_getLast _).symm⟩
        have hwl := ok.wl wd (by rw [ew]; simp)
        have el : (ws.map tx).length = pre.length + 1 := by rw [ew]; simp
        have hat : atI (ws.map tx) (((ws.map tx).length : Int) - 1) = some (tx wd) := by
          rw [el, show ((pre.length + 1 : Nat) : Int) - 1 = (pre.length : Nat) by omega]
          exact atI_nat (by rw [ew]; simp)
        rw [hxl] at hi_le
        refine iteT (iteT ⟨_, rfl, _, rfl, lw, _, rfl, .inl (SqL.of hlw1), _, _, rfl, rfl, lw, _, _, _, rfl, rfl, SqL.of hlw1, hat, _, rfl, _, _, rfl, rfl, (by rw [S_len, sizeLine_eq]; show wd.length + 1 ≤ _; omega), ?_⟩)
        have hix : ixN (ws.map tx).length (((ws.map tx).length : Int) - 1) = some pre.length := by
          rw [el, show ((pre.length + 1 : Nat) : Int) - 1 = (pre.length : Nat) by omega]
          unfold ixN
          rw [if_pos (by omega), if_pos (by omega)]
          rfl
        refine ⟨_, rfl, _, rfl, lw, _, rfl, .inl (SqL.of hlw1), _, _, rfl, rfl, lw, _, _, pre.length, rfl, rfl, hlw1, hix, ?_⟩
        have hset : (ws.map tx).set pre.length (.str (S wd ++ ⟨#[c]⟩)) = (pre ++ [wd ++ [c]]).map tx := by
          rw [ew, show (S wd ++ ⟨#[c]⟩ : Str) = S (wd ++ [c]) from app_S wd [c]]
          simp
        refine ⟨_, rfl, _, rfl, rfl, _, rfl, ?_⟩
        rw [decide_eq_true rfl]
        refine iteF (iteF ⟨_, rfl, _, rfl, rfl, _, rfl, ?_⟩)
        rw [decide_eq_true rfl]
        refine iteF (iteF ⟨_, rfl, _, rfl, rfl, _, rfl, ?_⟩)
        rw [decide_eq_true rfl]
        refine iteF (iteF ⟨_, rfl, ?_⟩)
        have kp : Kp H1 H1 (upd H1 lw (.lst ((pre ++ [wd ++ [c]]).map tx))) := Kp.upd hlw1 hlw1 (by intro xs z; cases z) (by intro o u z; cases z)
        rw [hset]
        subst h1
        have has := ok.one rfl
        rw [has] at hws
        have hpw : pre = [] ∧ wd = k := by
          rw [ew] at hws
          have z := List.append_inj' (s₁ := pre) (t₁ := [wd]) (s₂ := []) (t₂ := [k]) hws rfl
          exact ⟨z.1, by simpa using z.2⟩
        obtain ⟨rfl, rfl⟩ := hpw
        have run' : o = R3.lrun isAl smN r 1 (wd ++ [c]) [] fs := run
        exact ⟨1, wd ++ [c], [], fs, [wd ++ [c]], lf, lw, us, _, _, ⟨by decide, by rw [hr']; exact run', fun _ => rfl, fun _ => by simp, fun _ => rfl, (fun h => by cases h), by simp, fun p hp => by rw [List.mem_singleton.mp hp, List.length_append]; simp; omega, Nat.le_succ_of_le ok.fn⟩, Same.upd_new smx hlw0 _, hlf0, hlw0, hne, by rw [upd_ne hne]; exact hlf1, paired_mono pf1 fun _ _ _ z => Fact.keep kp z, upd_same, rfl⟩
      · rw [show decide (V.int (n : Int) = V.int 1) = false from (dI n 1).trans (decide_eq_false h1)]
        refine iteF ⟨_, rfl, rfl, _, rfl, ?_⟩
        by_cases h4 : n = 4
        · rw [show decide (V.int (n : Int) = V.int 4) = true from (dI n 4).trans (decide_eq_true h4)]
          have hws := ok.wk (by omega)
          have hwn := ok.wn
          obtain ⟨pre, wd, ew⟩ : ∃ pre wd, ws = pre ++ [wd] := ⟨ws.dropLast, ws.getLast (by rw [hws]; simp), (List.dropLast_concat_getLast _).symm⟩
          have hwl := ok.wl wd (by rw [ew]; simp)
          have el : (ws.map tx).length = pre.length + 1 := by rw [ew]; simp
          have hat : atI (ws.map tx) (((ws.map tx).length : Int) - 1) = some (tx wd) := by
            rw [el, show ((pre.length + 1 : Nat) : Int) - 1 = (pre.length : Nat) by omega]
            exact atI_nat (by rw [ew]; simp)
          rw [hxl] at hi_le
          refine iteT ⟨_, rfl, _, rfl, lw, _, rfl, .inl (SqL.of hlw1), _, _, rfl, rfl, lw, _, _, _, rfl, rfl, SqL.of hlw1, hat, _, rfl, _, _, rfl, rfl, (by rw [S_len, sizeLine_eq]; show wd.length + 1 ≤ _; omega), ?_⟩
          have hix : ixN (ws.map tx).length (((ws.map tx).length : Int) - 1) = some pre.length := by
            rw [el, show ((pre.length + 1 : Nat) : Int) - 1 = (pre.length : Nat) by omega]
            unfold ixN
            rw [if_pos (by omega), if_pos (by omega)]
            rfl
          refine ⟨_, rfl, _, rfl, lw, _, rfl, .inl (SqL.of hlw1), _, _, rfl, rfl, lw, _, _, pre.length, rfl, rfl, hlw1, hix, ?_⟩
          have hset : (ws.map tx).set pre.length (.str (S wd ++ ⟨#[c]⟩)) = (pre ++ [wd ++ [c]]).map tx := by
            rw [ew, show (S wd ++ ⟨#[c]⟩ : Str) = S (wd ++ [c]) from app_S wd [c]]
            simp
          refine ⟨_, rfl, _, rfl, rfl, _, rfl, ?_⟩
          rw [decide_eq_true rfl]
          refine iteF (iteF ⟨_, rfl, _, rfl, rfl, _, rfl, ?_⟩)
          rw [decide_eq_true rfl]
          refine iteF (iteF ⟨_, rfl, _, rfl, rfl, _, rfl, ?_⟩)
          rw [decide_eq_true rfl]
          refine iteF (iteF ⟨_, rfl, ?_⟩)
          have kp : Kp H1 H1 (upd H1 lw (.lst ((pre ++ [wd ++ [c]]).map tx))) := Kp.upd hlw1 hlw1 (by intro xs z; cases z) (by intro o u z; cases z)
          rw [hset]
          subst h4
          have has := ok.four rfl
          obtain ⟨ap, wa, ea⟩ : ∃ ap wa, as = ap ++ [wa] := ⟨as.dropLast, as.getLast has, (List.dropLast_concat_getLast _).symm⟩
          have hpw : pre = k :: ap ∧ wd = wa := by
            rw [ew, ea] at hws
            have z := List.append_inj' (s₁ := pre) (t₁ := [wd]) (s₂ := k :: ap) (t₂ := [wa]) hws rfl
            exact ⟨z.1, by simpa using z.2⟩
          obtain ⟨rfl, rfl⟩ := hpw
          have run' : o = R3.lrun isAl smN r 4 k (as.dropLast ++ [as.getLastD [] ++ [c]]) fs := run
          have e9 : as.dropLast ++ [as.getLastD [] ++ [c]] = ap ++ [wd ++ [c]] := by rw [ea]; simp
          rw [e9] at run'
          have hkn := ok.wn
          rw [ew] at hkn
          exact ⟨4, k, ap ++ [wd ++ [c]], fs, (k :: ap) ++ [wd ++ [c]], lf, lw, us, _, _, ⟨by decide, by rw [hr']; exact run', fun _ => rfl, fun _ => ok.k0 (by decide), (fun h => by cases h), fun _ => by simp, by simp at hkn ⊢; omega, fun p hp => by
            rcases List.mem_append.mp hp with z | z
            · exact Nat.le_succ_of_le (ok.wl p (by rw [ew]; exact List.mem_append_left _ z))
            · rw [List.mem_singleton.mp z, List.length_append]; simp; omega, Nat.le_succ_of_le ok.fn⟩, Same.upd_new smx hlw0 _, hlf0, hlw0, hne, by rw [upd_ne hne]; exact hlf1, paired_mono pf1 fun _ _ _ z => Fact.keep kp z, upd_same, rfl⟩
        · rw [show decide (V.int (n : Int) = V.int 4) = false from (dI n 4).trans (decide_eq_false h4)]
          refine iteF ?_
          refine ⟨_, rfl, _, rfl, rfl, _, rfl, ?_⟩
          rw [decide_eq_true rfl]
          refine iteF (iteF ⟨_, rfl, _, rfl, rfl, _, rfl, ?_⟩)
          rw [decide_eq_true rfl]
          refine iteF (iteF ⟨_, rfl, _, rfl, rfl, _, rfl, ?_⟩)
          rw [decide_eq_true rfl]
          refine iteF (iteF ⟨_, rfl, ?_⟩)
          have run' : o = R3.lrun isAl smN r n k as fs := by
            rw [run]
            match n, h1, h4 with
            | 0, _, _ => rfl
            | 1, h, _ => exact absurd rfl h
            | 2, _, _ => rfl
            | 3, _, _ => rfl
            | 4, _, h => exact absurd rfl h
            | n + 5, _, _ => rfl
          exact ⟨n, k, as, fs, ws, lf, lw, us, _, _, ⟨ok.le, by rw [hr']; exact run', ok.wk, ok.k0, ok.one, ok.four, Nat.le_succ_of_le ok.wn, fun p hp => Nat.le_succ_of_le (ok.wl p hp), Nat.le_succ_of_le ok.fn⟩, smx, hlf0, hlw0, hne, hlf1, pf1, hlw1, rfl⟩
    · rw [dI, decide_eq_false hns]
      refine iteF (iteF ?_)
      refine ⟨_, rfl, _, rfl, rfl, _, rfl, ?_⟩
      rw [dI, decide_eq_false hns]
      refine iteT ⟨_, rfl, rfl, _, rfl, ?_⟩
      have dN : ∀ b : Nat, n ≠ b → decide (V.int (n : Int) = V.int (b : Int)) = false := fun b h => (dI n b).trans (decide_eq_false h)
      by_cases h1 : n = 1
      · rw [show decide (V.int (n : Int) = V.int 1) = true from (dI n 1).trans (decide_eq_true h1)]
        have d4 := dN 4 (by omega)
        have d0 := dN 0 (by omega)
        refine iteT ⟨_, rfl, (by show 1 ≤ sizeLine; decide), fun lw2 hlw2 => ?_⟩
        have t2 := same_new hlw2 (.lst [.str ⟨#[c]⟩])
        refine ⟨_, rfl, _, rfl, rfl, _, rfl, ?_⟩
        rw [dI, decide_eq_false hns]
        refine iteT ⟨_, rfl, rfl, _, rfl, ?_⟩
        rw [show decide (V.int (n : Int) = V.int 4) = false from d4]
        refine iteF ⟨_, rfl, _, rfl, rfl, _, rfl, ?_⟩
        rw [dI, decide_eq_false hns]
        refine iteT ⟨_, rfl, rfl, _, rfl, ?_⟩
        rw [show decide (V.int (n : Int) = V.int 0) = false from d0]
        refine iteF ⟨_, rfl, ?_⟩
        subst h1
        have run' : o = R3.lrun isAl smN r 1 [c] [] fs := by
          rw [run]
          show (if st = 1 then _ else _) = _
          rw [if_neg (fun e => hns e.symm)]
        refine ⟨1, [c], [], fs, [[c]], lf, lw2, us, _, _, ⟨by decide, by rw [hr']; exact run', fun _ => rfl, fun _ => by simp, fun _ => rfl, (fun h => by cases h), by simp, fun p hp => by rw [List.mem_singleton.mp hp]; simp, Nat.le_succ_of_le ok.fn⟩, Same.trans smx t2, hlf0, smx.free hlw2, (ne_of_none hlf1 hlw2), t2 _ _ hlf1, paired_mono pf1 fun _ _ _ => Fact.sm t2, upd_same, rfl⟩
      rw [show decide (V.int (n : Int) = V.int 1) = false from dN 1 h1]
      refine iteF ⟨_, rfl, _, rfl, rfl, _, rfl, ?_⟩
      rw [dI, decide_eq_false hns]
      refine iteT ⟨_, rfl, rfl, _, rfl, ?_⟩
      have hst0' : n ≠ 0 → n ≠ 1 → st ≠ 0 := fun h0 h1 e => by
        subst e
        have e : R3.lnext isAl 0 c = if c = 32 then some 0 else if isAl c = true then some 1 else none := rfl
        rw [e] at hn
        split at hn
        · cases hn; exact h0 rfl
        · split at hn
          · cases hn; exact h1 rfl
          · cases hn
      by_cases h4 : n = 4
      · rw [show decide (V.int (n : Int) = V.int 4) = true from (dI n 4).trans (decide_eq_true h4)]
        have d0 := dN 0 (by omega)
        have hst0 := hst0' (by omega) h1
        have hws := ok.wk hst0
        have hwn := ok.wn
        refine iteT ⟨_, rfl, _, rfl, (by show 1 ≤ sizeLine; decide), fun l1 hl1 => ?_⟩
        have t2 := same_new hl1 (.lst [.str ⟨#[c]⟩])
        refine ⟨lw, l1, _, _, rfl, rfl, t2 _ _ hlw1, upd_same, (by rw [List.length_map, sizeLine_eq]; rw [hxl] at hi_le; simp; omega), fun lw2 hlw2 => ?_⟩
        have t3 := same_new hlw2 (.lst (ws.map tx ++ [.str ⟨#[c]⟩]))
        refine ⟨_, rfl, _, rfl, rfl, _, rfl, ?_⟩
        rw [dI, decide_eq_false hns]
        refine iteT ⟨_, rfl, rfl, _, rfl, ?_⟩
        rw [show decide (V.int (n : Int) = V.int 0) = false from d0]
        refine iteF ⟨_, rfl, ?_⟩
        subst h4
        have run' : o = R3.lrun isAl smN r 4 k (as ++ [[c]]) fs := by
          rw [run]
          show (if st = 4 then _ else _) = _
          rw [if_neg (fun e => hns e.symm)]
        have t23 := Same.trans t2 t3
        refine ⟨4, k, as ++ [[c]], fs, ws ++ [[c]], lf, lw2, us, _, _, ⟨by decide, by rw [hr']; exact run', fun _ => by rw [hws]; rfl, fun _ => ok.k0 hst0, (fun h => by cases h), fun _ => by simp, by rw [List.length_append]; simp; omega, fun p hp => ?_, Nat.le_succ_of_le ok.fn⟩, Same.trans smx t23, hlf0, smx.free (t2.free hlw2), (ne_of_none (t2 _ _ hlf1) hlw2), t23 _ _ hlf1, paired_mono pf1 fun _ _ _ => Fact.sm t23, by rw [List.map_append]; exact upd_same, rfl⟩
        rcases List.mem_append.mp hp with z | z
        · exact Nat.le_succ_of_le (ok.wl p z)
        · rw [List.mem_singleton.mp z]; simp
      rw [show decide (V.int (n : Int) = V.int 4) = false from dN 4 h4]
      refine iteF ⟨_, rfl, _, rfl, rfl, _, rfl, ?_⟩
      rw [dI, decide_eq_false hns]
      refine iteT ⟨_, rfl, rfl, _, rfl, ?_⟩
      by_cases h0 : n = 0
      · rw [show decide (V.int (n : Int) = V.int 0) = true from (dI n 0).trans (decide_eq_true h0)]
        have hst0 : st ≠ 0 := fun e => hns (h0.trans e.symm)
        have hws := ok.wk hst0
        have hk0 := ok.k0 hst0
        have hwn := ok.wn
        rw [hxl] at hi_le
        refine iteT ⟨_, rfl, lw, rfl, ⟨_, SqL.of hlw1⟩, fun D hD => ?_⟩
        refine comp_txL (K := K) (xs := ws.map tx) (gs := ws.map fun p => V.int (p.length : Nat)) (by simp) (szl (by rw [List.length_map]; omega)) hD (SqL.of hlw1) (fun i y g H' R hxi hgi sm' hQ => ?_) (fun H2 s2 hL => ?_)
        · obtain ⟨hi1, e1⟩ := get_of hxi
          obtain ⟨hi2, e2⟩ := get_of hgi
          rw [List.getElem_map] at e1 e2
          subst e1
          subst e2
          have hl2 := ok.wl _ (List.getElem_mem (show i < ws.length by simpa using hi1))
          exact ⟨_, rfl, _, rfl, (by rw [S_len, sizeLine_eq]; omega), by rw [S_len]; exact hQ _ (Same.refl _)⟩
        · refine ⟨D, ws.map fun p => ((p.length : Nat) : Int), rfl, rfl, SqL.of (by rw [List.map_map]; exact hL), by rw [hws]; simp, fun m hm hmx => ?_⟩
          have smy := Same.trans smx s2
          have run : o = if st = 0 then R3.lrun isAl smN r 0 k as fs else if R3.okW smN k as = true then R3.lrun isAl smN r 0 k as (fs ++ [⟨k, as⟩]) else none := by rw [run, h0]; rfl
          rw [if_neg hst0] at run
          refine ⟨_, _, rfl, rfl, _, rfl, ?_⟩
          have all12 : R3.okW smN k as = true → ∀ p ∈ ws, p.length ≤ 12 := fun h p hp => by
            unfold R3.okW R3.okK R3.okA at h
            rw [Bool.and_eq_true, Bool.and_eq_true, List.all_eq_true] at h
            rw [hws] at hp
            rcases List.mem_cons.mp hp with rfl | hp
            · exact of_decide_eq_true h.1.1
            · exact of_decide_eq_true (h.2 p hp)
          refine ite2 (fun c12 => ?_) (fun c12 => ?_)
          · have hno : R3.okW smN k as = false := by
              cases h : R3.okW smN k as with
              | false => rfl
              | true =>
                obtain ⟨p, hp, rfl⟩ := List.mem_map.mp hm
                have z := all12 h p hp
                have z2 : (12 : Int) < ((p.length : Nat) : Int) := of_decide_eq_true c12
                omega
            rw [hno, if_neg (by decide)] at run
            exact iteT (qn run _ smy)
          · have hlw2 := s2 _ _ hlw1
            have hkl := ok.wl k (by rw [hws]; simp)
            have h12 : ∀ p ∈ ws, p.length ≤ 12 := fun p hp => by
              have z := hmx _ (List.mem_map.mpr ⟨p, hp, rfl⟩)
              have z2 : ¬ ((12 : Int) < m) := fun z => c12 (decide_eq_true z)
              omega
            have hk1 : 1 ≤ (S k).length := by rw [S_len]; exact List.length_pos_iff.mpr hk0
            have hat0 : atI (ws.map tx) ((0 : Nat) : Int) = some (tx k) := atI_nat (by rw [hws]; rfl)
            refine ⟨_, rfl, lw, _, 0, tx k, rfl, rfl, SqL.of hlw2, hat0, S k, 0, _, rfl, rfl, (by rw [S_len, sizeLine_eq]; omega), head_at hk1, _, _, rfl, rfl, _, rfl, ?_⟩
            rw [StrLaws.found_one, S_codes]
            have hokW : R3.okW smN k as = decide (k.headD 0 ∈ aSmall.cps.toList) := by
              unfold R3.okW R3.okK R3.okA
              have hka : as.all (fun v => decide (v.length ≤ 12)) = true := List.all_eq_true.mpr fun p hp => decide_eq_true (h12 p (by rw [hws]; exact List.mem_cons_of_mem _ hp))
              have hkk : k.length ≤ 12 := h12 k (by rw [hws]; simp)
              show (decide (k.length ≤ 12) && _ && as.all fun v => decide (v.length ≤ 12)) = _
              rw [hka, decide_eq_true hkk, Bool.true_and, Bool.and_true]
              cases k with
              | nil => exact absurd rfl hk0
              | cons d r => rfl
            by_cases hsm : k.headD 0 ∈ aSmall.cps.toList
            · rw [hokW, decide_eq_true hsm, if_pos rfl] at run
              rw [show decide (k.headD 0 ∈ (Str.ofString "abcdefghijklmnopqrstuvwxyz").cps.toList) = true from decide_eq_true hsm]
              refine iteF ?_
              have hlf2 := s2 _ _ hlf1
              have hul := Paired.length pf1
              have hfn := ok.fn
              refine ⟨_, rfl, .inl ⟨rfl, _, SqL.of hlf2⟩, _, rfl, lw, _, 0, tx k, rfl, rfl, SqL.of hlw2, hat0, _, rfl, _, rfl, lw, _, rfl, SqL.of hlw2, fun ls hls => ?_⟩
              have ecut : cutV (ws.map tx) (some 1) none = as.map tx := by
                rw [hws]
                unfold cutV HT.sIx
                simp
                exact List.take_of_length_le (by simp)
              rw [ecut]
              have t3 := same_new hls (.lst (as.map tx))
              refine ⟨ls, _, rfl, .inl ⟨SqL.of upd_same, fun t2 ht2 => ⟨(by show 2 ≤ sizeLine; decide), fun t1 ht1 => ?_⟩⟩⟩
              have t4 := same_new ht2 (.tup (as.map tx))
              have t5 := same_new ht1 (.tup [tx k, .ref t2])
              have t6 := Same.trans t3 (Same.trans t4 t5)
              have hlfX := t6 _ _ hlf2
              refine ⟨lf, _, _, rfl, rfl, hlfX, (by rw [sizeLine_eq]; omega), ?_⟩
              have kp := Kp.upd (o' := .lst (us ++ [V.ref t1])) hlfX hlfX (by intro xs z; cases z) (by intro o u z; cases z)
              refine ⟨_, rfl, ?_⟩
              have runF := run
              subst h0
              exact ⟨0, k, as, fs ++ [⟨k, as⟩], ws, lf, lw, us ++ [V.ref t1], _, _, ⟨by decide, by rw [hr']; exact runF, (fun h => absurd rfl h), (fun h => absurd rfl h), (fun h => by cases h), (fun h => by cases h), Nat.le_succ_of_le hwn, fun p hp => Nat.le_succ_of_le (ok.wl p hp), by rw [List.length_append, List.length_singleton]; omega⟩, Same.upd_new (Same.trans smy t6) hlf0 _, hlf0, hlw0, hne, upd_same,
                (paired_mono pf1 fun _ _ _ z => Fact.keep kp (Fact.sm (Same.trans s2 t6) z)).snoc (Fact.keep kp ⟨t1, t2, rfl, SqT.of upd_same, SqT.of (t5 _ _ upd_same)⟩), by rw [upd_ne hne.symm]; exact t6 _ _ hlw2, rfl⟩
            · rw [hokW, decide_eq_false hsm, if_neg (by decide)] at run
              rw [show decide (k.headD 0 ∈ (Str.ofString "abcdefghijklmnopqrstuvwxyz").cps.toList) = false from decide_eq_false hsm]
              exact iteT (qn run _ smy)
      rw [show decide (V.int (n : Int) = V.int 0) = false from dN 0 h0]
      refine iteF ⟨_, rfl, ?_⟩
      have hst0 : st ≠ 0 := fun e => by
        subst e
        have e : R3.lnext isAl 0 c = if c = 32 then some 0 else if isAl c = true then some 1 else none := rfl
        rw [e] at hn
        split at hn
        · cases hn; exact h0 rfl
        · split at hn
          · cases hn; exact h1 rfl
          · cases hn
      have run' : o = R3.lrun isAl smN r n k as fs := by
        rw [run]
        match n, h0, h1, h4 with
        | 0, h, _, _ => exact absurd rfl h
        | 1, _, h, _ => exact absurd rfl h
        | 2, _, _, _ => rfl
        | 3, _, _, _ => rfl
        | 4, _, _, h => exact absurd rfl h
        | n + 5, _, _, _ => rfl
      exact ⟨n, k, as, fs, ws, lf, lw, us, _, _, ⟨hn7, by rw [hr']; exact run', fun _ => ok.wk hst0, fun _ => ok.k0 hst0, (fun h => absurd h h1), (fun h => absurd h h4), Nat.le_succ_of_le ok.wn, fun p hp => Nat.le_succ_of_le (ok.wl p hp), Nat.le_succ_of_le ok.fn⟩, smx, hlf0, hlw0, hne, hlf1, pf1, hlw1, rfl⟩
  · rintro σ H' ⟨st, k, as, fs, ws, lf, lw, us, o4, o5, ok, sm, hlf0, hlw0, hne, hlf', pf, hlw', rfl⟩
    have run := ok.run
    rw [List.drop_of_length_le (by rw [hzl, List.length_append, hxl]; simp)] at run
    have run : o = if st = 0 then some fs else none := run
    refine ⟨_, rfl, rfl, _, rfl, ?_⟩
    by_cases h0 : st = 0
    · subst h0
      rw [if_pos rfl] at run
      exact iteF ⟨_, rfl, qs fs run _ _ sm ⟨lf, us, rfl, hlf0, hlf', pf⟩⟩
    · rw [if_neg h0] at run
      rw [decide_eq_false (fun z : V.int (st : Int) = V.int 0 => h0 (by have := V.int.inj z; omega))]
      exact iteT (qn run _ sm)
end
end K03
namespace K03
open PySem L2 K02 Bk
set_option maxHeartbeats 4000000
section
variable {P : Program} {w : World} {K : PySem.W.Frag} {mg : Str → Option Value} {base : Heap} {f : Addr} {fd : FuncData}
theorem sc__law_cell_at : FnScope ["_law_script", "_law_k"] ["_law_script", "_law_k"] (defScope s__law_cell_at) := ⟨rfl, rfl, rfl, by decide +kernel, rfl, by decide +kernel, by decide +kernel⟩
theorem ok__law_cell_at (F : Fun K "_law_cell_at" "_law_cell_at" s__law_cell_at f fd) (m_len : mg "len" = none) : FnOk P w K mg base CX0 1 f fd ["_law_script", "_law_k"] (spCell K) := by
  refine F.ok sc__law_cell_at (fun vs H Q E h => ?_) (fun cdv A outer s H vs Q E hr h => ?_)
  · obtain ⟨a, ns, k, rfl, _⟩ := h
    rfl
  obtain ⟨a, ns, k, rfl, hS, h0, q⟩ := h
  refine ⟨_, (pss_cons (ps_if (pt_cmpR op_lt (pv 1) (pe_callB call_len_seq rfl m_len PySem.boot_len (pa_cons (pv 0) pa_nil)) (nomark _))
  (pss_one (ps_ret (pe_ix ix_list (pv 0) (pv 1) (fun _ _ => rfl))))
  pss_nil)
  (pss_one (ps_ret pe_int))), ?_⟩
  refine ⟨_, rfl, _, rfl, a, _, rfl, .inl hS, _, _, rfl, rfl, _, rfl, ?_⟩
  refine ite2 (fun c => ?_) (fun c => ?_)
  · have c' : k < (((ns.map V.int).length : Nat) : Int) := of_decide_eq_true c
    have hk : k.toNat < ns.length := by rw [List.length_map] at c'; omega
    have e : atI (ns.map V.int) k = some (.int ns[k.toNat]) := by
      have z := atI_nat (xs := ns.map V.int) (j := k.toNat) (v := .int ns[k.toNat]) (by simp [hk])
      rw [show ((k.toNat : Nat) : Int) = k by omega] at z
      exact z
    exact ⟨_, rfl, _, rfl, a, _, k, _, rfl, rfl, hS, e, q _⟩
  · exact q 0
theorem sc__law_mix : FnScope ["_law_cell", "_law_k", "_law_factor"] ["_law_cell", "_law_k"] (defScope s__law_mix) := ⟨rfl, rfl, rfl, by decide +kernel, rfl, by decide +kernel, by decide +kernel⟩
theorem ok__law_mix (F : Fun K "_law_mix" "_law_mix" s__law_mix f fd) : FnOk P w K mg base CX0 1 f fd ["_law_cell", "_law_k"] spMix := by
  refine F.ok sc__law_mix (fun vs H Q E h => ?_) (fun cdv A outer s H vs Q E hr h => ?_)
  · obtain ⟨c, k, rfl, _⟩ := h
    rfl
  obtain ⟨c, k, rfl, h0, h1, q⟩ := h
  refine ⟨_, (pss_cons (ps_set (i := 2) sc__law_mix.nd rfl (Or.inl rfl) (pe_ix ix_list (pe_lst (pa_cons pe_int (pa_cons pe_int (pa_cons pe_int (pa_cons pe_int (pa_cons pe_int (pa_cons pe_int (pa_cons pe_int pa_nil)))))))) (pe_op op_mod (pv 1) pe_int) (fun _ _ => rfl)))
  (pss_one (ps_ret (pe_op op_mod (pe_op op_mul (pe_op op_add (pe_op op_mod (pv 0) pe_int) (pe_op op_mul pe_int (pv 1))) (pv 2)) pe_int)))), ?_⟩
  refine ⟨(by show 7 ≤ sizeLine; decide), fun p hp => ?_⟩
  have hm := mid (a := k) (b := 7) (by decide)
  have hx : ∃ v : Int, atI [V.int 48271, .int 69621, .int 16807, .int 40692, .int 30269, .int 62089, .int 45991] (k % 7) = some (.int v) ∧ -(2 ^ 64) < v ∧ v < 2 ^ 64 := by
    rcases (by omega : k % 7 = 0 ∨ k % 7 = 1 ∨ k % 7 = 2 ∨ k % 7 = 3 ∨ k % 7 = 4 ∨ k % 7 = 5 ∨ k % 7 = 6) with e | e | e | e | e | e | e <;> rw [e]
    · exact ⟨48271, rfl, by decide, by decide⟩
    · exact ⟨69621, rfl, by decide, by decide⟩
    · exact ⟨16807, rfl, by decide, by decide⟩
    · exact ⟨40692, rfl, by decide, by decide⟩
    · exact ⟨30269, rfl, by decide, by decide⟩
    · exact ⟨62089, rfl, by decide, by decide⟩
    · exact ⟨45991, rfl, by decide, by decide⟩
  obtain ⟨v, hv, v0, v1⟩ := hx
  refine ⟨_, rfl, _, _, rfl, rfl, (by show (0 : Int) < 7; decide), p, _, _, _, rfl, rfl, .inl (.inl upd_same), hv, ?_⟩
  refine ⟨_, rfl, _, _, rfl, rfl, (by show (0 : Int) < 1000003; decide), _, rfl, _, _, rfl, rfl, .inl ⟨by decide, by decide⟩, _, _, rfl, rfl, _, rfl, _, _, rfl, rfl, .inr ⟨v0, v1⟩, _, _, rfl, rfl, (by show (0 : Int) < 999983; decide), ?_⟩
  exact q _ _ (same_new hp _) (Int.emod_nonneg _ (by decide))
theorem sc__law_names : FnScope ["_law_cell", "_law_many", "_law_firsts", "_law_rest", "_law_number", "_law_start", "_law_tail", "_law_size", "_law_at"] ["_law_cell", "_law_many", "_law_firsts"] (defScope s__law_names) := ⟨rfl, rfl, rfl, by decide +kernel, rfl, by decide +kernel, by decide +kernel⟩
theorem ok__law_names (F : Fun K "_law_names" "_law_names" s__law_names f fd) (c__law_mix : Cal P w K mg base "_law_mix" 1 ["_law_cell", "_law_k"] spMix) (m_len : mg "len" = none) (m_range : mg "range" = none) :
    FnOk P w K mg base CX0 2 f fd ["_law_cell", "_law_many", "_law_firsts"] spNames := by
  refine F.ok sc__law_names (fun vs H Q E h => ?_) (fun cdv A outer s H vs Q E hr h => ?_)
  · obtain ⟨c, n, fs, rfl, _⟩ := h
    rfl
  obtain ⟨c, n, fs, rfl, hn, hf0, hf1, hfa, hnd, q⟩ := h
  have hfl : (S fs).length = fs.length := S_len fs
  refine ⟨_, (pss_cons (ps_set (i := 3) sc__law_names.nd rfl (Or.inr rfl) pe_str)
  (pss_cons (ps_set (i := 4) sc__law_names.nd rfl (Or.inr rfl) (pe_callC c__law_mix (hr.mono (by decide)) rfl (pa_cons (pv 0) (pa_cons pe_int pa_nil))))
  (pss_cons (ps_set (i := 5) sc__law_names.nd rfl (Or.inr rfl) (pe_op op_mod (pe_op op_fdiv (pv 4) pe_int) (pe_callB call_len_str rfl m_len PySem.boot_len (pa_cons (pv 2) pa_nil))))
  (pss_cons (ps_set (i := 6) sc__law_names.nd rfl (Or.inr rfl) (pe_bm PySem.F.plainAttrs_str PySem.F.slot_str_join PySem.F.type_str_join mt_join pe_str (pa_cons (pe_comp [3, 4] rfl (by kernel_rfl) (pi_range1 rfl m_range (pa_cons pe_int pa_nil)) (fun _ _ _ _ _ => pts_nil) (fun _ _ _ _ _ => (pe_ix ix_str (pv 1) (pe_op op_mod (pe_op op_add (pe_op op_fdiv (pv 2) (pe_op op_add (pv 0) pe_int)) (pe_op op_mul (pv 0) (pv 0))) pe_int) (fun _ _ => rfl)))) pa_nil)))
  (pss_cons (ps_if (pt_cmpR op_eq (pe_op op_mod (pv 4) pe_int) pe_int (nomark _))
  (pss_one (ps_ret (pe_comp [2, 5, 6] rfl (by kernel_rfl) (pi_range1 rfl m_range (pa_cons (pv 1) pa_nil)) (fun _ _ _ _ _ => pts_nil) (fun _ _ _ _ _ => (pe_op op_add_str (pe_ix ix_str (pv 1) (pv 2) (fun _ _ => rfl)) (pe_slice sl_str (pv 3) po_none (po_some (pv 0))))))))
  pss_nil)
  (pss_cons (ps_if (pt_cmpR op_eq (pe_op op_mod (pv 4) pe_int) pe_int (nomark _))
  (pss_cons (ps_set (i := 7) sc__law_names.nd rfl (Or.inr rfl) (pe_op op_mod (pe_op op_fdiv (pv 4) pe_int) pe_int))
  (pss_one (ps_ret (pe_comp [2, 5, 6, 7] rfl (by kernel_rfl) (pi_range1 rfl m_range (pa_cons (pv 1) pa_nil)) (fun _ _ _ _ _ => pts_nil) (fun _ _ _ _ _ => (pe_op op_add_str (pe_ix ix_str (pv 1) (pe_op op_mod (pe_op op_add (pv 2) (pv 0)) (pe_callB call_len_str rfl m_len PySem.boot_len (pa_cons (pv 1) pa_nil))) (fun _ _ => rfl)) (pe_slice sl_str (pv 3) po_none (po_some (pv 4)))))))))
  pss_nil)
  (pss_cons (ps_set (i := 7) sc__law_names.nd rfl (Or.inr rfl) (pe_op op_mod (pe_op op_fdiv (pv 4) pe_int) pe_int))
  (pss_cons (ps_set (i := 8) sc__law_names.nd rfl (Or.inr rfl) (pe_op op_mod (pe_op op_fdiv (pv 4) pe_int) (pe_op op_add (pv 7) pe_int)))
  (pss_cons (ps_set (i := 3) sc__law_names.nd rfl (Or.inr rfl) (pe_comp [3, 4] rfl (by kernel_rfl) (pi_range1 rfl m_range (pa_cons (pv 1) pa_nil)) (fun _ _ _ _ _ => pts_nil) (fun _ _ _ _ _ => (pe_ix ix_str (pv 1) (pe_op op_mod (pe_op op_add (pe_op op_fdiv (pv 2) pe_int) (pv 0)) pe_int) (fun _ _ => rfl)))))
  (pss_one (ps_ret (pe_comp [2, 5, 6, 8, 7] rfl (by kernel_rfl) (pi_list (pv 3)) (fun _ _ _ _ _ => pts_nil) (fun _ _ _ _ _ => (pe_op op_add_str (pe_op op_add_str (pe_op op_add_str (pe_ix ix_str (pv 1) (pv 2) (fun _ _ => rfl)) (pe_slice sl_str (pv 3) po_none (po_some (pv 4)))) (pv 0)) (pe_slice sl_str (pv 3) (po_some (pv 4)) (po_some (pv 5))))))))))))))))), ?_⟩
  refine ⟨_, rfl, c, 0, rfl, by decide, by decide, fun v H1 s1 v0 => ?_⟩
  have hfp : (0 : Int) < ((S fs).length : Int) := by rw [hfl]; omega
  refine ⟨_, rfl, _, _, rfl, rfl, ⟨by decide, by decide⟩, _, rfl, S fs, rfl, (by rw [hfl]; exact sz (by omega)), _, _, rfl, rfl, hfp, ?_⟩
  have md := mid (a := v / 5) hfp
  obtain ⟨cs, hcs, hcm⟩ := sign_of (x := S fs) md.1 md.2
  rw [S_codes] at hcm
  refine ⟨rfl, 11, rfl, by decide, by decide, fun D hD => ?_⟩
  have hD0 : H D = none := s1.free hD
  refine comp_range (lo := 0) (n := (11 : Int).toNat) (szl (by decide)) (fun i ys H' => Same H1 H' ∧ H' D = some (.lst ys) ∧ ∃ T : List Nat, ys = (T.map fun c => S [c]).map V.str ∧ T.length = i ∧ T.all isAl = true)
    ⟨same_new hD _, upd_same, [], rfl, rfl, rfl⟩ (fun i ys H' pr => ⟨pr.2.1, ?_⟩) (fun i ys H' hi pr => ?_) (fun ys H' pr => ?_)
  · obtain ⟨T, rfl, hl, _⟩ := pr.2.2
    rw [List.length_map, List.length_map]
    omega
  · obtain ⟨T, rfl, hl, hT⟩ := pr.2.2
    have hi' : i < 11 := hi
    refine ⟨_, rfl, _, rfl, _, rfl, _, _, rfl, rfl, _, _, rfl, rfl, ⟨by omega, by omega⟩, _, rfl, _, rfl, _, _, rfl, rfl, .inl ⟨by omega, by omega⟩, _, _, rfl, rfl, _, _, rfl, rfl, (by show (0 : Int) < 62; decide), ?_⟩
    have md2 := mid (a := v / (0 + (i : Int) + 1) + (0 + (i : Int)) * (0 + (i : Int))) (b := 62) (by decide)
    obtain ⟨d, hd, hdm⟩ := sign_of (x := aAll) md2.1 (by rw [all_len]; exact md2.2)
    refine ⟨_, _, d, rfl, rfl, (by decide +kernel), hd, pr.2.1, ?_⟩
    refine ⟨Same.upd_new pr.1 hD _, upd_same, T ++ [d], by simp, by simp [hl], ?_⟩
    have z := all_al
    rw [List.all_eq_true] at z
    rw [List.all_append, hT, List.all_cons, z d hdm]
    rfl
  obtain ⟨T, rfl, hTl, hTa⟩ := pr.2.2
  have sm := pr.1
  have hTl' : T.length = 11 := hTl
  refine ⟨_, D, T.map fun c => S [c], rfl, rfl, .inl (.inl (.inl pr.2.1)), ?_, ?_⟩
  · have z : ((T.map fun c => S [c]).map (·.length)).sum ≤ 11 := by
      have z2 := len_sum (as := T.map fun c => [c]) (B := 1) (by simp)
      rw [List.length_map, hTl'] at z2
      have e : (T.map fun c => S [c]) = (T.map fun c => [c]).map S := by rw [List.map_map]; rfl
      rw [e]
      exact z2
    have z3 : (T.map fun c => S [c]).length = 11 := by rw [List.length_map]; exact hTl'
    rw [z3, show (Str.ofString "").length = 0 by decide]
    omega
  rw [join_S]
  refine ⟨_, rfl, _, _, rfl, rfl, (by show (0 : Int) < 3; decide), rfl, _, rfl, ?_⟩
  have szS : ∀ l : List Nat, l.length ≤ 100 → (S l).length ≤ sizeLine := fun l h => by rw [S_len]; exact sz (by omega)
  have hst : atI (S fs).cps.toList (v / 5 % ((S fs).length : Int)) = some cs := hcs
  have e1c : (⟨#[cs]⟩ : Str) = S [cs] := rfl
  refine ite2 (fun c1 => ?_) (fun c1 => ?_)
  · -- firsts[start] + tail[:k]
    refine ⟨_, rfl, n, rfl, by omega, by omega, fun D2 hD2 => ?_⟩
    refine comp_range (lo := 0) (n := ((n : Nat) : Int).toNat) (szl (by omega)) (fun i ys H2 => Same H H2 ∧ H2 D2 = some (.lst ys) ∧ ∃ zs : List (List Nat), ys = zs.map tx ∧ zs.length = i ∧ (∀ z ∈ zs, Good fs z) ∧ zs = (List.range i).map fun k : Nat => [cs] ++ T.take k)
      ⟨Same.upd_new (Same.trans s1 sm) ((Same.trans s1 sm).free hD2) _, upd_same, [], rfl, rfl, (fun _ z => nomatch z), rfl⟩ (fun i ys H2 pr2 => ⟨pr2.2.1, ?_⟩) (fun i ys H2 hi pr2 => ?_) (fun ys H2 pr2 => ?_)
    · obtain ⟨zs, rfl, hl, _, _⟩ := pr2.2.2
      rw [List.length_map]
      omega
    · obtain ⟨zs, rfl, hl, hg, hz0⟩ := pr2.2.2
      have hi' : i < n := by omega
      refine ⟨_, rfl, _, rfl, S fs, _, cs, rfl, rfl, szS fs (by omega), hst, _, rfl, _, rfl, _, rfl, S T, rfl, szS T (by omega), ?_⟩
      rw [show (0 : Int) + (i : Int) = ((i : Nat) : Int) by omega, slice_S0 (by omega), e1c]
      refine ⟨_, _, rfl, rfl, (by rw [S_len, S_len, List.length_take]; exact sz (by simp; omega)), ?_⟩
      rw [app_S]
      refine ⟨pr2.2.1, Same.upd_new pr2.1 ((Same.trans s1 sm).free hD2) _, upd_same, zs ++ [[cs] ++ T.take i], by simp, by simp [hl], fun z hz => ?_, by rw [List.range_succ, List.map_append, hz0]; rfl⟩
      rcases List.mem_append.mp hz with hz | hz
      · exact hg z hz
      · rw [List.mem_singleton.mp hz]
        refine good_of hcm hfa ?_ (by rw [List.length_take]; omega)
        rw [List.all_eq_true] at hTa ⊢
        exact fun y hy => hTa y (List.mem_of_mem_take hy)
    · obtain ⟨zs, rfl, hl, hg, hz0⟩ := pr2.2.2
      refine q D2 zs H2 pr2.1 ((Same.trans s1 sm).free hD2) pr2.2.1 (by omega) hg ?_
      rw [hz0]
      refine nodup_map_range fun a b ha hb e => ?_
      have e2 := congrArg List.length e
      rw [List.length_append, List.length_append, List.length_take, List.length_take] at e2
      omega
  refine ⟨_, rfl, _, _, rfl, rfl, (by show (0 : Int) < 3; decide), rfl, _, rfl, ?_⟩
  refine ite2 (fun c2 => ?_) (fun c2 => ?_)
  · refine ⟨_, rfl, _, _, rfl, rfl, ⟨by decide, by decide⟩, _, _, rfl, rfl, (by show (0 : Int) < 12; decide), ?_⟩
    have mds := mid (a := v / 3) (b := 12) (by decide)
    refine ⟨_, rfl, n, rfl, by omega, by omega, fun D2 hD2 => ?_⟩
    refine comp_range (lo := 0) (n := ((n : Nat) : Int).toNat) (szl (by omega)) (fun i ys H2 => Same H H2 ∧ H2 D2 = some (.lst ys) ∧ ∃ zs : List (List Nat), ys = zs.map tx ∧ zs.length = i ∧ (∀ z ∈ zs, Good fs z) ∧ zs = (List.range i).map fun k : Nat => [fs.getD ((v / 5 % ((S fs).length : Int) + (0 + (k : Int))) % ((S fs).length : Int)).toNat 0] ++ T.take (v / 3 % 12).toNat)
      ⟨Same.upd_new (Same.trans s1 sm) ((Same.trans s1 sm).free hD2) _, upd_same, [], rfl, rfl, (fun _ z => nomatch z), rfl⟩ (fun i ys H2 pr2 => ⟨pr2.2.1, ?_⟩) (fun i ys H2 hi pr2 => ?_) (fun ys H2 pr2 => ?_)
    · obtain ⟨zs, rfl, hl, _, _⟩ := pr2.2.2
      rw [List.length_map]
      omega
    · obtain ⟨zs, rfl, hl, hg, hz0⟩ := pr2.2.2
      have hi' : i < n := by omega
      have mdk := mid (a := v / 5 % ((S fs).length : Int) + (0 + (i : Int))) hfp
      have hck := str_at (x := S fs) mdk.1 mdk.2
      have hckm : fs.getD ((v / 5 % ((S fs).length : Int) + (0 + (i : Int))) % ((S fs).length : Int)).toNat 0 ∈ fs := List.mem_of_getElem? (getD_get (by rw [← hfl]; omega))
      rw [S_codes fs] at hck
      generalize hcke : fs.getD ((v / 5 % ((S fs).length : Int) + (0 + (i : Int))) % ((S fs).length : Int)).toNat 0 = ck at hck hckm
      refine ⟨_, rfl, _, rfl, _, rfl, _, _, rfl, rfl, _, rfl, S fs, rfl, szS fs (by omega), _, _, rfl, rfl, hfp, S fs, _, ck, rfl, rfl, szS fs (by omega), (by rw [S_codes]; exact hck), _, rfl, _, rfl, _, rfl, S T, rfl, szS T (by omega), ?_⟩
      have hsz : v / 3 % 12 = (((v / 3 % 12).toNat : Nat) : Int) := by omega
      rw [hsz, slice_S0 (by omega)]
      refine ⟨_, _, rfl, rfl, (by rw [S_len, S_len, List.length_take]; exact sz (by simp; omega)), ?_⟩
      rw [show (⟨#[ck]⟩ : Str) = S [ck] from rfl, app_S]
      refine ⟨pr2.2.1, Same.upd_new pr2.1 ((Same.trans s1 sm).free hD2) _, upd_same, zs ++ [[ck] ++ T.take (v / 3 % 12).toNat], by simp, by simp [hl], fun z hz => ?_, by rw [List.range_succ, List.map_append, hz0, ← hcke]; rfl⟩
      rcases List.mem_append.mp hz with hz | hz
      · exact hg z hz
      · rw [List.mem_singleton.mp hz]
        refine good_of hckm hfa ?_ (by rw [List.length_take]; omega)
        rw [List.all_eq_true] at hTa ⊢
        exact fun y hy => hTa y (List.mem_of_mem_take hy)
    · obtain ⟨zs, rfl, hl, hg, hz0⟩ := pr2.2.2
      refine q D2 zs H2 pr2.1 ((Same.trans s1 sm).free hD2) pr2.2.1 (by omega) hg ?_
      rw [hz0]
      refine nodup_map_range fun a b ha hb e => ?_
      have e2 : fs.getD ((v / 5 % ((S fs).length : Int) + (0 + (a : Int))) % ((S fs).length : Int)).toNat 0 = fs.getD ((v / 5 % ((S fs).length : Int) + (0 + (b : Int))) % ((S fs).length : Int)).toNat 0 := (List.cons.inj e).1
      have e3 := nodup_getD hnd (by have := mid (a := v / 5 % ((S fs).length : Int) + (0 + (a : Int))) hfp; omega) (by have := mid (a := v / 5 % ((S fs).length : Int) + (0 + (b : Int))) hfp; omega) e2
      exact mod_inj (by omega) (by omega) e3
  -- a sign at a drawn place
  refine ⟨_, rfl, _, _, rfl, rfl, ⟨by decide, by decide⟩, _, _, rfl, rfl, (by show (0 : Int) < 11; decide), ?_⟩
  have mds := mid (a := v / 3) (b := 11) (by decide)
  refine ⟨_, rfl, _, _, rfl, rfl, ⟨by decide, by decide⟩, _, rfl, _, _, rfl, rfl, _, _, rfl, rfl, (by show (0 : Int) < _; omega), ?_⟩
  have mda := mid (a := v / 33) (b := v / 3 % 11 + 1) (by omega)
  refine ⟨_, rfl, n, rfl, by omega, by omega, fun D2 hD2 => ?_⟩
  refine comp_range (lo := 0) (n := ((n : Nat) : Int).toNat) (szl (by omega)) (fun i ys H2 => Same H H2 ∧ H2 D2 = some (.lst ys) ∧ ∃ cs : List Nat, ys = (cs.map fun c => [c]).map tx ∧ cs.length = i ∧ (∀ c ∈ cs, isAl c = true) ∧ cs = (List.range i).map fun k : Nat => aAll.cps.toList.getD ((v / 7 + (0 + (k : Int))) % ((62 : Nat) : Int)).toNat 0)
    ⟨Same.upd_new (Same.trans s1 sm) ((Same.trans s1 sm).free hD2) _, upd_same, [], rfl, rfl, (fun _ z => nomatch z), rfl⟩ (fun i ys H2 pr2 => ⟨pr2.2.1, ?_⟩) (fun i ys H2 hi pr2 => ?_) (fun ys H2 pr2 => ?_)
  · obtain ⟨cs, rfl, hl, _, _⟩ := pr2.2.2
    rw [List.length_map, List.length_map]
    omega
  · obtain ⟨zs, rfl, hl, hg, hz0⟩ := pr2.2.2
    have md2 := mid (a := v / 7 + (0 + (i : Int))) (b := 62) (by decide)
    have hd := str_at (x := aAll) md2.1 (by rw [all_len]; exact md2.2)
    have hdm : aAll.cps.toList.getD ((v / 7 + (0 + (i : Int))) % 62).toNat 0 ∈ aAll.cps.toList := List.mem_of_getElem? (getD_get (by rw [len_is, all_len]; omega))
    generalize hde : aAll.cps.toList.getD ((v / 7 + (0 + (i : Int))) % 62).toNat 0 = d at hd hdm
    refine ⟨_, rfl, _, rfl, _, _, rfl, rfl, ⟨by decide, by decide⟩, _, rfl, _, _, rfl, rfl, _, _, rfl, rfl, (by show (0 : Int) < 62; decide), _, _, d, rfl, rfl, (by decide +kernel), hd, pr2.2.1, ?_⟩
    refine ⟨Same.upd_new pr2.1 ((Same.trans s1 sm).free hD2) _, upd_same, zs ++ [d], by simp, by simp [hl], fun z hz => ?_, by rw [List.range_succ, List.map_append, hz0, ← hde]; rfl⟩
    rcases List.mem_append.mp hz with hz | hz
    · exact hg z hz
    · rw [List.mem_singleton.mp hz]
      have z := all_al
      rw [List.all_eq_true] at z
      exact z d hdm
  obtain ⟨ks, rfl, hkl, hka, hk0⟩ := pr2.2.2
  have sm2 := pr2.1
  have hD2L := pr2.2.1
  refine ⟨_, rfl, D2, rfl, ⟨_, SqL.of hD2L⟩, fun D3 hD3 => ?_⟩
  obtain ⟨pa, hpa⟩ : ∃ pa : Nat, v / 33 % (v / 3 % 11 + 1) = (pa : Int) := ⟨_, (Int.toNat_of_nonneg mda.1).symm⟩
  obtain ⟨pb, hpb⟩ : ∃ pb : Nat, v / 3 % 11 = ((pa + pb : Nat) : Int) := ⟨(v / 3 % 11 - pa).toNat, by omega⟩
  have h23 : D2 ≠ D3 := fun z => by rw [z, hD3] at hD2L; cases hD2L
  refine comp_list (K := K) (a := D2) (xs := (ks.map fun c => [c]).map tx) (by rw [List.length_map, List.length_map]; exact szl (by omega))
    (fun i ys H3 => Same H H3 ∧ H3 D3 = some (.lst ys) ∧ H3 D2 = some (.lst ((ks.map fun c => [c]).map tx)) ∧ ∃ zs : List (List Nat), ys = zs.map tx ∧ zs.length = i ∧ (∀ z ∈ zs, Good fs z) ∧ zs = (List.range i).map fun k : Nat => (([cs] ++ T.take pa) ++ [ks.getD k 0]) ++ (T.drop pa).take pb)
    ⟨Same.upd_new sm2 (sm2.free hD3) _, upd_same, by rw [upd_ne h23]; exact hD2L, [], rfl, rfl, (fun _ z => nomatch z), rfl⟩ (fun i ys H3 pr3 => SqL.of pr3.2.2.1) (fun i ys H3 pr3 => ⟨pr3.2.1, ?_⟩) (fun i ys H3 hi pr3 => ?_) (fun ys H3 pr3 => ?_)
  · obtain ⟨zs, rfl, hl, _, _⟩ := pr3.2.2.2
    rw [List.length_map]
    omega
  · obtain ⟨zs, rfl, hl, hg, hz0⟩ := pr3.2.2.2
    have hi' : i < ks.length := by simpa using hi
    have eg : ((ks.map fun c => [c]).map tx).getD i .non = tx [ks[i]] := by
      rw [List.getD_eq_getElem?_getD, List.getElem?_map, List.getElem?_map, List.getElem?_eq_getElem hi']
      rfl
    rw [eg]
    refine ⟨_, rfl, _, rfl, S fs, _, cs, rfl, rfl, szS fs (by omega), hst, _, rfl, _, rfl, _, rfl, S T, rfl, szS T (by omega), ?_⟩
    rw [hpa, slice_S0 (by omega), e1c]
    refine ⟨_, _, rfl, rfl, (by rw [S_len, S_len, List.length_take]; exact sz (by simp; omega)), ?_⟩
    rw [app_S]
    refine ⟨_, rfl, _, _, rfl, rfl, (by rw [S_len, S_len, List.length_append, List.length_take]; exact sz (by simp; omega)), ?_⟩
    rw [app_S]
    refine ⟨_, rfl, _, rfl, _, rfl, _, rfl, _, rfl, S T, rfl, szS T (by omega), ?_⟩
    have e2 := slice_S (x := S T) (p := pa) (n := pb) (by rw [S_len]; omega)
    rw [S_codes] at e2
    rw [hpa, hpb, e2]
    refine ⟨_, _, rfl, rfl, (by rw [S_len, S_len, List.length_append, List.length_append, List.length_take, List.length_take, List.length_drop]; exact sz (by simp; omega)), ?_⟩
    rw [app_S]
    refine ⟨pr3.2.1, Same.upd_new pr3.1 (sm2.free hD3) _, upd_same, by rw [upd_ne h23]; exact pr3.2.2.1, zs ++ [(([cs] ++ T.take pa) ++ [ks[i]]) ++ (T.drop pa).take pb], by simp, by simp [hl], fun z hz => ?_, by rw [List.range_succ, List.map_append, hz0]; simp only [List.map_cons, List.map_nil]; rw [List.getD_eq_getElem?_getD (i := i), List.getElem?_eq_getElem hi']; rfl⟩
    rcases List.mem_append.mp hz with hz | hz
    · exact hg z hz
    · rw [List.mem_singleton.mp hz]
      rw [List.append_assoc, List.append_assoc]
      refine good_of hcm hfa ?_ ?_
      · rw [List.all_eq_true] at hTa ⊢
        intro y hy
        rcases List.mem_append.mp hy with hy | hy
        · exact hTa y (List.mem_of_mem_take hy)
        · rcases List.mem_append.mp hy with hy | hy
          · rw [List.mem_singleton.mp hy]
            exact hka _ (List.getElem_mem hi')
          · exact hTa y (List.mem_of_mem_drop (List.mem_of_mem_take hy))
      · rw [List.length_append, List.length_append, List.length_take, List.length_take, List.length_drop]
        simp
        omega
  · obtain ⟨zs, rfl, hl, hg, hz0⟩ := pr3.2.2.2
    have hkl' : ks.length = n := by omega
    rw [List.length_map, List.length_map] at hz0 hl
    refine q D3 zs H3 pr3.1 (sm2.free hD3) pr3.2.1 (by omega) hg ?_
    rw [hz0]
    refine nodup_map_range fun a b ha hb e => ?_
    have e3 : [ks.getD a 0] = [ks.getD b 0] := by
      have z := List.append_inj_left' e rfl
      exact List.append_inj_right z rfl
    have e4 : ks.getD a 0 = ks.getD b 0 := (List.cons.inj e3).1
    have gk : ∀ k, k < n → ks.getD k 0 = aAll.cps.toList.getD ((v / 7 + (0 + (k : Int))) % ((62 : Nat) : Int)).toNat 0 := fun k hk => by
      rw [hk0, List.getD_eq_getElem?_getD, List.getElem?_map, List.getElem?_range (by omega)]
      rfl
    rw [gk a (by omega), gk b (by omega)] at e4
    have e5 := nodup_getD (by decide +kernel) (by rw [len_is, all_len]; have := mid (a := v / 7 + (0 + (a : Int))) (b := 62) (by decide); omega) (by rw [len_is, all_len]; have := mid (a := v / 7 + (0 + (b : Int))) (b := 62) (by decide); omega) e4
    exact mod_inj (by omega) (by omega) e5
theorem sc__law_titles : FnScope ["_law_cell", "_law_many"] ["_law_cell", "_law_many"] (defScope s__law_titles) := ⟨rfl, rfl, rfl, by decide +kernel, rfl, by decide +kernel, by decide +kernel⟩
theorem ok__law_titles (F : Fun K "_law_titles" "_law_titles" s__law_titles f fd) (c__law_names : Cal P w K mg base "_law_names" 2 ["_law_cell", "_law_many", "_law_firsts"] spNames) : FnOk P w K mg base CX0 3 f fd ["_law_cell", "_law_many"] (spSome aSmall.cps.toList) := by
  refine F.ok sc__law_titles (fun vs H Q E h => ?_) (fun cdv A outer s H vs Q E hr h => ?_)
  · obtain ⟨c, n, rfl, _⟩ := h
    rfl
  obtain ⟨c, n, rfl, hn, q⟩ := h
  refine ⟨_, (pss_one (ps_ret (pe_callC c__law_names (hr.mono (by decide)) rfl (pa_cons (pv 0) (pa_cons (pv 1) (pa_cons pe_str pa_nil)))))), ?_⟩
  exact ⟨_, rfl, _, rfl, c, n, aSmall.cps.toList, (by show [V.int c, V.int n, V.str aSmall] = [V.int c, V.int n, V.str (S aSmall.cps.toList)]; rw [S_of]), hn, by decide +kernel, by decide +kernel, by decide +kernel, by decide +kernel, q⟩
theorem sc__law_opens : FnScope ["_law_cell", "_law_many"] ["_law_cell", "_law_many"] (defScope s__law_opens) := ⟨rfl, rfl, rfl, by decide +kernel, rfl, by decide +kernel, by decide +kernel⟩
theorem ok__law_opens (F : Fun K "_law_opens" "_law_opens" s__law_opens f fd) (c__law_names : Cal P w K mg base "_law_names" 2 ["_law_cell", "_law_many", "_law_firsts"] spNames) : FnOk P w K mg base CX0 3 f fd ["_law_cell", "_law_many"] (spSome aGreat.cps.toList) := by
  refine F.ok sc__law_opens (fun vs H Q E h => ?_) (fun cdv A outer s H vs Q E hr h => ?_)
  · obtain ⟨c, n, rfl, _⟩ := h
    rfl
  obtain ⟨c, n, rfl, hn, q⟩ := h
  refine ⟨_, (pss_one (ps_ret (pe_callC c__law_names (hr.mono (by decide)) rfl (pa_cons (pv 0) (pa_cons (pv 1) (pa_cons pe_str pa_nil)))))), ?_⟩
  exact ⟨_, rfl, _, rfl, c, n, aGreat.cps.toList, (by show [V.int c, V.int n, V.str aGreat] = [V.int c, V.int n, V.str (S aGreat.cps.toList)]; rw [S_of]), hn, by decide +kernel, by decide +kernel, by decide +kernel, by decide +kernel, q⟩
theorem sc__law_words : FnScope ["_law_cell", "_law_many"] ["_law_cell", "_law_many"] (defScope s__law_words) := ⟨rfl, rfl, rfl, by decide +kernel, rfl, by decide +kernel, by decide +kernel⟩
theorem ok__law_words (F : Fun K "_law_words" "_law_words" s__law_words f fd) (c__law_names : Cal P w K mg base "_law_names" 2 ["_law_cell", "_law_many", "_law_firsts"] spNames) : FnOk P w K mg base CX0 3 f fd ["_law_cell", "_law_many"] (spSome aSF.cps.toList) := by
  refine F.ok sc__law_words (fun vs H Q E h => ?_) (fun cdv A outer s H vs Q E hr h => ?_)
  · obtain ⟨c, n, rfl, _⟩ := h
    rfl
  obtain ⟨c, n, rfl, hn, q⟩ := h
  refine ⟨_, (pss_one (ps_ret (pe_callC c__law_names (hr.mono (by decide)) rfl (pa_cons (pv 0) (pa_cons (pv 1) (pa_cons pe_str pa_nil)))))), ?_⟩
  exact ⟨_, rfl, _, rfl, c, n, aSF.cps.toList, (by show [V.int c, V.int n, V.str aSF] = [V.int c, V.int n, V.str (S aSF.cps.toList)]; rw [S_of]), hn, by decide +kernel, by decide +kernel, by decide +kernel, by decide +kernel, q⟩
end
end K03
namespace K03
open PySem L2 K02 Bk
set_option maxHeartbeats 4000000
section
variable {P : Program} {w : World} {K : PySem.W.Frag} {mg : Str → Option Value} {base : Heap} {f : Addr} {fd : FuncData} {C : Addr} {mk : Str}
theorem facts_alike {H : Hp} {a b : Addr} {fs : List Fc} {us vs : List V} (h1 : SqL K H a us) (p1 : Paired (Fact K H) fs us) (h2 : SqL K H b vs) (p2 : Paired (Fact K H) fs vs) : Alike K H (.ref a) (.ref b) := by
  have z1 := Paired.length p1
  have z2 := Paired.length p2
  refine ⟨a, b, us, vs, fs.map (fun g => (fT g).toD), rfl, rfl, h1, h2, by simpa using z1, by simpa using z2, fun d hd => ?_, fun i h0 h1 => ?_, fun i h0 h1 => ?_⟩
  · obtain ⟨g, _, rfl⟩ := List.mem_map.mp hd
    obtain ⟨_, _, h⟩ := fT_deep g
    exact h
  · rw [List.getElem_map]
    exact Fact.isD (paired_at p1 i (by simpa using h0) h1)
  · rw [List.getElem_map]
    exact Fact.isD (paired_at p2 i (by simpa using h0) h1)
theorem sc_law : FnScope ["_law_script", "_law_facts", "_law_due", "_law_handed", "_law_told", "_law_found", "_law_way", "_law_at", "_law_number", "_law_sign_here", "_law_text"] ["_law_script"] (defScope s_law) := ⟨rfl, rfl, rfl, by decide +kernel, rfl, by decide +kernel, by decide +kernel⟩
theorem ok_law (F : Fun K "law" "law" s_law f fd) (hm : ∀ c, decide (c ∈ mk.cps.toList) = isMark c) (c__law_row : Cal P w K mg base "_law_row" 4 ["_law_script"] (spRowD K)) (c__law_fact_text : Cal P w K mg base "_law_fact_text" 1 ["_law_fact"] (spFT3 K)) (c_facts_text : Cal P w K mg base "facts_text" 2 ["facts"] (spFsT K)) (c_read_facts : CalE P w K mg base "read_facts" 6 ["text"] (spReadR K C mk))
    (c__law_cell_at : Cal P w K mg base "_law_cell_at" 1 ["_law_script", "_law_k"] (spCell K)) (c__law_mix : Cal P w K mg base "_law_mix" 1 ["_law_cell", "_law_k"] spMix) (c__law_sign : Cal P w K mg base "_law_sign" 1 ["_law_cell"] spSignL) (c__law_spoiled : Cal P w K mg base "_law_spoiled" 1 ["_law_text", "_law_way", "_law_at", "_law_sign_here"] spSpoil) (c__law_place : Cal P w K mg base "_law_place" 1 ["_law_text", "_law_at", "_law_number"] spPlaceL) (c__law_read : Cal P w K mg base "_law_read" 2 ["_law_text"] (spReadL K))
    (c__law_single : Cal P w K mg base "_law_single" 6 ["_law_text", "_law_due"] (spSingle K mk)) (c__law_refusal : Cal P w K mg base "_law_refusal" 7 ["_law_text"] (spRefu mk)) (m_len : mg "len" = none) (m_list : mg "list" = none) (m_tuple : mg "tuple" = none) (m_str : mg "str" = none) (m_isinstance : mg "isinstance" = none) : FnOk P w K mg base (CXE P w) 8 f fd ["_law_script"] (spLaw K) := by
  refine F.okE sc_law (fun vs H Q E h => ?_) (fun cdv A outer s H vs Q E hr h => ?_)
  · obtain ⟨a, ns, rfl, _⟩ := h
    rfl
  obtain ⟨a, ns, rfl, hS, hn, q⟩ := h
  refine ⟨_, (@pss_cons _ _ _ _ _ (ps_set (i := 1) sc_law.nd rfl (Or.inl rfl) (pe_callC c__law_row (hr.mono (by decide)) rfl (pa_cons (pv 0) pa_nil))) (@pss_cons _ _ _ _ _ (ps_set (i := 2) sc_law.nd rfl (Or.inl rfl) (pe_bm PySem.F.plainAttrs_str PySem.F.slot_str_join PySem.F.type_str_join mt_join pe_str (pa_cons (pe_comp [] rfl (by kernel_rfl) (pi_list (pv 1)) (fun _ _ _ _ _ => pts_nil) (fun _ _ _ _ _ => (pe_callC c__law_fact_text (hr.mono (by decide)) rfl (pa_cons (pv 0) pa_nil)))) pa_nil))) (@pss_cons _ _ _ _ _ (ps_set (i := 3) sc_law.nd rfl (Or.inl rfl) (pe_callTy call_list_of rfl m_list PyProof.Rows.Boot.«list» (pa_cons (pv 1) pa_nil))) (@pss_cons _ _ _ _ _ (@ps_set _ _ 4 _ _ _ _ sc_law.nd rfl (Or.inl rfl) (@pe_lst _ _ _ _ (@pa_cons _ _ _ _ _ (pe_callC c_facts_text (hr.mono (by decide)) rfl (pa_cons (pv 3) pa_nil)) (@pa_cons _ _ _ _ _ (pe_callC c_facts_text (hr.mono (by decide)) rfl (pa_cons (pe_callTy call_tuple_of rfl m_tuple PyProof.Rows.Boot.«tuple» (pa_cons (pv 1) pa_nil)) pa_nil)) (@pa_nil _) rfl) rfl)) (by kernel_rfl) (Or.inl rfl)) (@pss_cons _ _ _ _ _ (ps_if (PW.pt (pw_or (pt_not (pt_val (pe_callB call_isinst rfl m_isinstance PyProof.Rows.boot_isinstance (pa_cons (pe_ix ix_list (pv 4) pe_int (fun _ _ => rfl)) (pa_cons (pe_bltn rfl m_str PyProof.Rows.Boot.«str» (v := .ty "str") rfl) pa_nil))))) (pw_or (pt_cmpR (op_neS hr.units) (pv 4) (pe_lst (pa_cons (pv 2) (pa_cons (pv 2) pa_nil))) (nomark _)) (pw_or1 (pt_cmpR (op_neS hr.units) (pv 3) (pv 1) (nomark _))))))
  (pss_one (ps_ret pe_bl))
  pss_nil) (@pss_cons _ _ _ _ _ (ps_set (i := 5) sc_law.nd rfl (Or.inl rfl) (pe_callE c_read_facts (hr.mono (by decide)) rfl (pa_cons (pv 2) pa_nil))) (@pss_cons _ _ _ _ _ (ps_if (PW.pt (pw_or (pt_not (pt_val (pe_callB call_isinst rfl m_isinstance PyProof.Rows.boot_isinstance (pa_cons (pv 5) (pa_cons (pe_bltn rfl m_list PyProof.Rows.Boot.«list» (v := .ty "list") rfl) pa_nil))))) (pw_or1 (pt_cmpR (op_neS hr.units) (pv 5) (pv 1) (nomark _)))))
  (pss_one (ps_ret pe_bl))
  pss_nil) (@pss_cons _ _ _ _ _ (ps_set (i := 6) sc_law.nd rfl (Or.inl rfl) (pe_op op_mod (pe_callC c__law_cell_at (hr.mono (by decide)) rfl (pa_cons (pv 0) (pa_cons pe_int pa_nil))) pe_int)) (@pss_cons _ _ _ _ _ (ps_set (i := 7) sc_law.nd rfl (Or.inl rfl) (pe_op op_mod (pe_callC c__law_mix (hr.mono (by decide)) rfl (pa_cons (pe_callC c__law_cell_at (hr.mono (by decide)) rfl (pa_cons (pv 0) (pa_cons pe_int pa_nil))) (pa_cons pe_int pa_nil))) (pe_op op_add (pe_callB call_len_str rfl m_len PySem.boot_len (pa_cons (pv 2) pa_nil)) pe_int))) (@pss_cons _ _ _ _ _ (ps_set (i := 8) sc_law.nd rfl (Or.inl rfl) (pe_callC c__law_mix (hr.mono (by decide)) rfl (pa_cons (pe_callC c__law_cell_at (hr.mono (by decide)) rfl (pa_cons (pv 0) (pa_cons pe_int pa_nil))) (pa_cons pe_int pa_nil)))) (@pss_cons _ _ _ _ _ (ps_set (i := 9) sc_law.nd rfl (Or.inl rfl) (pe_callC c__law_sign (hr.mono (by decide)) rfl (pa_cons (pe_op op_fdiv (pv 8) pe_int) pa_nil))) (@pss_cons _ _ _ _ _ (ps_if (pt_cmpR op_eq (pe_op op_mod (pv 8) pe_int) pe_int (nomark _))
  (pss_one (ps_set (i := 9) sc_law.nd rfl (Or.inl rfl) (pe_ix ix_str pe_str (pe_op op_mod (pe_op op_fdiv (pv 8) pe_int) pe_int) (fun _ _ => rfl))))
  pss_nil) (@pss_cons _ _ _ _ _ (ps_set (i := 10) sc_law.nd rfl (Or.inl rfl) (pe_callC c__law_spoiled (hr.mono (by decide)) rfl (pa_cons (pv 2) (pa_cons (pv 6) (pa_cons (pe_callC c__law_place (hr.mono (by decide)) rfl (pa_cons (pv 2) (pa_cons (pv 7) (pa_cons (pe_op op_fdiv (pv 8) pe_int) pa_nil)))) (pa_cons (pv 9) pa_nil)))))) (@pss_cons _ _ _ _ _ (ps_set (i := 2) sc_law.nd rfl (Or.inl rfl) (pe_callC c__law_read (hr.mono (by decide)) rfl (pa_cons (pv 10) pa_nil))) (@pss_cons _ _ _ _ _ (ps_if (pt_not (pt_val (pe_callC c__law_single (hr.mono (by decide)) rfl (pa_cons (pv 10) (pa_cons (pv 2) pa_nil)))))
  (pss_one (ps_ret pe_bl))
  pss_nil) (@pss_cons _ _ _ _ _ (ps_if (pt_cmpR op_isN (pv 2) pe_non (nomark _))
  (pss_one (ps_ret (pe_cmpR (op_eqS hr.units) (pe_callC c__law_refusal (hr.mono (by decide)) rfl (pa_cons (pv 10) pa_nil)) (pe_lst (pa_cons pe_bl (pa_cons pe_bl (pa_cons pe_bl (pa_cons pe_bl (pa_cons pe_bl pa_nil)))))) (nomark _))))
  pss_nil) (@pss_cons _ _ _ _ _ (ps_set (i := 5) sc_law.nd rfl (Or.inl rfl) (pe_callE c_read_facts (hr.mono (by decide)) rfl (pa_cons (pv 10) pa_nil))) (pss_one (ps_ret (pe_and (pe_callB call_isinst rfl m_isinstance PyProof.Rows.boot_isinstance (pa_cons (pv 5) (pa_cons (pe_bltn rfl m_list PyProof.Rows.Boot.«list» (v := .ty "list") rfl) pa_nil))) (pe_one (pe_cmpR (op_eqS hr.units) (pv 5) (pv 2) (nomark _))))))))))))))))))))))), ?_⟩
  refine ⟨_, rfl, a, ns, rfl, hS, hn, fun lf us fs H1 s1 hl0 hlf pf hg hfn => ?_⟩
  have zl := Paired.length pf
  have hgl : ((fs.map factC).map tx).length = us.length := by simpa using zl
  have hsum : (((fs.map factC).map S).map (·.length)).sum + ((fs.map factC).map S).length * (Str.ofString ", ").length ≤ 16777216 := by
    have z := len_sum (as := fs.map factC) (B := 70) fun l hl => by
      obtain ⟨g, hg', rfl⟩ := List.mem_map.mp hl
      exact factC_le (hg g hg')
    have e : (Str.ofString ", ").length = 2 := by decide +kernel
    rw [List.length_map, List.length_map, e]
    rw [List.length_map] at z
    omega
  refine ⟨rfl, _, rfl, lf, rfl, ⟨_, SqL.of hlf⟩, fun D hD => ?_⟩
  refine comp_txL (K := K) (xs := us) (gs := (fs.map factC).map tx) hgl (szl (by omega)) hD (SqL.of hlf) (fun i x g H' R hxi hgi sm hQ => ?_) (fun H2 s2 hL => ?_)
  · obtain ⟨hi, ex⟩ := get_of hxi
    have hif : i < fs.length := by omega
    have hF := Fact.sm sm (paired_at pf i hif hi)
    rw [ex] at hF
    obtain ⟨hg1, eg⟩ := get_of hgi
    have eg : tx (factC fs[i]) = g := by rw [← eg, List.getElem_map, List.getElem_map]
    exact ⟨_, rfl, x, fs[i], rfl, hF, hg _ (List.getElem_mem hif), by rw [eg]; exact hQ _ (Same.refl _)⟩
  refine ⟨_, D, (fs.map factC).map S, rfl, rfl, .inl (SqL.of (by rw [← map_tx]; exact hL)), hsum, ?_⟩
  rw [rowC_S]
  have hlen := text_le hg
  have h128 := text_128 hg
  have hrow := rowX_text hm hg
  have hfsT : ∀ H', Q (tx (rowC (fs.map factC))) H' → Q (tx (rowC (fs.map factC))) H' := fun _ z => z
  clear hfsT hsum hgl
  generalize hX : rowC (fs.map factC) = x0 at hlen h128 hrow ⊢
  have sA := Same.trans s1 s2
  refine ⟨_, rfl, lf, us, rfl, .inl (SqL.of (s2 _ _ hlf)), fun lh hlh => ?_⟩
  have s3 := same_new hlh (.lst us)
  have sA3 := Same.trans sA s3
  have hlh3 := upd_same (H := H2) (a := lh) (o := .lst us)
  have hlf3 := s3 _ _ (s2 _ _ hlf)
  have pf3 : Paired (Fact K (upd H2 lh (.lst us))) fs us := paired_mono pf fun _ _ _ => Fact.sm (Same.trans s2 s3)
  generalize upd H2 lh (.lst us) = H3 at s3 sA3 hlh3 hlf3 pf3 ⊢
  refine ⟨_, rfl, lh, us, fs, rfl, .inl (SqL.of hlh3), pf3, hg, hfn, fun H4 s4 => ?_⟩
  refine ⟨_, rfl, lf, us, rfl, .inl ⟨SqL.of (s4 _ _ hlf3), fun lt hlt => ?_⟩⟩
  have s5 := same_new hlt (.tup us)
  refine ⟨lt, us, fs, rfl, .inr (SqT.of upd_same), paired_mono pf3 fun _ _ _ => Fact.sm (Same.trans s4 s5), hg, hfn, fun H6 s6 => ?_⟩
  rw [hX]
  refine ⟨(by show 2 ≤ sizeLine; decide), fun lo hlo => ?_⟩
  have s7 := same_new hlo (.lst [tx x0, tx x0])
  have s37 := Same.trans s4 (Same.trans s5 (Same.trans s6 s7))
  have hlo7 := upd_same (H := H6) (a := lo) (o := .lst [tx x0, tx x0])
  have sB := Same.trans sA3 s37
  have hlh7 := s37 _ _ hlh3
  have hlf7 := s37 _ _ hlf3
  have pf7 : Paired (Fact K (upd H6 lo (.lst [tx x0, tx x0]))) fs us := paired_mono pf3 fun _ _ _ => Fact.sm s37
  generalize upd H6 lo (.lst [tx x0, tx x0]) = H7 at s7 s37 hlo7 sB hlh7 hlf7 pf7 ⊢
  refine ⟨_, rfl, lo, _, 0, _, rfl, rfl, SqL.of hlo7, rfl, ?_⟩
  refine ⟨_, "str", _, true, rfl, .str _, kit_self, _, rfl, iteF ?_⟩
  refine ⟨_, rfl, _, rfl, _, rfl, (by show 2 ≤ sizeLine; decide), fun lq hlq => ?_⟩
  have s8 := same_new hlq (.lst [tx x0, tx x0])
  refine ⟨Alike.texts (bs := [S x0, S x0]) (SqL.of (s8 _ _ hlo7)) (SqL.of upd_same), _, rfl, iteF ?_⟩
  have sC := Same.trans sB s8
  have hlh8 := s8 _ _ hlh7
  have hlf8 := s8 _ _ hlf7
  have pf8 : Paired (Fact K (upd H7 lq (.lst [tx x0, tx x0]))) fs us := paired_mono pf7 fun _ _ _ => Fact.sm s8
  generalize upd H7 lq (.lst [tx x0, tx x0]) = H8 at s8 sC hlh8 hlf8 pf8 ⊢
  refine ⟨_, rfl, _, rfl, facts_alike (SqL.of hlh8) pf8 (SqL.of hlf8) pf8, _, rfl, iteF ?_⟩
  have hx1 : (S x0).length ≤ 5000 := by rw [S_len]; omega
  have hx0 : (S x0).length ≤ 10000 := by omega
  refine ⟨_, rfl, S x0, rfl, (by omega), (by rw [S_codes]; exact fun c hc => Nat.lt_trans (h128 c hc) (by decide)), (fun hno => by rw [S_codes, hrow] at hno; cases hno), fun fs' hfs' v H9 s9 hF => ?_⟩
  rw [S_codes, hrow] at hfs'
  obtain rfl : fs = fs' := Option.some.inj hfs'
  obtain ⟨lr, vs, rfl, hlr0, hlr, pr⟩ := hF
  have hlf9 := s9 _ _ hlf8
  have pf9 : Paired (Fact K H9) fs us := paired_mono pf8 fun _ _ _ => Fact.sm s9
  have sD := Same.trans sC s9
  refine ⟨_, rfl, _, "list", _, true, rfl, .lst hlr, kit_self, _, rfl, iteF ?_⟩
  refine ⟨_, rfl, _, rfl, facts_alike (SqL.of hlr) pr (SqL.of hlf9) pf9, _, rfl, iteF ?_⟩
  have hS9 : SqL K H9 a (ns.map V.int) := sD.seq hS
  refine ⟨_, rfl, a, ns, 0, rfl, hS9, by decide, fun v0 => ⟨_, _, rfl, rfl, (by show (0 : Int) < 4; decide), ?_⟩⟩
  refine ⟨_, rfl, a, ns, 1, rfl, hS9, by decide, fun v1 => ⟨v1, 3, rfl, by decide, by decide, fun m1 H10 s10 m10 => ?_⟩⟩
  refine ⟨_, rfl, S x0, rfl, sz (by omega), _, _, rfl, rfl, _, _, rfl, rfl, (by omega), ?_⟩
  have sE := Same.trans sD s10
  have hS10 : SqL K H10 a (ns.map V.int) := sE.seq hS
  refine ⟨_, rfl, a, ns, 2, rfl, hS10, by decide, fun v2 => ⟨v2, 5, rfl, by decide, by decide, fun m2 H11 s11 m20 => ?_⟩⟩
  refine ⟨_, rfl, _, _, rfl, rfl, ⟨by decide, by decide⟩, _, rfl, fun c0 hc0 => ?_⟩
  have sF := Same.trans sE s11
  refine gname_go ?_
  dsimp only
  refine seq_fin (Good := fun σ' H' => H' = H11 ∧ ∃ c, c < 128 ∧ σ' = [some (.ref a), some (.ref lf), some (tx x0), some (.ref lh), some (.ref lo), some (.ref lr), some (.int (v0 % 4)), some (.int (m1 % ((S x0).length + 1))), some (.int m2), some (.str ⟨#[c]⟩), none]) (fun fin => ?_) (fun σ' H' hg => ?_)
  · refine ⟨_, rfl, _, _, rfl, rfl, (by show (0 : Int) < 2; decide), rfl, _, rfl, ite2 (fun _ => ?_) (fun _ => ?_)⟩
    · refine ⟨_, rfl, _, _, rfl, rfl, ⟨by decide, by decide⟩, _, _, rfl, rfl, (by show (0 : Int) < 9; decide), ?_⟩
      have md := mid (a := m2 / 2) (b := 9) (by decide)
      generalize hx : Str.ofString "(), aA1;\n" = x
      have hl : x.length = 9 := by rw [← hx]; decide +kernel
      have hcx : ∀ c ∈ x.cps.toList, c < 128 := by rw [← hx]; decide +kernel
      obtain ⟨c, e, hm'⟩ := sign_of (x := x) (i := m2 / 2 % 9) (by omega) (by rw [hl]; omega)
      exact ⟨x, _, _, rfl, rfl, sz (by omega), e, fin _ _ ⟨rfl, c, hcx c hm', rfl⟩⟩
    · exact fin _ _ ⟨rfl, c0, hc0, rfl⟩
  obtain ⟨rfl, c, hc, rfl⟩ := hg
  have md := mid (a := m1) (b := ((S x0).length : Int) + 1) (by omega)
  refine ⟨_, rfl, _, rfl, _, rfl, _, rfl, _, rfl, _, _, rfl, rfl, ⟨by decide, by decide⟩, S x0, _, _, rfl, hx0, (by omega), (by omega), fun kp hkp => ?_⟩
  refine ⟨_, rfl, S x0, _, _, c, rfl, hx0, hkp, fun z hz hzc => ?_⟩
  have hz2 : z.length ≤ 19999 := by omega
  have hz8 : ∀ d ∈ z.cps.toList, d < 16 ^ 8 := fun d hd => by
    rcases hzc d hd with h | h | h
    · rw [S_codes] at h
      exact Nat.lt_trans (h128 d h) (by decide)
    · rw [h]; decide
    · rw [h]; exact Nat.lt_trans hc (by decide)
  have hLX := lawX_rowX hm z.cps.toList
  refine ⟨_, rfl, z, rfl, hz2, fun hno H12 s12 => ?_, fun fs2 hfs2 v H12 s12 hF2 => ?_⟩
  · have hno' : rowX mk z.cps.toList = none := by rw [← hLX]; exact hno
    refine ⟨_, rfl, _, rfl, z, _, rfl, (by omega), hz8, .inl ⟨hno', rfl⟩, fun H13 s13 => ⟨_, rfl, iteF ?_⟩⟩
    refine ⟨_, rfl, rfl, _, rfl, iteT ?_⟩
    refine ⟨_, rfl, z, rfl, (by omega), hz8, hno', fun l14 H14 s14 hl14 => ?_⟩
    refine ⟨(by show 5 ≤ sizeLine; decide), fun l15 hl15 => ?_⟩
    exact ⟨Alike.bools (bs := [true, true, false, false, false]) (SqL.of (same_new hl15 _ _ _ hl14)) (SqL.of upd_same), q _⟩
  · have hfs2' : rowX mk z.cps.toList = some fs2 := by rw [← hLX]; exact hfs2
    obtain ⟨l12, ws, rfl, hl120, hl12, p12⟩ := hF2
    refine ⟨_, rfl, _, rfl, z, _, rfl, (by omega), hz8, .inr ⟨fs2, l12, ws, hfs2', rfl, hl12, p12⟩, fun H13 s13 => ⟨_, rfl, iteF ?_⟩⟩
    refine ⟨_, rfl, rfl, _, rfl, iteF ?_⟩
    refine ⟨_, rfl, z, rfl, (by omega), hz8, (fun hno => by rw [hfs2'] at hno; cases hno), fun fs3 hfs3 v3 H14 s14 hF3 => ?_⟩
    rw [hfs2'] at hfs3
    obtain rfl : fs2 = fs3 := Option.some.inj hfs3
    obtain ⟨l14, ws3, rfl, hl140, hl14, p14⟩ := hF3
    have sG := Same.trans s13 s14
    refine ⟨_, rfl, _, "list", _, true, rfl, .lst hl14, kit_self, _, rfl, iteT ?_⟩
    exact ⟨_, rfl, _, rfl, facts_alike (SqL.of hl14) p14 (SqL.of (sG _ _ hl12)) (paired_mono p12 fun _ _ _ => Fact.sm sG), q _⟩
end
end K03
namespace K03
open PySem L2 K02 Bk
open PySem.W (nsIn findIn keepIn mg_of isFn mroIn)
set_option maxHeartbeats 4000000
theorem kit_val {K : PySem.W.Frag} {C : Addr} (h : mroIn K C (.type "ValueError") = some true) : PySem.W.kitOne K (.ref C) (.type "ValueError") = some true := by
  unfold PySem.W.kitOne
  rw [if_neg (by simp)]
  show (if PySem.W.kitMeta "ValueError" = true then PySem.W.subIn K (.ref C) (.type "ValueError") else none) = _
  rw [if_pos (by decide +kernel)]
  exact h
theorem mk_list : (Str.ofString "(),").cps.toList = [40, 41, 44] := by decide +kernel
theorem mk_32 : 32 ∉ (Str.ofString "(),").cps.toList := by rw [mk_list]; decide
theorem mk_marks (c : Nat) : decide (c ∈ (Str.ofString "(),").cps.toList) = isMark c := by
  rw [mk_list]
  unfold isMark
  simp only [List.mem_cons, List.not_mem_nil, or_false, Bool.decide_or]
  rfl
theorem all_mk {l : PySem.W.OpenLaw} {w : World} {K : PySem.W.Frag} {h : Heap} {mg : Str → Option Value} {fa C_NoLine C_PoolError C_NoKind C_NoFact C_NoName f_0 f_1 f_2 f_3 f_4 f_5 f_6 f_7 f_8 f_9 f_10 f_11 f_12 f_13 f_14 f_15 f_16 f_17 f_18 f_19 f_20 f_21 f_22 f_23 f_24 f_25 f_26 f_27 f_28 f_29 : Addr} (X : K.In h) (G : h.Ns mainGlobals mg) (hfa : mg "law" = some (.ref fa))
    {d_is_name_sign d_is_name d_is_small_word d_name_end d_piece_at d_pieces d_arguments_at d_fact_at d_row_of_facts d_read_fact d_read_facts d_fact_text d__law_fact_text d_facts_text d__law_sort d__law_sign d__law_next d__law_spoiled d__law_place d__law_cell_at d__law_mix d__law_names d__law_titles d__law_opens d__law_words d__law_read d__law_refusal d__law_single d__law_row : FuncData} {od_law an_law : Option Addr} {sl_law : Array (Option Value)} {oc_law kV_law dc_law pm_law cd_law ct_law : Value}
    {t_GREAT t_SMALL t_FIGURES t_LONGEST t_MARKS : Tok}
    (aC_NoLine : nsIn K mainGlobals "NoLine" = some (some (.ref C_NoLine)))
    (aC_PoolError : nsIn K mainGlobals "PoolError" = some (some (.ref C_PoolError)))
    (aC_NoKind : nsIn K mainGlobals "NoKind" = some (some (.ref C_NoKind)))
    (aC_NoFact : nsIn K mainGlobals "NoFact" = some (some (.ref C_NoFact)))
    (aC_NoName : nsIn K mainGlobals "NoName" = some (some (.ref C_NoName)))
    (a_is_name_sign : nsIn K mainGlobals "is_name_sign" = some (some (.ref f_0)))
    (a_is_name : nsIn K mainGlobals "is_name" = some (some (.ref f_1)))
    (a_is_small_word : nsIn K mainGlobals "is_small_word" = some (some (.ref f_2)))
    (a_name_end : nsIn K mainGlobals "name_end" = some (some (.ref f_3)))
    (a_piece_at : nsIn K mainGlobals "piece_at" = some (some (.ref f_4)))
    (a_pieces : nsIn K mainGlobals "pieces" = some (some (.ref f_5)))
    (a_arguments_at : nsIn K mainGlobals "arguments_at" = some (some (.ref f_6)))
    (a_fact_at : nsIn K mainGlobals "fact_at" = some (some (.ref f_7)))
    (a_row_of_facts : nsIn K mainGlobals "row_of_facts" = some (some (.ref f_8)))
    (a_read_fact : nsIn K mainGlobals "read_fact" = some (some (.ref f_9)))
    (a_read_facts : nsIn K mainGlobals "read_facts" = some (some (.ref f_10)))
    (a_fact_text : nsIn K mainGlobals "fact_text" = some (some (.ref f_11)))
    (a__law_fact_text : nsIn K mainGlobals "_law_fact_text" = some (some (.ref f_12)))
    (a_facts_text : nsIn K mainGlobals "facts_text" = some (some (.ref f_13)))
    (a__law_sort : nsIn K mainGlobals "_law_sort" = some (some (.ref f_14)))
    (a__law_sign : nsIn K mainGlobals "_law_sign" = some (some (.ref f_15)))
    (a__law_next : nsIn K mainGlobals "_law_next" = some (some (.ref f_16)))
    (a__law_spoiled : nsIn K mainGlobals "_law_spoiled" = some (some (.ref f_17)))
    (a__law_place : nsIn K mainGlobals "_law_place" = some (some (.ref f_18)))
    (a__law_cell_at : nsIn K mainGlobals "_law_cell_at" = some (some (.ref f_19)))
    (a__law_mix : nsIn K mainGlobals "_law_mix" = some (some (.ref f_20)))
    (a__law_names : nsIn K mainGlobals "_law_names" = some (some (.ref f_21)))
    (a__law_titles : nsIn K mainGlobals "_law_titles" = some (some (.ref f_22)))
    (a__law_opens : nsIn K mainGlobals "_law_opens" = some (some (.ref f_23)))
    (a__law_words : nsIn K mainGlobals "_law_words" = some (some (.ref f_24)))
    (a__law_read : nsIn K mainGlobals "_law_read" = some (some (.ref f_25)))
    (a__law_refusal : nsIn K mainGlobals "_law_refusal" = some (some (.ref f_26)))
    (a__law_single : nsIn K mainGlobals "_law_single" = some (some (.ref f_27)))
    (a__law_row : nsIn K mainGlobals "_law_row" = some (some (.ref f_28)))
    (a_law : nsIn K mainGlobals "law" = some (some (.ref f_29)))
    (F_is_name_sign : Fun K "is_name_sign" "is_name_sign" s_is_name_sign f_0 d_is_name_sign)
    (F_is_name : Fun K "is_name" "is_name" s_is_name f_1 d_is_name)
    (F_is_small_word : Fun K "is_small_word" "is_small_word" s_is_small_word f_2 d_is_small_word)
    (F_name_end : Fun K "name_end" "name_end" s_name_end f_3 d_name_end)
    (F_piece_at : Fun K "piece_at" "piece_at" s_piece_at f_4 d_piece_at)
    (F_pieces : Fun K "pieces" "pieces" s_pieces f_5 d_pieces)
    (F_arguments_at : Fun K "arguments_at" "arguments_at" s_arguments_at f_6 d_arguments_at)
    (F_fact_at : Fun K "fact_at" "fact_at" s_fact_at f_7 d_fact_at)
    (F_row_of_facts : Fun K "row_of_facts" "row_of_facts" s_row_of_facts f_8 d_row_of_facts)
    (F_read_fact : Fun K "read_fact" "read_fact" s_read_fact f_9 d_read_fact)
    (F_read_facts : Fun K "read_facts" "read_facts" s_read_facts f_10 d_read_facts)
    (F_fact_text : Fun K "fact_text" "fact_text" s_fact_text f_11 d_fact_text)
    (F__law_fact_text : Fun K "_law_fact_text" "_law_fact_text" s__law_fact_text f_12 d__law_fact_text)
    (F_facts_text : Fun K "facts_text" "facts_text" s_facts_text f_13 d_facts_text)
    (F__law_sort : Fun K "_law_sort" "_law_sort" s__law_sort f_14 d__law_sort)
    (F__law_sign : Fun K "_law_sign" "_law_sign" s__law_sign f_15 d__law_sign)
    (F__law_next : Fun K "_law_next" "_law_next" s__law_next f_16 d__law_next)
    (F__law_spoiled : Fun K "_law_spoiled" "_law_spoiled" s__law_spoiled f_17 d__law_spoiled)
    (F__law_place : Fun K "_law_place" "_law_place" s__law_place f_18 d__law_place)
    (F__law_cell_at : Fun K "_law_cell_at" "_law_cell_at" s__law_cell_at f_19 d__law_cell_at)
    (F__law_mix : Fun K "_law_mix" "_law_mix" s__law_mix f_20 d__law_mix)
    (F__law_names : Fun K "_law_names" "_law_names" s__law_names f_21 d__law_names)
    (F__law_titles : Fun K "_law_titles" "_law_titles" s__law_titles f_22 d__law_titles)
    (F__law_opens : Fun K "_law_opens" "_law_opens" s__law_opens f_23 d__law_opens)
    (F__law_words : Fun K "_law_words" "_law_words" s__law_words f_24 d__law_words)
    (F__law_read : Fun K "_law_read" "_law_read" s__law_read f_25 d__law_read)
    (F__law_refusal : Fun K "_law_refusal" "_law_refusal" s__law_refusal f_26 d__law_refusal)
    (F__law_single : Fun K "_law_single" "_law_single" s__law_single f_27 d__law_single)
    (F__law_row : Fun K "_law_row" "_law_row" s__law_row f_28 d__law_row)
    (l_law : K.lookup f_29 = some ⟨oc_law, od_law, .func (PySem.W.fnOf "law" "law" (defArgs s_law) (defBody s_law) (defScope s_law) .none kV_law dc_law pm_law an_law cd_law ct_law), sl_law⟩)
    (c_law : PySem.W.codeIn K cd_law "law" = true)
    (k_law : keepIn K (.ref f_29) = true)
    (ic_NoFact : PySem.W.isClsIn K C_NoFact = true)
    (ty_NoFact : PySem.W.typeIn K (.ref C_NoFact) = some (.type "type"))
    (ms_NoFact : mroIn K C_NoFact (.ref C_NoFact) = some true)
    (ic_NoKind : PySem.W.isClsIn K C_NoKind = true)
    (ty_NoKind : PySem.W.typeIn K (.ref C_NoKind) = some (.type "type"))
    (ms_NoKind : mroIn K C_NoKind (.ref C_NoKind) = some true)
    (ic_NoName : PySem.W.isClsIn K C_NoName = true)
    (ty_NoName : PySem.W.typeIn K (.ref C_NoName) = some (.type "type"))
    (ms_NoName : mroIn K C_NoName (.ref C_NoName) = some true)
    (mr_NoLine_NoKind : mroIn K C_NoLine (.ref C_NoKind) = some false)
    (mr_NoLine_NoFact : mroIn K C_NoLine (.ref C_NoFact) = some false)
    (mr_NoLine_NoName : mroIn K C_NoLine (.ref C_NoName) = some false)
    (g_GREAT : nsIn K mainGlobals "GREAT" = some (some (.str aGreat t_GREAT)))
    (g_SMALL : nsIn K mainGlobals "SMALL" = some (some (.str aSmall t_SMALL)))
    (g_FIGURES : nsIn K mainGlobals "FIGURES" = some (some (.str aFig t_FIGURES)))
    (g_LONGEST : nsIn K mainGlobals "LONGEST" = some (some (.int 12 t_LONGEST)))
    (g_MARKS : nsIn K mainGlobals "MARKS" = some (some (.str (Str.ofString "(),") t_MARKS)))
    (z_ValueError : nsIn K mainGlobals "ValueError" = some none)
    (z_all : nsIn K mainGlobals "all" = some none)
    (z_isinstance : nsIn K mainGlobals "isinstance" = some none)
    (z_len : nsIn K mainGlobals "len" = some none)
    (z_list : nsIn K mainGlobals "list" = some none)
    (z_max : nsIn K mainGlobals "max" = some none)
    (z_range : nsIn K mainGlobals "range" = some none)
    (z_str : nsIn K mainGlobals "str" = some none)
    (z_tuple : nsIn K mainGlobals "tuple" = some none)
    (x_NoLine : PySem.W.excIn K C_NoLine bmV newV = true)
    (x11 : PySem.W.exmOne K (.ref C_NoLine) (.ref C_PoolError) = some true)
    (e_ga : findIn K (.ref C_NoLine) "__getattribute__" = some (some (.builtin "BaseException.__getattribute__")))
    (e_gt : findIn K (.ref C_NoLine) "__getattr__" = some none)
    (e_cl : findIn K (.ref C_NoLine) "__class__" = some (some (.builtin "object.__class__")))
    (e_hn : PySem.W.specialIn K (.builtin "object.__class__") "__get__" = some (some (.builtin "getset_descriptor.__get__")))
    (e_hs : PySem.W.specialIn K (.builtin "object.__class__") "__set__" = some (some (.builtin "getset_descriptor.__set__")))
    (e_mo : mroIn K C_NoLine (.type "object") = some true)
    (e_mb : mroIn K C_NoLine (.type "BaseException") = some true)
    (e_ic : PySem.W.isClsIn K C_NoLine = true)
    (e_mv : mroIn K C_NoLine (.type "ValueError") = some true)
    : ∃ fd : FuncData, (∀ (s : Shared) (v : Value), BindsTo s fd ⟨[v], []⟩ [("_law_script", v)]) ∧ ∀ base : Heap, K.In base → base.Ns mainGlobals mg → FnOk l.prog w K mg base (CXE l.prog w) 8 fa fd ["_law_script"] (spLaw K) := by
  have e := hfa.symm.trans (mg_of X G a_law)
  cases e
  have b_is_name_sign := F_is_name_sign.binds (ps := ["sign"]) fun _ _ _ _ _ _ us hl => match us, hl with | [_], _ => rfl
  have M_is_name_sign := mg_of X G a_is_name_sign
  have b_is_name := F_is_name.binds (ps := ["text"]) fun _ _ _ _ _ _ us hl => match us, hl with | [_], _ => rfl
  have M_is_name := mg_of X G a_is_name
  have b_is_small_word := F_is_small_word.binds (ps := ["text"]) fun _ _ _ _ _ _ us hl => match us, hl with | [_], _ => rfl
  have M_is_small_word := mg_of X G a_is_small_word
  have b_name_end := F_name_end.binds (ps := ["text", "start"]) fun _ _ _ _ _ _ us hl => match us, hl with | [_, _], _ => rfl
  have M_name_end := mg_of X G a_name_end
  have b_piece_at := F_piece_at.binds (ps := ["found", "place"]) fun _ _ _ _ _ _ us hl => match us, hl with | [_, _], _ => rfl
  have M_piece_at := mg_of X G a_piece_at
  have b_pieces := F_pieces.binds (ps := ["text", "marks"]) fun _ _ _ _ _ _ us hl => match us, hl with | [_, _], _ => rfl
  have M_pieces := mg_of X G a_pieces
  have b_arguments_at := F_arguments_at.binds (ps := ["found", "place"]) fun _ _ _ _ _ _ us hl => match us, hl with | [_, _], _ => rfl
  have M_arguments_at := mg_of X G a_arguments_at
  have b_fact_at := F_fact_at.binds (ps := ["found", "place"]) fun _ _ _ _ _ _ us hl => match us, hl with | [_, _], _ => rfl
  have M_fact_at := mg_of X G a_fact_at
  have b_row_of_facts := F_row_of_facts.binds (ps := ["found"]) fun _ _ _ _ _ _ us hl => match us, hl with | [_], _ => rfl
  have M_row_of_facts := mg_of X G a_row_of_facts
  have b_read_fact := F_read_fact.binds (ps := ["text"]) fun _ _ _ _ _ _ us hl => match us, hl with | [_], _ => rfl
  have M_read_fact := mg_of X G a_read_fact
  have b_read_facts := F_read_facts.binds (ps := ["text"]) fun _ _ _ _ _ _ us hl => match us, hl with | [_], _ => rfl
  have M_read_facts := mg_of X G a_read_facts
  have b_fact_text := F_fact_text.binds (ps := ["fact"]) fun _ _ _ _ _ _ us hl => match us, hl with | [_], _ => rfl
  have M_fact_text := mg_of X G a_fact_text
  have b__law_fact_text := F__law_fact_text.binds (ps := ["_law_fact"]) fun _ _ _ _ _ _ us hl => match us, hl with | [_], _ => rfl
  have M__law_fact_text := mg_of X G a__law_fact_text
  have b_facts_text := F_facts_text.binds (ps := ["facts"]) fun _ _ _ _ _ _ us hl => match us, hl with | [_], _ => rfl
  have M_facts_text := mg_of X G a_facts_text
  have b__law_sort := F__law_sort.binds (ps := ["_law_sign_here"]) fun _ _ _ _ _ _ us hl => match us, hl with | [_], _ => rfl
  have M__law_sort := mg_of X G a__law_sort
  have b__law_sign := F__law_sign.binds (ps := ["_law_cell"]) fun _ _ _ _ _ _ us hl => match us, hl with | [_], _ => rfl
  have M__law_sign := mg_of X G a__law_sign
  have b__law_next := F__law_next.binds (ps := ["_law_state", "_law_sort_here"]) fun _ _ _ _ _ _ us hl => match us, hl with | [_, _], _ => rfl
  have M__law_next := mg_of X G a__law_next
  have b__law_spoiled := F__law_spoiled.binds (ps := ["_law_text", "_law_way", "_law_at", "_law_sign_here"]) fun _ _ _ _ _ _ us hl => match us, hl with | [_, _, _, _], _ => rfl
  have M__law_spoiled := mg_of X G a__law_spoiled
  have b__law_place := F__law_place.binds (ps := ["_law_text", "_law_at", "_law_number"]) fun _ _ _ _ _ _ us hl => match us, hl with | [_, _, _], _ => rfl
  have M__law_place := mg_of X G a__law_place
  have b__law_cell_at := F__law_cell_at.binds (ps := ["_law_script", "_law_k"]) fun _ _ _ _ _ _ us hl => match us, hl with | [_, _], _ => rfl
  have M__law_cell_at := mg_of X G a__law_cell_at
  have b__law_mix := F__law_mix.binds (ps := ["_law_cell", "_law_k"]) fun _ _ _ _ _ _ us hl => match us, hl with | [_, _], _ => rfl
  have M__law_mix := mg_of X G a__law_mix
  have b__law_names := F__law_names.binds (ps := ["_law_cell", "_law_many", "_law_firsts"]) fun _ _ _ _ _ _ us hl => match us, hl with | [_, _, _], _ => rfl
  have M__law_names := mg_of X G a__law_names
  have b__law_titles := F__law_titles.binds (ps := ["_law_cell", "_law_many"]) fun _ _ _ _ _ _ us hl => match us, hl with | [_, _], _ => rfl
  have M__law_titles := mg_of X G a__law_titles
  have b__law_opens := F__law_opens.binds (ps := ["_law_cell", "_law_many"]) fun _ _ _ _ _ _ us hl => match us, hl with | [_, _], _ => rfl
  have M__law_opens := mg_of X G a__law_opens
  have b__law_words := F__law_words.binds (ps := ["_law_cell", "_law_many"]) fun _ _ _ _ _ _ us hl => match us, hl with | [_, _], _ => rfl
  have M__law_words := mg_of X G a__law_words
  have b__law_read := F__law_read.binds (ps := ["_law_text"]) fun _ _ _ _ _ _ us hl => match us, hl with | [_], _ => rfl
  have M__law_read := mg_of X G a__law_read
  have b__law_refusal := F__law_refusal.binds (ps := ["_law_text"]) fun _ _ _ _ _ _ us hl => match us, hl with | [_], _ => rfl
  have M__law_refusal := mg_of X G a__law_refusal
  have b__law_single := F__law_single.binds (ps := ["_law_text", "_law_due"]) fun _ _ _ _ _ _ us hl => match us, hl with | [_, _], _ => rfl
  have M__law_single := mg_of X G a__law_single
  have b__law_row := F__law_row.binds (ps := ["_law_script"]) fun _ _ _ _ _ _ us hl => match us, hl with | [_], _ => rfl
  have M__law_row := mg_of X G a__law_row
  have F_law := fun_mk (st := s_law) l_law c_law k_law
  have M_law := mg_of X G a_law
  have kit_NoLine_NoKind := kit_of ic_NoKind ty_NoKind ms_NoKind mr_NoLine_NoKind
  have kit_NoLine_NoFact := kit_of ic_NoFact ty_NoFact ms_NoFact mr_NoLine_NoFact
  have kit_NoLine_NoName := kit_of ic_NoName ty_NoName ms_NoName mr_NoLine_NoName
  have MC_NoLine := mg_of X G aC_NoLine
  have MC_PoolError := mg_of X G aC_PoolError
  have MC_NoKind := mg_of X G aC_NoKind
  have MC_NoFact := mg_of X G aC_NoFact
  have MC_NoName := mg_of X G aC_NoName
  have Z_ValueError := PySem.W.mg_none_of X G z_ValueError
  have Z_all := PySem.W.mg_none_of X G z_all
  have Z_isinstance := PySem.W.mg_none_of X G z_isinstance
  have Z_len := PySem.W.mg_none_of X G z_len
  have Z_list := PySem.W.mg_none_of X G z_list
  have Z_max := PySem.W.mg_none_of X G z_max
  have Z_range := PySem.W.mg_none_of X G z_range
  have Z_str := PySem.W.mg_none_of X G z_str
  have Z_tuple := PySem.W.mg_none_of X G z_tuple
  have G_GREAT := mg_of X G g_GREAT
  have G_SMALL := mg_of X G g_SMALL
  have G_FIGURES := mg_of X G g_FIGURES
  have G_LONGEST := mg_of X G g_LONGEST
  have G_MARKS := mg_of X G g_MARKS
  refine ⟨PySem.W.fnOf "law" "law" (defArgs s_law) (defBody s_law) (defScope s_law) .none kV_law dc_law pm_law an_law cd_law ct_law, fun s v => .of_eq rfl, fun base _ _ => ?_⟩
  have exk : PySem.W.ExcKit K C_NoLine := ⟨e_ga, e_gt, e_cl, e_hn, e_hs, e_mo, e_mb, e_ic⟩
  have kV := kit_val e_mv
  have c_is_name_sign : Cal l.prog w K mg base "is_name_sign" 1 ["sign"] spSign := ⟨_, _, ok_is_name_sign F_is_name_sign G_SMALL ⟨t_SMALL, rfl⟩ G_GREAT ⟨t_GREAT, rfl⟩ G_FIGURES ⟨t_FIGURES, rfl⟩, b_is_name_sign, F_is_name_sign.2, M_is_name_sign⟩
  have c_is_name : Cal l.prog w K mg base "is_name" 2 ["text"] (spBl nameB) := ⟨_, _, ok_is_name F_is_name c_is_name_sign Z_len Z_all G_LONGEST ⟨t_LONGEST, rfl⟩, b_is_name, F_is_name.2, M_is_name⟩
  have c_is_small_word : Cal l.prog w K mg base "is_small_word" 3 ["text"] (spBl smallB) := ⟨_, _, ok_is_small_word F_is_small_word c_is_name G_SMALL ⟨t_SMALL, rfl⟩, b_is_small_word, F_is_small_word.2, M_is_small_word⟩
  have c_name_end : Cal l.prog w K mg base "name_end" 2 ["text", "start"] spEnd := ⟨_, _, ok_name_end F_name_end c_is_name_sign Z_len, b_name_end, F_name_end.2, M_name_end⟩
  have c_piece_at : Cal l.prog w K mg base "piece_at" 1 ["found", "place"] spPiece := ⟨_, _, ok_piece_at F_piece_at Z_len, b_piece_at, F_piece_at.2, M_piece_at⟩
  have c_pieces : CalE l.prog w K mg base "pieces" 3 ["text", "marks"] (spPiecesE C_NoLine) := ⟨_, _, ok_pieces F_pieces c_name_end Z_len MC_NoLine x_NoLine, b_pieces, F_pieces.2, M_pieces⟩
  have c_arguments_at : CalE l.prog w K mg base "arguments_at" 3 ["found", "place"] (spArgsE C_NoLine) := ⟨_, _, ok_arguments_at F_arguments_at c_piece_at c_is_name Z_tuple MC_NoLine x_NoLine, b_arguments_at, F_arguments_at.2, M_arguments_at⟩
  have c_fact_at : CalE l.prog w K mg base "fact_at" 4 ["found", "place"] (spFactE C_NoLine) := ⟨_, _, ok_fact_at F_fact_at c_piece_at c_is_small_word c_arguments_at MC_NoLine x_NoLine, b_fact_at, F_fact_at.2, M_fact_at⟩
  have c_row_of_facts : CalE l.prog w K mg base "row_of_facts" 5 ["found"] (spRowE K C_NoLine) := ⟨_, _, ok_row_of_facts F_row_of_facts c_fact_at Z_len MC_NoLine x_NoLine, b_row_of_facts, F_row_of_facts.2, M_row_of_facts⟩
  have c_read_fact : CalE l.prog w K mg base "read_fact" 5 ["text"] (spReadF K C_NoLine (Str.ofString "(),")) := ⟨_, _, ok_read_fact F_read_fact c_pieces c_fact_at Z_len G_MARKS ⟨t_MARKS, rfl⟩ mk_32 MC_NoLine x_NoLine, b_read_fact, F_read_fact.2, M_read_fact⟩
  have c_read_facts : CalE l.prog w K mg base "read_facts" 6 ["text"] (spReadR K C_NoLine (Str.ofString "(),")) := ⟨_, _, ok_read_facts F_read_facts c_pieces c_row_of_facts Z_len G_MARKS ⟨t_MARKS, rfl⟩ mk_32, b_read_facts, F_read_facts.2, M_read_facts⟩
  have c_fact_text : Cal l.prog w K mg base "fact_text" 1 ["fact"] (spFT3 K) := ⟨_, _, ok_fact_text F_fact_text Z_len, b_fact_text, F_fact_text.2, M_fact_text⟩
  have c__law_fact_text : Cal l.prog w K mg base "_law_fact_text" 1 ["_law_fact"] (spFT3 K) := ⟨_, _, ok__law_fact_text F__law_fact_text Z_len, b__law_fact_text, F__law_fact_text.2, M__law_fact_text⟩
  have c_facts_text : Cal l.prog w K mg base "facts_text" 2 ["facts"] (spFsT K) := ⟨_, _, ok_facts_text F_facts_text c_fact_text, b_facts_text, F_facts_text.2, M_facts_text⟩
  have c__law_sort : Cal l.prog w K mg base "_law_sort" 1 ["_law_sign_here"] spSort := ⟨_, _, ok__law_sort F__law_sort, b__law_sort, F__law_sort.2, M__law_sort⟩
  have c__law_sign : Cal l.prog w K mg base "_law_sign" 1 ["_law_cell"] spSignL := ⟨_, _, ok__law_sign F__law_sign, b__law_sign, F__law_sign.2, M__law_sign⟩
  have c__law_next : Cal l.prog w K mg base "_law_next" 1 ["_law_state", "_law_sort_here"] spNext := ⟨_, _, ok__law_next F__law_next, b__law_next, F__law_next.2, M__law_next⟩
  have c__law_spoiled : Cal l.prog w K mg base "_law_spoiled" 1 ["_law_text", "_law_way", "_law_at", "_law_sign_here"] spSpoil := ⟨_, _, ok__law_spoiled F__law_spoiled, b__law_spoiled, F__law_spoiled.2, M__law_spoiled⟩
  have c__law_place : Cal l.prog w K mg base "_law_place" 1 ["_law_text", "_law_at", "_law_number"] spPlaceL := ⟨_, _, ok__law_place F__law_place Z_len Z_range, b__law_place, F__law_place.2, M__law_place⟩
  have c__law_cell_at : Cal l.prog w K mg base "_law_cell_at" 1 ["_law_script", "_law_k"] (spCell K) := ⟨_, _, ok__law_cell_at F__law_cell_at Z_len, b__law_cell_at, F__law_cell_at.2, M__law_cell_at⟩
  have c__law_mix : Cal l.prog w K mg base "_law_mix" 1 ["_law_cell", "_law_k"] spMix := ⟨_, _, ok__law_mix F__law_mix, b__law_mix, F__law_mix.2, M__law_mix⟩
  have c__law_names : Cal l.prog w K mg base "_law_names" 2 ["_law_cell", "_law_many", "_law_firsts"] spNames := ⟨_, _, ok__law_names F__law_names c__law_mix Z_len Z_range, b__law_names, F__law_names.2, M__law_names⟩
  have c__law_titles : Cal l.prog w K mg base "_law_titles" 3 ["_law_cell", "_law_many"] (spSome aSmall.cps.toList) := ⟨_, _, ok__law_titles F__law_titles c__law_names, b__law_titles, F__law_titles.2, M__law_titles⟩
  have c__law_opens : Cal l.prog w K mg base "_law_opens" 3 ["_law_cell", "_law_many"] (spSome aGreat.cps.toList) := ⟨_, _, ok__law_opens F__law_opens c__law_names, b__law_opens, F__law_opens.2, M__law_opens⟩
  have c__law_words : Cal l.prog w K mg base "_law_words" 3 ["_law_cell", "_law_many"] (spSome aSF.cps.toList) := ⟨_, _, ok__law_words F__law_words c__law_names, b__law_words, F__law_words.2, M__law_words⟩
  have c__law_read : Cal l.prog w K mg base "_law_read" 2 ["_law_text"] (spReadL K) := ⟨_, _, ok__law_read F__law_read c__law_sort c__law_next Z_len Z_max Z_tuple, b__law_read, F__law_read.2, M__law_read⟩
  have c__law_refusal : Cal l.prog w K mg base "_law_refusal" 7 ["_law_text"] (spRefu (Str.ofString "(),")) := ⟨_, _, ok__law_refusal F__law_refusal c_read_facts Z_isinstance Z_ValueError MC_PoolError MC_NoLine MC_NoKind MC_NoFact MC_NoName x11 exk kit_self kV kit_NoLine_NoKind kit_NoLine_NoFact kit_NoLine_NoName, b__law_refusal, F__law_refusal.2, M__law_refusal⟩
  have c__law_single : Cal l.prog w K mg base "_law_single" 6 ["_law_text", "_law_due"] (spSingle K (Str.ofString "(),")) := ⟨_, _, ok__law_single F__law_single c_read_fact Z_isinstance Z_len Z_tuple Z_ValueError MC_PoolError MC_NoLine x11 exk kit_self kV, b__law_single, F__law_single.2, M__law_single⟩
  have c__law_row : Cal l.prog w K mg base "_law_row" 4 ["_law_script"] (spRowD K) := ⟨_, _, ok__law_row F__law_row c__law_cell_at c__law_mix c__law_titles c__law_opens c__law_words Z_range Z_tuple, b__law_row, F__law_row.2, M__law_row⟩
  exact ok_law F_law mk_marks c__law_row c__law_fact_text c_facts_text c_read_facts c__law_cell_at c__law_mix c__law_sign c__law_spoiled c__law_place c__law_read c__law_single c__law_refusal Z_len Z_list Z_tuple Z_str Z_isinstance
theorem walk {l : PySem.W.OpenLaw} {q : Program} {loose : List Str} {XP : (Str → Option Value) → Heap → Prop} {YP : World → Heap → Prop} {d : DefRec} {K : Params → PySem.W.Frag} (hn : l.most = some 63) (hdf : d.params.defaults = [])
    (hY : ∀ (w : World) (h : Heap), YP w h → (K w.params).In h)
    (F : ∀ (w : World) (mg : Str → Option Value) (fa : Addr) (h : Heap), (K w.params).In h → h.Ns mainGlobals mg → mg d.name = some (.ref fa) →
      ∃ fd : FuncData, (∀ (s : Shared) (u : Value), BindsTo s fd ⟨[u], []⟩ [("_law_script", u)]) ∧ ∀ base : Heap, (K w.params).In base → base.Ns mainGlobals mg → FnOk l.prog w (K w.params) mg base (CXE l.prog w) 8 fa fd ["_law_script"] (spLaw (K w.params))) :
    PySem.W.WalkO q loose XP YP l.row.toRowW d [] (fun f vs => PySem.call f vs) :=
  L2.walk_of (n := 63) (k := 8) (x := "_law_script") (CX := fun w => CXE l.prog w) (sp := fun w => spLaw (K w.params)) hn (by decide) hdf ⟨rfl, by decide, by decide, rfl⟩ hY F (fun _ _ a ns hl _ hS => ⟨a, ns, rfl, hS, hl, fun _ => rfl⟩) fun _ _ _ _ _ z => by obtain ⟨_, _, _, _, _, z⟩ := z; exact z
end K03
open PySem PySem.W PyProof.Rows
def PySem.W.Fast.tw7457945390499300644 : Nat := 0
def PySem.W.Fast.tw6106939656331562322 : Nat := 0
def PySem.W.Fast.tw1009690893340117329 : Nat := 0
def PySem.W.Fast.tw15219037629651661558 : Nat := 0
def PySem.W.Fast.tw8820406061563249518 : Nat := 0
def PySem.W.Fast.tw2018442014205550541 : Nat := 0
def PySem.W.Fast.tw3125694411889895202 : Nat := 0
def PySem.W.Fast.tw14116185360937664891 : Nat := 0
def PySem.W.Fast.tw3836299772926758351 : Nat := 0
def PySem.W.Fast.tw12082714927981863603 : Nat := 0
def PySem.W.Fast.tw7080291178825177088 : Nat := 0
def PySem.W.Fast.tw13979807958486879858 : Nat := 0
def PySem.W.Fast.tw4406487371578753558 : Nat := 0
def PySem.W.Fast.tw10764124968358173700 : Nat := 0
def PySem.W.Fast.tw17755358762609879861 : Nat := 0
def PySem.W.Fast.tw10970262957413784424 : Nat := 0
def PySem.W.Fast.tw2915457878302849390 : Nat := 0
def PySem.W.Fast.tw12089025430399994759 : Nat := 0
def PySem.W.Fast.tw3043544128904562904 : Nat := 0
def PySem.W.Fast.tw18170754625133848965 : Nat := 0
def PySem.W.Fast.tw2003182774456500033 : Nat := 0
def PySem.W.Fast.tw17859915326356062383 : Nat := 0
def PySem.W.Fast.tw3358638503042640595 : Nat := 0
def PySem.W.Fast.tw4075622798142677511 : Nat := 0
def PySem.W.Fast.tw3584051151990892373 : Nat := 0
def PySem.W.Fast.tw6659649787343529869 : Nat := 0
def PySem.W.Fast.tw15744427909509759958 : Nat := 0
def PySem.W.Fast.tw16874767334100630861 : Nat := 0
def PySem.W.Fast.tw15704810318146192011 : Nat := 0
def PySem.W.Fast.tw6946998637430078881 : Nat := 0
def PySem.W.Fast.tw8315607705460388753 : Nat := 0
def PySem.W.Fast.tw17135216345140931267 : Nat := 0
def PySem.W.Fast.tw14518762694818561479 : Nat := 0
def PySem.W.Fast.tw13429627224336721734 : Nat := 0
def PySem.W.Fast.tw4565744344777722757 : Nat := 0
def PySem.W.Fast.tw6143714195556504778 : Nat := 0
def PySem.W.Fast.tw12235062963263671532 : Nat := 0
def PySem.W.Fast.tw1904589303491766651 : Nat := 0
def PySem.W.Fast.tw12845437765838986171 : Nat := 0
def PySem.W.Fast.tw3870061648442300487 : Nat := 0
def PySem.W.Fast.tw13105124540301137930 : Nat := 0
def PySem.W.Fast.tw597782609367794654 : Nat := 0
def PySem.W.Fast.tw8712484132902183968 : Nat := 0
def PySem.W.Fast.tw4773457256210249837 : Nat := 0
def PySem.W.Fast.tw2216797618523023957 : Nat := 0
def PySem.W.Fast.tw15044878575342474614 : Nat := 0
def PySem.W.Fast.tw3961750536381418024 : Nat := 0
def PySem.W.Fast.tw14092819820582684551 : Nat := 0
def PySem.W.Fast.tw9169417186354107737 : Nat := 0
def PySem.W.Fast.tw17446228116686458578 : Nat := 0
def PySem.W.Fast.tw14922905014157258056 : Nat := 0
def PySem.W.Fast.tw15314859593934006253 : Nat := 0
def PySem.W.Fast.tw2285897908240733544 : Nat := 0
def PySem.W.Fast.tw17566154636119250626 : Nat := 0
set_option maxRecDepth 100000 in
set_option maxHeartbeats 0 in
theorem PySem.Challenge.cw_poolrules_k03_rows_of_facts_read_holds : PySem.Challenge.rw_poolrules_k03_rows_of_facts_read.Holds := by
  w_on; o_law; k_head; (case hw => w_witness2)
  k_fill
  refine K03.walk (l := PySem.Challenge.rw_poolrules_k03_rows_of_facts_read) rfl rfl (fun w h Y => PySem.W.kIn_of Y) ?F
  case F =>
    intro w mg fa h KX G hmg
    refine' K03.all_mk KX G hmg ?aC_NoLine ?aC_PoolError ?aC_NoKind ?aC_NoFact ?aC_NoName ?a_is_name_sign ?a_is_name ?a_is_small_word ?a_name_end ?a_piece_at ?a_pieces ?a_arguments_at ?a_fact_at ?a_row_of_facts ?a_read_fact ?a_read_facts ?a_fact_text ?a__law_fact_text ?a_facts_text ?a__law_sort ?a__law_sign ?a__law_next ?a__law_spoiled ?a__law_place ?a__law_cell_at ?a__law_mix ?a__law_names ?a__law_titles ?a__law_opens ?a__law_words ?a__law_read ?a__law_refusal ?a__law_single ?a__law_row ?a_law ?F_is_name_sign ?F_is_name ?F_is_small_word ?F_name_end ?F_piece_at ?F_pieces ?F_arguments_at ?F_fact_at ?F_row_of_facts ?F_read_fact ?F_read_facts ?F_fact_text ?F__law_fact_text ?F_facts_text ?F__law_sort ?F__law_sign ?F__law_next ?F__law_spoiled ?F__law_place ?F__law_cell_at ?F__law_mix ?F__law_names ?F__law_titles ?F__law_opens ?F__law_words ?F__law_read ?F__law_refusal ?F__law_single ?F__law_row ?l_law ?c_law ?k_law ?ic_NoFact ?ty_NoFact ?ms_NoFact ?ic_NoKind ?ty_NoKind ?ms_NoKind ?ic_NoName ?ty_NoName ?ms_NoName ?mr_NoLine_NoKind ?mr_NoLine_NoFact ?mr_NoLine_NoName ?g_GREAT ?g_SMALL ?g_FIGURES ?g_LONGEST ?g_MARKS ?z_ValueError ?z_all ?z_isinstance ?z_len ?z_list ?z_max ?z_range ?z_str ?z_tuple ?x_NoLine ?x11 ?e_ga ?e_gt ?e_cl ?e_hn ?e_hs ?e_mo ?e_mb ?e_ic ?e_mv
    (case aC_NoLine => k_is)
    (case aC_PoolError => k_is)
    (case aC_NoKind => k_is)
    (case aC_NoFact => k_is)
    (case aC_NoName => k_is)
    (case a_is_name_sign => k_is)
    (case a_is_name => k_is)
    (case a_is_small_word => k_is)
    (case a_name_end => k_is)
    (case a_piece_at => k_is)
    (case a_pieces => k_is)
    (case a_arguments_at => k_is)
    (case a_fact_at => k_is)
    (case a_row_of_facts => k_is)
    (case a_read_fact => k_is)
    (case a_read_facts => k_is)
    (case a_fact_text => k_is)
    (case a__law_fact_text => k_is)
    (case a_facts_text => k_is)
    (case a__law_sort => k_is)
    (case a__law_sign => k_is)
    (case a__law_next => k_is)
    (case a__law_spoiled => k_is)
    (case a__law_place => k_is)
    (case a__law_cell_at => k_is)
    (case a__law_mix => k_is)
    (case a__law_names => k_is)
    (case a__law_titles => k_is)
    (case a__law_opens => k_is)
    (case a__law_words => k_is)
    (case a__law_read => k_is)
    (case a__law_refusal => k_is)
    (case a__law_single => k_is)
    (case a__law_row => k_is)
    (case a_law => k_is)
    (case F_is_name_sign => exact L2.fun_mk (by k_is) (by k_is) (by k_is))
    (case F_is_name => exact L2.fun_mk (by k_is) (by k_is) (by k_is))
    (case F_is_small_word => exact L2.fun_mk (by k_is) (by k_is) (by k_is))
    (case F_name_end => exact L2.fun_mk (by k_is) (by k_is) (by k_is))
    (case F_piece_at => exact L2.fun_mk (by k_is) (by k_is) (by k_is))
    (case F_pieces => exact L2.fun_mk (by k_is) (by k_is) (by k_is))
    (case F_arguments_at => exact L2.fun_mk (by k_is) (by k_is) (by k_is))
    (case F_fact_at => exact L2.fun_mk (by k_is) (by k_is) (by k_is))
    (case F_row_of_facts => exact L2.fun_mk (by k_is) (by k_is) (by k_is))
    (case F_read_fact => exact L2.fun_mk (by k_is) (by k_is) (by k_is))
    (case F_read_facts => exact L2.fun_mk (by k_is) (by k_is) (by k_is))
    (case F_fact_text => exact L2.fun_mk (by k_is) (by k_is) (by k_is))
    (case F__law_fact_text => exact L2.fun_mk (by k_is) (by k_is) (by k_is))
    (case F_facts_text => exact L2.fun_mk (by k_is) (by k_is) (by k_is))
    (case F__law_sort => exact L2.fun_mk (by k_is) (by k_is) (by k_is))
    (case F__law_sign => exact L2.fun_mk (by k_is) (by k_is) (by k_is))
    (case F__law_next => exact L2.fun_mk (by k_is) (by k_is) (by k_is))
    (case F__law_spoiled => exact L2.fun_mk (by k_is) (by k_is) (by k_is))
    (case F__law_place => exact L2.fun_mk (by k_is) (by k_is) (by k_is))
    (case F__law_cell_at => exact L2.fun_mk (by k_is) (by k_is) (by k_is))
    (case F__law_mix => exact L2.fun_mk (by k_is) (by k_is) (by k_is))
    (case F__law_names => exact L2.fun_mk (by k_is) (by k_is) (by k_is))
    (case F__law_titles => exact L2.fun_mk (by k_is) (by k_is) (by k_is))
    (case F__law_opens => exact L2.fun_mk (by k_is) (by k_is) (by k_is))
    (case F__law_words => exact L2.fun_mk (by k_is) (by k_is) (by k_is))
    (case F__law_read => exact L2.fun_mk (by k_is) (by k_is) (by k_is))
    (case F__law_refusal => exact L2.fun_mk (by k_is) (by k_is) (by k_is))
    (case F__law_single => exact L2.fun_mk (by k_is) (by k_is) (by k_is))
    (case F__law_row => exact L2.fun_mk (by k_is) (by k_is) (by k_is))
    (case l_law => k_is)
    (case c_law => k_is)
    (case k_law => k_is)
    (case ic_NoFact => k_is)
    (case ty_NoFact => k_is)
    (case ms_NoFact => k_is)
    (case ic_NoKind => k_is)
    (case ty_NoKind => k_is)
    (case ms_NoKind => k_is)
    (case ic_NoName => k_is)
    (case ty_NoName => k_is)
    (case ms_NoName => k_is)
    (case mr_NoLine_NoKind => k_is)
    (case mr_NoLine_NoFact => k_is)
    (case mr_NoLine_NoName => k_is)
    (case g_GREAT => k_is)
    (case g_SMALL => k_is)
    (case g_FIGURES => k_is)
    (case g_LONGEST => k_is)
    (case g_MARKS => k_is)
    (case z_ValueError => k_is)
    (case z_all => k_is)
    (case z_isinstance => k_is)
    (case z_len => k_is)
    (case z_list => k_is)
    (case z_max => k_is)
    (case z_range => k_is)
    (case z_str => k_is)
    (case z_tuple => k_is)
    (case x_NoLine => k_exc)
    (case x11 => kts_exm)
    (case e_ga => k_is)
    (case e_gt => k_is)
    (case e_cl => k_is)
    (case e_hn => k_is)
    (case e_hs => k_is)
    (case e_mo => k_is)
    (case e_mb => k_is)
    (case e_ic => k_is)
    (case e_mv => k_is)
