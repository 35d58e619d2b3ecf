import PyProof.Rows.All
import Wide.All
import OpenK.AllK
import Wide.FinOn
import Lean
import PyProof.EqAt
import PyProof.EqKinds
import PyProof.TupleCall
import KE.KIntText
import KE.KDictList
import KE.KDictOf
import PyProof.AttrMissHeap
import PyProof.DictUpdate
import PyProof.ToksMono
import PyProof.NeKinds
import PyProof.EnumFor
import PyProof.EnumStmt
import PyProof.EnumMake
import KE.KRevIter
import PyProof.StrOps2
import PyProof.ZipIter
import PyProof.SumWalkG
import KE.KMinKey
import KE.KTryMore
import KE.KSortAsk
import KE.KSortTup
import KE.KDictLaws
import KE.KItemsList
import KE.RegKTryMore
import KE.KIsNot
import PyProof.WalkInts
import PyProof.SeqI3
import PySem.Challenge.RW_poolrules_k10_a_rule_and_its_fields
set_option Elab.async false
set_option linter.all false
set_option maxRecDepth 100000
open PySem.W renaming Frag->aaa,mg_none_of->abi,kia_one->abq,emptyDict->abx,kitOne->abC,findIn->abF,plainGet->abL,hasDictIn->abN,instObj->abP,fnOf->abS,plainOver->abX,keepIn->ab5,callWith_K->ab9,makesIn->aca,methodCall_KW->acb,cellsFrom_some->acD,codeIn->acL,plainGet_of->acY,lookIn->adj,typeIn->adk,methodObj->adn,takerIn->adL,OpenLaw->adO,isClsIn->adP,callWith_K0->ad3,mroIn->aej,codeRec_of->aek,mg_of->aep,specialIn->aer,kitx_list->aes,kitx_dict->aet,isFn->aey,nsIn->aeB,handedIn->aeC
open PySem.Str renaming ofString->aab,join->aci,empty->aei,length->aeu
open List renaming length_append->aac,mem_append_right->aae,length_cons->aag,getElem?_eq_some_iff->aaj,mem_singleton->aak,mem_cons_of_mem->aal,map_append->aan,mem_cons_self->aao,take_succ_eq_append_getElem->aap,getElem_mem->aaq,getElem_map->aas,mem_map->aat,mem_append->aax,mem_append_left->aay,size_toArray->aaB,mem_cons->aaF,length_take->aaH,append_assoc->aaQ,all_eq_true->aaS,append_nil->aaU,eq_nil_of_length_eq_zero->aaV,replicate->aaW,all_append->aaY,getElem?_map->aa2,map_cons->aa3,length_nil->aa6,take_length->abb,all_cons->abc,length_drop->abf,mem_filter->abh,range->abj,mem_of_getElem?->abn,take_of_length_le->abp,nil_append->abr,drop_eq_getElem_cons->abt,lookup_cons->abu,flatMap_append->abv,length_replicate->abz,map_map->abA,mem_of_mem_take->abD,length_singleton->abH,filter_append->abK,find?_cons->abQ,mem_range->abU,flatMap_cons->abZ,map_nil->ab0,mem_map_of_mem->ab4,nodup_cons->acd,length_filter_le->acf,range_succ->acg,nodup_append->acj,cons_append->aco,lookup->acr,map_id->acs,dropWhile_cons->acu,map_congr_left->acv,any_cons->acy,drop_eq_nil_of_le->acF,foldl_append->acG,drop_zero->acM,drop_drop->acN,singleton_append->acP,take_append_drop->acQ,mem_of_mem_drop->acT,sum_cons->acU,filterMap_cons->acW,of_mem_zip->acZ,length->ac0,replicate_succ->ac3,takeWhile_cons->ac4,getElem?_append_right->ac8,getElem?_eq_none_iff->adi,getElem?_cons_succ->adx,any_eq_true->adC,mem_nil_iff->adD,getElem?_set_self->adE,sum_nil->adR,getElem?_set_ne->adS,dropLast_concat->adX,take_zero->ad1,getElem_of_mem->aec,take_succ_cons->aee,replicate_zero->aef,all_map->aeA
open PySem renaming Value->aad,Shared->aaf,mainGlobals->aah,sizeLine->aai,wpAny_bind->aau,sizeLine_eq->aaA,Addr->aaC,boot_len->aaI,Program->aaL,wpAny_pure->aaO,wpAny->aaZ,World->aa9,Around->aba,FuncData->abd,mem_of_lookup->abk,Within->aex
open PySem.Paired renaming length->aam,snoc->aeF
open Nat renaming le_refl->aar,lt_of_lt_of_le->aa1,le_trans->aa8,ne_of_lt->abe,zero_le->abm,lt_irrefl->ach,mul_le_mul_right->ack,add_mul->adA,le_of_lt->adJ
open PySem.Heap renaming get?_push_of_some->aav,lt_size->aaT,get?_push_size->aa0,get?_update_other->adF,SameBut->adK,size_push->adZ
open PySem.F renaming plainAttrs_str->aaw,plainAttrs_list->aaD,slot_list_append->aaE,type_list_append->aaG,slot_str_join->aaJ,type_str_join->aaK,slot_list_extend->abM,slot_list_getattribute->ab1,slot_str_split->ab8,args_str_split_2->acw,type_list_extend->acx,entry_str_split->acB,slot_str_replace->acE,slot_dict_get->acO,slot_tuple_index->adt,type_str_replace->adu,args_list_extend_2->adw,args_dict_get_3->ady,entry_list_extend->adG,entry_dict_get->adH
open Bool renaming false_ne_true->aaz,and_eq_true->aaN,eq_iff_iff->abW,or_eq_true->acC,false_eq_true->adg,beq_eq_decide_eq->adQ,false_and->adY,false_or->aeo
open Or renaming inl->aaM,inr->acn
open PySem.PassesOwn renaming never->aaP
open Sum renaming inr->aaX,inl->aeq
open Option.some renaming inj->aa4
open PySem.Value renaming ref->aa5,str->abw,bool->acV,none->adl,int->aeg,float->aeE
open PyProof.Rows renaming slot_tuple_getitem->abg,boot_isinstance->abB,callWith_type1->acX
open PySem.W.KT renaming app_list->abl
open False renaming elim->abo
open PySem.StrLaws renaming found_one->abE,glued_eq_join->abT
open PySem.NameKind renaming free->abG,cell->aen
open Option renaming isSome_iff_exists->abI,getD_some->adB,none->ad2,isSome_map->aew
open PySem.Builtin.List renaming listTooLong->abJ
open Int renaming toNat_natCast->abO,zero_add->ab2,mul_le_mul_of_nonneg_left->acR,emod_nonneg->ac5,toNat_of_nonneg->ac6
open PySem.Calls renaming spliced_cons->abR,callWith_builtin->ab7,evalArgs_plain->acS,Name_function_global->ac7,Constant_str->adf,spliced_nil->ado
open PySem.Builtin.Slice renaming slicePlaces->abV,sliceAdjust->acm,sliceApplied->ac9
open PySem.Builtin.Tuple renaming tupleExact->abY,tupleItemsOf->ada
open PySem.Builtin.Str renaming occurrences->ab3,glued->acI,strSliceIndices->ac2
open True renaming intro->ab6
open ForInStep renaming yield->ace
open Ne renaming symm->acp
open Array renaming length_toList->acq,getD_eq_getD_getElem?->ac1,append_assoc->aeh
open PySem.Txt renaming slice->acz,split->acA,replace->acJ,join->adh,stripChars->ad0,isupper->aed
open Function renaming comp_def->acK
open PySem.SeqAt.EqAt renaming int_str->adb,str_int->ade,same->adN,none_bool->adT,bool_none->adU,bool_bool->adV,none_int->ad4,none_str->ad5,bool_int->ad6,bool_str->ad7,int_none->ad8,int_bool->ad9,str_none->aea,str_bool->aeb,int_int->ael,str_str->aem
open PySem.Obj renaming mapSeq->adq
open PySem.AutoSeq1 renaming wpAny_loadPart'->ads
open Sum.inr renaming inj->adv
open PySem.Builtin.Dict renaming updateFrom->adz,pairItems->adI
open PySem.Around renaming under->adM,under_plainId->adW
open PySem.SeqAt renaming EqAt->aev
open PySem.Code renaming isFrame->aez
open Std.Legacy renaming Range->aeD
open PySem.Heap.DictOf renaming new->aeG
theorem Lm9 {α : Type _} {β : Type _} {as : List α} (f : α → β) : (as.map f).length = as.length := List.length_map f
theorem Ge9 {α : Type _} {l : List α} {i : Nat} (h : i < l.length) : l[i]? = some l[i] := List.getElem?_eq_getElem h
theorem Gd9 {α : Type _} {l : List α} {i : Nat} {a : α} : l.getD i a = (l[i]?).getD a := List.getD_eq_getElem?_getD
namespace L2
open PySem PySem.Spec PyProof.Rows
abbrev Key := Sum Int Str
def yP : Key → aad → Bool
 | .inl k, v => Value.isInt k v
 | .inr x, v => Value.isStrOf x v
def U9 (w : aa9) : Key → Int
 | .inl k => hashInt k
 | .inr x => hashStr w x
theorem cv : ∀ {k : Key} {v : aad}, yP k v = true → (∃ i t, k = aeq i ∧ v = aeg i t) ∨ (∃ x t, k = aaX x ∧ v = abw x t)
 | .inl i, v, h => by
  obtain ⟨t, e⟩ := Value.isInt_shape (k := i) (v := v) h
  exact .inl ⟨i, t, rfl, e⟩
 | .inr x, v, h => by
  obtain ⟨t, e⟩ := Value.isStrOf_shape (x := x) (v := v) h
  exact .inr ⟨x, t, rfl, e⟩
theorem Hl (i : Int) (t : Tok) : yP (.inl i) (.int i t) = true := by simp [yP, Value.isInt]
theorem Hm (x : Str) (t : Tok) : yP (.inr x) (.str x t) = true := by simp [yP, Value.isStrOf]
theorem NY (a b : Int) : decide ((aeq a : Key) = aeq b) = (a == b) := by
 by_cases e : a = b
 ·subst e; simp
 ·have h : ¬ (aeq a : Key) = aeq b := fun q => e (Sum.inl.inj q)
  rw [decide_eq_false h]
  exact (beq_eq_false_iff_ne.mpr e).symm
theorem NZ (a b : Str) : decide ((aaX a : Key) = aaX b) = decide (a = b) := by
 by_cases e : a = b
 ·subst e; simp
 ·have h : ¬ (aaX a : Key) = aaX b := fun q => e (adv q)
  rw [decide_eq_false h, decide_eq_false e]
theorem N1 (a : Int) (b : Str) : decide ((aeq a : Key) = aaX b) = false := decide_eq_false (fun q => nomatch q)
theorem N2 (a : Str) (b : Int) : decide ((aaX a : Key) = aeq b) = false := decide_eq_false (fun q => nomatch q)
def bM (prog : aaL) (w : aa9) : PySem.KeyKind prog w Key where
 is := yP
 hash := U9 w
 inj := fun v a b ha hb => by
  rcases cv ha with ⟨i, t, rfl, rfl⟩ | ⟨x, t, rfl, rfl⟩
  ·rcases cv hb with ⟨j, u, rfl, e⟩ | ⟨y, u, rfl, e⟩
   ·injection e with e1 _; rw [e1]
   ·exact nomatch e
  ·rcases cv hb with ⟨j, u, rfl, e⟩ | ⟨y, u, rfl, e⟩
   ·exact nomatch e
   ·injection e with e1 _; rw [e1]
 byValue := fun k v h => by
  rcases cv h with ⟨i, t, rfl, rfl⟩ | ⟨x, t, rfl, rfl⟩ <;> rfl
 pyHash := fun hv h => by
  rcases cv hv with ⟨i, t, rfl, rfl⟩ | ⟨x, t, rfl, rfl⟩
  ·exact wpAny_pyHash_int h
  ·exact wpAny_pyHash_str h
 eqBool := fun hu hv h => by
  rcases cv hu with ⟨i, t, rfl, rfl⟩ | ⟨x, t, rfl, rfl⟩
  ·rcases cv hv with ⟨j, u, rfl, rfl⟩ | ⟨y, u, rfl, rfl⟩
   ·rw [NY] at h; exact wpAny_eqBool_int h
   ·rw [N1] at h; exact adb i t y u _ _ _ _ h
  ·rcases cv hv with ⟨j, u, rfl, rfl⟩ | ⟨y, u, rfl, rfl⟩
   ·rw [N2] at h; exact ade x t j u _ _ _ _ h
   ·rw [NZ] at h; exact wpAny_eqBool_str h
 «strs» := fun k x t v h => by
  rcases cv h with ⟨i, u, rfl, e⟩ | ⟨y, u, rfl, e⟩
  ·exact nomatch e
  ·injection e with e1 _
   subst e1
   cases v <;> rfl
theorem CO (prog : aaL) (w : aa9) (i : Int) (t : Tok) : (bM prog w).is (.inl i) (.int i t) = true := Hl i t
theorem CP (prog : aaL) (w : aa9) (x : Str) (t : Tok) : (bM prog w).is (.inr x) (.str x t) = true := Hm x t
end L2
namespace L2
open PySem PySem.Spec PyProof.Rows
inductive V where
 | bY | bl (b : Bool) | int (i : Int) | str (x : Str) | IH (b : Array UInt8) | N3 (b : UInt64) | ref (a : aaC) | ty (n : String) | tok (x : Str) (t : Nat)
 deriving DecidableEq
def V.pl : V → Bool
 | .tok _ _ => false
 | _ => true
def RelV : V → aad → Prop
 | .bY, u => u = adl
 | .bl b, u => u = acV b
 | .int i, u => ∃ t, u = aeg i t
 | .str x, u => ∃ t, u = abw x t
 | .IH b, u => ∃ t, u = Value.bytes b t
 | .N3 b, u => ∃ t, u = aeE b t
 | .ref a, u => u = aa5 a
 | .ty n, u => u = Value.type n
 | .tok x t, u => u = abw x t
abbrev Vals : List V → List aad → Prop := Paired RelV
theorem Vals.length {xs : List V} {us : List aad} (r : Vals xs us) : xs.length = us.length := aam r
theorem Vals.get : ∀ {xs : List V} {us : List aad} {i : Nat} {x : V}, Vals xs us → xs[i]? = some x → ∃ u, us[i]? = some u ∧ RelV x u
 | _, _, _, _, .nil, e => by simp at e
 | _, _, 0, _, .cons r _, e => by simp at e; subst e; exact ⟨_, rfl, r⟩
 | _, _, i + 1, x, .cons _ t, e => by
  obtain ⟨u, h1, h2⟩ := Vals.get (i := i) (x := x) t (by simpa using e)
  exact ⟨u, by simpa using h1, h2⟩
theorem Vals.set {x : V} {u : aad} (r : RelV x u) : ∀ {xs : List V} {us : List aad} (i : Nat), Vals xs us → Vals (xs.set i x) (us.set i u)
 | _, _, _, .nil => .nil
 | _, _, 0, .cons _ t => .cons r t
 | _, _, i + 1, .cons q t => .cons q (Vals.set r i t)
theorem Vals.append : ∀ {xs ys : List V} {us ws : List aad}, Vals xs us → Vals ys ws → Vals (xs ++ ys) (us ++ ws)
 | _, _, _, _, .nil, s => s
 | _, _, _, _, .cons r t, s => .cons r (Vals.append t s)
theorem Vals.take : ∀ {xs : List V} {us : List aad} (n : Nat), Vals xs us → Vals (xs.take n) (us.take n)
 | _, _, 0, _ => .nil
 | _, _, _ + 1, .nil => .nil
 | _, _, n + 1, .cons r t => .cons r (Vals.take n t)
theorem Vals.drop : ∀ {xs : List V} {us : List aad} (n : Nat), Vals xs us → Vals (xs.drop n) (us.drop n)
 | _, _, 0, r => r
 | _, _, _ + 1, .nil => .nil
 | _, _, n + 1, .cons _ t => Vals.drop n t
theorem Vals.none_of : ∀ {xs : List V} {us : List aad} {i : Nat}, Vals xs us → xs[i]? = none → us[i]? = none := fun {xs us i} r e => by
 have h1 := r.length
 have h2 : xs.length ≤ i := adi.mp e
 exact adi.mpr (by omega)
def mK : Option V → Option aad → Prop
 | some v, some u => RelV v u
 | none, none => True
 | _, _ => False
def KV {κ : Type} : List (κ × V) → List (κ × aad) → Prop := Paired fun (p : κ × V) (q : κ × aad) => p.1 = q.1 ∧ RelV p.2 q.2
def kV : Key → V
 | .inl i => .int i
 | .inr x => .str x
inductive HO where
 | lst (xs : List V)
 | tup (xs : List V)
 | dK (kvs : List (Key × V)) | dT (kvs : List (List Key × V))
 | set (S : Int → Bool) (n : Nat)
 | ins (C dx : aaC) (fs : List (Str × V))
 | own (x : aaC)
 | xd (fs : List (Str × V))
 | met (f x : aaC)
 | Va (lo hi : Int)
 | uY (o : Obj) (u : HO)
 | N4 (ps : Array aad)
 | ext (φ : Heap → Prop)
abbrev Hp := aaC → Option HO
def upd (H : Hp) (a : aaC) (o : HO) : Hp := fun b => if b = a then some o else H b
theorem ae {H : Hp} {a : aaC} {o : HO} : upd H a o a = some o := by unfold upd; rw [if_pos rfl]
theorem aA {H : Hp} {a b : aaC} {o : HO} (h : b ≠ a) : upd H a o b = H b := by unfold upd; rw [if_neg h]
theorem CQ {H : Hp} {a b : aaC} {o u : HO} (h : H a = some o) (h' : H b = some u) (d : o ≠ u) : a ≠ b := by
 intro e; subst e; rw [h] at h'; exact d (aa4 h')
theorem aN {H : Hp} {a b : aaC} {o : HO} (h : H a = some o) (h' : H b = none) : a ≠ b := by
 intro e; subst e; rw [h] at h'; cases h'
section
variable (P : aaL) (w : aa9)
def cO (H : Hp) (h : Heap) (a : aaC) : HO → Prop
 | .lst xs => xs.length ≤ aai ∧ ∃ (its : List aad) (n : Nat), Vals xs its ∧ h.get? a = some { cls := .type "list", data := .seq its.toArray n }
 | .tup xs => xs.length ≤ aai ∧ ∃ its : List aad, Vals xs its ∧ IsTup h a its.toArray
 | .dK kvs => kvs.length ≤ aai ∧ (a == sysModules) = false ∧ ∃ vs, KV kvs vs ∧ h.DictOf (bM P w) a vs
 | .dT kvs => kvs.length ≤ aai ∧ (a == sysModules) = false ∧ ∃ xs : List (List Key × aaC × aad),
   Paired (fun (p : List Key × V) (q : List Key × aaC × aad) => p.1 = q.1 ∧ H q.2.1 = some (.tup (p.1.map kV)) ∧ RelV p.2 q.2.2) kvs xs ∧
   ∃ o es ep, h.get? a = some o ∧ o.ExactDict ∧ o.data = .dict es ep ∧ es.toList = xs.map (entryOfKey (tupleKind (bM P w))) ∧ (xs.map (·.1)).Nodup
 | .set S n => h.SetOf (intKind P w) a S n
 | .ins C dx fs => H dx = some (.own a) ∧ fs.length ≤ 1000 ∧ dx ≠ a ∧ h.get? a = some (abP C dx) ∧
   ∃ mA, h.Ns1 dx mA ∧ (∀ f, mK (fs.lookup f) (mA f)) ∧ aex mA (fs.map (·.1))
 | .own _ => ∃ o, h.get? a = some o
 | .xd fs => ∃ mA, h.Ns1 a mA ∧ ∀ f, mK (fs.lookup f) (mA f)
 | .Va lo hi => ∃ t u v, h.get? a = some { cls := .type "range", data := .fields #[.int lo t, .int hi u, .int 1 v] }
 | .uY o u => h.get? a = some o ∧ cO H h a u
 | .N4 ps => h.get? a = some { cls := .none, data := .fields ps }
 | .met f x => h.get? a = some (adn (.ref f) (.ref x))
 | .ext φ => φ h ∧ (∃ o, h.get? a = some o) ∧ ∀ h1 h2 : Heap, φ h1 → (∀ o, h1.get? a = some o → h2.get? a = some o) → φ h2
def pS (H : Hp) (h : Heap) : Prop := ∀ a o, H a = some o → cO P w H h a o
end
section
variable {P : aaL} {w : aa9} {H H' : Hp} {h h' : Heap} {a : aaC} {o : HO}
theorem cO.lt (x : cO P w H h a o) : a < h.objs.size := by
 cases o with
 | lst xs => obtain ⟨_, _, _, _, e⟩ := x; exact aaT e
 | tup xs => obtain ⟨_, _, _, p⟩ := x; exact p.lt
 | dK kvs => obtain ⟨_, _, _, _, o, _, _, e, _⟩ := x; exact aaT e
 | dT kvs => obtain ⟨_, _, _, _, o, _, _, e, _⟩ := x; exact aaT e
 | set S n => obtain ⟨o, _, _, _, e, _⟩ := x; exact aaT e
 | ins C dx fs => obtain ⟨_, _, _, e, _⟩ := x; exact aaT e
 | own y => obtain ⟨_, e⟩ := x; exact aaT e
 | xd fs => obtain ⟨_, ⟨_, _, _, e, _⟩, _⟩ := x; exact aaT e
 | Va lo hi => obtain ⟨_, _, _, e⟩ := x; exact aaT e
 | uY ob u => obtain ⟨e, _⟩ := x; exact aaT e
 | N4 ps => exact aaT (show h.get? a = some _ from x)
 | met f y => exact aaT (show h.get? a = some _ from x)
 | ext φ => obtain ⟨_, ⟨_, e⟩, _⟩ := x; exact aaT e
theorem Paired.d8 {α β : Type} {F G : α → β → Prop} : ∀ {l₁ : List α} {l₂ : List β}, Paired F l₁ l₂ → (∀ a b, F a b → G a b) → Paired G l₁ l₂
 | _, _, .nil, _ => .nil
 | _, _, .cons r t, f => .cons (f _ _ r) (Paired.d8 t f)
theorem cO.IP (x : cO P w H h a o) (k : ∀ b u, (b = a ∨ H b = some (.own a)) → h.get? b = some u → h'.get? b = some u)
  (ho : ∀ b, H b = some (.own a) → H' b = some (.own a)) (ht : ∀ b xs, H b = some (.tup xs) → H' b = some (.tup xs)) : cO P w H' h' a o := by
 induction o with
 | lst xs => obtain ⟨z, its, n, r, e⟩ := x; exact ⟨z, its, n, r, k _ _ (.inl rfl) e⟩
 | tup xs => obtain ⟨z, its, r, ob, e, c⟩ := x; exact ⟨z, its, r, ob, k _ _ (.inl rfl) e, c⟩
 | dK kvs => obtain ⟨z, y, vs, r, ob, es, ep, e, c⟩ := x; exact ⟨z, y, vs, r, ob, es, ep, k _ _ (.inl rfl) e, c⟩
 | dT kvs =>
  obtain ⟨z, y, xs, r, ob, es, ep, e, c⟩ := x
  exact ⟨z, y, xs, Paired.d8 r fun p q z => ⟨z.1, ht _ _ z.2.1, z.2.2⟩, ob, es, ep, k _ _ (.inl rfl) e, c⟩
 | set S n => obtain ⟨ob, es, ep, t, e, c⟩ := x; exact ⟨ob, es, ep, t, k _ _ (.inl rfl) e, c⟩
 | ins C dx fs =>
  obtain ⟨d, z, ne, e, mA, ⟨od, es, ep, e2, c⟩, r⟩ := x
  exact ⟨ho _ d, z, ne, k _ _ (.inl rfl) e, mA, ⟨od, es, ep, k _ _ (.inr d) e2, c⟩, r⟩
 | own y => obtain ⟨ob, e⟩ := x; exact ⟨ob, k _ _ (.inl rfl) e⟩
 | xd fs => obtain ⟨mA, ⟨od, es, ep, e, c⟩, r⟩ := x; exact ⟨mA, ⟨od, es, ep, k _ _ (.inl rfl) e, c⟩, r⟩
 | Va lo hi => obtain ⟨t, u, v, e⟩ := x; exact ⟨t, u, v, k _ _ (.inl rfl) e⟩
 | uY ob u ih => obtain ⟨e, q⟩ := x; exact ⟨k _ _ (.inl rfl) e, ih q⟩
 | N4 ps =>
  have e : h.get? a = some { cls := .none, data := .fields ps } := x
  show h'.get? a = some { cls := .none, data := .fields ps }
  exact k a _ (.inl rfl) e
 | met f y =>
  have e : h.get? a = some (adn (.ref f) (.ref y)) := x
  show h'.get? a = some (adn (.ref f) (.ref y))
  exact k a _ (.inl rfl) e
 | ext φ => obtain ⟨p, ⟨o, e⟩, st⟩ := x; exact ⟨st _ _ p fun o q => k _ _ (.inl rfl) q, ⟨o, k _ _ (.inl rfl) e⟩, st⟩
theorem pS.lt (x : pS P w H h) (e : H a = some o) : a < h.objs.size := (x a o e).lt
theorem pS.fresh (x : pS P w H h) (e : h.objs.size ≤ a) : H a = none := by
 cases q : H a with
 | none => rfl
 | some u => exact absurd (aa1 (x.lt q) e) (ach _)
theorem pS.kept (x : pS P w H h) (k : ∀ b u, h.get? b = some u → h'.get? b = some u) : pS P w H h' := fun a o e =>
 (x a o e).IP (fun b u _ q => k b u q) (fun _ q => q) fun _ _ q => q
theorem pS.laid (x : pS P w H h) (k : ∀ b u, h.get? b = some u → h'.get? b = some u) (hp : h.objs.size ≤ a) (new : cO P w (upd H a o) h' a o) : pS P w (upd H a o) h' := fun b u e => by
 have hn := x.fresh hp
 by_cases hb : b = a
 ·subst hb; rw [ae] at e; cases e; exact new
 ·rw [aA hb] at e
  exact (x b u e).IP (fun c v _ q => k c v q) (fun c q => by rw [aA (aN q hn)]; exact q) fun c xs q => by rw [aA (aN q hn)]; exact q
end
def Rd (H : Hp) (a : aaC) (u : HO) : Prop := H a = some u ∨ ∃ o, H a = some (.uY o u)
theorem Rd.ok {P : aaL} {w : aa9} {H : Hp} {h : Heap} {a : aaC} {u : HO} (r : Rd H a u) (x : pS P w H h) : cO P w H h a u := by
 rcases r with r | ⟨o, r⟩
 ·exact x a u r
 ·obtain ⟨_, q⟩ := x a _ r
  exact q
def Qx : Option HO → Prop
 | some (.lst _) => True
 | some (.dK _) => True
 | some (.dT _) => True
 | some (.set _ _) => True
 | some (.ins _ _ _) => True
 | some (.ext _) => True
 | _ => False
section
variable {P : aaL} {w : aa9} {H : Hp} {h h' : Heap} {x e : aaC} {o' : HO}
theorem pS.write (ok : pS P w H h) (mu : Qx (H x)) (he : e = x ∨ H e = some (.own x)) (k : ∀ b u, b ≠ e → h.get? b = some u → h'.get? b = some u) (P8 : ∃ u, h'.get? e = some u)
  (new : cO P w (upd H x o') h' x o') : pS P w (upd H x o') h' := fun b u q => by
 have Qy : ∀ c y, H c = some (.own y) → c ≠ x := fun c y r z => by subst z; rw [r] at mu; exact mu
 have Vb : ∀ c xs, H c = some (.tup xs) → c ≠ x := fun c xs r z => by subst z; rw [r] at mu; exact mu
 by_cases hb : b = x
 ·subst hb; rw [ae] at q; cases q; exact new
 ·rw [aA hb] at q
  by_cases N5 : b = e
  ·have q' : H b = some (.own x) := by
    rcases he with z | z
    ·exact absurd (N5.trans z) hb
    ·rw [N5]; exact z
   rw [q] at q'; cases q'
   obtain ⟨v, hv⟩ := P8
   exact ⟨v, by rw [N5]; exact hv⟩
  ·refine (ok b u q).IP (fun c v hc r => k c v ?_ r) (fun c r => by rw [aA (Qy c b r)]; exact r) fun c xs r => by rw [aA (Vb c xs r)]; exact r
   rcases hc with rfl | hc
   ·exact N5
   ·rintro rfl
    rcases he with z | z
    ·exact Qy c b hc z
    ·rw [hc] at z; cases z; exact hb rfl
end
structure Un (fs ex : List aaC) (H H' : Hp) (h h' : Heap) : Prop where
 keep : ∀ b o, h.get? b = some o → H b = none → b ∉ fs → b ∉ ex → h'.get? b = some o
 slot : ∀ b o, h.get? b = some o → H b = none → b ∈ fs → b ∉ ex → ∃ sl, h'.get? b = some { o with slots := sl }
 free : ∀ b o, h.get? b = some o → H b = none → b ∉ ex → H' b = none
 there : ∀ b o, h.get? b = some o → b ∉ ex → ∃ o', h'.get? b = some o'
 uZ : ∀ b xs, H b = some (.tup xs) → H' b = some (.tup xs)
 tZ : ∀ b o u, H b = some (.uY o u) → H' b = some (.uY o u)
 u4 : ∀ b ps, H b = some (.N4 ps) → ∃ more, H' b = some (.N4 (ps ++ more))
section
variable {fs fs' ex ex' : List aaC} {H H1 H2 : Hp} {h h1 h2 h' : Heap} {a x e : aaC} {o : HO}
theorem Un.any (u : Un fs ex H H1 h h1) {b : aaC} {ob : Obj} (q : h.get? b = some ob) (n : H b = none) (hx : b ∉ ex) : ∃ sl, h1.get? b = some { ob with slots := sl } := by
 by_cases hb : b ∈ fs
 ·exact u.slot b ob q n hb hx
 ·exact ⟨ob.slots, u.keep b ob q n hb hx⟩
theorem Un.trans (a : Un fs ex H H1 h h1) (b : Un fs ex H1 H2 h1 h2) : Un fs ex H H2 h h2 where
 keep := fun c ob q n hc hx => b.keep c ob (a.keep c ob q n hc hx) (a.free c ob q n hx) hc hx
 slot := fun c ob q n hc hx => by
  obtain ⟨sl, e1⟩ := a.slot c ob q n hc hx
  obtain ⟨sl', e2⟩ := b.slot c _ e1 (a.free c ob q n hx) hc hx
  exact ⟨sl', e2⟩
 free := fun c ob q n hx => by
  obtain ⟨o', e1⟩ := a.there c ob q hx
  exact b.free c o' e1 (a.free c ob q n hx) hx
 there := fun c ob q hx => by
  obtain ⟨o', e1⟩ := a.there c ob q hx
  exact b.there c o' e1 hx
 uZ := fun c xs q => b.uZ c xs (a.uZ c xs q)
 tZ := fun c ob xs q => b.tZ c ob xs (a.tZ c ob xs q)
 u4 := fun c ps q => by
  obtain ⟨m1, e1⟩ := a.u4 c ps q
  obtain ⟨m2, e2⟩ := b.u4 c _ e1
  exact ⟨m1 ++ m2, by rw [e2, aeh]⟩
theorem Un.kept (k : ∀ b u, h.get? b = some u → h'.get? b = some u) : Un fs ex H H h h' :=
 ⟨fun b ob q _ _ _ => k b ob q, fun b ob q _ _ _ => ⟨ob.slots, k b ob q⟩, fun _ _ _ n _ => n, fun b ob q _ => ⟨ob, k b ob q⟩, fun _ _ q => q, fun _ _ _ q => q, fun _ ps q => ⟨#[], by rw [q]; simp⟩⟩
theorem Un.refl : Un fs ex H H h h := Un.kept fun _ _ q => q
theorem Un.laid (k : ∀ b u, h.get? b = some u → h'.get? b = some u) (hp : h.objs.size ≤ a) (hn : H a = none) : Un fs ex H (upd H a o) h h' where
 keep := fun b u q _ _ _ => k b u q
 slot := fun b u q _ _ _ => ⟨u.slots, k b u q⟩
 free := fun b u q n _ => by rw [aA (abe (aa1 (aaT q) hp))]; exact n
 there := fun b u q _ => ⟨u, k b u q⟩
 uZ := fun b xs q => by rw [aA (aN q hn)]; exact q
 tZ := fun b u xs q => by rw [aA (aN q hn)]; exact q
 u4 := fun b ps q => ⟨#[], by rw [aA (aN q hn), q]; simp⟩
theorem Un.write (mu : Qx (H x)) (he : e = x ∨ H e = some (.own x)) (k : ∀ b u, b ≠ e → h.get? b = some u → h'.get? b = some u) (P8 : ∃ u, h'.get? e = some u) : Un fs ex H (upd H x o) h h' := by
 have hx : ∀ b, H b = none → b ≠ x := fun b n z => by subst z; rw [n] at mu; exact mu
 have hb : ∀ b, H b = none → b ≠ e := fun b n z => by
  subst z
  rcases he with r | r
  ·exact hx b n r
  ·rw [n] at r; cases r
 have hm : ∀ b u, H b = some u → ¬ Qx (some u) → b ≠ x := fun b u q nm z => by subst z; rw [q] at mu; exact nm mu
 refine ⟨fun b u q n _ _ => k b u (hb b n) q, fun b u q n _ _ => ⟨u.slots, k b u (hb b n) q⟩, fun b u q n _ => by rw [aA (hx b n)]; exact n, fun b u q _ => ?_,
  fun b xs q => by rw [aA (hm b _ q fun z => z)]; exact q, fun b u xs q => by rw [aA (hm b _ q fun z => z)]; exact q, fun b ps q => ⟨#[], by rw [aA (hm b _ q fun z => z), q]; simp⟩⟩
 by_cases N5 : b = e
 ·subst N5; exact P8
 ·exact ⟨u, k b u N5 q⟩
end
def Uj (h : Heap) (H : Hp) : List aaC := (abj h.objs.size).filter fun a => (H a).isSome
def zO (h : Heap) (H : Hp) : Heap := PySem.W.hideAll h (Uj h H)
theorem Hn (h : Heap) (H : Hp) : (zO h H).objs.size = h.objs.size := PySem.W.hideAll_size _ _
theorem IQ {h : Heap} {H : Hp} {b : aaC} {o : Obj} (e : h.get? b = some o) (n : H b = none) : (zO h H).get? b = some o :=
 PySem.W.hideAll_get _ e fun hm => by
  have q : (H b).isSome = true := (abh.mp hm).2
  rw [n] at q; simp at q
theorem Lz {h : Heap} {H : Hp} {b : aaC} {o : Obj} (e : (zO h H).get? b = some o) : h.get? b = some o ∧ H b = none := by
 have e' : h.get? b = some o := PySem.W.of_hideAll (Uj h H) e
 refine ⟨e', ?_⟩
 cases q : H b with
 | none => rfl
 | some x =>
  have hm : b ∈ Uj h H := abh.mpr ⟨abU.mpr (aaT e'), by simp [q]⟩
  have z : (zO h H).get? b = none := PySem.W.hideAll_none (Uj h H) hm
  rw [z] at e; cases e
end L2
namespace L2
open PySem PySem.Spec PyProof.Rows
structure Mod (K : aaa) (mg : Str → Option aad) (base : Heap) : Prop where
 LC : K.In base
 glob : base.Ns aah mg
 blt : ∃ mb, base.Ns builtinsNs mb ∧ ∀ x : Str, x ≠ "__name__" → mb x = bootBuiltins x
 nolimit : base.NoLimit
structure Cx where
 prog : aaL
 w : aa9
 K : aaa
 mg : Str → Option aad
 base : Heap
 A : aba
 N : List Str
 s₀ : aaf
 H₀ : Hp
 env : Env
 outer : List Env
 stack : List Env
 ex : List aaC
 fn : Str → Bool
 calm : Bool
 pn : List (aaC × Obj)
 xe : aad → aaf → Prop
def Ho (l : List Env) : List aaC := l.filterMap (·.frame)
abbrev Cx.fs (X : Cx) : List aaC := Ho X.outer
def Uk (sc : Scope) (x : Str) : Prop := sc.names.lookup x = some .local ∨ sc.names.lookup x = some .cell ∨ sc.names.lookup x = some .free
def Loc (sc : Scope) (x : Str) : Prop := sc.names.lookup x = some .local ∨ sc.names.lookup x = some .cell
def Look (env : Env) (h : Heap) (m : Str → Option aad) (x : Str) (u : aad) : Prop :=
 (env.kindOf x = some .local ∧ m x = some u) ∨ ((env.kindOf x = some .cell ∨ env.kindOf x = some .free) ∧ ∃ c, env.cells.lookup x = some c ∧ h.IsCell c (some u))
structure Cx.Ok (X : Cx) : Prop where
 mod : Mod X.K X.mg X.base
 kind : X.env.scope.kind = .function
 glob : X.env.globals = aah
 blt : X.env.builtins = builtinsNs
 above : X.s₀.heap.objs.size ≤ X.env.locals
 inj : ∀ x y c, X.env.cells.lookup x = some c → X.env.cells.lookup y = some c → x = y
 has : ∀ x, (X.env.kindOf x = some .cell ∨ X.env.kindOf x = some .free) → ∃ c, X.env.cells.lookup x = some c
 Qz : ∀ x c, X.fn x = true → X.env.cells.lookup x = some c → X.s₀.heap.objs.size ≤ c
 hd : X.calm = true → X.A.handled = none
 frames : X.A.frames = some X.stack
 Ul : X.stack = X.outer ∨ (X.stack = X.env :: X.outer ∧ X.env.frame = some X.env.locals)
 YE : ∀ b ∈ X.ex, b ≠ X.env.locals ∧ ∀ x c, X.env.cells.lookup x = some c → c ≠ b
 bs : ∀ b o, X.base.get? b = some o → X.s₀.heap.get? b = some o ∧ X.H₀ b = none
 LD : X.base.objs.size ≤ X.s₀.heap.objs.size
 IS : ∀ b o, X.base.get? b = some o → b ∉ X.ex
 LF : ∀ b ∈ X.ex, b ∉ X.fs
 t5 : X.s₀.heap.FunFrames X.base X.outer
 N6 : ∀ b ∈ X.fs, X.H₀ b = none
structure Inv (X : Cx) (pins : List (aaC × Obj)) (σ : List (Option V)) (H : Hp) (s : aaf) : Prop where
 ok : X.Ok
 os : s.os = X.s₀.os
 bare : AllBare s.gens
 base : Un X.fs X.ex X.H₀ H X.s₀.heap s.heap
 loc : ∃ m, s.heap.Ns X.env.locals m ∧ ∀ (i : Nat) (x : Str) (v : V), X.N[i]? = some x → σ[i]? = some (some v) → Uk X.env.scope x → ∃ u, RelV v u ∧ Look X.env s.heap m x u
 cell : ∀ x c, X.env.cells.lookup x = some c → ∃ v, s.heap.IsCell c v
 free : H X.env.locals = none
 pH : ∀ x c, X.env.cells.lookup x = some c → H c = none
 pin : ∀ p ∈ X.pn ++ pins, s.heap.get? p.1 = some p.2 ∧ H p.1 = none ∧ p.1 ≠ X.env.locals ∧ p.1 ∉ X.fs ∧ ∀ v, p.2.data ≠ .cell v
 hok : pS X.prog X.w H s.heap
 len : σ.length = X.N.length
section
variable {X : Cx} {pins : List (aaC × Obj)} {σ : List (Option V)} {H H' : Hp} {s : aaf} {h' : Heap}
theorem Cx.Ok.Vc (ok : X.Ok) {b : aaC} {o : Obj} (e : X.base.get? b = some o) : b ∉ X.fs := fun hb => by
 have := (ok.t5.mem hb).1
 rw [e] at this; cases this
theorem Inv.bs (I : Inv X pins σ H s) : ∀ b o, X.base.get? b = some o → s.heap.get? b = some o ∧ H b = none := fun b o e =>
 ⟨I.base.keep b o (I.ok.bs b o e).1 (I.ok.bs b o e).2 (I.ok.Vc e) (I.ok.IS b o e), I.base.free b o (I.ok.bs b o e).1 (I.ok.bs b o e).2 (I.ok.IS b o e)⟩
theorem Inv.bk (I : Inv X pins σ H s) : ∀ b o, X.base.get? b = some o → s.heap.get? b = some o := fun b o e => (I.bs b o e).1
theorem Inv.mod (I : Inv X pins σ H s) : Mod X.K X.mg X.base := I.ok.mod
theorem Inv.qj (I : Inv X pins σ H s) : X.K.In s.heap := I.ok.mod.LC.keeps I.bk
theorem Inv.nolimit (I : Inv X pins σ H s) : s.heap.NoLimit := I.ok.mod.nolimit.keeps I.bk
theorem Inv.lt (I : Inv X pins σ H s) : X.env.locals < s.heap.objs.size := let ⟨_, hn, _⟩ := I.loc; hn.lt
theorem Inv.sz (I : Inv X pins σ H s) : X.s₀.heap.objs.size ≤ s.heap.objs.size := aa8 I.ok.above (adJ I.lt)
theorem Inv.Vd (I : Inv X pins σ H s) {a : aaC} (h : s.heap.objs.size ≤ a) : a ∉ X.fs := fun hb => by
 obtain ⟨_, o, ho, _⟩ := I.ok.t5.mem hb
 exact absurd (aa1 (aaT ho) (aa8 I.sz h)) (ach _)
theorem Inv.MT (I : Inv X pins σ H s) : ∀ x c, X.env.cells.lookup x = some c → c ≠ X.env.locals := fun x c e z => by
 obtain ⟨v, o, ho, hd⟩ := I.cell x c e
 obtain ⟨m, ⟨o', es, ep, ho', hd', _⟩, _⟩ := I.loc
 rw [z, ho'] at ho; cases ho; rw [hd'] at hd; cases hd
theorem Inv.t5 (I : Inv X pins σ H s) : s.heap.FunFrames X.base X.outer := by
 have all : ∀ (l : List Env), (∀ b ∈ Ho l, b ∈ X.fs) → X.s₀.heap.FunFrames X.base l → s.heap.FunFrames X.base l := by
  intro l
  induction l with
  | nil => intro _ _; trivial
  | cons env r ih =>
   intro hs hl
   obtain ⟨hk, ⟨L, o, hf, hn, ho, hd⟩, hr⟩ := hl
   have hL : L ∈ X.fs := hs L (by unfold Ho; rw [acW, hf]; exact aao)
   obtain ⟨sl, e⟩ := I.base.slot L o ho (I.ok.N6 L hL) hL fun z => I.ok.LF L z hL
   exact ⟨hk, ⟨L, _, hf, hn, e, hd⟩, ih (fun b hb => hs b (by unfold Ho; rw [acW, hf]; exact aal _ hb)) hr⟩
 exact all X.outer (fun _ hb => hb) I.ok.t5
theorem Inv.stack (I : Inv X pins σ H s) : s.heap.FunFrames X.base X.stack := by
 rcases I.ok.Ul with e | ⟨e, hf⟩
 ·rw [e]; exact I.t5
 ·rw [e]
  obtain ⟨m, hn, _⟩ := I.loc
  refine .cons (by rw [I.ok.kind]; decide) hf hn ?_ I.t5
  exact Heap.get?_none_of_le (aa8 I.ok.LD I.ok.above)
theorem Inv.zP (I : Inv X pins σ H s) : ∀ b ∈ Ho X.stack, b ∈ X.env.locals :: X.fs := fun b hb => by
 rcases I.ok.Ul with e | ⟨e, hf⟩
 ·rw [e] at hb; exact aal _ hb
 ·rw [e] at hb
  unfold Ho at hb
  rw [acW, hf] at hb
  exact hb
theorem Inv.Gq (I : Inv X pins σ H s) : ∀ b ∈ Ho X.stack, H b = none := fun b hb => by
 rcases aaF.mp (I.zP b hb) with e | hb
 ·rw [e]; exact I.free
 ·obtain ⟨_, o, ho, _⟩ := I.ok.t5.mem hb
  exact I.base.free b o ho (I.ok.N6 b hb) fun z => I.ok.LF b z hb
theorem Inv.step {g' : Array GenState} {t' : Nat} {d' : Drawn} {ch : List aaC} (I : Inv X pins σ H s)
  (Lo : ∀ b ∈ ch, (b ∈ X.ex ∨ X.s₀.heap.objs.size ≤ b) ∧ b ≠ X.env.locals ∧ (∀ x c, X.env.cells.lookup x = some c → c ≠ b) ∧ ∀ p ∈ X.pn ++ pins, p.1 ≠ b)
  (keep : ∀ b o, b ≠ X.env.locals → b ∉ X.fs → b ∉ ch → s.heap.get? b = some o → H b = none → h'.get? b = some o)
  (slot : ∀ b o, b ≠ X.env.locals → b ∈ X.fs → b ∉ ch → s.heap.get? b = some o → H b = none → ∃ sl, h'.get? b = some { o with slots := sl }) (free : ∀ b o, b ∉ ch → s.heap.get? b = some o → H b = none → H' b = none)
  (there : ∀ b o, b ∉ ch → s.heap.get? b = some o → ∃ o', h'.get? b = some o')
  (uZ : ∀ b xs, H b = some (.tup xs) → H' b = some (.tup xs)) (tZ : ∀ b o u, H b = some (.uY o u) → H' b = some (.uY o u)) (u4 : ∀ b ps, H b = some (.N4 ps) → ∃ more, H' b = some (.N4 (ps ++ more)))
  (ns : ∀ m, s.heap.Ns X.env.locals m → h'.Ns X.env.locals m) (hok : pS X.prog X.w H' h') (hg : AllBare g') :
  Inv X pins σ H' { s with heap := h', gens := g', drawn := d', toks := t' } := by
 have YF : ∀ b o, X.s₀.heap.get? b = some o → b ≠ X.env.locals := fun b o e => abe (aa1 (aaT e) I.ok.above)
 have Um : ∀ b o, X.s₀.heap.get? b = some o → b ∉ X.ex → b ∉ ch := fun b o e hx hb => by
  rcases (Lo b hb).1 with z | z
  ·exact hx z
  ·exact absurd (aa1 (aaT e) z) (ach _)
 have cellK : ∀ x c, X.env.cells.lookup x = some c → ∀ v, s.heap.IsCell c v → h'.IsCell c v := fun x c e v ⟨o, ho, hd⟩ => by
  have QA : c ∉ ch := fun z => (Lo c z).2.2.1 x c e rfl
  by_cases hc : c ∈ X.fs
  ·obtain ⟨sl, q⟩ := slot c o (I.MT x c e) hc QA ho (I.pH x c e)
   exact ⟨_, q, hd⟩
  ·exact ⟨o, keep c o (I.MT x c e) hc QA ho (I.pH x c e), hd⟩
 refine ⟨I.ok, I.os, hg, ⟨fun b o e n hb hx => ?_, fun b o e n hb hx => ?_, fun b o e n hx => ?_, fun b o e hx => ?_, fun b xs e => uZ b xs (I.base.uZ b xs e), fun b o xs e => tZ b o xs (I.base.tZ b o xs e), fun b ps e => ?_⟩, ?_, fun x c e => ?_, ?_, fun x c e => ?_, fun p hp => ?_, hok, I.len⟩
 ·exact keep b o (YF b o e) hb (Um b o e hx) (I.base.keep b o e n hb hx) (I.base.free b o e n hx)
 ·obtain ⟨sl, e1⟩ := I.base.slot b o e n hb hx
  obtain ⟨sl', e2⟩ := slot b _ (YF b o e) hb (Um b o e hx) e1 (I.base.free b o e n hx)
  exact ⟨sl', e2⟩
 ·obtain ⟨o', e1⟩ := I.base.there b o e hx
  exact free b o' (Um b o e hx) e1 (I.base.free b o e n hx)
 ·obtain ⟨o', e1⟩ := I.base.there b o e hx
  exact there b o' (Um b o e hx) e1
 ·obtain ⟨m1, e1⟩ := I.base.u4 b ps e
  obtain ⟨m2, e2⟩ := u4 b _ e1
  exact ⟨m1 ++ m2, by rw [e2, aeh]⟩
 ·obtain ⟨m, hn, hl⟩ := I.loc
  refine ⟨m, ns m hn, fun i x v e1 e2 e3 => ?_⟩
  obtain ⟨u, r, l⟩ := hl i x v e1 e2 e3
  refine ⟨u, r, ?_⟩
  rcases l with l | ⟨k, c, e, z⟩
  ·exact .inl l
  ·exact .inr ⟨k, c, e, cellK x c e _ z⟩
 ·obtain ⟨v, z⟩ := I.cell x c e
  exact ⟨v, cellK x c e v z⟩
 ·obtain ⟨m, ⟨o, _, _, ho, _⟩, _⟩ := I.loc
  exact free _ o (fun z => (Lo _ z).2.1 rfl) ho I.free
 ·obtain ⟨v, o, ho, hd⟩ := I.cell x c e
  exact free c o (fun z => (Lo c z).2.2.1 x c e rfl) ho (I.pH x c e)
 ·obtain ⟨e, n, ne, nf, d⟩ := I.pin p hp
  have QA : p.1 ∉ ch := fun z => (Lo p.1 z).2.2.2 p hp rfl
  exact ⟨keep p.1 p.2 ne nf QA e n, free p.1 p.2 QA e n, ne, nf, d⟩
theorem Inv.un {t' : Nat} (I : Inv X pins σ H s) (u : Un X.fs [] H H' s.heap h') (hok : pS X.prog X.w H' h') : Inv X pins σ H' { s with heap := h', toks := t' } := by
 obtain ⟨m, ⟨o, es, ep, ho, r⟩, _⟩ := id I.loc
 obtain ⟨sl, hL⟩ := u.any ho I.free (by simp)
 exact I.step (g' := s.gens) (d' := s.drawn) (ch := []) (fun _ z => nomatch z) (fun b o _ hb _ e n => u.keep b o e n hb (by simp)) (fun b o _ hb _ e n => u.slot b o e n hb (by simp)) (fun b o _ e n => u.free b o e n (by simp)) (fun b o _ e => u.there b o e (by simp)) u.uZ u.tZ u.u4 (fun m' hm => by
  obtain ⟨o', Ve, Vf, ho', r'⟩ := hm
  rw [ho] at ho'; cases ho'
  exact ⟨_, Ve, Vf, hL, r'⟩) hok I.bare
theorem Inv.call {g' : Array GenState} {t' : Nat} {d' : Drawn} {ch : List aaC} (I : Inv X pins σ H s) (u : Un (Ho X.stack) ch H H' s.heap h') (hok : pS X.prog X.w H' h') (hg : AllBare g')
  (Lo : ∀ b ∈ ch, (b ∈ X.ex ∨ X.s₀.heap.objs.size ≤ b) ∧ b ≠ X.env.locals ∧ (∀ x c, X.env.cells.lookup x = some c → c ≠ b) ∧ ∀ p ∈ X.pn ++ pins, p.1 ≠ b) :
  Inv X pins σ H' { s with heap := h', gens := g', drawn := d', toks := t' } := by
 obtain ⟨m, ⟨o, es, ep, ho, r⟩, _⟩ := id I.loc
 obtain ⟨sl, hL⟩ := u.any ho I.free fun z => (Lo _ z).2.1 rfl
 exact I.step (ch := ch) Lo (fun b o hL hb hc e n => u.keep b o e n (fun z => (aaF.mp (I.zP b z)).elim hL hb) hc) (fun b o _ _ hc e n => u.any e n hc) (fun b o hc e n => u.free b o e n hc) (fun b o hc e => u.there b o e hc) u.uZ u.tZ u.u4 (fun m' hm => by
  obtain ⟨o', Ve, Vf, ho', r'⟩ := hm
  rw [ho] at ho'; cases ho'
  exact ⟨_, Ve, Vf, hL, r'⟩) hok hg
theorem Inv.turned {t' : Nat} {it : aaC} (I : Inv X pins σ H s) (k : ∀ b o, b ≠ it → s.heap.get? b = some o → h'.get? b = some o) (hn : H it = none) (hL : it ≠ X.env.locals)
  (h1 : it ∈ X.ex ∨ X.s₀.heap.objs.size ≤ it) (h2 : ∀ x c, X.env.cells.lookup x = some c → c ≠ it) (h3 : ∀ p ∈ X.pn ++ pins, p.1 ≠ it) : Inv X pins σ H { s with heap := h', toks := t' } := by
 have YG : ∀ b u, H b = some u → b ≠ it := fun b u e z => by rw [z, hn] at e; cases e
 refine I.step (g' := s.gens) (d' := s.drawn) (ch := [it]) (fun b hb => ?_) (fun b o _ _ hc e _ => k b o (fun z => hc (by simp [z])) e) (fun b o _ _ hc e _ => ⟨o.slots, k b o (fun z => hc (by simp [z])) e⟩) (fun _ _ _ _ n => n)
  (fun b o hc e => ⟨o, k b o (fun z => hc (by simp [z])) e⟩) (fun _ _ e => e) (fun _ _ _ e => e) (fun b ps e => ⟨#[], by rw [e]; simp⟩) (fun m hm => ?_) (fun b u e => ?_) I.bare
 ·have e : b = it := by simpa using hb
  subst e
  exact ⟨h1, hL, h2, h3⟩
 ·obtain ⟨o, es, ep, ho, r⟩ := hm
  exact ⟨o, es, ep, k _ o (acp hL) ho, r⟩
 ·refine (I.hok b u e).IP (fun c v hc q => k c v ?_ q) (fun _ q => q) fun _ _ q => q
  rcases hc with z | z
  ·rw [z]; exact YG b u e
  ·exact YG c _ z
theorem Inv.tok (I : Inv X pins σ H s) (t : Nat) : Inv X pins σ H { s with toks := t } := I.un (h' := s.heap) (t' := t) Un.refl I.hok
theorem Inv.kept {t' : Nat} (I : Inv X pins σ H s) (k : ∀ b u, s.heap.get? b = some u → h'.get? b = some u) : Inv X pins σ H { s with heap := h', toks := t' } := I.un (Un.kept k) (I.hok.kept k)
theorem Inv.laid {a : aaC} {o : HO} {t' : Nat} (I : Inv X pins σ H s) (k : ∀ b u, s.heap.get? b = some u → h'.get? b = some u) (hp : s.heap.objs.size ≤ a) (new : cO X.prog X.w (upd H a o) h' a o) :
  Inv X pins σ (upd H a o) { s with heap := h', toks := t' } := I.un (Un.laid k hp (I.hok.fresh hp)) (I.hok.laid k hp new)
theorem Inv.write {x e : aaC} {o : HO} {t' : Nat} (I : Inv X pins σ H s) (mu : Qx (H x)) (he : e = x ∨ H e = some (.own x)) (k : ∀ b u, b ≠ e → s.heap.get? b = some u → h'.get? b = some u) (P8 : ∃ u, h'.get? e = some u)
  (new : cO X.prog X.w (upd H x o) h' x o) : Inv X pins σ (upd H x o) { s with heap := h', toks := t' } := I.un (Un.write mu he k P8) (I.hok.write mu he k P8 new)
theorem Inv.Gr {MU : List (aaC × Obj)} (I : Inv X pins σ H s) (h : ∀ p ∈ MU, s.heap.get? p.1 = some p.2 ∧ H p.1 = none ∧ p.1 ≠ X.env.locals ∧ p.1 ∉ X.fs ∧ ∀ v, p.2.data ≠ .cell v) : Inv X MU σ H s :=
 ⟨I.ok, I.os, I.bare, I.base, I.loc, I.cell, I.free, I.pH, fun p hp => (aax.mp hp).elim (fun z => I.pin p (aay _ z)) (h p), I.hok, I.len⟩
theorem CS {N : List Str} (hN : N.Nodup) {i j : Nat} {x : Str} (a : N[i]? = some x) (b : N[j]? = some x) : i = j := by
 obtain ⟨h1, e1⟩ := aaj.mp a
 obtain ⟨h2, e2⟩ := aaj.mp b
 exact (List.getElem_inj hN).mp (e1.trans e2.symm)
theorem yQ {M : Model} {A : aba} {E : aad → aaf → Prop} {i : Nat} {x : Str} {v : V} {u : aad} {Q : Unit → aaf → Prop} (I : Inv X pins σ H s) (hN : X.N.Nodup) (hi : X.N[i]? = some x) (hx : Loc X.env.scope x) (r : RelV v u)
  (h : ∀ s', Inv X pins (σ.set i (some v)) H s' → (∃ a, adK a s.heap s'.heap ∧ (a = X.env.locals ∨ X.env.cells.lookup x = some a)) → Q () s') (hf : X.fn x = true ∨ X.env.scope.names.lookup x = some .local := by first | exact .inl rfl | exact .inr rfl | assumption) : aaZ M A (storeName X.env x u) Q E s := by
 obtain ⟨m, hn, hl⟩ := id I.loc
 have Vg : (X.env.scope.kind == .class || (X.env.scope.kind == .module && X.env.locals != X.env.globals)) = false := by rw [I.ok.kind]; rfl
 have YH : i < σ.length := by rw [I.len]; exact (aaj.mp hi).1
 have MT := I.MT
 have tracked : ∀ {a : aaC} {h' : Heap}, (∃ o, s.heap.get? a = some o ∧ H a = none) → adK a s.heap h' → pS X.prog X.w H h' := fun {a h'} ha hs b ob e => by
  obtain ⟨_, _, hfree⟩ := ha
  refine (I.hok b ob e).IP (fun c w' hc q => (hs.2 c ?_).trans q) (fun _ q => q) fun _ _ q => q
  rintro rfl
  rcases hc with rfl | hc
  ·rw [hfree] at e; cases e
  ·rw [hfree] at hc; cases hc
 rcases hx with hk | hk
 ·refine wpAny_storeName_local hk hn (fun h' hn' hs => ?_) Vg
  obtain ⟨oL, _, _, hoL, _⟩ := id hn
  refine h _ ⟨I.ok, I.os, I.bare, ⟨fun b o e n hb hx => ?_, fun b o e n hb hx => ?_, I.base.free, fun b o e hx => ?_, I.base.uZ, I.base.tZ, I.base.u4⟩, ⟨_, hn', fun j y v' e1 e2 e3 => ?_⟩, fun y c e => ?_, I.free, I.pH, fun p hp => ?_, tracked ⟨oL, hoL, I.free⟩ hs, by simpa using I.len⟩ ⟨_, hs, .inl rfl⟩
  ·exact (hs.2 b (abe (aa1 (aaT e) I.ok.above))).trans (I.base.keep b o e n hb hx)
  ·obtain ⟨sl, e1⟩ := I.base.slot b o e n hb hx
   exact ⟨sl, (hs.2 b (abe (aa1 (aaT e) I.ok.above))).trans e1⟩
  ·obtain ⟨o', e1⟩ := I.base.there b o e hx
   exact ⟨o', (hs.2 b (abe (aa1 (aaT e) I.ok.above))).trans e1⟩
  ·by_cases hj : j = i
   ·subst hj
    rw [hi] at e1; cases e1
    rw [adE YH] at e2
    cases e2
    exact ⟨u, r, .inl ⟨hk, by simp⟩⟩
   ·rw [adS (acp hj)] at e2
    obtain ⟨u', r', q⟩ := hl j y v' e1 e2 e3
    refine ⟨u', r', ?_⟩
    rcases q with ⟨k, e⟩ | ⟨k, c, e, z⟩
    ·refine .inl ⟨k, ?_⟩
     have : y ≠ x := fun e => hj (CS hN e1 (e ▸ hi))
     simp [this, e]
    ·exact .inr ⟨k, c, e, z.sameBut hs (MT y c e)⟩
  ·obtain ⟨w', z⟩ := I.cell y c e
   exact ⟨w', z.sameBut hs (MT y c e)⟩
  ·obtain ⟨e, n, ne, nf, d⟩ := I.pin p hp
   exact ⟨(hs.2 p.1 ne).trans e, n, ne, nf, d⟩
 ·have QB : X.fn x = true := by
   rcases hf with z | z
   ·exact z
   ·rw [z] at hk; cases hk
  obtain ⟨c, hc⟩ := I.ok.has x (.inl hk)
  obtain ⟨w', z⟩ := I.cell x c hc
  refine wpAny_storeName_cell I.ok.kind hk hc z (fun h' hc' hs => ?_)
  obtain ⟨oc, YI, Vh⟩ := id z
  refine h { s with heap := h' } ⟨I.ok, I.os, I.bare, ⟨fun b o e n hb hx => ?_, fun b o e n hb hx => ?_, I.base.free, fun b o e hx => ?_, I.base.uZ, I.base.tZ, I.base.u4⟩, ⟨m, hn.sameBut hs (acp (MT x c hc)), fun j y v' e1 e2 e3 => ?_⟩, fun y c' e => ?_, I.free, I.pH, fun p hp => ?_, tracked ⟨oc, YI, I.pH x c hc⟩ hs, by simpa using I.len⟩ ⟨c, hs, .inr hc⟩
  ·exact (hs.2 b (abe (aa1 (aaT e) (I.ok.Qz x c QB hc)))).trans (I.base.keep b o e n hb hx)
  ·obtain ⟨sl, e1⟩ := I.base.slot b o e n hb hx
   exact ⟨sl, (hs.2 b (abe (aa1 (aaT e) (I.ok.Qz x c QB hc)))).trans e1⟩
  ·obtain ⟨o', e1⟩ := I.base.there b o e hx
   exact ⟨o', (hs.2 b (abe (aa1 (aaT e) (I.ok.Qz x c QB hc)))).trans e1⟩
  ·by_cases hj : j = i
   ·subst hj
    rw [hi] at e1; cases e1
    rw [adE YH] at e2
    cases e2
    exact ⟨u, r, .inr ⟨.inl hk, c, hc, hc'⟩⟩
   ·rw [adS (acp hj)] at e2
    obtain ⟨u', r', q⟩ := hl j y v' e1 e2 e3
    refine ⟨u', r', ?_⟩
    rcases q with q | ⟨k, c', e, z'⟩
    ·exact .inl q
    ·refine .inr ⟨k, c', e, z'.sameBut hs ?_⟩
     rintro rfl
     exact hj (CS hN e1 (I.ok.inj _ _ _ e hc ▸ hi))
  ·by_cases YJ : c' = c
   ·subst YJ; exact ⟨_, hc'⟩
   ·obtain ⟨w2, z2⟩ := I.cell y c' e
    exact ⟨w2, z2.sameBut hs YJ⟩
  ·obtain ⟨e, n, ne, nf, d⟩ := I.pin p hp
   refine ⟨(hs.2 p.1 ?_).trans e, n, ne, nf, d⟩
   intro q
   rw [q, YI] at e
   have q' : oc = p.2 := aa4 e
   exact d w' (by rw [← q']; exact Vh)
theorem mM {M : Model} {A : aba} {E : aad → aaf → Prop} {i : Nat} {x : Str} {v : V} {u : aad} {Q : Unit → aaf → Prop} (I : Inv X pins σ H s) (hN : X.N.Nodup) (hi : X.N[i]? = some x) (hx : Loc X.env.scope x) (r : RelV v u)
  (h : ∀ s', Inv X pins (σ.set i (some v)) H s' → Q () s') (hf : X.fn x = true ∨ X.env.scope.names.lookup x = some .local := by first | exact .inl rfl | exact .inr rfl | assumption) : aaZ M A (storeName X.env x u) Q E s :=
 yQ I hN hi hx r (fun s' I' _ => h s' I') hf
theorem Inv.QC {s' : aaf} {ch : List aaC} (I : Inv X pins σ H s) (ho : s'.os = s.os) (u : Un (Ho X.stack) ch H H' s.heap s'.heap) (hok : pS X.prog X.w H' s'.heap) (hg : AllBare s'.gens)
  (Lo : ∀ b ∈ ch, (b ∈ X.ex ∨ X.s₀.heap.objs.size ≤ b) ∧ b ≠ X.env.locals ∧ (∀ x c, X.env.cells.lookup x = some c → c ≠ b) ∧ ∀ p ∈ X.pn ++ pins, p.1 ≠ b) : Inv X pins σ H' s' := by
 obtain ⟨h', g', d', t', o'⟩ := s'
 have e : o' = s.os := ho
 subst e
 exact I.call (g' := g') (t' := t') (d' := d') u hok hg Lo
end
abbrev XK := aad → Option aaC → Hp → Prop
abbrev St := List (Option V)
abbrev VK := V → Hp → Prop
abbrev TE := St → Hp → VK → Prop
abbrev TT := St → Hp → (Bool → Hp → Prop) → Prop
abbrev TA := St → Hp → (List V → Hp → Prop) → Prop
structure Ends where
 nx : St → Hp → Prop
 rt : VK
 bk : St → Hp → Prop := fun _ _ => False
 ct : St → Hp → Prop := fun _ _ => False
abbrev TS := Ends → St → Hp → Prop
def EP (X : Cx) (pins : List (aaC × Obj)) (σ : St) (Q : VK) (u : aad) (s' : aaf) : Prop := ∃ v H', Inv X pins σ H' s' ∧ RelV v u ∧ Q v H'
def TP (X : Cx) (pins : List (aaC × Obj)) (σ : St) (Q : Bool → Hp → Prop) (b : Bool) (s' : aaf) : Prop := ∃ H', Inv X pins σ H' s' ∧ Q b H'
def AP (X : Cx) (pins : List (aaC × Obj)) (σ : St) (Q : List V → Hp → Prop) (us : List aad) (s' : aaf) : Prop := ∃ vs H', Inv X pins σ H' s' ∧ Vals vs us ∧ Q vs H'
def SP (X : Cx) (pins : List (aaC × Obj)) (D : Ends) (f : Flow) (s' : aaf) : Prop :=
 match f with
 | .next => ∃ σ' H', Inv X pins σ' H' s' ∧ D.nx σ' H'
 | .brk => ∃ σ' H', Inv X pins σ' H' s' ∧ D.bk σ' H'
 | .cont => ∃ σ' H', Inv X pins σ' H' s' ∧ D.ct σ' H'
 | .ret u => ∃ v σ' H', Inv X pins σ' H' s' ∧ RelV v u ∧ D.rt v H'
def PE (X : Cx) (e : Expr) (t : TE) : Prop :=
 ∀ (pins : List (aaC × Obj)) (s : aaf) (σ : St) (H : Hp) (Q : VK), Inv X pins σ H s → t σ H Q → aaZ (model X.prog X.w) X.A (eval e X.env) (EP X pins σ Q) X.xe s
def PT (X : Cx) (e : Expr) (t : TT) : Prop :=
 ∀ (pins : List (aaC × Obj)) (s : aaf) (σ : St) (H : Hp) (Q : Bool → Hp → Prop), Inv X pins σ H s → t σ H Q → aaZ (model X.prog X.w) X.A (isTrue e X.env (eval e X.env)) (TP X pins σ Q) X.xe s
def PW (X : Cx) (e : Expr) (t : TT) : Prop :=
 ∀ (whole : Sem aad) (pins : List (aaC × Obj)) (s : aaf) (σ : St) (H : Hp) (Q : Bool → Hp → Prop), Inv X pins σ H s → t σ H Q → aaZ (model X.prog X.w) X.A (isTrue e X.env whole) (TP X pins σ Q) X.xe s
theorem PW.pt {X : Cx} {e : Expr} {t : TT} (h : PW X e t) : PT X e t := h _
def PA (X : Cx) (es : List Expr) (t : TA) : Prop :=
 ∀ (pos : Pos) (pins : List (aaC × Obj)) (s : aaf) (σ : St) (H : Hp) (Q : List V → Hp → Prop), Inv X pins σ H s → t σ H Q → aaZ (model X.prog X.w) X.A (spliced (backTo pos (starEach es X.env))) (AP X pins σ Q) X.xe s
def PS (X : Cx) (st : Stmt) (t : TS) : Prop :=
 ∀ (pins : List (aaC × Obj)) (s : aaf) (σ : St) (H : Hp) (D : Ends), Inv X pins σ H s → t D σ H → aaZ (model X.prog X.w) X.A (exec st X.env) (SP X pins D) X.xe s
def EF (X : Cx) (st : List Stmt) (t : TS) : Prop :=
 ∀ (pins : List (aaC × Obj)) (s : aaf) (σ : St) (H : Hp) (D : Ends), Inv X pins σ H s → t D σ H → aaZ (model X.prog X.w) X.A (execs st X.env) (SP X pins D) X.xe s
theorem thn {α : Type} {t : Sem α} {Q Q' : α → aaf → Prop} {M : Model} {A : aba} {E : aad → aaf → Prop} {s : aaf} (h : aaZ M A t Q E s) (hQ : ∀ a s, Q a s → Q' a s) : aaZ M A t Q' E s := wpAny_mono h hQ fun _ _ x => x
end L2
namespace L2
open PySem PySem.Spec PyProof.Rows
section
variable {X : Cx}
theorem bin {a b : Expr} {ta tb : TE} (ha : PE X a ta) (hb : PE X b tb) {pins : List (aaC × Obj)} {s : aaf} {σ : St} {H : Hp} {R : V → V → Hp → Prop} (I : Inv X pins σ H s) (h : ta σ H fun x H1 => tb σ H1 fun y H2 => R x y H2)
  {α : Type} {Q : α → aaf → Prop} {f : aad → aad → Sem α}
  (hf : ∀ v u s2 x y H2, Inv X pins σ H2 s2 → RelV x v → RelV y u → R x y H2 → aaZ (model X.prog X.w) X.A (f v u) Q X.xe s2) :
  aaZ (model X.prog X.w) X.A (eval a X.env) (fun v s₁ => aaZ (model X.prog X.w) X.A (eval b X.env) (fun u s₂ => aaZ (model X.prog X.w) X.A (f v u) Q X.xe s₂) X.xe s₁) X.xe s := by
 refine thn (ha pins s σ H _ I h) fun v s1 ⟨x, H1, I1, r1, q1⟩ => ?_
 refine thn (hb pins s1 σ H1 _ I1 q1) fun u s2 ⟨y, H2, I2, r2, q2⟩ => ?_
 exact hf v u s2 x y H2 I2 r1 r2 q2
def QD (i : Nat) : TE := fun σ H Q => ∃ v, σ[i]? = some (some v) ∧ Q v H
def tC (v : V) : TE := fun _ H Q => Q v H
theorem N7 {i : Nat} {x : Str} {pos : Pos} (hN : X.N[i]? = some x) (hv : Uk X.env.scope x) (hd : (x == ("__debug__" : Str)) = false := by decide) (hcd : (x == ("__classdict__" : Str)) = false := by decide) : PE X (.Name x pos) (QD i) := by
 intro pins s σ H Q I h
 obtain ⟨v, e, h⟩ := h
 obtain ⟨m, hn, hl⟩ := I.loc
 obtain ⟨u, r, l⟩ := hl i x v hN e hv
 have fin : EP X pins σ Q u s := ⟨v, H, I, r, h⟩
 rcases l with ⟨hk, hm⟩ | ⟨hk, c, hc, hcell⟩
 ·exact wpAny_Name (wpAny_loadName_local I.ok.kind hk hn hm fin) hd
 ·rcases hk with hk | hk
  ·exact wpAny_Name (wpAny_loadName_cell I.ok.kind hk hc hcell fin) hd
  ·exact wpAny_Name (wpAny_loadName_free I.ok.kind hk hc hcell fin hcd) hd
theorem af {i j pos} : PE X (.Constant (.int i) j pos) (tC (.int i)) := fun _ _ _ H _ I h => wpAny_Constant_int ⟨.int i, H, I.tok _, ⟨_, rfl⟩, h⟩
theorem c7 {b j pos} : PE X (.Constant (.bool b) j pos) (tC (.bl b)) := fun _ _ _ H _ I h => Constant_bool ⟨.bl b, H, I, rfl, h⟩
theorem ar {x j pos} : PE X (.Constant (.str x) j pos) (tC (.str x)) := fun _ _ _ H _ I h => adf ⟨.str x, H, I.tok _, ⟨_, rfl⟩, h⟩
def Gl (X : Cx) (x : Str) : Prop := X.env.kindOf x = some .globalImplicit
theorem qk {E : aad → aaf → Prop} {pins : List (aaC × Obj)} {s : aaf} {σ : St} {H : Hp} {x : Str} {u : aad} {pos : Pos} {Q : aad → aaf → Prop} (I : Inv X pins σ H s) (hg : Gl X x) (hm : X.mg x = some u) (h : Q u s)
  (hd : (x == ("__debug__" : Str)) = false := by decide) : aaZ (model X.prog X.w) X.A (eval (.Name x pos) X.env) Q E s :=
 ac7 I.ok.kind hg (Calls.loadGlobal_global (by rw [I.ok.glob]; exact I.mod.glob.keeps I.bk) hm h) hd
theorem zQ {E : aad → aaf → Prop} {pins : List (aaC × Obj)} {s : aaf} {σ : St} {H : Hp} {x : Str} {u : aad} {pos : Pos} {Q : aad → aaf → Prop} (I : Inv X pins σ H s) (hg : Gl X x) (hm : X.mg x = none) (hv : bootBuiltins x = some u) (h : Q u s)
  (hn : x ≠ "__name__" := by decide) (hd : (x == ("__debug__" : Str)) = false := by decide) : aaZ (model X.prog X.w) X.A (eval (.Name x pos) X.env) Q E s := by
 obtain ⟨mb, h1, h2⟩ := I.mod.blt
 exact ac7 I.ok.kind hg (Calls.loadGlobal_builtin (by rw [I.ok.glob]; exact I.mod.glob.keeps I.bk) hm (by rw [I.ok.blt]; exact h1.keeps I.bk) ((h2 x hn).trans hv) h) hd
theorem de {x : Str} {v : V} {u : aad} {pos : Pos} (hg : Gl X x) (hm : X.mg x = some u) (r : RelV v u) (hd : (x == ("__debug__" : Str)) = false := by decide) : PE X (.Name x pos) (tC v) :=
 fun _ _ _ H _ I h => qk I hg hm ⟨v, H, I, r, h⟩ hd
theorem zR {x : Str} {v : V} {u : aad} {pos : Pos} (hg : Gl X x) (hm : X.mg x = none) (hv : bootBuiltins x = some u) (r : RelV v u) (hn : x ≠ "__name__" := by decide) (hd : (x == ("__debug__" : Str)) = false := by decide) : PE X (.Name x pos) (tC v) :=
 fun _ _ _ H _ I h => zQ I hg hm hv ⟨v, H, I, r, h⟩ hn hd
variable {a b : Expr} {ta tb : TE} {pos : Pos}
def PC (X : Cx) (op : CmpOp) (a b : Expr) (t : TE) : Prop :=
 ∀ (pins : List (aaC × Obj)) (s : aaf) (σ : St) (H : Hp) (Q : VK), Inv X pins σ H s → t σ H Q →
  aaZ (model X.prog X.w) X.A (eval a X.env) (fun v s₁ => aaZ (model X.prog X.w) X.A (eval b X.env) (fun u s₂ => aaZ (model X.prog X.w) X.A (compareOp op v u) (EP X pins σ Q) X.xe s₂) X.xe s₁) X.xe s
theorem IT (b : Expr) {op : CmpOp} (h : op ≠ .In) (h2 : op ≠ .NotIn) : behindInMarks op b = false := by
 have e1 : (op == CmpOp.In) = false := by cases op <;> first | rfl | exact absurd rfl h
 have e2 : (op == CmpOp.NotIn) = false := by cases op <;> first | rfl | exact absurd rfl h2
 cases b <;> simp [behindInMarks, e1, e2]
def tB (t : TE) : TT := fun σ H Q => t σ H fun x H1 => ∃ c, x = .bl c ∧ Q c H1
theorem EJ {op : CmpOp} {t : TE} (h : PC X op a b t) (h1 : behindInMarks op b = false := by first | exact IT _ (by decide) (by decide) | rfl) : PT X (.Compare a [op] [b] pos) (tB t) := by
 intro pins s σ H Q I hw
 refine wpAny_isTrue_Compare1 (thn (h pins s σ H _ I hw) fun v s1 h1 => thn h1 fun u s2 h2 => thn h2 fun c s3 ⟨x, H1, I1, r1, q1⟩ => ?_) h1
 obtain ⟨d, rfl, q⟩ := q1
 cases r1
 exact wpAny_truthy_bool ⟨H1, I1, q⟩
theorem cR {e : Expr} {t : TE} (h : PE X e t) (he : ∀ whole, isTrue e X.env whole = (do let v ← whole; standAt e.pos; holding [v] (truthy v)) := by intro _; rfl) : PT X e (tB t) := by
 intro pins s σ H Q I hw
 refine isTrue_plain (thn (h pins s σ H _ I hw) fun v s1 ⟨x, H1, I1, r1, q1⟩ => ?_) (he _)
 obtain ⟨d, rfl, q⟩ := q1
 cases r1
 exact wpAny_truthy_bool ⟨H1, I1, q⟩
variable {tA Uo : TT} {rest : List Expr}
def Vi (t u : TT) : TT := fun σ H Q => t σ H fun c H1 => if c = true then u σ H1 Q else Q false H1
def tOr (t u : TT) : TT := fun σ H Q => t σ H fun c H1 => if c = true then Q true H1 else u σ H1 Q
def Vj (t : TT) : TT := fun σ H Q => t σ H fun c H1 => Q (!c) H1
theorem uJ (ha : PT X a tA) : PW X (.BoolOp .And [a] pos) tA := by
 intro wh pins s σ H Q I h
 refine isTrue_and (thn (ha pins s σ H Q I h) fun c s1 e => ?_)
 cases c with
 | true => exact isTrue_and_nil e
 | false => exact e
theorem j8 (ha : PT X a tA) : PW X (.BoolOp .Or [a] pos) tA := by
 intro wh pins s σ H Q I h
 refine isTrue_or (thn (ha pins s σ H Q I h) fun c s1 e => ?_)
 cases c with
 | false => exact isTrue_or_nil e
 | true => exact e
theorem zS (ha : PT X a tA) (hb : PW X (.BoolOp .And (b :: rest) pos) Uo) : PW X (.BoolOp .And (a :: b :: rest) pos) (Vi tA Uo) := by
 intro wh pins s σ H Q I h
 refine isTrue_and (thn (ha pins s σ H _ I h) fun c s1 ⟨H1, I1, q1⟩ => ?_)
 cases c with
 | true => exact hb wh pins s1 σ H1 Q I1 q1
 | false => exact ⟨H1, I1, q1⟩
theorem iT (ha : PT X a tA) (hb : PW X (.BoolOp .Or (b :: rest) pos) Uo) : PW X (.BoolOp .Or (a :: b :: rest) pos) (tOr tA Uo) := by
 intro wh pins s σ H Q I h
 refine isTrue_or (thn (ha pins s σ H _ I h) fun c s1 ⟨H1, I1, q1⟩ => ?_)
 cases c with
 | true => exact ⟨H1, I1, q1⟩
 | false => exact hb wh pins s1 σ H1 Q I1 q1
theorem iZ (ha : PT X a tA) : PT X (.UnaryOp .Not a pos) (Vj tA) := by
 intro pins s σ H Q I h
 exact isTrue_not (ha pins s σ H (fun c H1 => Q (!c) H1) I h)
def QE (ta tb : TE) : TE := fun σ H Q => ta σ H fun x H1 => ∃ c, x = .bl c ∧ if c = true then tb σ H1 Q else Q (.bl false) H1
def Vk (ta tb : TE) : TE := fun σ H Q => ta σ H fun x H1 => ∃ c, x = .bl c ∧ if c = true then Q (.bl true) H1 else tb σ H1 Q
theorem rE {op} {t : TE} (h : PE X a t) : PE X (.BoolOp op [a] pos) t := fun pins s σ H Q I hw => BoolOp_one (h pins s σ H Q I hw)
theorem rF (ha : PE X a ta) (hb : PE X (.BoolOp .And (b :: rest) pos) tb) : PE X (.BoolOp .And (a :: b :: rest) pos) (QE ta tb) := by
 intro pins s σ H Q I h
 refine BoolOp_and (thn (ha pins s σ H _ I h) fun v s1 ⟨x, H1, I1, r1, q1⟩ => ?_)
 obtain ⟨c, rfl, q1⟩ := q1
 cases r1
 refine wpAny_truthy_bool ?_
 cases c with
 | true => exact hb pins s1 σ H1 Q I1 q1
 | false => exact ⟨.bl false, H1, I1, rfl, q1⟩
theorem MV (ha : PE X a ta) (hb : PE X (.BoolOp .Or (b :: rest) pos) tb) : PE X (.BoolOp .Or (a :: b :: rest) pos) (Vk ta tb) := by
 intro pins s σ H Q I h
 refine BoolOp_or (thn (ha pins s σ H _ I h) fun v s1 ⟨x, H1, I1, r1, q1⟩ => ?_)
 obtain ⟨c, rfl, q1⟩ := q1
 cases r1
 refine wpAny_truthy_bool ?_
 cases c with
 | false => exact hb pins s1 σ H1 Q I1 q1
 | true => exact ⟨.bl true, H1, I1, rfl, q1⟩
def tIf (t : TT) (ta tb : TE) : TE := fun σ H Q => t σ H fun c H1 => if c = true then ta σ H1 Q else tb σ H1 Q
theorem IU {c : Expr} (hc : PT X c tA) (ha : PE X a ta) (hb : PE X b tb) : PE X (.IfExp c a b pos) (tIf tA ta tb) := by
 intro pins s σ H Q I h
 refine wpAny_IfExp (thn (hc pins s σ H _ I h) fun d s1 ⟨H1, I1, q1⟩ => ?_)
 cases d with
 | true => exact ha pins s1 σ H1 Q I1 q1
 | false => exact hb pins s1 σ H1 Q I1 q1
end
end L2
namespace L2
open PySem PySem.Spec PyProof.Rows
def aH (K : aaa) (H : Hp) (a : aaC) (xs : List V) : Prop :=
 Rd H a (.lst xs) ∨
  ∃ (o : Obj) (its : Array aad) (n : Nat), K.lookup a = some o ∧ o.cls = .type "list" ∧ o.dict = none ∧ o.data = .seq its n ∧ its.size ≤ aai ∧ xs.all V.pl = true ∧ Vals xs its.toList
def cK (K : aaa) (H : Hp) (a : aaC) (xs : List V) : Prop :=
 Rd H a (.tup xs) ∨
  ∃ (o : Obj) (its : Array aad) (n : Nat), K.lookup a = some o ∧ o.cls = .type "tuple" ∧ o.data = .seq its n ∧ its.size ≤ aai ∧ xs.all V.pl = true ∧ Vals xs its.toList
def Vl : aad → Option V
 | .none => some .bY
 | .bool b => some (.bl b)
 | .int i _ => some (.int i)
 | .str x _ => some (.str x)
 | .bytes b _ => some (.IH b)
 | .float b _ => some (.N3 b)
 | .ref a => some (.ref a)
 | .type n => some (.ty n)
 | _ => none
theorem RelV.abs {x : V} {u : aad} (r : RelV x u) (hp : x.pl = true) : Vl u = some x := by
 cases x with
 | tok _ _ => cases hp
 | bY => cases r; rfl
 | bl _ => cases r; rfl
 | int _ => obtain ⟨t, rfl⟩ := r; rfl
 | str _ => obtain ⟨t, rfl⟩ := r; rfl
 | IH _ => obtain ⟨t, rfl⟩ := r; rfl
 | N3 _ => obtain ⟨t, rfl⟩ := r; rfl
 | ref _ => cases r; rfl
 | ty _ => cases r; rfl
theorem RelV.inj {x y : V} {u : aad} (r : RelV x u) (q : RelV y u) (hx : x.pl = true) (hy : y.pl = true) : x = y := aa4 ((r.abs hx).symm.trans (q.abs hy))
theorem Vals.inj : ∀ {xs ys : List V} {us : List aad}, Vals xs us → Vals ys us → xs.all V.pl = true → ys.all V.pl = true → xs = ys
 | _, _, _, .nil, .nil, _, _ => rfl
 | _, _, _, .cons r t, .cons r' t', h, h' => by
  rw [abc, aaN] at h h'
  rw [r.inj r' h.1 h'.1, Vals.inj t t' h.2 h'.2]
section
variable {X : Cx} {pins : List (aaC × Obj)} {σ : St} {H : Hp} {s : aaf} {a : aaC} {xs ys : List V}
theorem aH.of {K : aaa} (h : H a = some (.lst xs)) : aH K H a xs := .inl (.inl h)
theorem cK.of {K : aaa} (h : H a = some (.tup xs)) : cK K H a xs := .inl (.inl h)
theorem Inv.list (I : Inv X pins σ H s) (h : aH X.K H a xs) : ∃ its : List aad, Vals xs its ∧ PlainL s.heap a its.toArray ∧ xs.length ≤ aai := by
 rcases h with h | ⟨o, its, n, hk, hc, hd, hs, hz, _, r⟩
 ·obtain ⟨z, its, n, r, e⟩ := h.ok I.hok
  exact ⟨its, r, ⟨_, n, e, rfl, rfl, rfl⟩, z⟩
 ·refine ⟨its.toList, r, ⟨o, n, I.qj a o hk, hc, hd, by simpa using hs⟩, ?_⟩
  have e := r.length
  simp only [acq] at e
  omega
theorem Inv.tuple (I : Inv X pins σ H s) (h : cK X.K H a xs) : ∃ its : List aad, Vals xs its ∧ IsTup s.heap a its.toArray ∧ xs.length ≤ aai := by
 rcases h with h | ⟨o, its, n, hk, hc, hs, hz, _, r⟩
 ·obtain ⟨z, its, r, p⟩ := h.ok I.hok
  exact ⟨its, r, p, z⟩
 ·refine ⟨its.toList, r, ⟨o, I.qj a o hk, hc, n, by simpa using hs⟩, ?_⟩
  have e := r.length
  simp only [acq] at e
  omega
theorem Rd.none {u : HO} (h : Rd H a u) (z : H a = ad2) : False := by
 rcases h with h | ⟨o, h⟩
 ·rw [z] at h; cases h
 ·rw [z] at h; cases h
theorem Inv.kH (I : Inv X pins σ H s) {o : Obj} (h : X.K.lookup a = some o) : H a = ad2 := (I.bs a o (I.ok.mod.LC a o h)).2
theorem Inv.IV (I : Inv X pins σ H s) (h : aH X.K H a xs) (h' : aH X.K H a ys) : xs = ys := by
 rcases h with h | ⟨o, its, n, hk, hc, hd, hs, hz, hp, r⟩ <;> rcases h' with h' | ⟨o', its', n', hk', hc', hd', hs', hz', hp', r'⟩
 ·rcases h with h | ⟨o, h⟩ <;> rcases h' with h' | ⟨o', h'⟩ <;> rw [h] at h' <;> cases h' <;> rfl
 ·exact (h.none (I.kH hk')).elim
 ·exact (h'.none (I.kH hk)).elim
 ·rw [hk] at hk'; cases hk'
  rw [hs] at hs'
  injection hs' with d1 _
  subst d1
  exact r.inj r' hp hp'
theorem Inv.rG (I : Inv X pins σ H s) (h : cK X.K H a xs) (h' : cK X.K H a ys) : xs = ys := by
 rcases h with h | ⟨o, its, n, hk, hc, hs, hz, hp, r⟩ <;> rcases h' with h' | ⟨o', its', n', hk', hc', hs', hz', hp', r'⟩
 ·rcases h with h | ⟨o, h⟩ <;> rcases h' with h' | ⟨o', h'⟩ <;> rw [h] at h' <;> cases h' <;> rfl
 ·exact (h.none (I.kH hk')).elim
 ·exact (h'.none (I.kH hk)).elim
 ·rw [hk] at hk'; cases hk'
  rw [hs] at hs'
  injection hs' with d1 _
  subst d1
  exact r.inj r' hp hp'
end
abbrev Cx.u5 (X : Cx) (E : aad → aaf → Prop) : Cx := { X with xe := E }
abbrev Cx.MW (X : Cx) : Cx := X.u5 fun _ _ => False
theorem Cx.Ok.u5 {X : Cx} (ok : X.Ok) (E : aad → aaf → Prop) : (X.u5 E).Ok :=
 ⟨ok.mod, ok.kind, ok.glob, ok.blt, ok.above, ok.inj, ok.has, ok.Qz, ok.hd, ok.frames, ok.Ul, ok.YE, ok.bs, ok.LD, ok.IS, ok.LF, ok.t5, ok.N6⟩
theorem Cx.Ok.j9 {X : Cx} {E : aad → aaf → Prop} (ok : (X.u5 E).Ok) : X.Ok :=
 ⟨ok.mod, ok.kind, ok.glob, ok.blt, ok.above, ok.inj, ok.has, ok.Qz, ok.hd, ok.frames, ok.Ul, ok.YE, ok.bs, ok.LD, ok.IS, ok.LF, ok.t5, ok.N6⟩
section
variable {X : Cx} {pins : List (aaC × Obj)} {σ : St} {H : Hp} {s : aaf} {E : aad → aaf → Prop}
theorem Inv.u5 (I : Inv X pins σ H s) (E : aad → aaf → Prop) : Inv (X.u5 E) pins σ H s := ⟨I.ok.u5 E, I.os, I.bare, I.base, I.loc, I.cell, I.free, I.pH, I.pin, I.hok, I.len⟩
theorem Inv.j9 (I : Inv (X.u5 E) pins σ H s) : Inv X pins σ H s := ⟨I.ok.j9, I.os, I.bare, I.base, I.loc, I.cell, I.free, I.pH, I.pin, I.hok, I.len⟩
theorem SP.j9 {D : Ends} {f : Flow} {s' : aaf} (h : SP (X.u5 E) pins D f s') : SP X pins D f s' := by
 cases f with
 | next => obtain ⟨σ', H', I, q⟩ := h; exact ⟨σ', H', I.j9, q⟩
 | brk => obtain ⟨σ', H', I, q⟩ := h; exact ⟨σ', H', I.j9, q⟩
 | cont => obtain ⟨σ', H', I, q⟩ := h; exact ⟨σ', H', I.j9, q⟩
 | ret u => obtain ⟨v, σ', H', I, r, q⟩ := h; exact ⟨v, σ', H', I.j9, r, q⟩
theorem EF.MW {st : List Stmt} {t : TS} (h : EF X.MW st t) : EF X st t := fun pins s σ H D I hw =>
 wpAny_mono (h pins s σ H D (I.u5 _) hw) (fun _ _ q => q.j9) fun _ _ z => abo z
end
section
variable {X : Cx} {st : Stmt} {rest : List Stmt} {t u : TS} {e : Expr} {te : TE} {pos : Pos}
def QF : TS := fun D σ H => D.nx σ H
def LG (t u : TS) : TS := fun D σ H => t { D with nx := u D } σ H
theorem aE : EF X [] QF := fun _ _ σ H _ I h => wpAny_execs_nil ⟨σ, H, I, h⟩
theorem ag (h1 : PS X st t) (h2 : EF X rest u) : EF X (st :: rest) (LG t u) := by
 intro pins s σ H D I h
 refine wpAny_execs_cons (thn (h1 pins s σ H { D with nx := u D } I h) fun f s1 q => ?_)
 cases f with
 | next =>
  obtain ⟨σ', H', I', q⟩ := q
  exact h2 pins s1 σ' H' D I' q
 | ret v => exact q
 | brk => exact q
 | cont => exact q
theorem ai (h1 : PS X st t) : EF X [st] t := by
 intro pins s σ H D I h
 refine wpAny_execs_cons (thn (h1 pins s σ H D I h) fun f s1 q => ?_)
 cases f with
 | next => exact wpAny_execs_nil q
 | ret v => exact q
 | brk => exact q
 | cont => exact q
def QG : TS := fun D σ H => D.ct σ H
theorem CT : PS X (.Continue pos) QG := fun _ _ σ H _ I h => wpAny_Continue ⟨σ, H, I, h⟩
theorem Inv.quiet {pins : List (aaC × Obj)} {σ : St} {H : Hp} {s : aaf} (I : Inv X pins σ H s) : interactive X.env = false := by simp [interactive, I.ok.kind]
def QH (te : TE) : TS := fun D σ H => te σ H fun _ H1 => D.nx σ H1
theorem bf (he : PE X e te) (hs : swapsWith e none pos.line X.env = pure false := by rfl) : PS X (.Expr e pos) (QH te) := by
 intro pins s σ H D I h
 exact wpAny_Expr_any (thn (he pins s σ H _ I h) fun v s1 ⟨x, H1, I1, r1, q1⟩ => ⟨σ, H1, I1, q1⟩) I.quiet hs
def QI (te : TE) : TS := fun D σ H => te σ H D.rt
theorem aC (he : PE X e te) : PS X (.Return (some e) pos) (QI te) := by
 intro pins s σ H D I h
 exact wpAny_Return_some (thn (he pins s σ H _ I h) fun v s1 ⟨x, H1, I1, r1, q1⟩ => ⟨x, σ, H1, I1, r1, q1⟩)
def QJ : TS := fun D _ H => D.rt .bY H
theorem LH : PS X (.Return none pos) QJ := fun _ _ σ H _ I h => wpAny_Return_none ⟨.bY, σ, H, I, rfl, h⟩
def QK (c : TT) (t u : TS) : TS := fun D σ H => c σ H fun b H1 => if b = true then t D σ H1 else u D σ H1
theorem aV {c : Expr} {a b : List Stmt} {tc : TT} (hc : PT X c tc) (ha : EF X a t) (hb : EF X b u) : PS X (.If c a b pos) (QK tc t u) := by
 intro pins s σ H D I h
 refine wpAny_If (thn (hc pins s σ H _ I h) fun d s1 ⟨H1, I1, q1⟩ => ?_)
 cases d with
 | true => exact ha pins s1 σ H1 D I1 q1
 | false => exact hb pins s1 σ H1 D I1 q1
def IW : TS := fun _ _ _ => False
theorem IX : PS X st IW := fun _ _ _ _ _ _ h => h.elim
theorem bg {sts : List Stmt} : EF X sts IW := fun _ _ _ _ _ _ h => h.elim
end
abbrev TG := V → St → Hp → (St → Hp → Prop) → Prop
def PG (X : Cx) (target : Expr) (t : TG) : Prop :=
 ∀ (pins : List (aaC × Obj)) (s : aaf) (σ : St) (H : Hp) (v : V) (u : aad) (Q : St → Hp → Prop), Inv X pins σ H s → RelV v u → t v σ H Q →
  aaZ (model X.prog X.w) X.A (assign target X.env u) (fun _ s' => ∃ σ' H', Inv X pins σ' H' s' ∧ Q σ' H') X.xe s
abbrev N8 := V → V → V → Hp → (Hp → Prop) → Prop
def QL (X : Cx) (t : N8) : Prop :=
 ∀ (pins : List (aaC × Obj)) (s : aaf) (σ : St) (H : Hp) (o i v : V) (ov iv u : aad) (Q : Hp → Prop), Inv X pins σ H s → RelV o ov → RelV i iv → RelV v u → t o i v H Q →
  aaZ (model X.prog X.w) X.A (setItem ov iv u) (fun _ s' => ∃ H', Inv X pins σ H' s' ∧ Q H') X.xe s
abbrev Up := V → V → Hp → VK → Prop
def YK (X : Cx) (op : Operator) (t : Up) : Prop :=
 ∀ (pins : List (aaC × Obj)) (s : aaf) (σ : St) (H : Hp) (x y : V) (v u : aad) (Q : VK), Inv X pins σ H s → RelV x v → RelV y u → t x y H Q →
  aaZ (model X.prog X.w) X.A (inplaceOp op v u) (EP X pins σ Q) X.xe s
section
variable {X : Cx} {pos : Pos}
def tI (i : Nat) : TG := fun v σ H Q => Q (σ.set i (some v)) H
theorem bN {i : Nat} {x : Str} (hN : X.N.Nodup) (hi : X.N[i]? = some x) (hx : Loc X.env.scope x) (hf : X.fn x = true ∨ X.env.scope.names.lookup x = some .local := by first | exact .inl rfl | exact .inr rfl | assumption) : PG X (.Name x pos) (tI i) := by
 intro pins s σ H v u Q I r h
 exact wpAny_assign_Name (mM I hN hi hx r (fun s' I' => ⟨_, H, I', h⟩) hf)
def Vm (to ti : TE) (t : N8) : TG := fun v σ H Q => to σ H fun o H1 => ti σ H1 fun i H2 => t o i v H2 fun H3 => Q σ H3
theorem N9 {o i : Expr} {to ti : TE} {t : N8} (ho : PE X o to) (hi : PE X i ti) (hs : QL X t)
  (ha : ∀ v, assign (.Subscript o i pos) X.env v = (do
   let ov ← holding [v] (eval o X.env)
   let iv ← holding [v, ov] (eval i X.env)
   standAt pos
   holding [v, ov, iv] (setItem ov iv v)
   release [v, ov, iv] []) := by intro _; rfl) : PG X (.Subscript o i pos) (Vm to ti t) := by
 intro pins s σ H v u Q I r h
 rw [ha]
 refine aau (wpAny_holding (thn (ho pins s σ H _ I h) fun ov s1 ⟨x, H1, I1, r1, q1⟩ => ?_))
 refine aau (wpAny_holding (thn (hi pins s1 σ H1 _ I1 q1) fun iv s2 ⟨y, H2, I2, r2, q2⟩ => ?_))
 refine aau (wpAny_standAt (aau (wpAny_holding (thn (hs pins s2 σ H2 x y v ov iv u _ I2 r1 r2 r q2) fun _ s3 ⟨H3, I3, q3⟩ => ?_))))
 exact wpAny_release ⟨σ, H3, I3, q3⟩
def IY (te : TE) (g : TG) : TS := fun D σ H => te σ H fun x H1 => g x σ H1 D.nx
theorem Oa {tg e : Expr} {te : TE} {g : TG} (he : PE X e te) (hg : PG X tg g) (hs : swapsWithSole [tg] e pos.line X.env = pure false := by rfl) (hw : swappedStores [tg] e X.env = pure none := by rfl)
  (h1 : (assignEach [tg] X.env).map (·.2) = [assign tg X.env] := by rfl) : PS X (.Assign [tg] e pos) (IY te g) := by
 intro pins s σ H D I h
 refine wpAny_Assign_stores (thn (he pins s σ H _ I h) fun v s1 ⟨x, H1, I1, r1, q1⟩ => ?_) hs hw
 rw [h1]
 exact thn (hg pins s1 σ H1 x v _ I1 r1 q1) fun _ s2 q => q
theorem aw {i : Nat} {x : Str} {e : Expr} {te : TE} {pos' : Pos} (hN : X.N.Nodup) (hi : X.N[i]? = some x) (hx : Loc X.env.scope x) (he : PE X e te) (hs : swapsWith e (some (.Name x pos')) pos.line X.env = pure false := by rfl) (hf : X.fn x = true ∨ X.env.scope.names.lookup x = some .local := by first | exact .inl rfl | exact .inr rfl | assumption) :
  PS X (.Assign [.Name x pos'] e pos) (IY te (tI i)) := by
 intro pins s σ H D I h
 refine wpAny_Assign_Name (thn (he pins s σ H _ I h) fun v s1 ⟨y, H1, I1, r1, q1⟩ => ?_) hs
 exact mM I1 hN hi hx r1 (fun s2 I2 => ⟨_, H1, I2, q1⟩) hf
def Vn (i : Nat) (te : TE) (ti : Up) : TS := fun D σ H => ∃ x, σ[i]? = some (some x) ∧ te σ H fun y H1 => ti x y H1 fun z H2 => D.nx (σ.set i (some z)) H2
theorem zT {i : Nat} {x : Str} {e : Expr} {te : TE} {op : Operator} {ti : Up} {pos' : Pos} (hN : X.N.Nodup) (hi : X.N[i]? = some x) (hx : Loc X.env.scope x) (he : PE X e te) (ho : YK X op ti) (hf : X.fn x = true ∨ X.env.scope.names.lookup x = some .local := by first | exact .inl rfl | exact .inr rfl | assumption) :
  PS X (.AugAssign (.Name x pos') op e pos) (Vn i te ti) := by
 intro pins s σ H D I h
 obtain ⟨v, e1, h⟩ := h
 obtain ⟨m, hn, hl⟩ := I.loc
 have vis : Uk X.env.scope x := by rcases hx with k | k; exact .inl k; exact .inr (.inl k)
 obtain ⟨u, r, l⟩ := hl i x v hi e1 vis
 refine wpAny_AugAssign_Name ?_
 have go : aaZ (model X.prog X.w) X.A (eval e X.env) (fun w s₂ => aaZ (model X.prog X.w) X.A (inplaceOp op u w) (fun r s₃ => aaZ (model X.prog X.w) X.A (storeName X.env x r) (fun _ => SP X pins D .next) X.xe s₃) X.xe s₂) X.xe s := by
  refine thn (he pins s σ H _ I h) fun w s1 ⟨y, H1, I1, r1, q1⟩ => ?_
  refine thn (ho pins s1 σ H1 v y u w _ I1 r r1 q1) fun z s2 ⟨zv, H2, I2, r2, q2⟩ => ?_
  exact mM I2 hN hi hx r2 (fun s3 I3 => ⟨_, H2, I3, q2⟩) hf
 rcases l with ⟨hk, hm⟩ | ⟨hk, c, hc, hcell⟩
 ·exact wpAny_loadName_local I.ok.kind hk hn hm go
 ·rcases hk with hk | hk
  ·exact wpAny_loadName_cell I.ok.kind hk hc hcell go
  ·rcases hx with k | k
   ·have : X.env.scope.names.lookup x = some .free := hk
    rw [k] at this; cases this
   ·have : X.env.scope.names.lookup x = some .free := hk
    rw [k] at this; cases this
def ipI (f : Int → Int → Int) : Up := fun x y H Q => ∃ i j, x = .int i ∧ y = .int j ∧ Q (.int (f i j)) H
theorem zU : YK X .Add (ipI fun i j => i + j) := by
 intro pins s σ H x y v u Q I r1 r2 h
 obtain ⟨i, j, e1, e2, q⟩ := h
 subst e1; subst e2
 obtain ⟨t, rfl⟩ := r1
 obtain ⟨t', rfl⟩ := r2
 exact iadd_int ⟨.int _, H, I.tok _, ⟨_, rfl⟩, q⟩
end
section
variable {X : Cx} {pos : Pos}
def Ob (c : TT) (tb : TS) : TS := fun D σ H => ∃ W : Nat → St → Hp → Prop, (∃ m, W m σ H) ∧ ∀ m σ H, W m σ H →
 c σ H fun b H1 => if b = true then ∃ N : St → Hp → Prop, (∀ σ' H', N σ' H' → ∃ m', m' < m ∧ W m' σ' H') ∧ tb { D with nx := N, ct := N, bk := D.nx } σ H1 else D.nx σ H1
theorem qm {c : Expr} {body : List Stmt} {tc : TT} {tb : TS} (hp : PassesOwn (model X.prog X.w) X.A X.env X.xe) (hc : PT X c tc) (hb : EF X body tb) : PS X (.While c body [] pos) (Ob tc tb) := by
 intro pins s σ H D I h
 obtain ⟨W, ⟨m0, w0⟩, turn⟩ := h
 refine wpAny_While (codeAny_whileLoop (fun n s' => ∃ σ' H', Inv X pins σ' H' s' ∧ W n σ' H') ?_ m0 ⟨σ, H, I, w0⟩)
 rintro n s1 ⟨σ1, H1, I1, w1⟩
 refine wpAny_passesOwn hp (thn (hc pins s1 σ1 H1 _ I1 (turn n σ1 H1 w1)) fun b s2 ⟨H2, I2, q2⟩ => ?_)
 cases b with
 | true =>
  obtain ⟨N, hN, q2⟩ := q2
  rw [if_pos rfl]
  refine wpAny_passesOwn hp (thn (hb pins s2 σ1 H2 _ I2 q2) fun f s3 q3 => ?_)
  cases f with
  | next =>
   obtain ⟨σ3, H3, I3, n3⟩ := q3
   obtain ⟨m', hm, w3⟩ := hN σ3 H3 n3
   exact ⟨m', hm, σ3, H3, I3, w3⟩
  | cont =>
   obtain ⟨σ3, H3, I3, n3⟩ := q3
   obtain ⟨m', hm, w3⟩ := hN σ3 H3 n3
   exact ⟨m', hm, σ3, H3, I3, w3⟩
  | brk => exact q3
  | ret v => exact q3
 | false =>
  rw [if_neg aaz]
  exact wpAny_execs_nil ⟨σ1, H2, I2, q2⟩
end
structure It where
 go : Nat → Hp → Prop
 Oc : Nat → Hp → V → Hp → Prop
 stop : Nat → Hp → Prop
def u6 (X : Cx) (pins : List (aaC × Obj)) (H : Hp) (b : aaC) : Prop :=
 H b = none ∧ b ≠ X.env.locals ∧ b ∉ X.fs ∧ (b ∈ X.ex ∨ X.s₀.heap.objs.size ≤ b) ∧ (∀ x c, X.env.cells.lookup x = some c → c ≠ b) ∧ ∀ p ∈ X.pn ++ pins, p.1 ≠ b
theorem Inv.Hq {X : Cx} {pins : List (aaC × Obj)} {σ : St} {H H' : Hp} {s : aaf} {b : aaC} (I : Inv X pins σ H s) (hb : s.heap.objs.size ≤ b) (hn : H' b = none) : u6 X pins H' b := by
 refine ⟨hn, Nat.ne_of_gt (aa1 I.lt hb), I.Vd hb, .inr (aa8 I.sz hb), fun x c e z => ?_, fun p hp z => ?_⟩
 ·obtain ⟨v, q⟩ := I.cell x c e
  exact absurd (aa1 q.lt (by rw [z]; exact hb)) (ach _)
 ·exact absurd (aa1 (aaT (I.pin p hp).1) (by rw [z]; exact hb)) (ach _)
structure Turn (P : aaL) (w : aa9) (K : aaa) (tg : Expr) (J : It) (fp : List aaC) (it : aaC) (tn : Nat → Heap → Prop) : Prop where
 mem : it ∈ fp
 obj : ∀ i h, tn i h → ∀ b ∈ fp, ∃ o, h.get? b = some o ∧ ∀ v, o.data ≠ .cell v
 keep : ∀ i h h', tn i h → (∀ b ∈ fp, ∀ o, h.get? b = some o → h'.get? b = some o) → tn i h'
 item : ∀ (X : Cx), X.prog = P → X.w = w → X.K = K → X.calm = true → ∀ (i : Nat) (pins : List (aaC × Obj)) (s : aaf) (σ : St) (H : Hp) (E : aad → aaf → Prop), Inv X pins σ H s → (∀ b ∈ fp, u6 X pins H b) → tn i s.heap → J.go i H →
  aaZ (model P w) X.A (pyNext (.ref it)) (fun r s1 => ∃ u, r = some u ∧
   aaZ (model P w) X.A (letOwnedTupleGo tg (.ref it) u) (fun _ s2 => ∃ x H', Inv X pins σ H' s2 ∧ RelV x u ∧ J.Oc i H x H' ∧ tn (i + 1) s2.heap ∧ ∀ b ∈ fp, H' b = none) E s1) E s
 done : ∀ (X : Cx), X.prog = P → X.w = w → X.K = K → X.calm = true → ∀ (i : Nat) (pins : List (aaC × Obj)) (s : aaf) (σ : St) (H : Hp) (E : aad → aaf → Prop), Inv X pins σ H s → (∀ b ∈ fp, u6 X pins H b) → tn i s.heap → J.stop i H →
  aaZ (model P w) X.A (pyNext (.ref it)) (fun r s1 => r = none ∧ Inv X pins σ H s1) E s
 self : ∀ (A : aba) (i : Nat) (s : aaf) (Q : aad → aaf → Prop) (E : aad → aaf → Prop), tn i s.heap → Q (.ref it) s → aaZ (model P w) A (pyIter (.ref it)) Q E s
abbrev TI := St → Hp → (It → Hp → Prop) → Prop
def Uq (X : Cx) (pins : List (aaC × Obj)) (σ : St) (tg : Expr) (R : It → Hp → Prop) (Ur : aad) (s2 : aaf) : Prop :=
 ∃ (it : aaC) (fp : List aaC) (tn : Nat → Heap → Prop) (J : It) (H' : Hp), Ur = .ref it ∧ Inv X pins σ H' s2 ∧ Turn X.prog X.w X.K tg J fp it tn ∧ tn 0 s2.heap ∧ (∀ b ∈ fp, u6 X pins H' b) ∧ R J H'
def PI (X : Cx) (tg iter : Expr) (wi : TI) : Prop :=
 ∀ (pins : List (aaC × Obj)) (s : aaf) (σ : St) (H : Hp) (R : It → Hp → Prop), Inv X pins σ H s → wi σ H R →
  aaZ (model X.prog X.w) X.A (eval iter X.env) (fun v s1 => aaZ (model X.prog X.w) X.A (pyIter v) (Uq X pins σ tg R) X.xe s1) X.xe s
theorem Gs {M : Model} {A : aba} {E : aad → aaf → Prop} {s : aaf} {tg : Expr} {it : aaC} {u : aad} {o : Obj} {n : String} {vs : Array aad} {Q : Unit → aaf → Prop} (ho : s.heap.get? it = some o) (hc : o.cls = .type n) (hd : o.data = .fields vs)
    (hn : ["enumerate", "zip", "dict_itemiterator", "dict_reverseitemiterator", "odict_iterator", "itertools.zip_longest", "itertools.pairwise"].contains n = false) (hQ : Q () s) : aaZ M A (letOwnedTupleGo tg (.ref it) u) Q E s := by
  unfold letOwnedTupleGo
  cases tg <;> first
    | exact aaO hQ
    | (cases u <;> first
        | exact aaO hQ
        | (refine aau (wpAny_load ho ?_)
           rw [hc, hd]
           show aaZ M A (if (["enumerate", "zip", "dict_itemiterator", "dict_reverseitemiterator", "odict_iterator", "itertools.zip_longest", "itertools.pairwise"].contains n && vs[0]? == some (rawInt _)) = true then _ else _) Q E s
           rw [if_neg (by intro h; rw [hn, adY] at h; cases h)]
           exact aaO hQ))
def IZ (K : aaa) (a : aaC) : It :=
 ⟨fun i H => ∃ xs x, aH K H a xs ∧ xs[i]? = some x, fun i H x H' => H' = H ∧ ∀ xs, aH K H a xs → xs[i]? = some x, fun i H => ∃ xs, aH K H a xs ∧ xs.length ≤ i⟩
def MX (K : aaa) (a : aaC) : It :=
 ⟨fun i H => ∃ xs x, cK K H a xs ∧ xs[i]? = some x, fun i H x H' => H' = H ∧ ∀ xs, cK K H a xs → xs[i]? = some x, fun i H => ∃ xs, cK K H a xs ∧ xs.length ≤ i⟩
def MY (lo : Int) (n : Nat) : It := ⟨fun i _ => i < n, fun i H x H' => H' = H ∧ x = .int (lo + i), fun i _ => n ≤ i⟩
theorem yR {P : aaL} {w : aa9} {K : aaa} {tg : Expr} (a it : aaC) : Turn P w K tg (IZ K a) [it] it (fun i h => h.IsListIter it a i) where
 mem := by simp
 obj := fun i h st b hb => by
  have e : b = it := by simpa using hb
  subst e
  obtain ⟨o, e, c, d⟩ := st
  exact ⟨o, e, fun v z => by rw [d] at z; cases z⟩
 keep := fun i h h' st k => st.at fun o e => k it (by simp) o e
 item := by
  intro X hP hw hK hc i pins s σ H E I hf st hg
  subst hP hw hK
  obtain ⟨xs, x, hq, hx⟩ := hg
  obtain ⟨its, rv, p, hz⟩ := I.list hq
  obtain ⟨u, hu, ru⟩ := rv.get hx
  obtain ⟨f0, f1, f2, f3, f4, f5⟩ := hf it (by simp)
  refine wpAny_pyNext_list_item st p.isList (x := u) (by simpa using hu) fun h' Gu sb => ?_
  have I1 : Inv X pins σ H { s with heap := h' } := I.turned (t' := s.toks) (fun b o hb e => (sb.2 b hb).trans e) f0 f1 f3 f4 f5
  obtain ⟨o, e, c, d⟩ := id Gu
  exact ⟨u, rfl, Gs (s := { s with heap := h' }) e c d (by decide) ⟨x, H, I1, ru, ⟨rfl, fun ys hy => by rw [I.IV hy hq]; exact hx⟩, Gu, fun b hb => (hf b hb).1⟩⟩
 done := by
  intro X hP hw hK hc i pins s σ H E I hf st hg
  subst hP hw hK
  obtain ⟨xs, hq, hx⟩ := hg
  obtain ⟨its, rv, p, hz⟩ := I.list hq
  obtain ⟨f0, f1, f2, f3, f4, f5⟩ := hf it (by simp)
  have hl := rv.length
  exact wpAny_pyNext_list_end (I.ok.hd hc) st p.isList (by simp; omega) fun h' eb => ⟨rfl, I.turned (t' := s.toks) (fun b o hb e => eb b o hb e) f0 f1 f3 f4 f5⟩
 self := fun _ _ _ _ _ st h => wpAny_pyIter_listiter st h
theorem EK {P : aaL} {w : aa9} {K : aaa} {tg : Expr} (a it : aaC) : Turn P w K tg (MX K a) [it] it (fun i h => h.IsTupleIter it a i) where
 mem := by simp
 obj := fun i h st b hb => by
  have e : b = it := by simpa using hb
  subst e
  obtain ⟨o, e, c, d⟩ := st
  exact ⟨o, e, fun v z => by rw [d] at z; cases z⟩
 keep := fun i h h' st k => st.at fun o e => k it (by simp) o e
 item := by
  intro X hP hw hK hc i pins s σ H E I hf st hg
  subst hP hw hK
  obtain ⟨xs, x, hq, hx⟩ := hg
  obtain ⟨its, rv, p, hz⟩ := I.tuple hq
  obtain ⟨u, hu, ru⟩ := rv.get hx
  obtain ⟨f0, f1, f2, f3, f4, f5⟩ := hf it (by simp)
  refine wpAny_pyNext_tuple_item st (show s.heap.IsTuple a its.toArray from p) (x := u) (by simpa using hu) fun h' Gu sb => ?_
  have I1 : Inv X pins σ H { s with heap := h' } := I.turned (t' := s.toks) (fun b o hb e => (sb.2 b hb).trans e) f0 f1 f3 f4 f5
  obtain ⟨o, e, c, d⟩ := id Gu
  exact ⟨u, rfl, Gs (s := { s with heap := h' }) e c d (by decide) ⟨x, H, I1, ru, ⟨rfl, fun ys hy => by rw [I.rG hy hq]; exact hx⟩, Gu, fun b hb => (hf b hb).1⟩⟩
 done := by
  intro X hP hw hK hc i pins s σ H E I hf st hg
  subst hP hw hK
  obtain ⟨xs, hq, hx⟩ := hg
  obtain ⟨its, rv, p, hz⟩ := I.tuple hq
  obtain ⟨f0, f1, f2, f3, f4, f5⟩ := hf it (by simp)
  have hl := rv.length
  exact wpAny_pyNext_tuple_end (I.ok.hd hc) st (show s.heap.IsTuple a its.toArray from p) (by simp; omega) fun h' eb => ⟨rfl, I.turned (t' := s.toks) (fun b o hb e => eb b o hb e) f0 f1 f3 f4 f5⟩
 self := fun _ _ _ _ _ st h => wpAny_pyIter_tupleiter st h
theorem EL {P : aaL} {w : aa9} {K : aaa} {tg : Expr} (it : aaC) (lo : Int) (n : Nat) : Turn P w K tg (MY lo n) [it] it (fun i h => IsRangeIter h it (lo + (i : Nat) * 1) ((n : Int) - (i : Nat)) 1) where
 mem := by simp
 obj := fun i h st b hb => by
  have e : b = it := by simpa using hb
  subst e
  exact ⟨_, st, fun v z => by
   have z' : Data.fields _ = Data.cell v := z
   cases z'⟩
 keep := fun i h h' st k => k it (by simp) _ st
 item := by
  intro X hP hw hK hc i pins s σ H E I hf st hg
  subst hP hw hK
  obtain ⟨f0, f1, f2, f3, f4, f5⟩ := hf it (by simp)
  have W := Walks.range (prog := X.prog) (w := X.w) (I.ok.hd hc) it lo 1 n
  refine W.item i s _ _ hg st fun v h' tk hv Gu kk => ?_
  obtain ⟨t, rfl⟩ := hv
  have I1 : Inv X pins σ H { s with heap := h', toks := tk } := I.turned (fun b o hb e => kk b o (by simpa using hb) e) f0 f1 f3 f4 f5
  refine ⟨_, rfl, Gs (s := { s with heap := h', toks := tk }) (n := "range_iterator") Gu rfl rfl (by decide) ⟨.int (lo + i), H, I1, ⟨t, ?_⟩, ⟨rfl, rfl⟩, Gu, fun b hb => (hf b hb).1⟩⟩
  rw [Int.mul_one]
 done := by
  intro X hP hw hK hc i pins s σ H E I hf st hg
  subst hP hw hK
  obtain ⟨f0, f1, f2, f3, f4, f5⟩ := hf it (by simp)
  exact wpAny_pyNext_range_end (I.ok.hd hc) st (by have : n ≤ i := hg; omega) fun h' eb => ⟨rfl, I.turned (t' := s.toks) (fun b o hb e => eb b o hb e) f0 f1 f3 f4 f5⟩
 self := fun _ _ _ _ _ st h => wpAny_pyIter_rangeiter st h
end L2
namespace L2
open PySem PySem.Spec PyProof.Rows
section
variable {X : Cx} {tg : Expr}
def MZ (K : aaa) (tl : TE) : TI := fun σ H R => tl σ H fun x H1 => ∃ a, x = .ref a ∧ (∃ xs, aH K H1 a xs) ∧ R (IZ K a) H1
def Vo (K : aaa) (tl : TE) : TI := fun σ H R => tl σ H fun x H1 => ∃ a, x = .ref a ∧ (∃ xs, cK K H1 a xs) ∧ R (MX K a) H1
theorem aW {l : Expr} {tl : TE} (hl : PE X l tl) : PI X tg l (MZ X.K tl) := by
 intro pins s σ H R I h
 refine thn (hl pins s σ H _ I h) fun v s1 ⟨x, H1, I1, r1, q1⟩ => ?_
 obtain ⟨a, e, ⟨xs, hq⟩, q⟩ := q1
 subst e
 cases r1
 obtain ⟨its, rv, p, hz⟩ := I1.list hq
 refine wpAny_pyIter_list p.isList ?_
 refine ⟨s1.heap.objs.size, [s1.heap.objs.size], _, _, H1, rfl, I1.kept (t' := s1.toks) fun b o e => aav _ e, yR a _, ⟨_, aa0 _ rfl, rfl, rfl⟩, fun b hb => ?_, q⟩
 have e : b = s1.heap.objs.size := by simpa using hb
 subst e
 exact I1.Hq (aar _) (I1.hok.fresh (aar _))
theorem EM {l : Expr} {tl : TE} (hl : PE X l tl) : PI X tg l (Vo X.K tl) := by
 intro pins s σ H R I h
 refine thn (hl pins s σ H _ I h) fun v s1 ⟨x, H1, I1, r1, q1⟩ => ?_
 obtain ⟨a, e, ⟨xs, hq⟩, q⟩ := q1
 subst e
 cases r1
 obtain ⟨its, rv, p, hz⟩ := I1.tuple hq
 refine wpAny_pyIter_tuple (show s1.heap.IsTuple a its.toArray from p) ?_
 refine ⟨s1.heap.objs.size, [s1.heap.objs.size], _, _, H1, rfl, I1.kept (t' := s1.toks) fun b o e => aav _ e, EK a _, ⟨_, aa0 _ rfl, rfl, rfl⟩, fun b hb => ?_, q⟩
 have e : b = s1.heap.objs.size := by simpa using hb
 subst e
 exact I1.Hq (aar _) (I1.hok.fresh (aar _))
theorem I0 {pins : List (aaC × Obj)} {σ : St} {H : Hp} {s : aaf} {R : It → Hp → Prop} {E : aad → aaf → Prop} {lo hi : Int} {t u v : Tok} {tk : Nat} (I : Inv X pins σ H s) (h1 : -(2 ^ 62) ≤ lo) (h2 : lo < 2 ^ 62) (h3 : -(2 ^ 62) ≤ hi) (h4 : hi < 2 ^ 62)
  (q : R (MY lo (hi - lo).toNat) H) : aaZ (model X.prog X.w) X.A (pyIter (.ref s.heap.objs.size)) (Uq X pins σ tg R) E { s with heap := s.heap.push { cls := .type "range", data := .fields #[.int lo t, .int hi u, .int 1 v] }, toks := tk } := by
 refine wpAny_pyIter_range (IsRange.new ..) (small_one h1 h2 h3 h4) ?_
 have I1 : Inv X pins σ H { s with heap := s.heap.push { cls := .type "range", data := .fields #[.int lo t, .int hi u, .int 1 v] }, toks := tk } := I.kept fun b o e => aav _ e
 refine ⟨(s.heap.push { cls := .type "range", data := .fields #[.int lo t, .int hi u, .int 1 v] }).objs.size, [(s.heap.push { cls := .type "range", data := .fields #[.int lo t, .int hi u, .int 1 v] }).objs.size], _, _, H, rfl,
  I1.kept (t' := tk) fun b o e => aav _ e, EL _ lo (hi - lo).toNat, ?_, fun b hb => ?_, q⟩
 ·have e1 : lo + ((0 : Nat) : Int) * 1 = lo := by simp
  have e2 : (((hi - lo).toNat : Nat) : Int) - ((0 : Nat) : Int) = Builtin.Range.rangeSize lo hi 1 := by rw [rangeSize_one]; split <;> omega
  show IsRangeIter _ _ (lo + ((0 : Nat) : Int) * 1) ((((hi - lo).toNat : Nat) : Int) - ((0 : Nat) : Int)) 1
  rw [e1, e2]
  exact aa0 _ rfl
 ·have e : b = (s.heap.push { cls := .type "range", data := .fields #[.int lo t, .int hi u, .int 1 v] }).objs.size := by simpa using hb
  subst e
  exact I1.Hq (aar _) (I1.hok.fresh (aar _))
def QM (ta : TA) : TI := fun σ H R => ta σ H fun vs H1 => ∃ j : Int, vs = [.int j] ∧ -(2 ^ 62) ≤ j ∧ j < 2 ^ 62 ∧ R (MY 0 j.toNat) H1
theorem bS {a : Expr} {ta : TA} {p pos : Pos} (hg : Gl X "range") (hm : X.mg "range" = none) (ha : PA X [a] ta) (hs : starEach [a] X.env = [(false, eval a X.env)] := by rfl) : PI X tg (.Call (.Name "range" p) [a] [] pos) (QM ta) := by
 intro pins s σ H R I h
 refine Call_ (zQ I hg hm boot_range (acX (thn (ha pos pins s σ H _ I h) fun us s1 ⟨vs, H1, I1, r1, q1⟩ => ?_) hs rfl))
 obtain ⟨j, e, q1, q2, q⟩ := q1
 subst e
 cases r1 with
 | cons r rr =>
  cases rr
  obtain ⟨t, rfl⟩ := r
  exact call_range_1 (I0 I1 (by omega) (by omega) q1 q2 (by simpa using q))
def QN (wi : TI) (g : TG) (tb : TS) : TS := fun D σ H => wi σ H fun J H1 => ∃ W : Nat → Nat → St → Hp → Prop, (∃ m, W 0 m σ H1) ∧ ∀ i m σ H, W i m σ H →
 (J.stop i H ∧ D.nx σ H) ∨ (J.go i H ∧ ∃ N : St → Hp → Prop, (∀ σ' H', N σ' H' → ∃ m', m' < m ∧ W (i + 1) m' σ' H') ∧ ∀ x H', J.Oc i H x H' → g x σ H' fun σ2 H2 => tb { D with nx := N, ct := N, bk := D.nx } σ2 H2)
def rH (fp : List aaC) (h : Heap) : List (aaC × Obj) := fp.filterMap fun b => (h.get? b).map fun o => (b, o)
theorem fM {fp : List aaC} {h : Heap} {b : aaC} {o : Obj} (hb : b ∈ fp) (e : h.get? b = some o) : (b, o) ∈ rH fp h := List.mem_filterMap.mpr ⟨b, hb, by rw [e]; rfl⟩
theorem Hr {fp : List aaC} {h : Heap} {p : aaC × Obj} (hp : p ∈ rH fp h) : p.1 ∈ fp ∧ h.get? p.1 = some p.2 := by
 obtain ⟨b, hb, e⟩ := List.mem_filterMap.mp hp
 cases q : h.get? b with
 | none => rw [q] at e; cases e
 | some o =>
  rw [q] at e
  have e' : (b, o) = p := aa4 e
  subst e'
  exact ⟨hb, q⟩
theorem Inv.pinned {pins : List (aaC × Obj)} {σ : St} {H : Hp} {s : aaf} {fp : List aaC} (I : Inv X pins σ H s) (hf : ∀ b ∈ fp, u6 X pins H b) (ho : ∀ b ∈ fp, ∃ o, s.heap.get? b = some o ∧ ∀ v, o.data ≠ .cell v) : Inv X (pins ++ rH fp s.heap) σ H s :=
 I.Gr fun p hp => (aax.mp hp).elim (fun z => I.pin p (aae _ z)) fun z => by
  obtain ⟨hb, e⟩ := Hr z
  obtain ⟨f0, f1, f2, _⟩ := hf p.1 hb
  obtain ⟨o, e', d⟩ := ho p.1 hb
  rw [e] at e'; cases e'
  exact ⟨e, f0, f1, f2, d⟩
theorem Inv.ic {pins pl : List (aaC × Obj)} {σ : St} {H : Hp} {s : aaf} (I : Inv X (pins ++ pl) σ H s) : Inv X pins σ H s := I.Gr fun p hp => I.pin p (aae _ (aay _ hp))
theorem cL {iter : Expr} {body : List Stmt} {wi : TI} {g : TG} {tb : TS} {pos : Pos} (hp : PassesOwn (model X.prog X.w) X.A X.env X.xe) (hc : X.calm = true) (hi : PI X tg iter wi) (hg : PG X tg g) (hb : EF X body tb)
  (hs : ∀ x, foldedSetIterable iter X.env x = pure x := by intro _; rfl) : PS X (.For tg iter body [] pos) (QN wi g tb) := by
 intro pins s σ H D I h
 refine wpAny_For (thn (hi pins s σ H _ I h) fun v s1 h1 => thn h1 fun Ur s2 h2 => ?_) hs
 obtain ⟨it, fp, tn, J, H2, e, I2, T, P9, f2, W, ⟨m0, w0⟩, turn⟩ := h2
 subst e
 have u7 : ∀ {H' : Hp}, (∀ b ∈ fp, H' b = none) → ∀ b ∈ fp, u6 X pins H' b := fun hn b hb => ⟨hn b hb, (f2 b hb).2⟩
 refine codeAny_forLoop_any (fun n s' => ∃ i σ' H', Inv X pins σ' H' s' ∧ tn i s'.heap ∧ (∀ b ∈ fp, H' b = none) ∧ W i n σ' H') ?_ m0 ⟨0, σ, H2, I2, P9, fun b hb => (f2 b hb).1, w0⟩
 rintro n s3 ⟨i, σ3, H3, I3, M0, QO, w3⟩
 rcases turn i n σ3 H3 w3 with ⟨stop, qn⟩ | ⟨go, N, hN, step⟩
 ·refine wpAny_passesOwn hp (thn (T.done X rfl rfl rfl hc i pins s3 σ3 H3 X.xe I3 (u7 QO) M0 stop) fun r s4 ⟨hr, I4⟩ => ?_)
  subst hr
  exact wpAny_execs_nil ⟨σ3, H3, I4, qn⟩
 ·refine wpAny_passesOwn hp (thn (T.item X rfl rfl rfl hc i pins s3 σ3 H3 X.xe I3 (u7 QO) M0 go) fun r s4 ⟨u, hr, h4⟩ => ?_)
  subst hr
  refine wpAny_passesOwn hp (thn h4 fun _ s5 ⟨x, H5, I5, r5, y5, I8, QP⟩ => ?_)
  have Vp := I5.pinned (u7 QP) (T.obj _ _ I8)
  refine wpAny_passesOwn hp (thn (hg _ s5 σ3 H5 x u _ Vp r5 (step x H5 y5)) fun _ s6 ⟨σ6, H6, I6, q6⟩ => ?_)
  refine wpAny_passesOwn hp (thn (hb _ s6 σ6 H6 _ I6 q6) fun f s7 q7 => ?_)
  have again : ∀ {σ7 : St} {H7 : Hp}, Inv X (pins ++ rH fp s5.heap) σ7 H7 s7 → N σ7 H7 → ∃ m, m < n ∧ ∃ i σ' H', Inv X pins σ' H' s7 ∧ tn i s7.heap ∧ (∀ b ∈ fp, H' b = none) ∧ W i m σ' H' := fun {σ7 H7} I7 n7 => by
   obtain ⟨m', hm, w7⟩ := hN σ7 H7 n7
   refine ⟨m', hm, i + 1, σ7, H7, I7.ic, T.keep _ _ _ I8 fun b hb o e => (I7.pin (b, o) (aae _ (aae _ (fM hb e)))).1, fun b hb => ?_, w7⟩
   obtain ⟨o, e, d⟩ := T.obj _ _ I8 b hb
   exact (I7.pin (b, o) (aae _ (aae _ (fM hb e)))).2.1
  cases f with
  | next => obtain ⟨σ7, H7, I7, n7⟩ := q7; exact again I7 n7
  | cont => obtain ⟨σ7, H7, I7, n7⟩ := q7; exact again I7 n7
  | brk => obtain ⟨σ7, H7, I7, q7⟩ := q7; exact ⟨σ7, H7, I7.ic, q7⟩
  | ret v => obtain ⟨x7, σ7, H7, I7, r7, q7⟩ := q7; exact ⟨x7, σ7, H7, I7.ic, r7, q7⟩
end
theorem cI {K : aaa} {a : aaC} {xs : List V} {g : TG} {tb : TS} {D : Ends} {σ : St} {H : Hp} (Pv : Nat → St → Hp → Prop) (h0 : Pv 0 σ H) (hl : ∀ i σ H, i ≤ xs.length → Pv i σ H → aH K H a xs)
  (hs : ∀ i x σ H, xs[i]? = some x → Pv i σ H → g x σ H fun σ2 H2 => tb { D with nx := Pv (i + 1), ct := Pv (i + 1), bk := D.nx } σ2 H2) (hd : ∀ σ H, Pv xs.length σ H → D.nx σ H) :
  ∃ W : Nat → Nat → St → Hp → Prop, (∃ m, W 0 m σ H) ∧ ∀ i m σ H, W i m σ H →
   ((IZ K a).stop i H ∧ D.nx σ H) ∨ ((IZ K a).go i H ∧ ∃ N : St → Hp → Prop, (∀ σ' H', N σ' H' → ∃ m', m' < m ∧ W (i + 1) m' σ' H') ∧ ∀ x H', (IZ K a).Oc i H x H' → g x σ H' fun σ2 H2 => tb { D with nx := N, ct := N, bk := D.nx } σ2 H2) := by
 refine ⟨fun i m σ H => m = xs.length - i ∧ i ≤ xs.length ∧ Pv i σ H, ⟨xs.length, by simp, abm _, h0⟩, ?_⟩
 rintro i m σ H ⟨rfl, hi, p⟩
 have q := hl i σ H hi p
 by_cases rB : i < xs.length
 ·refine .inr ⟨⟨xs, xs[i], q, by simp [rB]⟩, Pv (i + 1), fun σ' H' p' => ⟨xs.length - (i + 1), by omega, rfl, rB, p'⟩, fun x H' y => ?_⟩
  obtain ⟨e, y⟩ := y
  subst e
  exact hs i x σ _ (y xs q) p
 ·have e : i = xs.length := by omega
  subst e
  exact .inl ⟨⟨xs, q, aar _⟩, hd σ H p⟩
theorem Gv {K : aaa} {a : aaC} {xs : List V} {g : TG} {tb : TS} {D : Ends} {σ : St} {H : Hp} (Pv : Nat → St → Hp → Prop) (h0 : Pv 0 σ H) (hl : ∀ i σ H, i ≤ xs.length → Pv i σ H → cK K H a xs)
  (hs : ∀ i x σ H, xs[i]? = some x → Pv i σ H → g x σ H fun σ2 H2 => tb { D with nx := Pv (i + 1), ct := Pv (i + 1), bk := D.nx } σ2 H2) (hd : ∀ σ H, Pv xs.length σ H → D.nx σ H) :
  ∃ W : Nat → Nat → St → Hp → Prop, (∃ m, W 0 m σ H) ∧ ∀ i m σ H, W i m σ H →
   ((MX K a).stop i H ∧ D.nx σ H) ∨ ((MX K a).go i H ∧ ∃ N : St → Hp → Prop, (∀ σ' H', N σ' H' → ∃ m', m' < m ∧ W (i + 1) m' σ' H') ∧ ∀ x H', (MX K a).Oc i H x H' → g x σ H' fun σ2 H2 => tb { D with nx := N, ct := N, bk := D.nx } σ2 H2) := by
 refine ⟨fun i m σ H => m = xs.length - i ∧ i ≤ xs.length ∧ Pv i σ H, ⟨xs.length, by simp, abm _, h0⟩, ?_⟩
 rintro i m σ H ⟨rfl, hi, p⟩
 have q := hl i σ H hi p
 by_cases rB : i < xs.length
 ·refine .inr ⟨⟨xs, xs[i], q, by simp [rB]⟩, Pv (i + 1), fun σ' H' p' => ⟨xs.length - (i + 1), by omega, rfl, rB, p'⟩, fun x H' y => ?_⟩
  obtain ⟨e, y⟩ := y
  subst e
  exact hs i x σ _ (y xs q) p
 ·have e : i = xs.length := by omega
  subst e
  exact .inl ⟨⟨xs, q, aar _⟩, hd σ H p⟩
theorem g9 {lo : Int} {n : Nat} {g : TG} {tb : TS} {D : Ends} {σ : St} {H : Hp} (Pv : Nat → St → Hp → Prop) (h0 : Pv 0 σ H)
  (hs : ∀ i σ H, i < n → Pv i σ H → g (.int (lo + i)) σ H fun σ2 H2 => tb { D with nx := Pv (i + 1), ct := Pv (i + 1), bk := D.nx } σ2 H2) (hd : ∀ σ H, Pv n σ H → D.nx σ H) :
  ∃ W : Nat → Nat → St → Hp → Prop, (∃ m, W 0 m σ H) ∧ ∀ i m σ H, W i m σ H →
   ((MY lo n).stop i H ∧ D.nx σ H) ∨ ((MY lo n).go i H ∧ ∃ N : St → Hp → Prop, (∀ σ' H', N σ' H' → ∃ m', m' < m ∧ W (i + 1) m' σ' H') ∧ ∀ x H', (MY lo n).Oc i H x H' → g x σ H' fun σ2 H2 => tb { D with nx := N, ct := N, bk := D.nx } σ2 H2) := by
 refine ⟨fun i m σ H => m = n - i ∧ i ≤ n ∧ Pv i σ H, ⟨n, by simp, abm _, h0⟩, ?_⟩
 rintro i m σ H ⟨rfl, hi, p⟩
 by_cases rB : i < n
 ·refine .inr ⟨rB, Pv (i + 1), fun σ' H' p' => ⟨n - (i + 1), by omega, rfl, rB, p'⟩, fun x H' y => ?_⟩
  obtain ⟨e, y⟩ := y
  subst e y
  exact hs i σ _ rB p
 ·have e : i = n := by omega
  subst e
  exact .inl ⟨aar _, hd σ H p⟩
end L2
namespace L2
open PySem PySem.Spec PyProof.Rows
abbrev R2 := V → V → Hp → VK → Prop
def t9 (X : Cx) (f : aad → aad → Sem aad) (r : R2) : Prop :=
 ∀ (pins : List (aaC × Obj)) (s : aaf) (σ : St) (H : Hp) (x y : V) (v u : aad) (Q : VK), Inv X pins σ H s → RelV x v → RelV y u → r x y H Q →
  aaZ (model X.prog X.w) X.A (f v u) (EP X pins σ Q) X.xe s
def Vq (X : Cx) (f : aad → Sem aad) (r : V → Hp → VK → Prop) : Prop :=
 ∀ (pins : List (aaC × Obj)) (s : aaf) (σ : St) (H : Hp) (x : V) (v : aad) (Q : VK), Inv X pins σ H s → RelV x v → r x H Q →
  aaZ (model X.prog X.w) X.A (f v) (EP X pins σ Q) X.xe s
def gT (X : Cx) (f : aad) (r : List V → Hp → VK → Prop) : Prop :=
 ∀ (pins : List (aaC × Obj)) (s : aaf) (σ : St) (H : Hp) (xs : List V) (us : List aad) (Q : VK), Inv X pins σ H s → Vals xs us → r xs H Q →
  aaZ (model X.prog X.w) X.A (call f us) (EP X pins σ Q) X.xe s
def Us (r : R2) (ta tb : TE) : TE := fun σ H Q => ta σ H fun x H1 => tb σ H1 fun y H2 => r x y H2 Q
def tUn (r : V → Hp → VK → Prop) (ta : TE) : TE := fun σ H Q => ta σ H fun x H1 => r x H1 Q
def rI (C : Int → Int → Prop) (g : Int → Int → V) : R2 := fun x y H Q => ∃ i j, x = .int i ∧ y = .int j ∧ C i j ∧ Q (g i j) H
def Qa (g : Int → Int → V) : R2 := fun x y H Q => ∃ i j, x = .int i ∧ y = .int j ∧ Q (g i j) H
def rU (g : Int → V) : V → Hp → VK → Prop := fun x H Q => ∃ i, x = .int i ∧ Q (g i) H
section
variable {X : Cx} {a b c : Expr} {ta tb tc : TE} {pos : Pos}
theorem Od (ha : PE X a ta) (hb : PE X b tb) {pins : List (aaC × Obj)} {s : aaf} {σ : St} {H : Hp} {R : V → V → Hp → Prop} (I : Inv X pins σ H s)
  (h : ta σ H fun x H1 => tb σ H1 fun y H2 => R x y H2) {Q : aad → aaf → Prop} {f : aad → aad → Sem aad}
  (hf : ∀ v u s2 x y H2, Inv X pins σ H2 s2 → RelV x v → RelV y u → R x y H2 → aaZ (model X.prog X.w) X.A (f v u) Q X.xe s2) :
  aaZ (model X.prog X.w) X.A (eval a X.env) (fun v s₁ => aaZ (model X.prog X.w) X.A (eval b X.env) (fun u s₂ => aaZ (model X.prog X.w) X.A (f v u) Q X.xe s₂) X.xe s₁) X.xe s := by
 refine thn (ha pins s σ H _ I h) fun v s1 ⟨x, H1, I1, r1, q1⟩ => ?_
 refine thn (hb pins s1 σ H1 _ I1 q1) fun u s2 ⟨y, H2, I2, r2, q2⟩ => ?_
 exact hf v u s2 x y H2 I2 r1 r2 q2
theorem av {op : Operator} {r : R2} (ho : t9 X (binaryOp op) r) (ha : PE X a ta) (hb : PE X b tb) : PE X (.BinOp a op b pos) (Us r ta tb) := by
 intro pins s σ H Q I h
 exact wpAny_BinOp (Od ha hb I h fun v u s2 x y H2 I2 rx ry q => ho pins s2 σ H2 x y v u Q I2 rx ry q)
theorem QR {op : UnaryOp} {r : V → Hp → VK → Prop} (ho : Vq X (unaryOp op) r) (ha : PE X a ta) : PE X (.UnaryOp op a pos) (tUn r ta) := by
 intro pins s σ H Q I h
 exact UnaryOp_ (thn (ha pins s σ H _ I h) fun v s1 ⟨x, H1, I1, r1, q1⟩ => ho pins s1 σ H1 x v Q I1 r1 q1)
theorem Vr {f : aad → aad → Sem aad} {C : Int → Int → Prop} {g : Int → Int → Int}
  (rule : ∀ (i j : Int) (t u : Tok) (s : aaf) (Q : aad → aaf → Prop) (E : aad → aaf → Prop), C i j → Q (.int (g i j) s.toks) { s with toks := s.toks + 1 } → aaZ (model X.prog X.w) X.A (f (.int i t) (.int j u)) Q E s) :
  t9 X f (rI C fun i j => .int (g i j)) := by
 intro pins s σ H x y v u Q I rx ry h
 obtain ⟨i, j, rfl, rfl, hc, q⟩ := h
 obtain ⟨t, rfl⟩ := rx
 obtain ⟨t', rfl⟩ := ry
 exact rule i j t t' s _ _ hc ⟨.int (g i j), H, I.tok _, ⟨_, rfl⟩, q⟩
theorem Vs {f : aad → aad → Sem aad} {g : Int → Int → Int}
  (rule : ∀ (i j : Int) (t u : Tok) (s : aaf) (Q : aad → aaf → Prop) (E : aad → aaf → Prop), Q (.int (g i j) s.toks) { s with toks := s.toks + 1 } → aaZ (model X.prog X.w) X.A (f (.int i t) (.int j u)) Q E s) :
  t9 X f (Qa fun i j => .int (g i j)) := by
 intro pins s σ H x y v u Q I rx ry h
 obtain ⟨i, j, rfl, rfl, q⟩ := h
 obtain ⟨t, rfl⟩ := rx
 obtain ⟨t', rfl⟩ := ry
 exact rule i j t t' s _ _ ⟨.int (g i j), H, I.tok _, ⟨_, rfl⟩, q⟩
theorem Oe {f : aad → aad → Sem aad} {g : Int → Int → Bool}
  (rule : ∀ (i j : Int) (t u : Tok) (s : aaf) (Q : aad → aaf → Prop) (E : aad → aaf → Prop), Q (.bool (g i j)) s → aaZ (model X.prog X.w) X.A (f (.int i t) (.int j u)) Q E s) :
  t9 X f (Qa fun i j => .bl (g i j)) := by
 intro pins s σ H x y v u Q I rx ry h
 obtain ⟨i, j, rfl, rfl, q⟩ := h
 obtain ⟨t, rfl⟩ := rx
 obtain ⟨t', rfl⟩ := ry
 exact rule i j t t' s _ _ ⟨.bl (g i j), H, I, rfl, q⟩
def Vt (i j : Int) : Prop := 0 < j ∧ j < 1073741824
def LI (i j : Int) : Prop := (-(2 ^ 64) < i ∧ i < 2 ^ 64) ∨ (-(2 ^ 64) < j ∧ j < 2 ^ 64)
theorem LI.ok {i j : Int} (h : LI i j) : IntMulOk i j := by
 rcases h with ⟨h1, h2⟩ | ⟨h1, h2⟩
 ·exact .of_left (intBits_le_64 h1 h2)
 ·exact .of_right (intBits_le_64 h1 h2)
theorem cj : t9 X (binaryOp .Add) (Qa fun i j => .int (i + j)) := Vs fun _ _ _ _ _ _ _ q => add_int q
theorem mN : t9 X (binaryOp .Mult) (rI LI fun i j => .int (i * j)) := Vr fun _ _ _ _ _ _ _ hc q => mul_int q hc.ok
theorem cC : t9 X (binaryOp .FloorDiv) (rI Vt fun i j => .int (i / j)) := Vr fun i j _ _ _ _ _ hc q => by
 have h1 : (0 : Int) < j := hc.1
 have h2 : j < 1073741824 := hc.2
 exact floordiv_int (by omega) (by rw [Int.fdiv_eq_ediv_of_nonneg i (by omega)]; exact q) (.inl (PyProof.noPylong_small (by omega)))
theorem bF : t9 X (binaryOp .Mod) (rI (fun _ j => 0 < j) fun i j => .int (i % j)) := Vr fun i j _ _ _ _ _ hc q => by
 have h1 : (0 : Int) < j := hc
 exact mod_int' (by omega) (by rw [Int.fmod_eq_emod_of_nonneg i (by omega)]; exact q)
theorem unI {f : aad → Sem aad} {g : Int → Int}
  (rule : ∀ (i : Int) (t : Tok) (s : aaf) (Q : aad → aaf → Prop) (E : aad → aaf → Prop), Q (.int (g i) s.toks) { s with toks := s.toks + 1 } → aaZ (model X.prog X.w) X.A (f (.int i t)) Q E s) :
  Vq X f (rU fun i => .int (g i)) := by
 intro pins s σ H x v Q I rx h
 obtain ⟨i, rfl, q⟩ := h
 obtain ⟨t, rfl⟩ := rx
 exact rule i t s _ _ ⟨.int (g i), H, I.tok _, ⟨_, rfl⟩, q⟩
theorem Of : Vq X (unaryOp .USub) (rU fun i => .int (-i)) := unI fun _ _ _ _ _ q => neg_int q
end
def QS : V → V → Bool
 | .bY, .bY => true | .bY, .int _ => true | .int _, .bY => true | .bY, .bl _ => true | .bl _, .bY => true | .bY, .str _ => true | .str _, .bY => true
 | .int _, .int _ => true | .bl _, .bl _ => true | .str _, .str _ => true | .IH _, .IH _ => true
 | .int _, .str _ => true | .str _, .int _ => true | .bl _, .str _ => true | .str _, .bl _ => true
 | _, _ => false
def rEq : R2 := fun x y H Q => QS x y = true ∧ Q (.bl (decide (x = y))) H
def rNe : R2 := fun x y H Q => QS x y = true ∧ Q (.bl (!decide (x = y))) H
theorem Gw {i j : Int} : decide (V.int i = V.int j) = (i == j) := by
 rw [abW]
 simp
theorem I9 {i j : Bool} : decide (V.bl i = V.bl j) = (i == j) := by
 rw [abW]
 simp
theorem Gx {i j : Str} : decide (V.str i = V.str j) = (i == j) := by
 rw [abW]
 simp
theorem Gy {i j : Array UInt8} : decide (V.IH i = V.IH j) = (i.toList == j.toList) := by
 rw [abW]
 cases i
 cases j
 simp
section
variable {X : Cx} {a b c : Expr} {ta tb tc : TE} {pos : Pos}
theorem bG {pins : List (aaC × Obj)} {σ : St} {H : Hp} {s : aaf} {Q : VK} {k k' : Bool} (I : Inv X pins σ H s) (q : Q (.bl k) H) (e : k = k') : EP X pins σ Q (.bool k') s := by
 subst e
 exact ⟨.bl k, H, I, rfl, q⟩
theorem cS : t9 X (compareOp .Eq) rEq := by
 intro pins s σ H x y v u Q I rx ry h
 obtain ⟨hs, q⟩ := h
 cases x with
 | bY =>
  cases rx
  cases y with
  | bY => cases ry; exact PySem.EqNone.eq_none_none (bG I q (by simp))
  | bl j => cases ry; exact PySem.EqNone.eq_none_bool (bG I q (by simp))
  | int j => obtain ⟨t', rfl⟩ := ry; exact PySem.EqNone.eq_none_int (bG I q (by simp))
  | str j => obtain ⟨t', rfl⟩ := ry; exact PySem.EqNone.eq_none_str (bG I q (by simp))
  | _ => exact absurd (show false = true from hs) aaz
 | bl i =>
  cases rx
  cases y with
  | bY => cases ry; exact PySem.EqNone.eq_bool_none (bG I q (by simp))
  | bl j => cases ry; exact eq_bool (bG I q I9)
  | str j => obtain ⟨t', rfl⟩ := ry; exact PySem.EqMixed.eq_bool_str (bG I q (by simp))
  | _ => exact absurd (show false = true from hs) aaz
 | int i =>
  obtain ⟨t, rfl⟩ := rx
  cases y with
  | bY => cases ry; exact PySem.EqNone.eq_int_none (bG I q (by simp))
  | int j => obtain ⟨t', rfl⟩ := ry; exact eq_int (bG I q Gw)
  | str j => obtain ⟨t', rfl⟩ := ry; exact PySem.EqMixed.eq_int_str (bG I q (by simp))
  | _ => exact absurd (show false = true from hs) aaz
 | str i =>
  obtain ⟨t, rfl⟩ := rx
  cases y with
  | bY => cases ry; exact PySem.EqNone.eq_str_none (bG I q (by simp))
  | bl j => cases ry; exact PySem.EqMixed.eq_str_bool (bG I q (by simp))
  | int j => obtain ⟨t', rfl⟩ := ry; exact PySem.EqMixed.eq_str_int (bG I q (by simp))
  | str j => obtain ⟨t', rfl⟩ := ry; exact eq_str (bG I q Gx)
  | _ => exact absurd (show false = true from hs) aaz
 | IH i =>
  obtain ⟨t, rfl⟩ := rx
  cases y with
  | IH j => obtain ⟨t', rfl⟩ := ry; exact PySem.W.eq_bytes (bG I q Gy)
  | _ => exact absurd (show false = true from hs) aaz
 | _ => cases y <;> exact absurd (show false = true from hs) aaz
theorem fJ : t9 X (compareOp .NotEq) rNe := by
 intro pins s σ H x y v u Q I rx ry h
 obtain ⟨hs, q⟩ := h
 cases x with
 | bY =>
  cases rx
  cases y with
  | bY => cases ry; exact PySem.EqNone.ne_none_none (bG I q (by simp))
  | bl j => cases ry; exact PySem.EqNone.ne_none_bool (bG I q (by simp))
  | int j => obtain ⟨t', rfl⟩ := ry; exact PySem.EqNone.ne_none_int (bG I q (by simp))
  | str j => obtain ⟨t', rfl⟩ := ry; exact PySem.EqNone.ne_none_str (bG I q (by simp))
  | _ => exact absurd (show false = true from hs) aaz
 | bl i =>
  cases rx
  cases y with
  | bY => cases ry; exact PySem.EqNone.ne_bool_none (bG I q (by simp))
  | bl j => cases ry; exact ne_bool (bG I q (congrArg not I9))
  | str j => obtain ⟨t', rfl⟩ := ry; exact PySem.EqMixed.ne_bool_str (bG I q (by simp))
  | _ => exact absurd (show false = true from hs) aaz
 | int i =>
  obtain ⟨t, rfl⟩ := rx
  cases y with
  | bY => cases ry; exact PySem.EqNone.ne_int_none (bG I q (by simp))
  | int j => obtain ⟨t', rfl⟩ := ry; exact ne_int (bG I q (congrArg not Gw))
  | str j => obtain ⟨t', rfl⟩ := ry; exact PySem.EqMixed.ne_int_str (bG I q (by simp))
  | _ => exact absurd (show false = true from hs) aaz
 | str i =>
  obtain ⟨t, rfl⟩ := rx
  cases y with
  | bY => cases ry; exact PySem.EqNone.ne_str_none (bG I q (by simp))
  | bl j => cases ry; exact PySem.EqMixed.ne_str_bool (bG I q (by simp))
  | int j => obtain ⟨t', rfl⟩ := ry; exact PySem.EqMixed.ne_str_int (bG I q (by simp))
  | str j => obtain ⟨t', rfl⟩ := ry; exact ne_str (bG I q (congrArg not Gx))
  | _ => exact absurd (show false = true from hs) aaz
 | IH i =>
  obtain ⟨t, rfl⟩ := rx
  cases y with
  | IH j => obtain ⟨t', rfl⟩ := ry; exact PySem.W.ne_bytes (bG I q (congrArg not Gy))
  | _ => exact absurd (show false = true from hs) aaz
 | _ => cases y <;> exact absurd (show false = true from hs) aaz
theorem Gz : t9 X (compareOp .Lt) (Qa fun i j => .bl (decide (i < j))) := Oe fun _ _ _ _ _ _ _ q => lt_int q
theorem M1 : t9 X (compareOp .LtE) (Qa fun i j => .bl (decide (i ≤ j))) := Oe fun _ _ _ _ _ _ _ q => le_int q
theorem yS : t9 X (compareOp .Gt) (Qa fun i j => .bl (decide (j < i))) := Oe fun _ _ _ _ _ _ _ q => gt_int q
theorem eS : t9 X (compareOp .In) (fun x y H Q => ∃ i j, x = .str i ∧ y = .str j ∧ Q (.bl (!(ab3 j i 0 j.length 1).isEmpty)) H) := by
 intro pins s σ H x y v u Q I rx ry h
 obtain ⟨i, j, rfl, rfl, q⟩ := h
 obtain ⟨t, rfl⟩ := rx
 obtain ⟨t', rfl⟩ := ry
 exact in_str (bG I q rfl)
theorem aL (b : Expr) {op : CmpOp} (h : op ≠ .In := by decide) (h2 : op ≠ .NotIn := by decide) : behindInMarks op b = false := by
 have e1 : (op == CmpOp.In) = false := by cases op <;> first | rfl | exact absurd rfl h
 have e2 : (op == CmpOp.NotIn) = false := by cases op <;> first | rfl | exact absurd rfl h2
 cases b <;> simp [behindInMarks, e1, e2]
theorem dF {op : CmpOp} {r : R2} (ho : t9 X (compareOp op) r) (ha : PE X a ta) (hb : PE X b tb) (hm : behindInMarks op b = false) : PE X (.Compare a [op] [b] pos) (Us r ta tb) := by
 intro pins s σ H Q I h
 exact wpAny_Compare1 (Od ha hb I h fun v u s2 x y H2 I2 rx ry q => ho pins s2 σ H2 x y v u Q I2 rx ry q) hm
def QT (t : TE) : TT := fun σ H Q => t σ H fun x H' => ∃ k, x = .bl k ∧ Q k H'
theorem ay {op : CmpOp} {r : R2} (ho : t9 X (compareOp op) r) (ha : PE X a ta) (hb : PE X b tb) (hm : behindInMarks op b = false) : PT X (.Compare a [op] [b] pos) (QT (Us r ta tb)) := by
 intro pins s σ H Q I h
 refine wpAny_isTrue_Compare1 (thn (ha pins s σ H _ I h) fun v s1 ⟨x, H1, I1, r1, q1⟩ => thn (hb pins s1 σ H1 _ I1 q1) fun u s2 ⟨y, H2, I2, r2, q2⟩ =>
  thn (ho pins s2 σ H2 x y v u _ I2 r1 r2 q2) fun c s3 ⟨z, H3, I3, r3, k, e, q3⟩ => ?_) hm
 subst e
 cases r3
 exact wpAny_truthy_bool ⟨H3, I3, q3⟩
def Og (r r' : R2) (ta tb tc : TE) : TE := fun σ H Q => ta σ H fun x H1 => tb σ H1 fun y H2 => r x y H2 fun z H3 => ∃ k, z = .bl k ∧
 (if k = true then tc σ H3 fun w' H4 => r' y w' H4 Q else Q (.bl false) H3)
theorem Ja {op Vu : CmpOp} {r r' : R2} (ho : t9 X (compareOp op) r) (ho' : t9 X (compareOp Vu) r') (ha : PE X a ta) (hb : PE X b tb) (hc : PE X c tc)
  (hm : lastMarks [op, Vu] [b, c] = false := by with_unfolding_all rfl) : PE X (.Compare a [op, Vu] [b, c] pos) (Og r r' ta tb tc) := by
 intro pins s σ H Q I h
 refine Compare_chain (thn (ha pins s σ H _ I h) fun v s1 ⟨x, H1, I1, r1, q1⟩ => chain_link (thn (hb pins s1 σ H1 _ I1 q1) fun u s2 ⟨y, H2, I2, r2, q2⟩ =>
  thn (ho pins s2 σ H2 x y v u _ I2 r1 r2 q2) fun d s3 ⟨z, H3, I3, r3, k, e, q3⟩ => ?_)) hm
 subst e
 cases r3
 refine wpAny_truthy_bool ?_
 cases k with
 | false => exact ite_ff ⟨.bl false, H3, I3, rfl, q3⟩
 | true => exact ite_tt (chain_last (thn (hc pins s3 σ H3 _ I3 q3) fun w' s4 ⟨z', H4, I4, r4, q4⟩ => ho' pins s4 σ H4 y z' u w' Q I4 r2 r4 q4))
theorem rJ : (aai : Nat) < 2 ^ 63 := by rw [aaA]; decide
theorem aJ : t9 X (binaryOp .Add) (fun x y H Q => ∃ i j, x = .str i ∧ y = .str j ∧ i.length + j.length ≤ aai ∧ Q (.str (i ++ j)) H) := by
 intro pins s σ H x y v u Q I rx ry h
 obtain ⟨i, j, rfl, rfl, hz, q⟩ := h
 obtain ⟨t, rfl⟩ := rx
 obtain ⟨t', rfl⟩ := ry
 exact add_str (fun t' tk => ⟨.str (i ++ j), H, I.tok _, ⟨_, rfl⟩, q⟩) hz
theorem vals1 {x : V} {us : List aad} (r : Vals [x] us) : ∃ u, us = [u] ∧ RelV x u := by
 cases r with
 | cons r1 r2 => cases r2; exact ⟨_, rfl, r1⟩
theorem vals2 {x y : V} {us : List aad} (r : Vals [x, y] us) : ∃ u w', us = [u, w'] ∧ RelV x u ∧ RelV y w' := by
 cases r with
 | cons r1 r2 =>
  cases r2 with
  | cons r3 r4 => cases r4; exact ⟨_, _, rfl, r1, r3⟩
theorem Hs : gT X (.type "int") (fun xs H Q => (∃ i, xs = [.int i] ∧ Q (.int i) H) ∨ ∃ k, xs = [.bl k] ∧ Q (.int (if k then 1 else 0)) H) := by
 intro pins s σ H xs us Q I r h
 rcases h with ⟨i, rfl, q⟩ | ⟨k, rfl, q⟩
 ·obtain ⟨u, rfl, t, rfl⟩ := vals1 r
  exact call_int_int ⟨.int i, H, I, ⟨_, rfl⟩, q⟩
 ·obtain ⟨u, rfl, r1⟩ := vals1 r
  cases r1
  exact call_int_bool ⟨.int (if k then 1 else 0), H, I.tok _, ⟨_, rfl⟩, q⟩
theorem qo : gT X (.type "str") (fun xs H Q => ∃ i, xs = [.int i] ∧ i.natAbs.log2 < 1920 ∧ Q (.str (toString i)) H) := by
 intro pins s σ H xs us Q I r h
 obtain ⟨i, rfl, hz, q⟩ := h
 obtain ⟨u, rfl, t, rfl⟩ := vals1 r
 exact PySem.P.str_of_int hz ⟨.str _, H, I.tok _, ⟨_, rfl⟩, q⟩
end
end L2
namespace L2
open PySem PySem.Spec PyProof.Rows
structure EN (h : Heap) (x dx C : aaC) (mA : Str → Option aad) : Prop where
 obj : h.get? x = some (abP C dx)
 ns : h.Ns1 dx mA
 ne : dx ≠ x
theorem Ht {h : Heap} {dx : aaC} {mA : Str → Option aad} (n : h.Ns1 dx mA) : ∃ od, h.get? dx = some od ∧ ∀ name, adj name od = some (mA name) := by
 obtain ⟨o, es, ep, ho, hd, hk, _, hm⟩ := n
 refine ⟨o, ho, fun name => ?_⟩
 have e := hm name
 unfold nsFind findBy at e
 rw [← Array.find?_toList] at e
 unfold adj
 rw [hd]
 dsimp only
 split
 ·rename_i y q
  rw [q] at e
  exact congrArg some e
 ·rename_i q
  rw [q] at e
  have a : es.toList.any (·.refKey) = false := by
   rw [List.any_eq_false]
   intro y hy
   obtain ⟨z, t, hkey⟩ := hk y (Array.mem_toList_iff.mp hy)
   simp [DictEntry.refKey, hkey]
  have a' : ¬ es.toList.any (·.refKey) = true := by rw [a]; exact aaz
  rw [if_neg a']
  exact congrArg some e
theorem EN.look {h : Heap} {x dx C : aaC} {mA : Str → Option aad} (I : EN h x dx C mA) : ∃ od, PySem.W.InstAt h x (abP C dx) C (some od) ∧ ∀ name, adj name od = some (mA name) :=
 let ⟨od, ho, hl⟩ := Ht I.ns
 ⟨od, ⟨I.obj, rfl, rfl, ho⟩, hl⟩
section
variable {prog : aaL} {w : aa9} {A : aba} {E : aad → aaf → Prop} {s : aaf} {K : aaa} {x dx C f : aaC} {mA : Str → Option aad} {name : Str} {v : aad}
theorem get_map {expr : Bool} {Q : aad → aaf → Prop} (X : K.In s.heap) (I : EN s.heap x dx C mA) (hg : abL K C name = true) (hh : abN K C = true)
  (ha : abF K (.ref C) name = some none) (hv : mA name = some v) (hv' : aeC v = true) (h : Q v { s with toks := s.toks + 1 }) :
  aaZ (model prog w) A (getAttr (.ref x) name expr) Q E s := by
 obtain ⟨od, J, hl⟩ := I.look
 exact PySem.W.get_value X J (acY hg).1 (PySem.W.findObj_own hh ha rfl (by rw [hl, hv])) hv' h
theorem Jb {pl : Sem Bool} {Q : aad × List aad → aaf → Prop} (X : K.In s.heap) (I : EN s.heap x dx C mA) (hg : abL K C name = true)
  (hf : abF K (.ref C) name = some (some (.ref f))) (ht : aey K (.ref f) = true) (hv : mA name = none) (h : Q (.ref f, [.ref x]) s) :
  aaZ (model prog w) A (getMethod (.ref x) name pl) Q E s := by
 obtain ⟨od, J, hl⟩ := I.look
 exact PySem.W.method_fn X J (acY hg).1 (acY hg).2 hf (beq_iff_eq.mp ht) (by show (adj name od).map (·.isSome) = some false; rw [hl, hv]; rfl) h
theorem LJ {ns : List Str} {Q : Unit → aaf → Prop} (X : K.In s.heap) (I : EN s.heap x dx C mA)
  (hs : abF K (.ref C) "__setattr__" = some (some (.builtin "object.__setattr__"))) (hp : abX K C = true) (ht : adL K C name = some none) (hh : abN K C = true)
  (hw : aex mA ns) (hsz : ns.length ≤ aai)
  (h : ∀ h', EN h' x dx C (fun y => if y = name then some v else mA y) → adK dx s.heap h' → Q () { s with heap := h', toks := s.toks + 2 }) :
  aaZ (model prog w) A (setAttr (.ref x) name v) Q E s := by
 obtain ⟨od, J, hl⟩ := I.look
 refine PySem.W.set_plain X J hs (PySem.W.osa_open (s := { s with toks := s.toks + 1 }) (r := none) X J hp ht fun b => ?_)
 obtain ⟨cd, hc, hd'⟩ := PySem.W.any_some hh
 have hx : s.heap.get? x = some ⟨.ref C, some dx, .plain, #[]⟩ := I.obj
 refine aau (aaO (aau (aau (wpAny_loadPart hx (aau (PySem.W.Looks.here (s := { s with toks := s.toks + 1 }) (PySem.W.looks_clsIn X hc) ?_))))))
 rw [hd']
 refine aaO (a := some dx) (aau (aaO (aau ?_)))
 refine wpAny_nsSet1 (s := { s with toks := s.toks + 1 }) I.ns fun h' zV M3 => ?_
 obtain ⟨oD, esD, epD, hoD, hdD, hcD⟩ := zV.count (PySem.Within.cons name v hw)
 refine aau (wpAny_lookBehind hoD (by rw [hdD]; exact pastItsLine_dict (aa8 hcD (by rw [aag]; omega))) ?_)
 exact aaO (h _ ⟨(M3.2 _ (acp I.ne)).trans I.obj, zV, I.ne⟩ M3)
theorem Jc {R : Result → aaf → Prop} {vs : List aad} {kw : List (Str × aad)} (X : K.In s.heap) (hm : aca K C = true)
  (hi : abF K (.ref C) "__init__" = some (some (.ref f))) (hf : adk K (.ref f) = some (.type "function"))
  (h : codeAny (model prog w) (A.under (.builtin "type.__call__" ⟨.ref C :: vs, kw⟩)) (.call (.ref f) ⟨.ref (s.heap.objs.size + 1) :: vs, kw⟩) (PySem.W.InitBack (s.heap.objs.size + 1) R)
   { s with heap := (s.heap.push abx).push (abP C s.heap.objs.size) }) :
  codeAny (model prog w) A (.call (.ref C) ⟨vs, kw⟩) R s := by
 obtain ⟨hh, g, d, t, os⟩ := s
 exact PySem.W.make_core (PySem.W.makes_of X hm) (PySem.W.looks_findIn X hi) (fun self => PySem.W.bind_fn X self hf) (.inl rfl) h
end
def bL (f : Str) (v : V) : List (Str × V) → List (Str × V)
 | [] => [(f, v)]
 | (g, x) :: r => if g = f then (g, v) :: r else (g, x) :: bL f v r
theorem aU (f g : Str) (v : V) : ∀ fs : List (Str × V), (bL f v fs).lookup g = if g = f then some v else fs.lookup g
 | [] => by
  show acr g [(f, v)] = _
  by_cases h : g = f
  ·have hb : (g == f) = true := beq_iff_eq.mpr h
   simp only [acr, hb, if_pos h]
  ·have hb : (g == f) = false := beq_eq_false_iff_ne.mpr h
   simp only [acr, hb, if_neg h]
 | (k, x) :: r => by
  have ih := aU f g v r
  rw [show bL f v ((k, x) :: r) = (if k = f then (k, v) :: r else (k, x) :: bL f v r) from rfl]
  by_cases hk : k = f
  ·rw [if_pos hk]
   by_cases h : g = k
   ·have hb : (g == k) = true := beq_iff_eq.mpr h
    simp only [acr, hb, if_pos (h.trans hk)]
   ·have hb : (g == k) = false := beq_eq_false_iff_ne.mpr h
    simp only [acr, hb, if_neg (fun e : g = f => h (e.trans hk.symm))]
  ·rw [if_neg hk]
   by_cases h : g = k
   ·have hb : (g == k) = true := beq_iff_eq.mpr h
    simp only [acr, hb, if_neg (fun e : g = f => hk (h.symm.trans e))]
   ·have hb : (g == k) = false := beq_eq_false_iff_ne.mpr h
    simp only [acr, hb]
    exact ih
theorem rK (f : Str) (v : V) : ∀ fs : List (Str × V), f ∈ (bL f v fs).map (·.1) ∧ ∀ g, g ∈ fs.map (·.1) → g ∈ (bL f v fs).map (·.1)
 | [] => ⟨by simp [bL], fun g h => by simp at h⟩
 | (k, x) :: r => by
  obtain ⟨i1, i2⟩ := rK f v r
  rw [show bL f v ((k, x) :: r) = (if k = f then (k, v) :: r else (k, x) :: bL f v r) from rfl]
  by_cases hk : k = f
  ·rw [if_pos hk]
   subst hk
   exact ⟨by simp, fun g h => by simpa using h⟩
  ·rw [if_neg hk]
   refine ⟨?_, fun g h => ?_⟩
   ·rw [aa3]
    exact aal _ i1
   ·rw [aa3] at h ⊢
    rcases aaF.mp h with e | e
    ·exact aaF.mpr (.inl e)
    ·exact aal _ (i2 g e)
theorem tJ (f : Str) (v : V) : ∀ fs : List (Str × V), (bL f v fs).length ≤ fs.length + 1
 | [] => by simp [bL]
 | (k, x) :: r => by
  have ih := tJ f v r
  rw [show bL f v ((k, x) :: r) = (if k = f then (k, v) :: r else (k, x) :: bL f v r) from rfl]
  by_cases hk : k = f
  ·rw [if_pos hk, aag, aag]; omega
  ·rw [if_neg hk, aag, aag]; omega
theorem mK.some_of {v : V} {o : Option aad} (r : mK (some v) o) : ∃ u, o = some u ∧ RelV v u := by
 cases o with
 | none => exact (show False from r).elim
 | some u => exact ⟨u, rfl, r⟩
theorem mK.none_of {o : Option aad} (r : mK none o) : o = none := by
 cases o with
 | none => rfl
 | some u => exact (show False from r).elim
theorem Hu {v : V} {u : aad} (r : RelV v u) : aeC u = true := by
 cases v with
 | tok x t => cases (show u = abw x t from r); rfl
 | bY => cases (show u = adl from r); rfl
 | bl b => cases (show u = acV b from r); rfl
 | int i => obtain ⟨t, e⟩ := (show ∃ t, u = aeg i t from r); cases e; rfl
 | str x => obtain ⟨t, e⟩ := (show ∃ t, u = abw x t from r); cases e; rfl
 | IH b => obtain ⟨t, e⟩ := (show ∃ t, u = Value.bytes b t from r); cases e; rfl
 | N3 b => obtain ⟨t, e⟩ := (show ∃ t, u = aeE b t from r); cases e; rfl
 | ref a => cases (show u = aa5 a from r); rfl
 | ty n => cases (show u = Value.type n from r); rfl
section
variable {P : aaL} {w : aa9} {H H' : Hp} {h h' : Heap} {a C dx : aaC} {fs fs' : List (Str × V)}
theorem uK (hok : pS P w H h) (e : H a = some (.ins C dx fs)) : ∃ mA, EN h a dx C mA ∧ (∀ f, mK (fs.lookup f) (mA f)) ∧ aex mA (fs.map (·.1)) ∧ fs.length ≤ 1000 ∧ H dx = some (.own a) := by
 obtain ⟨d, z, ne, ob, mA, n, r, q⟩ := (show cO P w H h a (.ins C dx fs) from hok a _ e)
 exact ⟨mA, ⟨ob, n, ne⟩, r, q, z, d⟩
end
structure CM (K : aaa) (C : aaC) : Prop where
 pg : abL K C aei = true
 hd : abN K C = true
 po : abX K C = true
 sa : abF K (.ref C) "__setattr__" = some (some (.builtin "object.__setattr__"))
theorem CM.get {K : aaa} {C : aaC} (c : CM K C) (f : Str) : abL K C f = true := c.pg
def cz (K : aaa) (C : aaC) (f : Str) : Prop := abF K (.ref C) f = some none
theorem cz.QU {K : aaa} {C : aaC} {f : Str} (n : cz K C f) : adL K C f = some none := by
 unfold adL
 rw [show abF K (.ref C) f = some none from n]
 rfl
structure Meth (K : aaa) (C : aaC) (m : Str) (f : aaC) : Prop where
 at_ : abF K (.ref C) m = some (some (.ref f))
 fn : aey K (.ref f) = true
 kp : ab5 K (.ref f) = true
section
variable {X : Cx} {pins : List (aaC × Obj)} {σ : St} {H : Hp} {s : aaf} {a C dx : aaC} {fs : List (Str × V)} {f : Str} {v : V} {A : aba} {E : aad → aaf → Prop}
theorem getattr_ok {b : Bool} {Q : aad → aaf → Prop} (I : Inv X pins σ H s) (e : H a = some (.ins C dx fs)) (c : CM X.K C) (n : cz X.K C f) (l : fs.lookup f = some v)
  (h : ∀ u s', Inv X pins σ H s' → RelV v u → Q u s') : aaZ (model X.prog X.w) A (getAttr (.ref a) f b) Q E s := by
 obtain ⟨mA, O, r, _, _, _⟩ := uK I.hok e
 obtain ⟨u, hu, ru⟩ := mK.some_of (v := v) (o := mA f) (by rw [← l]; exact r f)
 exact get_map I.qj O (c.get f) c.hd n hu (Hu ru) (h u _ (I.tok _) ru)
theorem ka {m : Str} {g : aaC} {pl : Sem Bool} {Q : aad × List aad → aaf → Prop} (I : Inv X pins σ H s) (e : H a = some (.ins C dx fs)) (c : CM X.K C) (k : Meth X.K C m g) (l : fs.lookup m = none)
  (h : Q (.ref g, [.ref a]) s) : aaZ (model X.prog X.w) A (getMethod (.ref a) m pl) Q E s := by
 obtain ⟨mA, O, r, _, _, _⟩ := uK I.hok e
 have hn : mA m = none := mK.none_of (by rw [← l]; exact r m)
 exact Jb I.qj O (c.get m) k.at_ k.fn hn h
theorem EO {y : V} {u : aad} {Q : Unit → aaf → Prop} (I : Inv X pins σ H s) (e : H a = some (.ins C dx fs)) (c : CM X.K C) (n : cz X.K C f) (hl : fs.length < 1000) (ry : RelV y u)
  (h : ∀ s', Inv X pins σ (upd H a (.ins C dx (bL f y fs))) s' → Q () s') : aaZ (model X.prog X.w) A (setAttr (.ref a) f u) Q E s := by
 obtain ⟨mA, O, r, wi, _, ho⟩ := uK I.hok e
 have hz : (fs.map (·.1)).length ≤ aai := by rw [Lm9, aaA]; omega
 refine LJ I.qj O c.sa c.po n.QU c.hd wi hz fun h' O' sb => h _ ?_
 have hd : ∃ o, h'.get? dx = some o := let ⟨o, _, _, e', _⟩ := O'.ns; ⟨o, e'⟩
 refine I.write (x := a) (e := dx) (by rw [e]; exact ab6) (.inr ho) (fun b q hb z => (sb.2 b hb).trans z) hd ?_
 refine ⟨by rw [aA O.ne]; exact ho, ?_, O.ne, O'.obj, _, O'.ns, fun g => ?_, fun g hg => ?_⟩
 ·have := tJ f y fs; omega
 ·show mK ((bL f y fs).lookup g) (if g = f then some u else mA g)
  rw [aU]
  by_cases q : g = f
  ·rw [if_pos q, if_pos q]; exact ry
  ·rw [if_neg q, if_neg q]; exact r g
 ·by_cases q : g = f
  ·rw [q]; exact (rK f y fs).1
  ·refine (rK f y fs).2 g (wi g fun z => hg ?_)
   show (if g = f then some u else mA g) = none
   rw [if_neg q]; exact z
theorem Inv.made (I : Inv X pins σ H s) : Inv X pins σ (upd (upd H s.heap.objs.size (.own (s.heap.objs.size + 1))) (s.heap.objs.size + 1) (.ins C s.heap.objs.size []))
  { s with heap := (s.heap.push abx).push (abP C s.heap.objs.size) } := by
 have e1 : (s.heap.push abx).get? s.heap.objs.size = some abx := aa0 s.heap rfl
 have e2 : ((s.heap.push abx).push (abP C s.heap.objs.size)).get? (s.heap.objs.size + 1) = some (abP C s.heap.objs.size) := by
  have := aa0 (s.heap.push abx) (o := abP C s.heap.objs.size) rfl
  rwa [adZ] at this
 have e3 : (s.heap.push abx).Ns s.heap.objs.size (fun _ => none) := ⟨abx, #[], _, e1, rfl, (fun e he => absurd he (by simp)), fun _ => rfl⟩
 have I1 := I.laid (a := s.heap.objs.size) (o := .own (s.heap.objs.size + 1)) (h' := s.heap.push abx) (t' := s.toks) (fun b u q => aav _ q) (aar _) ⟨_, e1⟩
 refine I1.laid (a := s.heap.objs.size + 1) (o := .ins C s.heap.objs.size []) (t' := s.toks) (fun b u q => aav _ q) (Nat.le_of_eq (adZ _ _)) ?_
 have ne : s.heap.objs.size ≠ s.heap.objs.size + 1 := abe (Nat.lt_succ_self _)
 refine ⟨by rw [aA ne, ae], abm _, ne, e2, fun _ => none, (Heap.Ns1.of_empty e3).at fun o q => aav _ q, fun _ => ab6, fun y hy => absurd rfl hy⟩
theorem attr_of {prog : aaL} {w : aa9} {env : Env} {e : Expr} {f : Str} {pos : Pos} {s : aaf} {Q : aad → aaf → Prop} (hb : attributeBase e f env (eval e env) = eval e env)
  (h : aaZ (model prog w) A (eval e env) (fun o s₁ => aaZ (model prog w) A (getAttr o f true) Q E s₁) E s) : aaZ (model prog w) A (eval (.Attribute e f pos) env) Q E s :=
 Attribute_any_ h (by rw [arm_eval_Attribute, hb])
end
def tFld (K : aaa) (ta : TE) (f : Str) : TE := fun σ H Q => ta σ H fun x H1 => ∃ a C dx fs v, x = .ref a ∧ H1 a = some (.ins C dx fs) ∧ CM K C ∧ cz K C f ∧ fs.lookup f = some v ∧ Q v H1
def Vv (K : aaa) (ta tv : TE) (f : Str) : TS := fun D σ H => tv σ H fun y H1 => ta σ H1 fun x H2 => ∃ a C dx fs, x = .ref a ∧ H2 a = some (.ins C dx fs) ∧ CM K C ∧ cz K C f ∧ fs.length < 1000 ∧
 D.nx σ (upd H2 a (.ins C dx (bL f y fs)))
section
variable {X : Cx} {o e value : Expr} {f : Str} {pos pos' QV : Pos} {ta tv : TE}
theorem pe_fld (he : PE X e ta) (hb : attributeBase e f X.env (eval e X.env) = eval e X.env) : PE X (.Attribute e f pos) (tFld X.K ta f) := by
 intro pins s σ H Q I h
 refine attr_of hb (thn (he pins s σ H _ I h) fun u s1 ⟨x, H1, I1, rx, a, C, dx, fs, v, ex, ea, c, n, l, q⟩ => ?_)
 subst ex
 obtain rfl : u = aa5 a := rx
 exact getattr_ok I1 ea c n l fun u' s2 I2 ru => ⟨v, H1, I2, ru, q⟩
theorem ps_fld (ha : PE X o ta) (hv : PE X value tv) (hs : swapsWith value (some (.Attribute o f pos')) pos.line X.env = pure false) : PS X (.Assign [.Attribute o f pos'] value pos) (Vv X.K ta tv f) := by
 intro pins s σ H D I h
 refine plainObj_wpAny_Assign_Attribute (thn (hv pins s σ H _ I h) fun u s1 ⟨y, H1, I1, ry, q⟩ => thn (ha pins s1 σ H1 _ I1 q) fun ov s2 ⟨x, H2, I2, rx, a, C, dx, fs, ex, ea, c, n, l, q2⟩ => ?_) hs
 subst ex
 obtain rfl : ov = aa5 a := rx
 exact EO I2 ea c n l ry fun s3 I3 => ⟨σ, _, I3, q2⟩
theorem M4 {pl : Sem Bool} {m : Str} {apos : Pos} {args : List Expr} {pins : List (aaC × Obj)} {s : aaf} {σ : St} {H : Hp} {Q : aad → aaf → Prop} {te : TE} (he : PE X e te) (I : Inv X pins σ H s)
  (h : te σ H fun x H1 => ∃ a C dx fs g, x = .ref a ∧ H1 a = some (.ins C dx fs) ∧ CM X.K C ∧ Meth X.K C m g ∧ fs.lookup m = none ∧
   ∀ s1, Inv X pins σ H1 s1 → aaZ (model X.prog X.w) X.A (callWith pos (.ref g) [.ref a] (backTo pos (starEach args X.env)) (backToKw pos (keywordEach [] X.env))) Q X.xe s1)
  (ht : eval (.Call (.Attribute e m apos) args [] pos) X.env = (do
   let ov ← eval e X.env
   standAt apos.atName
   let (f, first) ← holding [ov] (getMethod ov m pl)
   callWith pos f first (backTo pos (starEach args X.env)) (backToKw pos (keywordEach [] X.env)))) :
  aaZ (model X.prog X.w) X.A (eval (.Call (.Attribute e m apos) args [] pos) X.env) Q X.xe s := by
 refine acb (pl := pl) (thn (he pins s σ H _ I h) fun u s1 ⟨x, H1, I1, rx, a, C, dx, fs, g, ex, ea, c, k, l, q⟩ => ?_) ht
 subst ex
 obtain rfl : u = aa5 a := rx
 exact ka I1 ea c k l (q s1 I1)
end
section
variable {X : Cx} {pins : List (aaC × Obj)} {σ : St} {H : Hp} {s : aaf} {A : aba} {E : aad → aaf → Prop} {Q : aad → aaf → Prop} {c : aad} {b : Bool}
inductive mO (K : aaa) (H : Hp) : V → aad → Prop where
 | bY : mO K H .bY (.type "NoneType")
 | bl (x : Bool) : mO K H (.bl x) (.type "bool")
 | int (i : Int) : mO K H (.int i) (.type "int")
 | str (x : Str) : mO K H (.str x) (.type "str")
 | N3 (x : UInt64) : mO K H (.N3 x) (.type "float")
 | lst {a : aaC} {xs : List V} (e : H a = some (.lst xs)) : mO K H (.ref a) (.type "list")
 | uY {a : aaC} {o : Obj} {xs : List V} (e : H a = some (.uY o (.lst xs))) : mO K H (.ref a) (.type "list")
 | tup {a : aaC} {xs : List V} (e : H a = some (.tup xs)) : mO K H (.ref a) (.type "tuple")
 | dK {a : aaC} {kvs : List (Key × V)} (e : H a = some (.dK kvs)) : mO K H (.ref a) (.type "dict")
 | dT {a : aaC} {kvs : List (List Key × V)} (e : H a = some (.dT kvs)) : mO K H (.ref a) (.type "dict")
 | ins {a C dx : aaC} {fs : List (Str × V)} (e : H a = some (.ins C dx fs)) (cl : CM K C) (ha : abF K (.ref C) "__class__" = some (some (.builtin "object.__class__")))
   (hn : aer K (.builtin "object.__class__") "__get__" = some (some (.builtin "getset_descriptor.__get__"))) (LK : PySem.W.takesIn K (.builtin "object.__class__") = some true)
   (hm : aej K C (.type "object") = some true) : mO K H (.ref a) (.ref C)
theorem yT {x : V} {u t : aad} (I : Inv X pins σ H s) (rx : RelV x u) (ty : mO X.K H x t) (e : abC X.K t c = some b) (h : ∀ tk, Q (.bool b) { s with toks := tk }) :
  aaZ (model X.prog X.w) A (call (.builtin "isinstance") [u, c]) Q E s := by
 cases ty with
 | bY => cases (show u = adl from rx); exact abq PySem.W.kitx_none I.qj ab6 e (fun z => nomatch z) h
 | bl y => cases (show u = acV y from rx); exact abq PySem.W.kitx_bool I.qj ab6 e (fun z => nomatch z) h
 | int i => obtain ⟨t, q⟩ := (show ∃ t, u = aeg i t from rx); cases q; exact abq PySem.W.kitx_int I.qj ab6 e (fun z => nomatch z) h
 | str y => obtain ⟨t, q⟩ := (show ∃ t, u = abw y t from rx); cases q; exact abq PySem.W.kitx_str I.qj ab6 e (fun z => nomatch z) h
 | N3 y => obtain ⟨t, q⟩ := (show ∃ t, u = aeE y t from rx); cases q; exact abq PySem.W.kitx_float I.qj ab6 e (fun z => nomatch z) h
 | @lst a xs ea =>
  cases (show u = aa5 a from rx)
  obtain ⟨_, _, n, _, h1⟩ := (show cO X.prog X.w H s.heap a (.lst xs) from I.hok a _ ea)
  exact abq aes I.qj ⟨_, h1, rfl⟩ e (fun z => nomatch z) h
 | @uY a ob xs ea =>
  cases (show u = aa5 a from rx)
  obtain ⟨_, _, _, n, _, h1⟩ := (show cO X.prog X.w H s.heap a (.uY ob (.lst xs)) from I.hok a _ ea)
  exact abq aes I.qj ⟨_, h1, rfl⟩ e (fun z => nomatch z) h
 | @tup a xs ea =>
  cases (show u = aa5 a from rx)
  obtain ⟨_, _, _, p⟩ := (show cO X.prog X.w H s.heap a (.tup xs) from I.hok a _ ea)
  obtain ⟨o, h1, h2, _⟩ := p
  exact abq PySem.W.kitx_tuple I.qj ⟨o, h1, h2⟩ e (fun z => nomatch z) h
 | @dK a kvs ea =>
  cases (show u = aa5 a from rx)
  obtain ⟨_, _, vs, _, p⟩ := (show cO X.prog X.w H s.heap a (.dK kvs) from I.hok a _ ea)
  obtain ⟨o, es, ep, h1, h2, _⟩ := p
  exact abq aet I.qj ⟨o, h1, h2.1⟩ e (fun z => nomatch z) h
 | @dT a kvs ea =>
  cases (show u = aa5 a from rx)
  obtain ⟨_, _, xs, _, o, es, ep, h1, h2, _⟩ := (show cO X.prog X.w H s.heap a (.dT kvs) from I.hok a _ ea)
  exact abq aet I.qj ⟨o, h1, h2.1⟩ e (fun z => nomatch z) h
 | @ins a C dx fs ea cl ha hn LK hm =>
  cases (show u = aa5 a from rx)
  obtain ⟨mA, O, _⟩ := uK I.hok ea
  obtain ⟨od, J, _⟩ := O.look
  exact abq (PySem.W.kitx_own (cl.get _) cl.hd ha hn LK hm) I.qj J e (fun z => nomatch z) h
end
end L2
namespace L2
open PySem PySem.Spec PyProof.Rows
structure dD (k : Nat) (A : aba) : Prop where
 hd : A.handled = none
 dp : A.depth + 3 * k + 5 < recursionLimit
 un : A.units + 16 * k + 200 < cLine
 gd : A.guards = some []
theorem dD.mono {j k : Nat} {A : aba} (r : dD k A) (h : j ≤ k) : dD j A := ⟨r.hd, by have := r.dp; omega, by have := r.un; omega, r.gd⟩
theorem dD.deeper {k : Nat} {A : aba} (r : dD (k + 1) A) (env : Env) : dD k (A.deeper env) :=
 ⟨r.hd, by have := r.dp; show A.depth + 1 + 3 * k + 5 < _; omega, by have := r.un; show A.units + 3 + 16 * k + 200 < _; omega, r.gd⟩
theorem ER {A : aba} {C : aaC} {us : List aad} {kw : List (Str × aad)} : (A.under (.builtin "type.__call__" ⟨.ref C :: us, kw⟩)).depth = A.depth + 1 := by
 first | rfl | simp [adM, Code.weight, Code.isCreation, Code.isGuard, Code.isCaller, Code.frames, aez, guardIds]
theorem ES {A : aba} {C : aaC} {us : List aad} {kw : List (Str × aad)} : (A.under (.builtin "type.__call__" ⟨.ref C :: us, kw⟩)).units = A.units + 1 := by
 first | rfl | simp [adM, Code.cUnits, Code.frames, aez]
theorem CU {A : aba} {C : aaC} {us : List aad} {kw : List (Str × aad)} : (A.under (.builtin "type.__call__" ⟨.ref C :: us, kw⟩)).guards = A.guards := by
 first | rfl | simp [adM, pushGuards, Code.guards, Code.isGuard, guardIds]
theorem dD.make {k : Nat} {A : aba} (r : dD (k + 1) A) (C : aaC) (us : List aad) (kw : List (Str × aad)) : dD k (A.under (.builtin "type.__call__" ⟨.ref C :: us, kw⟩)) :=
 ⟨r.hd, by have := r.dp; rw [ER]; omega, by have := r.un; rw [ES]; omega, by rw [CU]; exact r.gd⟩
theorem dD.depth {k : Nat} {A : aba} (r : dD k A) : A.depth < recursionLimit := by have := r.dp; omega
theorem dD.units {k : Nat} {A : aba} (r : dD k A) : A.units + 64 < cLine := by have := r.un; omega
def Hv : TA := fun _ H Q => Q [] H
def GA (ta : TE) (tr : TA) : TA := fun σ H Q => ta σ H fun x H1 => tr σ H1 fun xs H2 => Q (x :: xs) H2
section
variable {X : Cx} {e : Expr} {es : List Expr} {te : TE} {t : TA} {pos : Pos}
theorem ab : PA X [] Hv := fun _ _ _ _ H Q I h => ado ⟨[], H, I, .nil, h⟩
theorem aa (ha : PE X e te) (hr : PA X es t) (hs : starEach (e :: es) X.env = (false, eval e X.env) :: starEach es X.env := by rfl) : PA X (e :: es) (GA te t) := by
 intro pos pins s σ H Q I h
 rw [hs]
 show aaZ _ _ (spliced ((false, eval e X.env) :: backTo pos (starEach es X.env))) _ _ s
 refine abR (thn (ha pins s σ H _ I h) fun u s1 ⟨x, H1, I1, r1, q1⟩ => ?_)
 exact thn (hr pos pins s1 σ H1 _ I1 q1) fun us s2 ⟨xs, H2, I2, r2, q2⟩ => ⟨x :: xs, H2, I2, .cons r1 r2, q2⟩
def Vw (t : TA) : TE := fun σ H Q => t σ H fun xs H1 => xs.length ≤ aai ∧ ∀ p, H1 p = none → Q (.ref p) (upd H1 p (.tup xs))
def QW (t : TA) : TE := fun σ H Q => t σ H fun xs H1 => xs.length ≤ aai ∧ ∀ p, H1 p = none → Q (.ref p) (upd H1 p (.lst xs))
theorem cT {x1} (h : PA X es t) : PE X (.Tuple es x1 pos) (Vw t) := by
 intro pins s σ H Q I hq
 refine wpAny_Tuple_spliced (thn (h pos pins s σ H _ I hq) fun us s1 ⟨xs, H1, I1, r, z, q⟩ => ⟨by rw [← r.length]; exact z, ?_⟩)
 have hf : H1 s1.heap.objs.size = none := I1.hok.fresh (aar _)
 refine ⟨.ref s1.heap.objs.size, upd H1 s1.heap.objs.size (.tup xs), I1.laid (t' := s1.toks) (fun b u e => aav _ e) (aar _) ?_, rfl, q _ hf⟩
 exact ⟨z, us, r, ⟨_, aa0 _ rfl, rfl, _, rfl⟩⟩
theorem a7 (h : PA X es t) : PE X (.List es pos) (QW t) := by
 intro pins s σ H Q I hq
 refine wpAny_List_spliced (thn (h pos pins s σ H _ I hq) fun us s1 ⟨xs, H1, I1, r, z, q⟩ => ⟨by rw [← r.length]; exact z, ?_⟩)
 have hf : H1 s1.heap.objs.size = none := I1.hok.fresh (aar _)
 refine ⟨.ref s1.heap.objs.size, upd H1 s1.heap.objs.size (.lst xs), I1.laid (t' := s1.toks) (fun b u e => aav _ e) (aar _) ?_, rfl, q _ hf⟩
 exact ⟨z, us, 0, r, aa0 _ rfl⟩
end
abbrev Sp := List V → Hp → VK → XK → Prop
abbrev GB := List Env → Hp → aaf → XK → aad → aaf → Prop
structure CV (P : aaL) (w : aa9) (K : aaa) (mg : Str → Option aad) (base : Heap) (A : aba) (outer : List Env) (s : aaf) (H : Hp) : Prop where
 frames : A.frames = some outer
 mod : Mod K mg base
 bs : ∀ b o, base.get? b = some o → s.heap.get? b = some o ∧ H b = none
 LD : base.objs.size ≤ s.heap.objs.size
 t5 : s.heap.FunFrames base outer
 N6 : ∀ b ∈ Ho outer, H b = none
 hok : pS P w H s.heap
 bare : AllBare s.gens
def CE (outer : List Env) (P : aaL) (w : aa9) (H : Hp) (s : aaf) (Q : VK) (u : aad) (s' : aaf) : Prop :=
 ∃ v H', s'.os = s.os ∧ AllBare s'.gens ∧ Un (Ho outer) [] H H' s.heap s'.heap ∧ pS P w H' s'.heap ∧ RelV v u ∧ Q v H'
def CR (CX : GB) (outer : List Env) (P : aaL) (w : aa9) (H : Hp) (s : aaf) (Q : VK) (E : XK) (r : Result) (s' : aaf) : Prop :=
 match r with
 | .ok (.ret u) => CE outer P w H s Q u s'
 | .ok _ => False
 | .error e => CX outer H s E e s'
structure a4 (P : aaL) (w : aa9) (K : aaa) (mg : Str → Option aad) (base : Heap) (CX : GB) (k : Nat) (f : aaC) (fd : abd) (ps : List Str) (sp : Sp) : Prop where
 len : ∀ vs H Q E, sp vs H Q E → vs.length = ps.length
 run : ∀ (A : aba) (outer : List Env) (s : aaf) (H : Hp) (args : Args) (us : List aad) (vs : List V) (Q : VK) (E : XK), dD k A → CV P w K mg base A outer s H → BindsTo s fd args (ps.zip us) → Vals vs us → sp vs H Q E →
  codeAny (model P w) A (.call (.ref f) args) (CR CX outer P w H s Q E) s
theorem CV.make {P : aaL} {w : aa9} {K : aaa} {mg : Str → Option aad} {base : Heap} {A : aba} {outer : List Env} {s : aaf} {H : Hp} (e : CV P w K mg base A outer s H) (C : aaC) (us : List aad) (kw : List (Str × aad)) :
  CV P w K mg base (A.under (.builtin "type.__call__" ⟨.ref C :: us, kw⟩)) outer s H := ⟨by first | exact e.frames | (simpa [adM, Code.envs, aez, pushEnvs] using e.frames), e.mod, e.bs, e.LD, e.t5, e.N6, e.hok, e.bare⟩
section
variable {X : Cx} {pins : List (aaC × Obj)} {σ : St} {H : Hp} {s s' : aaf}
theorem Inv.Oh (I : Inv X pins σ H s) : CV X.prog X.w X.K X.mg X.base X.A X.stack s H :=
 ⟨I.ok.frames, I.ok.mod, I.bs, aa8 I.ok.LD I.sz, I.stack, I.Gq, I.hok, I.bare⟩
theorem Inv.after {Q : VK} {u : aad} (I : Inv X pins σ H s) (h : CE X.stack X.prog X.w H s Q u s') : EP X pins σ Q u s' := by
 obtain ⟨v, H', os, bare, un, hok, r, q⟩ := h
 obtain ⟨hh, g, d, t, os'⟩ := s'
 obtain rfl : os' = s.os := os
 exact ⟨v, H', I.call (h' := hh) (g' := g) (d' := d) (t' := t) (ch := []) un hok bare (fun b z => absurd z (by simp)), r, q⟩
end
def GC (sp : Sp) (rL : List V) (E : XK) (t : TA) : TE := fun σ H Q => t σ H fun vs H1 => sp (vs ++ rL) H1 Q E
def GD (C : aaC) (m : Str) (sp : Sp) (rL : List V) (E : XK) (ta : TE) (t : TA) : TE := fun σ H Q => ta σ H fun x H1 => ∃ a dx fs, x = .ref a ∧ H1 a = some (.ins C dx fs) ∧ fs.lookup m = none ∧
 t σ H1 fun vs H2 => sp (x :: (vs ++ rL)) H2 Q E
def M5 (C : aaC) (sp : Sp) (rL : List V) (E : XK) (t : TA) : TE := fun σ H Q => t σ H fun vs H1 => ∀ x dx, H1 x = none → H1 dx = none → dx ≠ x →
 sp (.ref x :: (vs ++ rL)) (upd (upd H1 dx (.own x)) x (.ins C dx [])) (fun v H2 => v = .bY ∧ Q (.ref x) H2) E
def Binds (K : aaa) (fd : abd) (ps : List Str) (ds : List aad) : Prop :=
 ∀ (s : aaf) (us : List aad), K.In s.heap → (us ++ ds).length = ps.length → BindsTo s fd ⟨us, []⟩ (ps.zip (us ++ ds))
theorem Binds.all {K : aaa} {fd : abd} {ps : List Str} (h : ∀ us : List aad, us.length = ps.length → bindArgs fd ⟨us, []⟩ = pure (ps.zip us)) : Binds K fd ps [] := fun s us _ hl => by
 rw [aaU] at hl ⊢
 exact .of_eq (h us hl)
def Passes (CX : GB) (X : Cx) (E : XK) : Prop := ∀ (pins : List (aaC × Obj)) (σ : St) (H : Hp) (s : aaf) (e : aad) (s' : aaf), Inv X pins σ H s → CX X.stack H s E e s' → X.xe e s'
section
variable {X : Cx} {CX : GB} {k : Nat} {f C : aaC} {fd : abd} {ps : List Str} {sp : Sp} {rL : List V} {ds : List aad} {E : XK} {x m : Str} {p pos apos : Pos} {e o : Expr} {es : List Expr} {ta : TE} {t : TA}
theorem u9 {pins : List (aaC × Obj)} {σ : St} {H : Hp} {s : aaf} {Q : VK} {us : List aad} {vs : List V} (F : a4 X.prog X.w X.K X.mg X.base CX k f fd ps sp) (hr : dD k X.A) (hb : Binds X.K fd ps ds) (hd : Vals rL ds) (hx : Passes CX X E)
  (I : Inv X pins σ H s) (r : Vals vs us) (h : sp (vs ++ rL) H Q E) : aaZ (model X.prog X.w) X.A (call (.ref f) us) (EP X pins σ Q) X.xe s := by
 have r2 : Vals (vs ++ rL) (us ++ ds) := r.append hd
 have hl : (us ++ ds).length = ps.length := by rw [← r2.length]; exact F.len _ _ _ _ h
 refine wpAny_call (codeAny_mono (F.run X.A X.stack s H ⟨us, []⟩ (us ++ ds) (vs ++ rL) Q E hr I.Oh (hb s us I.qj hl) r2 h) fun r s' hq => ?_)
 cases r with
 | error e => exact hx pins σ H s e s' I hq
 | ok fl =>
  cases fl with
  | ret u => exact I.after hq
  | next => exact abo hq
  | brk => exact abo hq
  | cont => exact abo hq
theorem LL (F : a4 X.prog X.w X.K X.mg X.base CX k f fd ps sp) (hr : dD k X.A) (hg : Gl X x) (hm : X.mg x = some (.ref f)) (hk : ab5 X.K (.ref f) = true) (hb : Binds X.K fd ps ds) (hd : Vals rL ds) (hx : Passes CX X E)
  (ha : PA X (e :: es) t) (ET : (x == ("__debug__" : Str)) = false := by decide) (he : starEach (e :: es) X.env = (false, eval e X.env) :: starEach es X.env := by rfl) (hpl : (backTo pos (starEach es X.env)).any (·.1) = false := by rfl) :
  PE X (.Call (.Name x p) (e :: es) [] pos) (GC sp rL E t) := by
 intro pins s σ H Q I h
 refine wpAny_Call_Name_kw (qk I hg hm ?_ ET)
 refine ab9 (h₀ := X.base) I.ok.mod.LC hk (thn (ha pos pins s σ H _ I h) fun us s1 ⟨vs, H1, I1, r, q⟩ => ⟨I1.qj, ?_⟩) he hpl
 exact u9 F hr hb hd hx I1 r q
theorem LM {pl : Sem Bool} (he : PE X o ta) (c : CM X.K C) (hm : Meth X.K C m f) (F : a4 X.prog X.w X.K X.mg X.base CX k f fd ps sp) (hr : dD k X.A) (hb : Binds X.K fd ps ds) (hd : Vals rL ds) (hx : Passes CX X E) (ha : PA X (e :: es) t)
  (M6 : starEach (e :: es) X.env = (false, eval e X.env) :: starEach es X.env := by rfl) (hpl : (backTo pos (starEach es X.env)).any (·.1) = false := by rfl)
  (ht : eval (.Call (.Attribute o m apos) (e :: es) [] pos) X.env = (do
   let ov ← eval o X.env
   standAt apos.atName
   let (f, first) ← holding [ov] (getMethod ov m pl)
   callWith pos f first (backTo pos (starEach (e :: es) X.env)) (backToKw pos (keywordEach [] X.env))) := by rfl) :
  PE X (.Call (.Attribute o m apos) (e :: es) [] pos) (GD C m sp rL E ta t) := by
 intro pins s σ H Q I h
 refine acb (pl := pl) (thn (he pins s σ H _ I h) fun u s1 ⟨x, H1, I1, rx, a, dx, fs, ex, ea, l, q⟩ => ?_) ht
 subst ex
 obtain rfl : u = aa5 a := rx
 refine ka I1 ea c hm l ?_
 refine ab9 (first := [.ref a]) (h₀ := X.base) I.ok.mod.LC hm.kp (thn (ha pos pins s1 σ H1 _ I1 q) fun us s2 ⟨vs, H2, I2, r, q2⟩ => ⟨I2.qj, ?_⟩) M6 hpl
 exact u9 (us := .ref a :: us) (vs := .ref a :: vs) F hr hb hd hx I2 (.cons rfl r) q2
theorem Jd {pl : Sem Bool} (he : PE X o ta) (c : CM X.K C) (hm : Meth X.K C m f) (F : a4 X.prog X.w X.K X.mg X.base CX k f fd ps sp) (hr : dD k X.A) (hb : Binds X.K fd ps ds) (hd : Vals rL ds) (hx : Passes CX X E)
  (ht : eval (.Call (.Attribute o m apos) [] [] pos) X.env = (do
   let ov ← eval o X.env
   standAt apos.atName
   let (f, first) ← holding [ov] (getMethod ov m pl)
   callWith pos f first (backTo pos (starEach [] X.env)) (backToKw pos (keywordEach [] X.env))) := by rfl) :
  PE X (.Call (.Attribute o m apos) [] [] pos) (GD C m sp rL E ta Hv) := by
 intro pins s σ H Q I h
 refine acb (pl := pl) (thn (he pins s σ H _ I h) fun u s1 ⟨x, H1, I1, rx, a, dx, fs, ex, ea, l, q⟩ => ?_) ht
 subst ex
 obtain rfl : u = aa5 a := rx
 refine ka I1 ea c hm l ?_
 exact ad3 (first := [.ref a]) I1.qj hm.kp (u9 (us := [.ref a]) (vs := [.ref a]) F hr hb hd hx I1 (.cons rfl .nil) q)
structure Mk (K : aaa) (C f : aaC) : Prop where
 makes : aca K C = true
 init : abF K (.ref C) "__init__" = some (some (.ref f))
 fn : aey K (.ref f) = true
 kp : ab5 K (.ref C) = true
theorem Je {pins : List (aaC × Obj)} {σ : St} {H : Hp} {s : aaf} {Q : VK} {us : List aad} {vs : List V} (M : Mk X.K C f) (F : a4 X.prog X.w X.K X.mg X.base CX k f fd ps sp) (hr : dD (k + 1) X.A) (hb : Binds X.K fd ps ds) (hd : Vals rL ds)
  (hx : Passes CX X E) (I : Inv X pins σ H s) (r : Vals vs us)
  (h : ∀ x dx, H x = none → H dx = none → dx ≠ x → sp (.ref x :: (vs ++ rL)) (upd (upd H dx (.own x)) x (.ins C dx [])) (fun v H2 => v = .bY ∧ Q (.ref x) H2) E) :
  aaZ (model X.prog X.w) X.A (call (.ref C) us) (EP X pins σ Q) X.xe s := by
 have hq := h (s.heap.objs.size + 1) s.heap.objs.size (I.hok.fresh (Nat.le_succ _)) (I.hok.fresh (aar _)) (abe (Nat.lt_succ_self _))
 have I2 := Inv.made (C := C) I
 have r2 : Vals (V.ref (s.heap.objs.size + 1) :: (vs ++ rL)) (aa5 (s.heap.objs.size + 1) :: (us ++ ds)) := .cons rfl (r.append hd)
 have hl : (aa5 (s.heap.objs.size + 1) :: us ++ ds).length = ps.length := by
  have e := r2.length
  rw [F.len _ _ _ _ hq] at e
  exact e.symm
 refine wpAny_call (Jc (f := f) I.qj M.makes M.init (beq_iff_eq.mp M.fn) (codeAny_mono (F.run _ X.stack _ _ ⟨aa5 (s.heap.objs.size + 1) :: us, []⟩ (aa5 (s.heap.objs.size + 1) :: (us ++ ds)) _ _ E (hr.make C us [])
  (I2.Oh.make C us []) (hb _ (aa5 (s.heap.objs.size + 1) :: us) I2.qj hl) r2 hq) fun r s' hq' => ?_))
 cases r with
 | error e => exact hx pins σ _ _ e s' I2 hq'
 | ok fl =>
  cases fl with
  | ret u =>
   obtain ⟨v, H', I3, rv, ev, q3⟩ := I2.after hq'
   subst ev
   exact ⟨rv, ⟨V.ref (s.heap.objs.size + 1), H', I3, rfl, q3⟩⟩
  | next => exact abo hq'
  | brk => exact abo hq'
  | cont => exact abo hq'
theorem LN (M : Mk X.K C f) (F : a4 X.prog X.w X.K X.mg X.base CX k f fd ps sp) (hr : dD (k + 1) X.A) (hg : Gl X x) (hm : X.mg x = some (.ref C)) (hb : Binds X.K fd ps ds) (hd : Vals rL ds) (hx : Passes CX X E)
  (ha : PA X (e :: es) t) (ET : (x == ("__debug__" : Str)) = false := by decide) (he : starEach (e :: es) X.env = (false, eval e X.env) :: starEach es X.env := by rfl) (hpl : (backTo pos (starEach es X.env)).any (·.1) = false := by rfl) :
  PE X (.Call (.Name x p) (e :: es) [] pos) (M5 C sp rL E t) := by
 intro pins s σ H Q I h
 refine wpAny_Call_Name_kw (qk I hg hm ?_ ET)
 refine ab9 (h₀ := X.base) I.ok.mod.LC M.kp (thn (ha pos pins s σ H _ I h) fun us s1 ⟨vs, H1, I1, r, q⟩ => ⟨I1.qj, ?_⟩) he hpl
 exact Je M F hr hb hd hx I1 r q
end
section
variable {X : Cx} {CX : GB} {k : Nat} {f C : aaC} {fd : abd} {ps ks : List Str} {sp : Sp} {E : XK} {x m : Str} {p pos apos aa7 : Pos} {e o : Expr} {es : List Expr} {kws : List Keyword} {te ta : TE} {t tk : TA} {nm : Option Str}
variable {g : List aad → List aad → List aad} {gV : List V → List V → List V}
end
structure ax (N P : List Str) (sc : Scope) : Prop where
 kind : sc.kind = .function
 co : sc.isCoroutine = false
 gen : sc.isGenerator = false
 nd : N.Nodup
 pre : N.take P.length = P
 par : ∀ x ∈ P, sc.names.lookup x = some .local ∨ sc.names.lookup x = some .cell
 Oi : ∀ y ∈ sc.names, y.2 ≠ .free
theorem yU {kindOf : Str → Option NameKind} {x : Str} : ∀ {binds : List (Str × aad)} {m : Str → Option aad}, (∀ v, (x, v) ∉ binds) → bindL kindOf binds m x = m x
 | [], _, _ => rfl
 | (n, v) :: r, m, h => by
  unfold bindL
  rw [yU fun w hw => h w (aal _ hw)]
  split
  ·have : x ≠ n := by rintro rfl; exact h v aao
   simp [this]
  ·rfl
theorem yV {kindOf : Str → Option NameKind} {x : Str} : ∀ {binds : List (Str × aad)} {m : Str → Option aad}, (∀ v, (x, v) ∉ binds) → bindC kindOf binds m x = m x
 | [], _, _ => rfl
 | (n, v) :: r, m, h => by
  unfold bindC
  rw [yV fun w hw => h w (aal _ hw)]
  split
  ·rfl
  ·have : x ≠ n := by rintro rfl; exact h v aao
   simp [this]
theorem yW {kindOf : Str → Option NameKind} {x : Str} {v : aad} : ∀ {P : List Str} {vs : List aad} {i : Nat} {m : Str → Option aad}, P.Nodup → P[i]? = some x → vs[i]? = some v → kindOf x = some .local →
  bindL kindOf (P.zip vs) m x = some v
 | [], _, _, _, _, h, _, _ => by simp at h
 | _ :: _, [], _, _, _, _, h, _ => by simp at h
 | p :: P, w :: vs, 0, m, nd, h1, h2, hk => by
  simp at h1 h2; subst h1; subst h2
  show bindL kindOf ((p, w) :: P.zip vs) m p = _
  unfold bindL
  rw [yU fun v hv => (acd.mp nd).1 (acZ hv).1, if_pos hk]
  simp
 | p :: P, w :: vs, i + 1, m, nd, h1, h2, hk => by
  show bindL kindOf ((p, w) :: P.zip vs) m x = _
  unfold bindL
  exact yW (i := i) (acd.mp nd).2 (by simpa using h1) (by simpa using h2) hk
theorem yX {kindOf : Str → Option NameKind} {x : Str} {v : aad} : ∀ {P : List Str} {vs : List aad} {i : Nat} {m : Str → Option aad}, P.Nodup → P[i]? = some x → vs[i]? = some v → kindOf x ≠ some .local →
  bindC kindOf (P.zip vs) m x = some v
 | [], _, _, _, _, h, _, _ => by simp at h
 | _ :: _, [], _, _, _, _, h, _ => by simp at h
 | p :: P, w :: vs, 0, m, nd, h1, h2, hk => by
  simp at h1 h2; subst h1; subst h2
  show bindC kindOf ((p, w) :: P.zip vs) m p = _
  unfold bindC
  rw [yV fun v hv => (acd.mp nd).1 (acZ hv).1, if_neg hk]
  simp
 | p :: P, w :: vs, i + 1, m, nd, h1, h2, hk => by
  show bindC kindOf ((p, w) :: P.zip vs) m x = _
  unfold bindC
  exact yX (i := i) (acd.mp nd).2 (by simpa using h1) (by simpa using h2) hk
def start (N : List Str) (vs : List V) : St := vs.map some ++ aaW (N.length - vs.length) none
def xq (CX : GB) (P : aaL) (w : aa9) (K : aaa) (mg : Str → Option aad) (base : Heap) (N : List Str) (qual : Str) (scope : Scope) (f : aaC) (cd : aad) (A : aba) (outer : List Env) (s : aaf) (H : Hp) (E : XK) : Cx where
 prog := P
 w := w
 K := K
 mg := mg
 base := base
 A := A.deeper (envOfC qual scope s.heap.objs.size f cd)
 N := N
 s₀ := s
 H₀ := H
 env := envOfC qual scope s.heap.objs.size f cd
 outer := outer
 stack := envOfC qual scope s.heap.objs.size f cd :: outer
 ex := []
 calm := true
 fn := fun _ => true
 pn := []
 xe := fun e s' => aaZ (model P w) (A.deeper (envOfC qual scope s.heap.objs.size f cd)) (leaving (envOfC qual scope s.heap.objs.size f cd) e) (fun _ Oj => CX outer H s E e Oj) (fun e' Oj => CX outer H s E e' Oj) s'
theorem CW {sc : Scope} {n : Nat} {x : Str} (h : sc.names.lookup x = some .cell) : ∃ c, (cellsFrom n sc.names []).lookup x = some c := by
 have q := acD sc.names n [] (.inl h)
 exact abI.mp q
theorem yY {CX : GB} {P : aaL} {w : aa9} {K : aaa} {mg : Str → Option aad} {base : Heap} {N ps : List Str} {qual : Str} {scope : Scope} {f : aaC} {cd : aad} {A : aba} {outer : List Env} {s s1 : aaf} {H : Hp} {E : XK} {us : List aad} {vs : List V}
  (S : ax N ps scope) (hd : A.handled = none) (e0 : CV P w K mg base A outer s H) (hl : vs.length = ps.length) (r : Vals vs us)
  (x : InCallC s s.heap.objs.size (bindL (envOfC qual scope s.heap.objs.size f cd).kindOf (ps.zip us) fun _ => none) (cellsFrom (s.heap.objs.size + 1) scope.names []) (bindC (envOfC qual scope s.heap.objs.size f cd).kindOf (ps.zip us) fun _ => none) s1) :
  Inv (xq CX P w K mg base N qual scope f cd A outer s H E) [] (start N vs) H s1 := by
 have hpl : ps.length ≤ N.length := by have := congrArg ac0 S.pre; rw [aaH] at this; omega
 obtain ⟨h1, tk, rfl, hk⟩ := x.done
 have QX : ∀ b : aaC, b ∉ (xq CX P w K mg base N qual scope f cd A outer s H E).ex := fun b z => absurd (show b ∈ ([] : List aaC) from z) (by simp)
 refine ⟨⟨e0.mod, S.kind, rfl, rfl, aar _, fun y z c h1 h2 => ?_, fun y hy => ?_, fun y c _ h => ?_, fun _ => hd, Around.frames_deeper e0.frames, .inr ⟨rfl, rfl⟩, fun b z => absurd z (QX b), e0.bs, e0.LD, fun b _ _ => QX b, fun b z => absurd z (QX b), e0.t5, e0.N6⟩,
  rfl, e0.bare, Un.kept hk, ⟨_, x.toInCall.ns, fun i y v h1 h2 h3 => ?_⟩, fun y c h => ⟨_, x.cell y c h⟩, e0.hok.fresh (aar _), fun y c h => ?_, fun p hp => absurd (show p ∈ ([] : List (aaC × Obj)) from hp) (by simp), e0.hok.kept hk, ?_⟩
 ·exact name_of_addr x.apart (abk h1) (abk h2)
 ·have hy : scope.names.lookup y = some .cell ∨ scope.names.lookup y = some .free := hy
  rcases hy with hy | hy
  ·exact CW hy
  ·exact absurd rfl (S.Oi _ (abk hy))
 ·exact adJ (x.above y c (abk h))
 ·have hi : i < vs.length := by
   unfold start at h2
   by_cases hi : i < vs.length
   ·exact hi
   ·rw [ac8 (by simpa using hi)] at h2
    rw [List.getElem?_replicate] at h2
    split at h2 <;> cases h2
  have ha : vs[i]? = some v := by
   unfold start at h2
   rw [List.getElem?_append_left (by simpa using hi), aa2] at h2
   cases e : vs[i]? with
   | none => rw [e] at h2; cases h2
   | some a => rw [e] at h2; cases h2; rfl
  obtain ⟨u, hu, rv⟩ := r.get ha
  have hp : ps[i]? = some y := by
   rw [← S.pre, List.getElem?_take_of_lt (by omega)]; exact h1
  have YL : ps.Nodup := by rw [← S.pre]; exact S.nd.sublist (List.take_sublist _ _)
  refine ⟨u, rv, ?_⟩
  rcases S.par y (abn hp) with k | k
  ·exact .inl ⟨k, yW YL hp hu k⟩
  ·obtain ⟨c, e⟩ := CW (n := s.heap.objs.size + 1) k
   refine .inr ⟨.inl k, c, e, ?_⟩
   have q := x.cell y c e
   rw [yX YL hp hu (by show scope.names.lookup y ≠ _; rw [k]; decide)] at q
   exact q
 ·exact e0.hok.fresh (adJ (x.above y c (abk h)))
 ·unfold start
  show _ = N.length
  rw [aac, Lm9, abz]
  omega
theorem QY {CX : GB} {P : aaL} {w : aa9} {K : aaa} {mg : Str → Option aad} {base : Heap} {k : Nat} {f : aaC} {name qual : Str} {params : Arguments} {body : List Stmt} {scope : Scope} {dV kV doc pm cb ct oc : aad} {an od : Option aaC}
  {Jf : Array (Option aad)} {N ps : List Str} {sp : Sp} (lk : K.lookup f = some ⟨oc, od, .func (abS name qual params body scope dV kV doc pm an cb ct), Jf⟩) (hcd : acL K cb qual = true) (S : ax N ps scope)
  (len : ∀ vs H Q E, sp vs H Q E → vs.length = ps.length)
  (vb : ∀ (A : aba) (outer : List Env) (s : aaf) (H : Hp) (vs : List V) (Q : VK) (E : XK), dD k (A.deeper (envOfC qual scope s.heap.objs.size f cb)) → sp vs H Q E →
   ∃ t, EF (xq CX P w K mg base N qual scope f cb A outer s H E) body t ∧ t { nx := fun _ H' => Q .bY H', rt := Q } (start N vs) H) :
  a4 P w K mg base CX (k + 1) f (abS name qual params body scope dV kV doc pm an cb ct) ps sp := by
 refine ⟨len, fun A outer s H args us vs Q E hr e0 hb r Hw => ?_⟩
 have hl := len _ _ _ _ Hw
 have KX : K.In s.heap := e0.mod.LC.keeps fun b o e => (e0.bs b o e).1
 have lim : s.heap.NoLimit := e0.mod.nolimit.keeps fun b o e => (e0.bs b o e).1
 have hkind : ∀ y ∈ ps.zip us, scope.names.lookup y.1 = some .local ∨ (scope.names.lookup y.1 = some .cell ∧ ((cellsFrom (s.heap.objs.size + 1) scope.names []).lookup y.1).isSome = true) := fun ⟨n, v⟩ hy => by
  rcases S.par n (acZ hy).1 with q | q
  ·exact .inl q
  ·exact .inr ⟨q, acD _ _ _ (.inl q)⟩
 refine codeAny_call_function hr.depth (KX _ _ lk) rfl S.co S.gen rfl (aek KX hcd) (hb _ _ _ _ ?_)
 refine wpAny_newFunctionEnv_cells S.kind hkind fun env he s1 x => ?_
 subst he
 refine ⟨lim.keeps x.toInCall.keep, codeAny_func ?_⟩
 obtain ⟨t, ht, hq⟩ := vb A outer s H vs Q E (hr.deeper _) Hw
 have I : Inv (xq CX P w K mg base N qual scope f cb A outer s H E) [] (start N vs) H s1 := yY S hr.hd e0 hl r x
 refine wpAny_mono (ht [] s1 (start N vs) H _ I hq) (fun fl s' hs => ?_) fun e s' hs => hs
 have fin : ∀ {σ' : St} {H' : Hp} {v : V} {u : aad}, Inv (xq CX P w K mg base N qual scope f cb A outer s H E) [] σ' H' s' → RelV v u → Q v H' → CE outer P w H s Q u s' :=
  fun {σ' H' v u} J rv q => ⟨v, H', J.os, J.bare, J.base, J.hok, rv, q⟩
 cases fl with
 | ret u =>
  obtain ⟨v, σ', H', J, rv, q⟩ := hs
  exact fin J rv q
 | next =>
  obtain ⟨σ', H', J, q⟩ := hs
  exact fin (v := V.bY) (u := adl) J rfl q
 | brk =>
  obtain ⟨_, _, _, q⟩ := hs
  exact abo q
 | cont =>
  obtain ⟨_, _, _, q⟩ := hs
  exact abo q
end L2
namespace L2
open PySem PySem.Spec PyProof.Rows
section
variable {X : Cx} {x : Str} {p pos : Pos} {e : Expr} {es : List Expr} {t : TA} {id T : String} {r : List V → Hp → VK → Prop}
def YM (r : List V → Hp → VK → Prop) (t : TA) : TE := fun σ H Q => t σ H fun vs H1 => r vs H1 Q
theorem aM (hc : gT X (.builtin id) r) (hg : Gl X x) (hm : X.mg x = none) (hv : bootBuiltins x = some (.builtin id)) (ha : PA X (e :: es) t) (hn : x ≠ "__name__" := by decide) (ET : (x == ("__debug__" : Str)) = false := by decide)
  (he : starEach (e :: es) X.env = (false, eval e X.env) :: starEach es X.env := by rfl) (hpl : (backTo pos (starEach es X.env)).any (·.1) = false := by rfl) : PE X (.Call (.Name x p) (e :: es) [] pos) (YM r t) := by
 intro pins s σ H Q I h
 refine wpAny_Call_Name_kw (zQ I hg hm hv ?_ hn ET)
 exact PyProof.Rows.callWith_builtin1 (thn (ha pos pins s σ H _ I h) fun us s1 ⟨vs, H1, I1, r1, q1⟩ => hc pins s1 σ H1 vs us Q I1 r1 q1) he hpl
theorem dY (hc : gT X (.type T) r) (hg : Gl X x) (hm : X.mg x = none) (hv : bootBuiltins x = some (.type T)) (ha : PA X (e :: es) t) (hn : x ≠ "__name__" := by decide) (ET : (x == ("__debug__" : Str)) = false := by decide)
  (he : starEach (e :: es) X.env = (false, eval e X.env) :: starEach es X.env := by rfl) (hpl : (backTo pos (starEach es X.env)).any (·.1) = false := by rfl) : PE X (.Call (.Name x p) (e :: es) [] pos) (YM r t) := by
 intro pins s σ H Q I h
 refine wpAny_Call_Name_kw (zQ I hg hm hv ?_ hn ET)
 exact acX (thn (ha pos pins s σ H _ I h) fun us s1 ⟨vs, H1, I1, r1, q1⟩ => hc pins s1 σ H1 vs us Q I1 r1 q1) he hpl
end
end L2
namespace HT
open PySem PyProof.Rows
section
open PySem.SeqAt
open PySem.AutoSeq1 (wpAny_loadPart')
open PySem.MeetsSeq PySem.MeetsSeq2 PySem.MeetsSeq3
end
section
variable {prog : aaL} {w : aa9} {A : aba} {E : aad → aaf → Prop} {s : aaf}
def d6 (n d : Nat) : Option Int → Nat
 | none => d
 | some v => if v < 0 then (v + (n : Int)).toNat else min v.toNat n
theorem Jg (n d : Nat) : d6 n d none = d := rfl
theorem uL (n d k : Nat) : d6 n d (some (k : Int)) = min k n := by
 show (if (k : Int) < 0 then ((k : Int) + (n : Int)).toNat else min (k : Int).toNat n) = min k n
 rw [if_neg (by omega), abO]
theorem Ol (n d : Nat) (hd : d ≤ n) (o : Option Int) : d6 n d o ≤ n := by
 cases o with
 | none => exact hd
 | some v =>
  show (if v < 0 then (v + (n : Int)).toNat else min v.toNat n) ≤ n
  by_cases hv : v < 0
  ·rw [if_pos hv]; omega
  ·rw [if_neg hv]; exact Nat.min_le_right _ _
theorem GF (v : Int) (n d : Nat) : (if v < 0 then max (v + (n : Int)) 0 else min v (n : Int)) = ((d6 n d (some v) : Nat) : Int) := by
 show (if v < 0 then max (v + (n : Int)) 0 else min v (n : Int)) = (((if v < 0 then (v + (n : Int)).toNat else min v.toNat n) : Nat) : Int)
 by_cases hv : v < 0
 ·simp only [if_pos hv]; omega
 ·simp only [if_neg hv]; omega
theorem EU (lo hi : Option Int) (n : Nat) : acm lo hi 1 (n : Int) = (((d6 n 0 lo : Nat) : Int), ((d6 n n hi : Nat) : Int)) := by
 have h1 : ¬ ((1 : Int) < 0) := by omega
 unfold acm
 simp only [h1, if_false]
 refine Prod.ext ?_ ?_
 ·cases lo with
  | none => rfl
  | some v => exact GF v n 0
 ·cases hi with
  | none => rfl
  | some v => exact GF v n n
theorem EV (i j : Nat) : abV (i : Int) (j : Int) 1 = j - i := by
 unfold abV
 have h1 : (1 : Int) > 0 := by omega
 simp only [h1, if_true, Int.ediv_one]
 split <;> omega
theorem vc {v : aad} {o : Option Int} {Q : Option Int → aaf → Prop} (p : IsPart v o) (h : Q o s) : aaZ (model prog w) A (Builtin.Slice.slicePartIndex v) Q E s := by
 cases p with
 | none => exact slicePart_none h
 | int i t => exact slicePart_int h
theorem jN {sl : aaC} {vl vu : aad} {lo hi : Option Int} {n : Nat} {Q : Int × Int × Nat → aaf → Prop} (hs : s.heap.IsSliceOf sl vl vu .none) (pl : IsPart vl lo) (pu : IsPart vu hi)
  (h : Q (((d6 n 0 lo : Nat) : Int), 1, d6 n n hi - d6 n 0 lo) s) : aaZ (model prog w) A (ac9 (.ref sl) (pure (n : Int))) Q E s := by
 obtain ⟨os, LO, CY, QZ⟩ := id hs
 unfold ac9 Builtin.Slice.sliceFields
 refine aau (aau (wpAny_field LO QZ (x := vl) rfl (aau (wpAny_field LO QZ (x := vu) rfl (aau (wpAny_field LO QZ (x := .none) rfl (aaO ?_)))))))
 refine aau (slicePart_none ?_)
 show aaZ _ _ (if ((1 : Int) == 0) = true then _ else _) _ _ s
 rw [if_neg (by decide)]
 refine aau (vc pl (aau (vc pu (aau (aaO ?_)))))
 show aaZ _ _ (match acm lo hi 1 (n : Int) with | (lo, hi) => pure (lo, (1 : Int), abV lo hi 1)) _ _ s
 rw [EU lo hi n]
 show aaZ _ _ (pure (((d6 n 0 lo : Nat) : Int), (1 : Int), abV ((d6 n 0 lo : Nat) : Int) ((d6 n n hi : Nat) : Int) 1)) _ _ s
 rw [EV]
 exact aaO h
theorem Jh (xs : Array aad) (i k : Nat) : ((abj k).filterMap fun (m : Nat) => xs[((i : Int) + (m : Int) * 1).toNat]?).toArray = ((xs.toList.drop i).take k).toArray := by
 have e : (fun (m : Nat) => xs[((i : Int) + (m : Int) * 1).toNat]?) = fun m => xs[i + m]? := by
  funext m
  have : ((i : Int) + (m : Int) * 1).toNat = i + m := by omega
  rw [this]
 rw [e]
 have := pick_run xs i k
 rw [List.filterMap_map] at this
 have e2 : ((fun x => xs[x]?) ∘ fun x => i + x) = fun m => xs[i + m]? := rfl
 rw [e2] at this
 rw [this]
theorem qp {t sl : aaC} {items : Array aad} {vl vu : aad} {lo hi : Option Int} {Q : aad → aaf → Prop} (ht : IsTup s.heap t items) (hs : s.heap.IsSliceOf sl vl vu .none) (pl : IsPart vl lo) (pu : IsPart vu hi)
  (hw : ¬ (d6 items.size 0 lo = 0 ∧ d6 items.size items.size hi = items.size))
  (h : Q (.ref s.heap.objs.size) { s with heap := s.heap.push { cls := .type "tuple", data := .seq ((items.toList.drop (d6 items.size 0 lo)).take (d6 items.size items.size hi - d6 items.size 0 lo)).toArray } })
  (hsz : items.size ≤ aai) : aaZ (model prog w) A (getItem (.ref t) (.ref sl)) Q E s := by
 have GG : sizeOk (.seq ((items.toList.drop (d6 items.size 0 lo)).take (d6 items.size items.size hi - d6 items.size 0 lo)).toArray) := by
  show ((items.toList.drop (d6 items.size 0 lo)).take (d6 items.size items.size hi - d6 items.size 0 lo)).toArray.size ≤ aai
  rw [aaB, aaH, abf, acq]
  omega
 have hj : d6 items.size items.size hi ≤ items.size := Ol _ _ (aar _) hi
 obtain ⟨os, LO, CY, QZ⟩ := id hs
 have Vx : s.TypeIs (.ref sl) "slice" := ⟨os, LO, CY⟩
 unfold getItem
 try with_reducible refine wpAny_holding ?_
 first | refine aau (aaO ?_) | skip
 refine aau (wpAny_sequenceKey ht.typeIs (by decide) ?_)
 refine aau (wpAny_callSpecial?_slot (name := aab "__getitem__") ht.typeIs abg
  (wpAny_call_entry abg ht.typeIs entry_tuple_getitem ?_ (args_tuple_getitem _ _)))
 show aaZ _ _ (ada (.ref t) >>= _) _ _ s
 refine aau (tupleItemsOf_ ht ?_)
 refine aau (wpAny_typeOf Vx ?_)
 rw [if_pos (by decide)]
 refine aau (jN hs pl pu ?_)
 have Lp : ¬ ((((d6 items.size 0 lo : Nat) : Int) == 0 && (1 : Int) == 1 && (d6 items.size items.size hi - d6 items.size 0 lo) == items.size) = true) := by
  intro q
  rw [aaN, aaN] at q
  have q1 : ((d6 items.size 0 lo : Nat) : Int) = 0 := eq_of_beq q.1.1
  have q2 : d6 items.size items.size hi - d6 items.size 0 lo = items.size := eq_of_beq q.2
  exact hw ⟨by omega, by omega⟩
 show aaZ _ _ (if (((d6 items.size 0 lo : Nat) : Int) == 0 && (1 : Int) == 1 && (d6 items.size items.size hi - d6 items.size 0 lo) == items.size) = true then _ else _) _ _ s
 rw [if_neg Lp, Jh]
 first
  | exact aau (m := abY _) (wpAny_newObj_type (aaO ⟨_, rfl, aaO h⟩) GG)
  | exact aau (m := abY _) (wpAny_newObj_type (aau (aaO (aaO ⟨_, rfl, aaO h⟩))) GG)
  | exact aau (aau (m := abY _) (wpAny_newObj_type (aaO (aaO ⟨_, rfl, aaO h⟩)) GG))
  | exact aau (aau (m := abY _) (wpAny_newObj_type (aaO ⟨_, rfl, aaO h⟩) GG))
end
end HT
namespace L2
open PySem PySem.Spec PyProof.Rows
abbrev TO := St → Hp → (Option Int → Hp → Prop) → Prop
def PO (X : Cx) (e : Option Expr) (t : TO) : Prop :=
 ∀ (pins : List (aaC × Obj)) (s : aaf) (σ : St) (H : Hp) (Q : Option Int → Hp → Prop), Inv X pins σ H s → t σ H Q →
  aaZ (model X.prog X.w) X.A (evalPart e X.env) (fun u s' => ∃ o H', Inv X pins σ H' s' ∧ IsPart u o ∧ Q o H') X.xe s
def LP : TO := fun _ H Q => Q none H
def Q0 (t : TE) : TO := fun σ H Q => t σ H fun x H1 => ∃ i, x = .int i ∧ Q (some i) H1
section
variable {X : Cx} {e : Expr} {te : TE} {lo hi : Option Expr} {tl th : TO} {pos p2 : Pos}
theorem eO : PO X none LP := by
 intro pins s σ H Q I h
 rw [evalPart_none]
 exact aaO ⟨none, H, I, .none, h⟩
theorem b7 (h : PE X e te) : PO X (some e) (Q0 te) := by
 intro pins s σ H Q I hw
 rw [evalPart_some]
 refine thn (h pins s σ H _ I hw) fun u s1 ⟨x, H1, I1, r1, q1⟩ => ?_
 obtain ⟨i, rfl, q⟩ := q1
 obtain ⟨t, rfl⟩ := r1
 exact ⟨some i, H1, I1, .int i t, q⟩
def Q1 (X : Cx) (r : V → Option Int → Option Int → Hp → VK → Prop) : Prop :=
 ∀ (pins : List (aaC × Obj)) (s : aaf) (σ : St) (H : Hp) (x : V) (v vl vu : aad) (lo hi : Option Int) (sl : aaC) (Q : VK), Inv X pins σ H s → RelV x v → s.heap.IsSliceOf sl vl vu .none → IsPart vl lo → IsPart vu hi → r x lo hi H Q →
  ∃ T id, typeLookup (.type T) "__getitem__" = pure (some (.builtin id)) ∧ s.TypeIs v T ∧ aaZ (model X.prog X.w) X.A (getItem v (.ref sl)) (EP X pins σ Q) X.xe s
def tSl (r : V → Option Int → Option Int → Hp → VK → Prop) (te : TE) (tl th : TO) : TE := fun σ H Q => te σ H fun x H1 => tl σ H1 fun l H2 => th σ H2 fun u H3 => r x l u H3 Q
theorem cf {r : V → Option Int → Option Int → Hp → VK → Prop} (hr : Q1 X r) (he : PE X e te) (hl : PO X lo tl) (hu : PO X hi th) : PE X (.Subscript e (.Slice lo hi none p2) pos) (tSl r te tl th) := by
 intro pins s σ H Q I h
 refine Subscript_ (thn (he pins s σ H _ I h) fun v s1 ⟨x, H1, I1, r1, q1⟩ => ?_)
 refine wpAny_Slice (thn (hl pins s1 σ H1 _ I1 q1) fun vl s2 ⟨l, H2, I2, pl, q2⟩ => thn (hu pins s2 σ H2 _ I2 q2) fun vu s3 ⟨u, H3, I3, pu, q3⟩ => ?_)
 rw [evalPart_none]
 refine aaO ?_
 have I4 : Inv X pins σ H3 { s3 with heap := s3.heap.push { cls := .type "slice", data := .fields #[vl, vu, .none] } } := I3.kept (t' := s3.toks) fun b ob q => aav _ q
 obtain ⟨T, id, hT, ht, hg⟩ := hr pins { s3 with heap := s3.heap.push { cls := .type "slice", data := .fields #[vl, vu, .none] } } σ H3 x v vl vu l u s3.heap.objs.size Q I4 r1 (Heap.IsSliceOf.new ..) pl pu q3
 show aaZ (model X.prog X.w) X.A (subscriptTail e (.Slice lo hi none p2) v (.ref s3.heap.objs.size)) (EP X pins σ Q) X.xe { s3 with heap := s3.heap.push { cls := .type "slice", data := .fields #[vl, vu, .none] } }
 exact tail_any (ops := [.ref s3.heap.objs.size, v]) ht hT hg (by with_unfolding_all rfl)
def kb (xs : List V) (lo hi : Option Int) : List V := (xs.drop (HT.d6 xs.length 0 lo)).take (HT.d6 xs.length xs.length hi - HT.d6 xs.length 0 lo)
theorem tK (xs : List V) (lo hi : Option Int) : (kb xs lo hi).length ≤ xs.length := by
 unfold kb
 rw [aaH, abf]
 omega
def Vy (K : aaa) : V → Option Int → Option Int → Hp → VK → Prop := fun x lo hi H Q => ∃ a xs, x = .ref a ∧ cK K H a xs ∧
 ¬ (HT.d6 xs.length 0 lo = 0 ∧ HT.d6 xs.length xs.length hi = xs.length) ∧ ∀ p, H p = none → Q (.ref p) (upd H p (.tup (kb xs lo hi)))
theorem Om : Q1 X (Vy X.K) := by
 intro pins s σ H x v vl vu lo hi sl Q I rx hs pl pu h
 obtain ⟨a, xs, rfl, hx, hw, q⟩ := h
 cases rx
 obtain ⟨its, r, ht, hz⟩ := I.tuple hx
 have hlen : its.toArray.size = xs.length := by rw [aaB]; exact r.length.symm
 refine ⟨"tuple", _, abg.lookup, ht.typeIs, ?_⟩
 refine HT.qp ht hs pl pu (by rw [hlen]; exact hw) ?_ (by rw [hlen]; exact hz)
 rw [hlen]
 refine ⟨.ref s.heap.objs.size, _, I.laid (t' := s.toks) (o := .tup (kb xs lo hi)) (fun b ob q => aav _ q) (aar _) ?_, rfl, q _ (I.hok.fresh (aar _))⟩
 exact ⟨aa8 (tK xs lo hi) hz, _, (r.drop (HT.d6 xs.length 0 lo)).take (HT.d6 xs.length xs.length hi - HT.d6 xs.length 0 lo), IsTup.new _ _⟩
end
end L2
namespace L2
open PySem PySem.Spec PyProof.Rows
def LQ (n : Nat) (i : Int) : Option Nat := if 0 ≤ i then (if i < n then some i.toNat else none) else if -(n : Int) ≤ i then some (i + n).toNat else none
def qq {α : Type} (xs : List α) (i : Int) : Option α := (LQ xs.length i).bind fun j => xs[j]?
theorem GH {n : Nat} {i : Int} {j : Nat} (h : LQ n i = some j) : seqIndex? i n = some j ∧ j < n ∧ -(n : Int) ≤ i ∧ i < n := by
 unfold LQ at h
 by_cases h0 : 0 ≤ i
 ·rw [if_pos h0] at h
  by_cases h1 : i < n
  ·rw [if_pos h1] at h
   have e : i.toNat = j := aa4 h
   exact ⟨by rw [seqIndex_of h0 h1, e], by omega, by omega, h1⟩
  ·rw [if_neg h1] at h; cases h
 ·rw [if_neg h0] at h
  by_cases h1 : -(n : Int) ≤ i
  ·rw [if_pos h1] at h
   have e : (i + n).toNat = j := aa4 h
   exact ⟨by rw [seqIndex_neg (by omega) h1, e], by omega, h1, by omega⟩
  ·rw [if_neg h1] at h; cases h
theorem zW {α : Type} {xs : List α} {i : Int} {v : α} (h : qq xs i = some v) : ∃ j, seqIndex? i xs.length = some j ∧ xs[j]? = some v ∧ j < xs.length ∧ -(xs.length : Int) ≤ i ∧ i < xs.length := by
 unfold qq at h
 cases e : LQ xs.length i with
 | none => rw [e] at h; cases h
 | some j =>
  rw [e] at h
  obtain ⟨h1, h2, h3, h4⟩ := GH e
  exact ⟨j, h1, h, h2, h3, h4⟩
theorem bU {α : Type} {xs : List α} {j : Nat} {v : α} (h : xs[j]? = some v) : qq xs (j : Int) = some v := by
 have hj : j < xs.length := (aaj.mp h).1
 have e : LQ xs.length (j : Int) = some j := by
  unfold LQ
  rw [if_pos (by omega), if_pos (by omega)]; simp
 unfold qq; rw [e]; exact h
def LR (b : Expr) : Prop := ∀ o i, subscripted b false o i = operate [o, i] (getItem o i)
def Ut (X : Cx) (r : R2) : Prop :=
 ∀ (value slice : Expr) (pins : List (aaC × Obj)) (s : aaf) (σ : St) (H : Hp) (x y : V) (v u : aad) (Q : VK), Inv X pins σ H s → RelV x v → RelV y u → r x y H Q →
  subscripted slice false v u = operate [v, u] (getItem v u) → aaZ (model X.prog X.w) X.A (subscriptTail value slice v u) (EP X pins σ Q) X.xe s
def Lq (X : Cx) (id : String) (r : V → List V → Hp → VK → Prop) : Prop :=
 ∀ (pins : List (aaC × Obj)) (s : aaf) (σ : St) (H : Hp) (x : V) (xs : List V) (v : aad) (us : List aad) (Q : VK), Inv X pins σ H s → RelV x v → Vals xs us → r x xs H Q →
  aaZ (model X.prog X.w) X.A (call (.builtin id) (v :: us)) (EP X pins σ Q) X.xe s
section
variable {X : Cx} {a b : Expr} {ta tb : TE} {pos : Pos}
theorem aq {r : R2} (hr : Ut X r) (ha : PE X a ta) (hb : PE X b tb) (hs : LR b) : PE X (.Subscript a b pos) (Us r ta tb) := by
 intro pins s σ H Q I h
 exact Subscript_ (Od ha hb I h fun v u s2 x y H2 I2 rx ry q => hr a b pins s2 σ H2 x y v u Q I2 rx ry q (hs _ _))
def zX (K : aaa) : R2 := fun x y H Q => ∃ p xs i v, x = .ref p ∧ y = .int i ∧ aH K H p xs ∧ qq xs i = some v ∧ Q v H
def ub (K : aaa) : R2 := fun x y H Q => ∃ p xs i v, x = .ref p ∧ y = .int i ∧ cK K H p xs ∧ qq xs i = some v ∧ Q v H
def Vz : R2 := fun x y H Q => ∃ z i c, x = .str z ∧ y = .int i ∧ z.length ≤ aai ∧ qq z.cps.toList i = some c ∧ Q (.str ⟨#[c]⟩) H
theorem aG : Ut X (zX X.K) := by
 intro value slice pins s σ H x y v u Q I rx ry h hs
 obtain ⟨p, xs, i, z, rfl, rfl, hq, he, q⟩ := h
 cases rx
 obtain ⟨t, rfl⟩ := ry
 obtain ⟨its, r, pl, hz⟩ := I.list hq
 obtain ⟨j, h1, h2, h3, h4, h5⟩ := zW he
 obtain ⟨w, ew, EW⟩ := r.get h2
 have hl := r.length
 have hn := rJ
 have fin : EP X pins σ Q w s := ⟨z, H, I, EW, q⟩
 by_cases h0 : 0 ≤ i
 ·have hj : i.toNat = j := by
   rw [seqIndex_of h0 h5] at h1
   exact aa4 h1
  exact item_listR pl.isList h0 (by omega) (by rw [hj]; simpa using ew) fin hs
 ·have hj : (i + (its.toArray.size : Int)).toNat = j := by
   rw [seqIndex_neg (by omega) h4] at h1
   rw [aaB, ← hl]
   exact aa4 h1
  exact subscriptTail_builtinR (x := w) pl.isList.typeIs slot_list_getitem.lookup
   (wpAny_getItem_list_neg (Q := fun r s' => r = w ∧ EP X pins σ Q r s') pl.isList (by omega) (by rw [aaB] <;> omega) (by omega) (by rw [hj]; simpa using ew) ⟨rfl, fin⟩) hs
theorem aI : Ut X (ub X.K) := by
 intro value slice pins s σ H x y v u Q I rx ry h hs
 obtain ⟨p, xs, i, z, rfl, rfl, hq, he, q⟩ := h
 cases rx
 obtain ⟨t, rfl⟩ := ry
 obtain ⟨its, r, pl, hz⟩ := I.tuple hq
 obtain ⟨j, h1, h2, h3, h4, h5⟩ := zW he
 obtain ⟨w, ew, EW⟩ := r.get h2
 have hl := r.length
 have hn := rJ
 have fin : EP X pins σ Q w s := ⟨z, H, I, EW, q⟩
 exact subscriptTail_builtinR (x := w) pl.typeIs slot_tuple_getitem.lookup
  (getItem_tuple (j := j) (Q := fun r s' => r = w ∧ EP X pins σ Q r s') pl (by omega) (by omega) (by rw [aaB, ← hl]; exact h1) (by simpa using ew) ⟨rfl, fin⟩) hs
theorem fN : Ut X Vz := by
 intro value slice pins s σ H x y v u Q I rx ry h hs
 obtain ⟨z, i, c, rfl, rfl, hz, he, q⟩ := h
 obtain ⟨t, rfl⟩ := rx
 obtain ⟨t', rfl⟩ := ry
 obtain ⟨j, h1, h2, h3, h4, h5⟩ := zW he
 have hl : z.cps.toList.length = z.length := by simp [aeu]
 rw [hl] at h1 h4 h5
 have hn := rJ
 exact tail_any (typeIs_str s z t) slot_str_getitem.lookup (getItem_str (c := c) (by
  have e1 : decide (i < -(2 ^ 63 : Int)) = false := decide_eq_false (by omega)
  have e2 : decide (i ≥ 2 ^ 63) = false := decide_eq_false (by omega)
  rw [e1, e2, Bool.or_false]) (by rw [h1]; simpa using h2) ⟨.str ⟨#[c]⟩, H, I.tok _, ⟨_, rfl⟩, q⟩) hs
theorem EX (its : List aad) (n j : Nat) (u : aad) : adq (·.setIfInBounds j u) { cls := .type "list", data := .seq its.toArray n } = { cls := .type "list", data := .seq (its.set j u).toArray n } := by
 simp [adq]
theorem Inv.lst {pins : List (aaC × Obj)} {σ : St} {H : Hp} {s : aaf} {p : aaC} {xs : List V} (I : Inv X pins σ H s) (h : H p = some (.lst xs)) :
  ∃ (its : List aad) (n : Nat), Vals xs its ∧ s.heap.get? p = some { cls := .type "list", data := .seq its.toArray n } ∧ xs.length ≤ aai := by
 obtain ⟨z, its, n, r, e⟩ := I.hok p _ h
 exact ⟨its, n, r, e, z⟩
theorem Inv.Oo {pins : List (aaC × Obj)} {σ : St} {H : Hp} {s : aaf} {p : aaC} {xs ys : List V} {its its' : List aad} {n n' : Nat} {f : Obj → Obj} (I : Inv X pins σ H s) (h : H p = some (.lst xs))
  (ho : s.heap.get? p = some { cls := .type "list", data := .seq its.toArray n }) (hf : f { cls := .type "list", data := .seq its.toArray n } = { cls := .type "list", data := .seq its'.toArray n' }) (r : Vals ys its') (hz : ys.length ≤ aai) (t : Nat) :
  Inv X pins σ (upd H p (.lst ys)) { s with heap := s.heap.update p f, toks := t } := by
 have e : (s.heap.update p f).get? p = some { cls := .type "list", data := .seq its'.toArray n' } := by
  rw [Heap.get?_update_self f ho (by rw [hf] <;> rfl), hf]
 refine I.write (x := p) (e := p) (by rw [h]; trivial) (.inl rfl) (fun b u hb q => (adF _ _ (acp hb)).trans q) ⟨_, e⟩ ?_
 exact ⟨hz, its', n', r, e⟩
def Q2 : V → V → V → Hp → (Hp → Prop) → Prop := fun o i v H Q => ∃ p xs k j, o = .ref p ∧ i = .int k ∧ H p = some (.lst xs) ∧ LQ xs.length k = some j ∧ Q (upd H p (.lst (xs.set j v)))
theorem set_list : QL X Q2 := by
 intro pins s σ H o i v ov iv u Q I ro ri rv h
 obtain ⟨p, xs, k, j, rfl, rfl, hp, hj, q⟩ := h
 cases ro
 obtain ⟨t, rfl⟩ := ri
 obtain ⟨its, n, r, ho, hz⟩ := I.lst hp
 obtain ⟨h1, h2, h3, h4⟩ := GH hj
 have hl := r.length
 have hn := rJ
 have I' : Inv X pins σ (upd H p (.lst (xs.set j v))) { s with heap := s.heap.update p (adq (·.setIfInBounds j u)) } :=
  I.Oo hp ho (EX its n j u) (r.set rv j) (by rw [List.length_set]; exact hz) s.toks
 by_cases h0 : 0 ≤ k
 ·have hk : k.toNat = j := by
   rw [seqIndex_of h0 h4] at h1
   exact aa4 h1
  exact PySem.W.ki_setAt ho h0 (by omega) (by rw [aaB, ← hl]; exact h4) (by rw [hk]; exact ⟨_, I', q⟩)
 ·have hk : (k + (its.toArray.size : Int)).toNat = j := by
   rw [seqIndex_neg (by omega) h3] at h1
   rw [aaB, ← hl]
   exact aa4 h1
  exact PySem.W.ki_setBack ho (by omega) (by rw [aaB, ← hl]; exact h3) (by omega) (by rw [hk]; exact ⟨_, I', q⟩)
theorem zY (lo hi : Option Int) (n : Nat) : (sliceBounds lo hi none n).1 = ((HT.d6 n 0 lo : Nat) : Int) ∧ (sliceBounds lo hi none n).2.1 = ((HT.d6 n n hi : Nat) : Int) ∧ (sliceBounds lo hi none n).2.2 = 1 := by
 refine ⟨?_, ?_, rfl⟩
 ·cases lo with
  | none => simp [sliceBounds, HT.d6]
  | some i =>
   simp only [sliceBounds, HT.d6, Option.getD_none, show (1 : Int) > 0 by decide, if_true]
   by_cases h : i < 0
   ·simp only [h, if_true] <;> omega
   ·simp only [h, if_false] <;> omega
 ·cases hi with
  | none => simp [sliceBounds, HT.d6]
  | some i =>
   simp only [sliceBounds, HT.d6, Option.getD_none, show (1 : Int) > 0 by decide, if_true]
   by_cases h : i < 0
   ·simp only [h, if_true] <;> omega
   ·simp only [h, if_false] <;> omega
theorem xr (its : List aad) (lo hi : Option Int) : slicePick its.toArray lo hi none = ((its.drop (HT.d6 its.length 0 lo)).take (HT.d6 its.length its.length hi - HT.d6 its.length 0 lo)).toArray := by
 obtain ⟨h1, h2, h3⟩ := zY lo hi its.toArray.size
 unfold slicePick
 rw [h1, h2, h3]
 simp only [sliceRange_one, pick_run, aaB] <;> rfl
def VA (K : aaa) : V → Option Int → Option Int → Hp → VK → Prop := fun x lo hi H Q => ∃ a xs, x = .ref a ∧ aH K H a xs ∧ ∀ p, H p = none → Q (.ref p) (upd H p (.lst (kb xs lo hi)))
theorem o9 : Q1 X (VA X.K) := by
 intro pins s σ H x v vl vu lo hi sl Q I rx hs pl pu h
 obtain ⟨a, xs, rfl, hx, q⟩ := h
 cases rx
 obtain ⟨its, r, ht, hz⟩ := I.list hx
 have hlen := r.length
 refine ⟨"list", _, slot_list_getitem.lookup, ht.isList.typeIs, ?_⟩
 refine wpAny_getItem_list_slice ht.isList hs pl pu .none (by simp) ?_ (by rw [aaB] <;> omega)
 rw [xr, ← hlen]
 refine ⟨.ref s.heap.objs.size, _, I.laid (t' := s.toks) (o := .lst (kb xs lo hi)) (fun b ob q => aav _ q) (aar _) ?_, rfl, q _ (I.hok.fresh (aar _))⟩
 exact ⟨aa8 (tK xs lo hi) hz, _, 0, (r.drop (HT.d6 xs.length 0 lo)).take (HT.d6 xs.length xs.length hi - HT.d6 xs.length 0 lo), aa0 _ rfl⟩
def jO : V → Bool
 | .bY => true
 | .bl _ => true
 | .int _ => true
 | .str _ => true
 | _ => false
def II : V → V → Bool
 | .bY, .bY => true
 | .bl a, .bl b => a == b
 | .bl a, .int b => (if a then 1 else 0) == b
 | .int a, .bl b => a == (if b then 1 else 0)
 | .int a, .int b => a == b
 | .str a, .str b => a == b
 | _, _ => false
theorem Oq {A : aba} {s : aaf} {y x : V} {u v : aad} (ry : RelV y u) (rx : RelV x v) (fy : jO y = true) (fx : jO x = true) : aev A s u v (II y x) := by
 cases y with
 | bY =>
  cases ry
  cases x with
  | bY => cases rx; exact adN _
  | bl b => cases rx; exact adT b
  | int b => obtain ⟨t, rfl⟩ := rx; exact ad4 b t
  | str b => obtain ⟨t, rfl⟩ := rx; exact ad5 b t
  | _ => exact absurd (show false = true from fx) aaz
 | bl a =>
  cases ry
  cases x with
  | bY => cases rx; exact adU a
  | bl b => cases rx; exact adV a b
  | int b => obtain ⟨t, rfl⟩ := rx; exact ad6 a b t
  | str b => obtain ⟨t, rfl⟩ := rx; exact ad7 a b t
  | _ => exact absurd (show false = true from fx) aaz
 | int a =>
  obtain ⟨t', rfl⟩ := ry
  cases x with
  | bY => cases rx; exact ad8 a t'
  | bl b => cases rx; exact ad9 a t' b
  | int b => obtain ⟨t, rfl⟩ := rx; exact ael a t' b t
  | str b => obtain ⟨t, rfl⟩ := rx; exact adb a t' b t
  | _ => exact absurd (show false = true from fx) aaz
 | str a =>
  obtain ⟨t', rfl⟩ := ry
  cases x with
  | bY => cases rx; exact aea a t'
  | bl b => cases rx; exact aeb a t' b
  | int b => obtain ⟨t, rfl⟩ := rx; exact ade a t' b t
  | str b => obtain ⟨t, rfl⟩ := rx; exact aem a t' b t
  | _ => exact absurd (show false = true from fx) aaz
 | _ => exact absurd (show false = true from fy) aaz
def EG (x : V) (u : aad) : Bool := match u with
 | .none => II .bY x
 | .bool b => II (.bl b) x
 | .int i _ => II (.int i) x
 | .str z _ => II (.str z) x
 | _ => false
theorem zZ {x y : V} {u : aad} (r : RelV y u) (f : jO y = true) : EG x u = II y x := by
 cases y with
 | bY => cases r; rfl
 | bl b => cases r; rfl
 | int i => obtain ⟨t, rfl⟩ := r; rfl
 | str z => obtain ⟨t, rfl⟩ := r; rfl
 | _ => exact absurd (show false = true from f) aaz
theorem qr {x : V} : ∀ {xs : List V} {us : List aad}, Vals xs us → xs.all jO = true → us.any (EG x) = xs.any fun y => II y x
 | _, _, .nil, _ => rfl
 | y :: xs, u :: us, .cons r t, f => by
  rw [abc, aaN] at f
  rw [acy, acy, zZ r f.1, qr t f.2]
theorem jP {A : aba} {s : aaf} {x : V} {v : aad} (rx : RelV x v) (fx : jO x = true) : ∀ {xs : List V} {us : List aad}, Vals xs us → xs.all jO = true → ∀ u ∈ us, aev A s u v (EG x u)
 | _, _, .nil, _ => fun u hu => by cases hu
 | y :: xs, u :: us, .cons r t, f => fun u' hu => by
  rw [abc, aaN] at f
  rcases aaF.mp hu with rfl | hu
  ·rw [zZ r f.1]; exact Oq r rx f.1 fx
  ·exact jP rx fx t f.2 u' hu
def Lr (x : V) (xs : List V) : Bool := xs.any fun y => II y x
def YN (K : aaa) (neg : Bool) : R2 := fun x y H Q => ∃ p xs, y = .ref p ∧ (aH K H p xs ∨ cK K H p xs) ∧ jO x = true ∧ xs.all jO = true ∧ Q (.bl (if neg then !Lr x xs else Lr x xs)) H
theorem rM : t9 X (compareOp .In) (YN X.K false) := by
 intro pins s σ H x y v u Q I rx ry h
 obtain ⟨p, xs, rfl, hq, fx, fs, q⟩ := h
 cases ry
 rcases hq with hq | hq
 ·obtain ⟨its, r, pl, hz⟩ := I.list hq
  refine SeqAt.in_listAt (EG x) pl.isList (fun w hw => jP rx fx r fs w (by simpa using hw)) ⟨.bl _, H, I, rfl, ?_⟩
  rw [show its.toArray.any (EG x) = its.any (EG x) by simp, qr r fs]
  exact q
 ·obtain ⟨its, r, pl, hz⟩ := I.tuple hq
  refine SeqAt.in_tupleAt (EG x) pl (fun w hw => jP rx fx r fs w (by simpa using hw)) ⟨.bl _, H, I, rfl, ?_⟩
  rw [show its.toArray.any (EG x) = its.any (EG x) by simp, qr r fs]
  exact q
theorem dZ : t9 X (compareOp .NotIn) (YN X.K true) := by
 intro pins s σ H x y v u Q I rx ry h
 obtain ⟨p, xs, rfl, hq, fx, fs, q⟩ := h
 cases ry
 rcases hq with hq | hq
 ·obtain ⟨its, r, pl, hz⟩ := I.list hq
  refine SeqAt.notIn_listAt (EG x) pl.isList (fun w hw => jP rx fx r fs w (by simpa using hw)) ⟨.bl _, H, I, rfl, ?_⟩
  rw [show its.toArray.any (EG x) = its.any (EG x) by simp, qr r fs]
  exact q
 ·obtain ⟨its, r, pl, hz⟩ := I.tuple hq
  refine SeqAt.notIn_tupleAt (EG x) pl (fun w hw => jP rx fx r fs w (by simpa using hw)) ⟨.bl _, H, I, rfl, ?_⟩
  rw [show its.toArray.any (EG x) = its.any (EG x) by simp, qr r fs]
  exact q
theorem aF : gT X (.builtin "len") (fun xs H Q => ∃ p ys, xs = [.ref p] ∧ (aH X.K H p ys ∨ cK X.K H p ys) ∧ Q (.int ys.length) H) := by
 intro pins s σ H xs us Q I r h
 obtain ⟨p, ys, rfl, hq, q⟩ := h
 obtain ⟨u, rfl, rx⟩ := vals1 r
 cases rx
 have hn := rJ
 rcases hq with hq | hq
 ·obtain ⟨its, r', pl, hz⟩ := I.list hq
  have hlen := r'.length
  exact Calls.call_len_list pl.isList (by simp only [aaB] <;> omega) ⟨.int ys.length, H, I.tok _, ⟨s.toks + 1, by rw [aaB, hlen]⟩, q⟩
 ·obtain ⟨its, r', pl, hz⟩ := I.tuple hq
  have hlen := r'.length
  exact len_tuple pl (by simp only [aaB] <;> omega) ⟨.int ys.length, H, I.tok _, ⟨s.toks + 1, by rw [aaB, hlen]⟩, q⟩
theorem d3 : gT X (.builtin "len") (fun xs H Q => ∃ z, xs = [.str z] ∧ z.length ≤ aai ∧ Q (.int z.length) H) := by
 intro pins s σ H xs us Q I r h
 obtain ⟨z, rfl, hz, q⟩ := h
 obtain ⟨u, rfl, t, rfl⟩ := vals1 r
 have hn := rJ
 exact len_str (by omega) ⟨.int z.length, H, I.tok _, ⟨_, rfl⟩, q⟩
theorem z0 : gT X (.type "list") (fun xs H Q => ∃ p ys, xs = [.ref p] ∧ (aH X.K H p ys ∨ cK X.K H p ys) ∧ ∀ l, H l = none → Q (.ref l) (upd H l (.lst ys))) := by
 intro pins s σ H xs us Q I r h
 obtain ⟨p, ys, rfl, hq, q⟩ := h
 obtain ⟨u, rfl, rx⟩ := vals1 r
 cases rx
 have fin : ∀ (its : List aad), Vals ys its → ys.length ≤ aai → ∀ (h' : Heap) (c' : Nat), (∀ b o', s.heap.get? b = some o' → h'.get? b = some o') →
   h'.get? s.heap.objs.size = some { cls := .type "list", dict := none, data := .seq its.toArray c', slots := #[] } → EP X pins σ Q (.ref s.heap.objs.size) { s with heap := h' } := fun its r' hz h' c' kp e =>
  ⟨.ref s.heap.objs.size, _, I.laid (t' := s.toks) kp (aar _) (show cO X.prog X.w _ h' _ (.lst ys) from ⟨hz, its, c', r', e⟩), rfl, q _ (I.hok.fresh (aar _))⟩
 rcases hq with hq | hq
 ·obtain ⟨its, r', pl, hz⟩ := I.list hq
  have hlen := r'.length
  obtain ⟨o, ho, hc, n, hd⟩ := pl.isList
  exact call_list_seq p (.inl rfl) ho hc hd (fun h' c' kp e => fin its r' hz h' c' kp e) (by simp only [aaB] <;> omega)
 ·obtain ⟨its, r', pl, hz⟩ := I.tuple hq
  have hlen := r'.length
  obtain ⟨o, ho, hc, n, hd⟩ := pl
  exact call_list_seq p (.inr rfl) ho hc hd (fun h' c' kp e => fin its r' hz h' c' kp e) (by simp only [aaB] <;> omega)
theorem pI : gT X (.type "tuple") (fun xs H Q => ∃ p ys, xs = [.ref p] ∧ ((aH X.K H p ys ∧ ∀ l, H l = none → Q (.ref l) (upd H l (.tup ys))) ∨ (cK X.K H p ys ∧ Q (.ref p) H))) := by
 intro pins s σ H xs us Q I r h
 obtain ⟨p, ys, rfl, h⟩ := h
 obtain ⟨u, rfl, rx⟩ := vals1 r
 cases rx
 rcases h with ⟨hq, q⟩ | ⟨hq, q⟩
 ·obtain ⟨its, r', pl, hz⟩ := I.list hq
  have hlen := r'.length
  refine call_tuple_list pl.isList (fun h' kp => ?_) (by simp only [aaB] <;> omega)
  have I1 : Inv X pins σ H { s with heap := h' } := I.kept (t' := s.toks) kp
  have I2 : Inv X pins σ (upd H h'.objs.size (.tup ys)) { s with heap := h'.push { cls := .type "tuple", data := .seq its.toArray } } :=
   I1.laid (t' := s.toks) (fun b o e => aav _ e) (aar _) (show cO X.prog X.w _ _ _ (.tup ys) from ⟨hz, its, r', IsTup.new _ _⟩)
  exact ⟨.ref h'.objs.size, _, I2, rfl, q _ (I1.hok.fresh (aar _))⟩
 ·obtain ⟨its, r', pl, hz⟩ := I.tuple hq
  exact call_tuple_same pl ⟨.ref p, H, I, rfl, q⟩
def VB (K : aaa) (T : String) (x : V) (H : Hp) : Prop := match x with
 | .str _ => T = "str"
 | .int _ => T = "int"
 | .ref p => (T = "list" ∧ ∃ xs, aH K H p xs) ∨ (T = "tuple" ∧ ∃ o, K.lookup p = some o ∧ o.cls = .type "tuple" ∧ o.dict = none) ∨
   (T = "dict" ∧ ((∃ kvs, H p = some (.dK kvs)) ∨ ∃ kvs, H p = some (.dT kvs))) ∨ (T = "set" ∧ ∃ S n, H p = some (.set S n))
 | _ => False
theorem EY {pins : List (aaC × Obj)} {σ : St} {H : Hp} {s : aaf} {T : String} {x : V} {v : aad} (I : Inv X pins σ H s) (r : RelV x v) (ty : VB X.K T x H) :
  s.TypeIs v T ∧ ∀ a, v = .ref a → ∃ ob, s.heap.get? a = some ob ∧ ob.dict = none := by
 cases x with
 | str z =>
  obtain ⟨t, rfl⟩ := r
  cases (show T = "str" from ty)
  exact ⟨typeIs_str s z t, fun _ e => nomatch e⟩
 | int i =>
  obtain ⟨t, rfl⟩ := r
  cases (show T = "int" from ty)
  exact ⟨typeIs_int s i t, fun _ e => nomatch e⟩
 | ref p =>
  cases r
  rcases ty with ⟨rfl, xs, hq⟩ | ⟨rfl, o, hk, hc, hd⟩ | ⟨rfl, hk⟩ | ⟨rfl, S, n, hk⟩
  ·obtain ⟨its, _, pl, _⟩ := I.list hq
   refine ⟨pl.isList.typeIs, fun a e => ?_⟩
   cases e
   obtain ⟨o, n, e, c, hd, _⟩ := pl
   exact ⟨o, e, hd⟩
  ·refine ⟨⟨o, I.qj p o hk, hc⟩, fun a e => ?_⟩
   cases e
   exact ⟨o, I.qj _ o hk, hd⟩
  ·have z : ∃ o, s.heap.get? p = some o ∧ o.ExactDict := by
    rcases hk with ⟨kvs, hk⟩ | ⟨kvs, hk⟩
    ·obtain ⟨_, _, _, _, o, _, _, e, ex, _⟩ := I.hok p _ hk
     exact ⟨o, e, ex⟩
    ·obtain ⟨_, _, _, _, o, _, _, e, ex, _⟩ := I.hok p _ hk
     exact ⟨o, e, ex⟩
   obtain ⟨o, e, ex⟩ := z
   refine ⟨⟨o, e, ex.1⟩, fun a e2 => ?_⟩
   cases e2
   exact ⟨o, e, ex.2.1⟩
  ·obtain ⟨o, _, _, _, e, ex, _⟩ := I.hok p _ hk
   refine ⟨⟨o, e, ex.1⟩, fun a e2 => ?_⟩
   cases e2
   exact ⟨o, e, ex.2.1⟩
 | _ => exact abo ty
def VC (K : aaa) (T : String) (r : V → List V → Hp → VK → Prop) (to : TE) : TE := fun σ H Q => to σ H fun x H1 => VB K T x H1 ∧ r x [] H1 Q
def Q3 (K : aaa) (T : String) (r : V → List V → Hp → VK → Prop) (to : TE) (t : TA) : TE := fun σ H Q => to σ H fun x H1 => VB K T x H1 ∧ t σ H1 fun xs H2 => r x xs H2 Q
variable {o e : Expr} {es : List Expr} {to : TE} {t : TA} {name : Str} {apos cpos : Pos} {T id : String} {r : V → List V → Hp → VK → Prop}
theorem Ot (pa : PlainAttrs T) (slot : Slot T name id) (EZ : typeOf (.builtin id) = pure (.type "method_descriptor")) (hm : Lq X id r) (ho : PE X o to)
  (CZ : attributeBase o name X.env (eval o X.env) = eval o X.env := by rfl) (hline : (apos.endLine == cpos.line) = true := by rfl) : PE X (.Call (.Attribute o name apos) [] [] cpos) (VC X.K T r to) := by
 intro pins s σ H Q I h
 refine wpAny_Call_method0_late CZ hline (thn (ho pins s σ H _ I h) fun v s1 ⟨x, H1, I1, r1, ty, q1⟩ => ?_)
 obtain ⟨h1, h2⟩ := EY I1 r1 ty
 exact ⟨T, id, pa, slot, EZ, h1, h2, ab7 rfl (PySem.evalArgs_none (hm pins s1 σ H1 x [] v [] Q I1 r1 .nil q1))⟩
theorem bo (pa : PlainAttrs T) (slot : Slot T name id) (EZ : typeOf (.builtin id) = pure (.type "method_descriptor")) (hm : Lq X id r) (ho : PE X o to) (ha : PA X (e :: es) t)
  (CZ : attributeBase o name X.env (eval o X.env) = eval o X.env := by rfl)
  (hfew : ((backTo cpos (starEach (e :: es) X.env)).all (fun x => !x.1) && (backToKw cpos (keywordEach [] X.env)).all (fun x => x.1.isSome)
   && decide ((e :: es).length + ([] : List Keyword).length + (if ([] : List Keyword).isEmpty then 0 else 1) < 30)) = true := by rfl)
  (hline : (apos.endLine == cpos.line) = true := by rfl) (hs : starEach (e :: es) X.env = (false, eval e X.env) :: starEach es X.env := by rfl) (E1 : (backTo cpos (starEach es X.env)).any (·.1) = false := by rfl) :
  PE X (.Call (.Attribute o name apos) (e :: es) [] cpos) (Q3 X.K T r to t) := by
 intro pins s σ H Q I h
 refine wpAny_Call_method_late CZ hfew hline rfl (thn (ho pins s σ H _ I h) fun v s1 ⟨x, H1, I1, r1, ty, q1⟩ => ?_)
 obtain ⟨h1, h2⟩ := EY I1 r1 ty
 refine ⟨T, id, pa, slot, EZ, h1, h2, ?_⟩
 have hA := ha cpos pins s1 σ H1 _ I1 q1
 rw [hs] at hA ⊢
 refine ab7 (by show (false || (backTo cpos (starEach es X.env)).any (·.1)) = false; rw [E1] <;> rfl) (acS ?_)
 exact thn hA fun us s2 ⟨vs, H2, I2, r2, q2⟩ => hm pins s2 σ H2 x vs v us Q I2 r1 r2 q2
end
end L2
namespace L2
open PySem PySem.Spec PyProof.Rows
def YO (X : Cx) (id : String) (r : V → List V → Hp → VK → Prop) : Prop :=
 ∀ (pins : List (aaC × Obj)) (s : aaf) (σ : St) (H : Hp) (x : V) (xs : List V) (v : aad) (us : List aad) (Q : VK), Inv X pins σ H s → RelV x v → Vals xs us → r x xs H Q →
  aaZ (model X.prog X.w) X.A (call (.builtin id) (v :: us)) (EP X pins σ Q) X.xe s
theorem Vals.one : ∀ {x : V} {us : List aad}, Vals [x] us → ∃ u, us = [u] ∧ RelV x u
 | _, _, .cons r .nil => ⟨_, rfl, r⟩
section
variable {X : Cx} {pins : List (aaC × Obj)} {σ : St} {H : Hp} {s : aaf} {l b : aaC} {xs ys zs : List V}
theorem Inv.Ou {its its' : List aad} {n : Nat} {f : Array aad → Array aad} {t' : Nat} (I : Inv X pins σ H s) (hH : H l = some (.lst xs))
  (e : s.heap.get? l = some { cls := .type "list", data := .seq its.toArray n }) (hf : f its.toArray = its'.toArray) (hv : Vals ys its') (hz : ys.length ≤ aai) :
  Inv X pins σ (upd H l (.lst ys)) { s with heap := s.heap.update l (adq f), toks := t' } := by
 have q := PySem.IsL.update e f
 rw [hf] at q
 refine I.write (x := l) (e := l) (by rw [hH]; exact trivial) (.inl rfl) (fun b' u hb hu => (adF s.heap (adq f) (acp hb)).trans hu) ⟨_, q⟩ ?_
 exact ⟨hz, its', _, hv, q⟩
theorem Inv.VD {its : List aad} {t' : Nat} (I : Inv X pins σ H s) (hv : Vals ys its) (hz : ys.length ≤ aai) :
  Inv X pins σ (upd H s.heap.objs.size (.lst ys)) { s with heap := s.heap.push { cls := .type "list", data := .seq its.toArray }, toks := t' } :=
 I.laid (fun _ _ q => aav _ q) (aar _) ⟨hz, its, 0, hv, aa0 _ rfl⟩
theorem Inv.fresh (I : Inv X pins σ H s) : H s.heap.objs.size = none := I.hok.fresh (aar _)
theorem Inv.Hx (I : Inv X pins σ H s) (hH : H l = some (.lst xs)) : xs.length ≤ aai ∧ ∃ (its : List aad) (n : Nat), Vals xs its ∧ xs.length = its.length ∧ s.heap.get? l = some { cls := .type "list", data := .seq its.toArray n } := by
 obtain ⟨z, its, n, r, e⟩ := I.hok l _ hH
 exact ⟨z, its, n, r, r.length, e⟩
theorem C0 {n : Nat} (h : n ≤ aai) : abJ n = false := by
 unfold abJ
 exact decide_eq_false (by omega)
end
section
variable {X : Cx}
def LS : V → List V → Hp → VK → Prop := fun x vs H Q => ∃ l xs y, x = .ref l ∧ vs = [y] ∧ H l = some (.lst xs) ∧ xs.length < aai ∧ Q .bY (upd H l (.lst (xs ++ [y])))
theorem bh : YO X "list.append" LS := by
 intro pins s σ H x vs v us Q I rx rv h
 obtain ⟨l, xs, y, rfl, rfl, hH, hz, q⟩ := h
 cases rx
 obtain ⟨u, rfl, ru⟩ := rv.one
 obtain ⟨z, its, n, r, hl, e⟩ := I.Hx hH
 refine call_meets aaE ⟨_, e, rfl⟩ F.entry_list_append (F.args_list_append_2 _ _) (PySem.list_append l its.toArray n u (by rw [aaB]; omega)) ⟨e, ?_⟩
 refine ⟨.bY, _, I.Ou (its' := its ++ [u]) hH e (by simp) (r.append (.cons ru .nil)) ?_, rfl, q⟩
 rw [aac, abH]
 omega
def LU : V → List V → Hp → VK → Prop := fun x vs H Q => ∃ l b xs zs, x = .ref l ∧ vs = [.ref b] ∧ H l = some (.lst xs) ∧ H b = some (.lst zs) ∧ xs.length + zs.length ≤ aai ∧ Q .bY (upd H l (.lst (xs ++ zs)))
theorem Hy : YO X "list.extend" LU := by
 intro pins s σ H x vs v us Q I rx rv h
 obtain ⟨l, b, xs, zs, rfl, rfl, hH, hB, hz, q⟩ := h
 cases rx
 obtain ⟨u, rfl, ru⟩ := rv.one
 cases ru
 obtain ⟨z, its, n, r, hl, e⟩ := I.Hx hH
 obtain ⟨z2, d9, n2, r2, tL, e2⟩ := I.Hx hB
 have hsz : its.toArray.size + d9.toArray.size ≤ aai := by rw [aaB, aaB]; omega
 have Ji : ¬ (!its.toArray.isEmpty && abJ (its.toArray.size + d9.toArray.size)) = true := by
  rw [C0 hsz, Bool.and_false]
  exact aaz
 refine call_meets abM ⟨_, e, rfl⟩ adG (adw _ _)
  (AutoSeq1.list_extend_list_list_0 l its.toArray n b d9.toArray n2 Ji (by rw [aaB]; omega) (by omega)) ⟨e, e2, ?_⟩
 refine ⟨.bY, _, I.Ou (its' := its ++ d9) hH e (by simp) (r.append r2) ?_, rfl, q⟩
 rw [aac]
 omega
def VE : R2 := fun x y H Q => ∃ l b xs zs, x = .ref l ∧ y = .ref b ∧ H l = some (.lst xs) ∧ H b = some (.lst zs) ∧ xs.length + zs.length ≤ aai ∧ ∀ p, H p = none → Q (.ref p) (upd H p (.lst (xs ++ zs)))
theorem gH : t9 X (binaryOp .Add) VE := by
 intro pins s σ H x y v u Q I rx ry h
 obtain ⟨l, b, xs, zs, rfl, rfl, hH, hB, hz, q⟩ := h
 cases rx
 cases ry
 obtain ⟨z, its, n, r, hl, e⟩ := I.Hx hH
 obtain ⟨z2, d9, n2, r2, tL, e2⟩ := I.Hx hB
 refine PySem.P.add_list e e2 ?_ (by rw [aaB, aaB]; omega)
 have ea : its.toArray ++ d9.toArray = (its ++ d9).toArray := by simp
 rw [ea]
 exact ⟨.ref _, _, I.VD (t' := s.toks) (r.append r2) (by rw [aac]; omega), rfl, q _ I.fresh⟩
end
section
variable {prog : aaL} {w : aa9} {A : aba} {E : aad → aaf → Prop} {s : aaf}
end
section
variable {X : Cx}
end
end L2
namespace YQ
open PySem PySem.W PySem.Calls PyProof.Rows
theorem uc {P : Params} {h : Heap} : ∀ (ns : List Int) (vs : List aad), WellAll P h vs (ns.map WData.int) → IntsAre vs ns := by
 intro ns
 induction ns with
 | nil =>
  intro vs w
  rw [ab0] at w
  cases w
  exact .nil
 | cons n ns ih =>
  intro vs w
  rw [aa3] at w
  cases w with
  | cons a b =>
   cases a
   exact .cons _ _ (ih _ b)
theorem Hz {l : OpenLaw} {n : Nat} (hn : l.most = some n) {P : Params} {h : Heap} {args : List WData} {vals : List aad}
  (hpre : l.row.toRowW.claim.pre args = true) (hwl : WellAll P h vals args) :
  ∃ a vs ns, vals = [aa5 a] ∧ args = [WData.list (ns.map WData.int)] ∧ h.get? a = some { cls := .type "list", data := .seq vs.toArray } ∧ IntsAre vs ns ∧ ns.length ≤ n := by
 have hsh : WShape.hasAll [] args [.list .int] = true := (pre_splitW hpre).1
 have hc : l.pre.holds [] { args := args } = true := (pre_splitW hpre).2
 obtain ⟨d, r, rfl, h1, h2⟩ := hasAllW_cons hsh
 obtain rfl := hasAllW_nil h2
 obtain ⟨xs, rfl, h3⟩ := hasW_list h1
 obtain ⟨ns, rfl⟩ := items_int h3
 have hlen : ns.length ≤ n := by
  unfold OpenLaw.pre at hc
  have h4 : (WTm.not (.lt (.lit (.int (n : Int))) (.len (.arg 0)))).holds [] { args := [.list (ns.map .int)] } = true := by
   have h4 := (holds_andW hc).1
   rw [hn] at h4
   exact h4
  have h5 := condW_of h4 (w_not (w_lt w_lit (w_len_list (w_arg rfl))))
  rw [Lm9] at h5
  refine Nat.le_of_not_lt fun q => ?_
  have q' : (n : Int) < ((ns.length : Nat) : Int) := by omega
  first
   | (rw [decide_eq_true q'] at h5; exact absurd h5 (by decide))
   | (simp at h5; omega)
 cases hwl with
 | cons w1 w2 =>
  cases w2
  cases w1 with
  | list ho hall => exact ⟨_, _, ns, rfl, rfl, ho, uc ns _ hall, hlen⟩
theorem HA (l : OpenLaw) (args : List WData) : l.row.toRowW.claim.post args (.bool true) args = true :=
 postW_of (r := l.row.toRowW) (X := (true == true))
  (show WShape.has [] (.bool true) .bool = true by first | rfl | decide | simp [WShape.has, WShape.arms, WShape.armsAll])
  (show (WTm.eq .res (.lit (.bool true))).value [] { args := args, res := some (.bool true), after := args } = some (.bool (true == true)) from w_eq_bool (w_res rfl) w_lit) rfl
theorem C4 {l : OpenLaw} {n : Nat} {q : aaL} {loose : List Str} {XP : (Str → Option aad) → Heap → Prop} {YP : aa9 → Heap → Prop} {d : DefRec}
  (hn : l.most = some n) (Q4 : d.params.defaults = [])
  (call : ∀ (w : aa9) (s₀ s₁ : aaf) (mg mb : Str → Option aad) (fa : aaC) (o : Obj) (pm cd doc : aad) (a : aaC) (vs : List aad) (ns : List Int),
   Ground q loose [] XP w s₀ mg mb s₁.heap → YP w s₁.heap →
   s₁.heap.get? fa = some o → o.data = .func (docDef d.name d.params d.body d.scope pm cd doc) → s₁.heap.CodeRec cd d.name → mg d.name = some (.ref fa) →
   s₁.heap.get? a = some { cls := .type "list", data := .seq vs.toArray } → IntsAre vs ns → ns.length ≤ n → s₁.gens = #[] →
   codeAny (model l.prog w) callerA (.call (.ref fa) ⟨[.ref a], []⟩) (fun r s' => r = .ok (.ret (.bool true)) ∧ OldK s₁.heap s'.heap ∧ s'.os = s₁.os ∧ AllBare s'.gens) s₁) :
  WalkO q loose XP YP l.row.toRowW d [] (fun f vs => PySem.call f vs) := by
 intro w s₀ s₁ mg mb G Y fa o pm cd doc dV kV ho hd hcd hD hmg hg args vals as hpre hlay hrd hwl hlo
 obtain rfl : dV = .none := Dflts.none hD Q4
 obtain rfl : kV = .none := Dflts.noKw hD
 obtain ⟨a, vs, ns, rfl, rfl, Ov, hints, hlen⟩ := Hz hn hpre hwl
 refine enter_call (codeAny_mono (call w s₀ s₁ mg mb fa o pm cd doc a vs ns G Y ho (fd_plain hd) hcd hmg Ov hints hlen hg) fun r s' hq => ?_)
 obtain ⟨rfl, h2, h3, h4⟩ := hq
 exact ⟨.inl ⟨.bool true, .bool true, [], rfl, fun _ => rfl, .bool true, HA l _, fun _ => ⟨List.Pairwise.nil, fun _ hm => (nomatch hm)⟩⟩, h2, h3, h4⟩
section
variable {prog : aaL} {w : aa9} {A : aba} {E : aad → aaf → Prop} {s : aaf} {K : Frag}
def ledger (h : Heap) (L d : aaC) : List (aaC × Obj) := (abj h.objs.size).filterMap fun a => if a = L ∨ a = d then none else (h.get? a).map fun o => (a, o)
end
end YQ
namespace L2
open PySem PySem.Spec PyProof.Rows
theorem yZ : ∀ {vs : List aad} {ns : List Int}, IntsAre vs ns → Vals (ns.map V.int) vs
 | _, _, .nil => .nil
 | _, _, .cons n t h => .cons ⟨t, rfl⟩ (yZ h)
def Ow (H : Hp) : Prop := ∀ b, H b = none ∨ ∃ o xs, H b = some (.uY o (.lst xs))
theorem Jj {P : aaL} {w : aa9} {K : aaa} {mg mb : Str → Option aad} {CX : GB} {k : Nat} {fa a : aaC} {fd : abd} {x : Str} {sp : Sp} {s₁ : aaf} {vs : List aad} {ns : List Int}
  (KX : K.In s₁.heap) (Qb : s₁.heap.Ns aah mg) (hb : s₁.heap.Ns builtinsNs mb) (hbb : ∀ x : Str, x ≠ "__name__" → mb x = bootBuiltins x) (VF : s₁.heap.NoLimit) (hg : s₁.gens = #[])
  (ha : s₁.heap.get? a = some { cls := .type "list", data := .seq vs.toArray }) (hi : IntsAre vs ns) (hl : ns.length ≤ aai) (hr : dD k callerA)
  (F : ∀ base : Heap, K.In base → base.Ns aah mg → a4 P w K mg base CX k fa fd [x] sp) (Q5 : ∀ (s : aaf) (u : aad), BindsTo s fd ⟨[u], []⟩ [(x, u)])
  (Hw : ∀ H : Hp, Ow H → aH K H a (ns.map V.int) → sp [.ref a] H (fun v _ => v = .bl true) fun _ _ _ => False)
  (VG : ∀ H e s', CX [] H s₁ (fun _ _ _ => False) e s' → False) :
  codeAny (model P w) callerA (.call (.ref fa) ⟨[.ref a], []⟩) (fun r s' => r = .ok (.ret (.bool true)) ∧ OldK s₁.heap s'.heap ∧ s'.os = s₁.os ∧ AllBare s'.gens) s₁ := by
 have rv := yZ hi
 have VH := hi.length
 have core : ∀ H : Hp, Ow H → aH K H a (ns.map V.int) → pS P w H s₁.heap → (∀ b, H b ≠ none → b = a) → (H a ≠ none → K.lookup a = none) →
   codeAny (model P w) callerA (.call (.ref fa) ⟨[.ref a], []⟩) (fun r s' => r = .ok (.ret (.bool true)) ∧ OldK s₁.heap s'.heap ∧ s'.os = s₁.os ∧ AllBare s'.gens) s₁ := by
  intro H hO hS hok hA hK
  have GI : ∀ {b : aaC} {o : Obj}, s₁.heap.get? b = some o → H b = none → (zO s₁.heap H).get? b = some o := fun e n => IQ e n
  have QX : ∀ {b : aaC} {o : Obj} {es : Array DictEntry} {ep : Nat}, s₁.heap.get? b = some o → o.data = .dict es ep → H b = none := fun {b o es ep} e d => by
   cases q : H b with
   | none => rfl
   | some u =>
    have e' : b = a := hA b (by rw [q]; simp)
    subst e'
    rw [ha] at e; cases e
    have d' : Data.seq vs.toArray _ = Data.dict es ep := d
    cases d'
  have Uu : ∀ {b : aaC} {m : Str → Option aad}, s₁.heap.Ns b m → (zO s₁.heap H).Ns b m := fun {b m} ⟨o, es, ep, e, d, r⟩ => ⟨o, es, ep, GI e (QX e d), d, r⟩
  have YR : K.In (zO s₁.heap H) := fun b o e => GI (KX b o e) (by
   cases q : H b with
   | none => rfl
   | some u =>
    have e' : b = a := hA b (by rw [q]; simp)
    subst e'
    rw [hK (by rw [q]; simp)] at e; cases e)
  have hM : Mod K mg (zO s₁.heap H) := ⟨YR, Uu Qb, ⟨mb, Uu hb, hbb⟩, let ⟨mc, h1, h2⟩ := VF; ⟨mc, Uu h1, h2⟩⟩
  have e0 : CV P w K mg (zO s₁.heap H) callerA [] s₁ H := ⟨rfl, hM, fun b o e => Lz e, Nat.le_of_eq (Hn _ _), trivial, fun b hb => absurd (show b ∈ ([] : List aaC) from hb) (by simp), hok, .of_eq hg⟩
  refine codeAny_mono ((F _ YR (Uu Qb)).run callerA [] s₁ H ⟨[.ref a], []⟩ [.ref a] [.ref a] _ _ hr e0 (Q5 s₁ (.ref a)) (.cons rfl .nil) (Hw H hO hS)) fun r s' h => ?_
  cases r with
  | error e => exact (VG H e s' h).elim
  | ok fl =>
   cases fl with
   | next => exact abo h
   | brk => exact abo h
   | cont => exact abo h
   | ret u =>
    obtain ⟨v, H', os, bare, un, VI, r', q⟩ := h
    have q' : v = .bl true := q
    subst q'
    obtain rfl : u = acV true := r'
    refine ⟨rfl, OldK.of_keep fun b o e => ?_, os, bare⟩
    cases q : H b with
    | none => exact un.keep b o e q (by intro z; exact absurd (show b ∈ ([] : List aaC) from z) (by simp)) (by simp)
    | some u =>
     rcases hO b with z | ⟨ob, xs, z⟩
     ·rw [q] at z; cases z
     ·have z2 := un.tZ b ob _ z
      obtain ⟨e1, _⟩ := hok b _ z
      obtain ⟨e2, _⟩ := VI b _ z2
      rw [e] at e1; cases e1
      exact e2
 cases hk : K.lookup a with
 | some o =>
  have e := KX a o hk
  rw [ha] at e
  cases e
  refine core (fun _ => none) (fun _ => .inl rfl) (.inr ⟨_, vs.toArray, _, hk, rfl, rfl, rfl, by rw [aaB, VH]; exact hl, (by simp [V.pl]), (by simpa using rv)⟩) (fun b u z => by have z' : (none : Option HO) = some u := z; cases z') (fun b z => absurd rfl z) fun z => absurd rfl z
 | none =>
  refine core (fun b => if b = a then some (.uY { cls := .type "list", data := .seq vs.toArray } (.lst (ns.map V.int))) else none) (fun b => ?_) (.inl (.inr ⟨{ cls := .type "list", data := .seq vs.toArray }, if_pos rfl⟩)) (fun b u z => ?_) (fun b z => ?_) fun _ => hk
  ·by_cases hb : b = a
   ·exact .inr ⟨_, _, if_pos hb⟩
   ·exact .inl (if_neg hb)
  ·by_cases hb : b = a
   ·have z' := (if_pos hb).symm.trans z
    cases z'
    subst hb
    exact ⟨ha, by rw [Lm9]; exact hl, vs, _, rv, ha⟩
   ·have z' := (if_neg hb).symm.trans z
    cases z'
  ·by_cases hb : b = a
   ·exact hb
   ·exact absurd (if_neg hb) z
end L2
namespace L2
open PySem PySem.Spec PyProof.Rows
abbrev KOf {K : aaa} {h : Heap} (_ : K.In h) : aaa := K
theorem LV {l : adO} {n k : Nat} {q : aaL} {loose : List Str} {XP : (Str → Option aad) → Heap → Prop} {YP : aa9 → Heap → Prop} {d : DefRec} {K : Params → aaa} {CX : aa9 → GB} {sp : aa9 → Sp} {x : Str}
  (hn : l.most = some n) (zV : n ≤ aai) (Q4 : d.params.defaults = []) (hr : dD k callerA)
  (hY : ∀ (w : aa9) (h : Heap), YP w h → (K w.params).In h)
  (F : ∀ (w : aa9) (mg : Str → Option aad) (fa : aaC) (h : Heap), (K w.params).In h → h.Ns aah mg → mg d.name = some (.ref fa) →
   ∃ fd : abd, (∀ (s : aaf) (u : aad), BindsTo s fd ⟨[u], []⟩ [(x, u)]) ∧
    ∀ base : Heap, (K w.params).In base → base.Ns aah mg → a4 l.prog w (K w.params) mg base (CX w) k fa fd [x] (sp w))
  (Hw : ∀ (w : aa9) (H : Hp) (a : aaC) (ns : List Int), ns.length ≤ n → Ow H → aH (K w.params) H a (ns.map V.int) → sp w [.ref a] H (fun v _ => v = .bl true) fun _ _ _ => False)
  (VG : ∀ (w : aa9) (H : Hp) (s : aaf) (e : aad) (s' : aaf), CX w [] H s (fun _ _ _ => False) e s' → False) :
  PySem.W.WalkO q loose XP YP l.row.toRowW d [] (fun f vs => PySem.call f vs) := by
 refine YQ.C4 hn Q4 fun w s₀ s₁ mg mb fa o pm cd doc a vs ns G Y ho hd hcd hmg Ov hints hlen hg => ?_
 have KX := hY w _ Y
 obtain ⟨fd, hb, hF⟩ := F w mg fa _ KX G.T.g hmg
 exact Jj KX G.T.g G.T.b G.T.builtins G.T.nolimit hg Ov hints (aa8 hlen zV) hr hF hb (fun H hO hS => Hw w H a ns hlen hO hS) fun H e s' => VG w H s₁ e s'
end L2
namespace L2
open PySem PySem.Spec PyProof.Rows
def inClass (s : Stmt) (j : Nat) : Stmt := match s with
 | .ClassDef _ _ _ body _ _ _ _ _ _ _ => body.getD j (.Pass ⟨0, 0, 0, 0⟩)
 | _ => .Pass ⟨0, 0, 0, 0⟩
def pe (s : Stmt) : Arguments := match s with
 | .FunctionDef _ a _ _ _ _ _ _ _ _ => a
 | _ => { posonlyargs := [], args := [], vararg := none, kwonlyargs := [], kw_defaults := [], kwarg := none, defaults := [] }
def iU (s : Stmt) : List Stmt := match s with
 | .FunctionDef _ _ b _ _ _ _ _ _ _ => b
 | _ => []
def ao (s : Stmt) : Scope := match s with
 | .FunctionDef _ _ _ _ _ _ sc _ _ _ => sc
 | _ => { kind := .function, names := [], isGenerator := false, isCoroutine := false }
abbrev da : GB := fun _ _ _ _ _ _ => False
abbrev E0 : XK := fun _ _ _ => False
theorem vd {X : Cx} : Passes da X E0 := fun _ _ _ _ _ _ _ h => h.elim
structure bw (K : aaa) (x qual : Str) (st : Stmt) (f : aaC) (fd : abd) : Prop where
 ex : ∃ (oc : aad) (od : Option aaC) (kV doc pm : aad) (an : Option aaC) (cb ct : aad) (Jf : Array (Option aad)),
  fd = abS x qual (pe st) (iU st) (ao st) .none kV doc pm an cb ct ∧ K.lookup f = some ⟨oc, od, .func fd, Jf⟩ ∧ acL K cb qual = true
 kp : ab5 K (.ref f) = true
section
variable {P : aaL} {w : aa9} {K : aaa} {mg : Str → Option aad} {base : Heap}
theorem bw.ok {x qual : Str} {st : Stmt} {f : aaC} {fd : abd} {N ps : List Str} {k : Nat} {sp : Sp} (F : bw K x qual st f fd) (S : ax N ps (ao st)) (len : ∀ vs H Q E, sp vs H Q E → vs.length = ps.length)
  (vb : ∀ (cb : aad) (A : aba) (outer : List Env) (s : aaf) (H : Hp) (vs : List V) (Q : VK) (E : XK), dD k (A.deeper (envOfC qual (ao st) s.heap.objs.size f cb)) → sp vs H Q E →
   ∃ t, EF (xq da P w K mg base N qual (ao st) f cb A outer s H E).MW (iU st) t ∧ t { nx := fun _ H' => Q .bY H', rt := Q } (start N vs) H) : a4 P w K mg base da (k + 1) f fd ps sp := by
 obtain ⟨oc, od, kV, doc, pm, an, cb, ct, Jf, rfl, lk, hcd⟩ := F.ex
 refine QY lk hcd S len fun A outer s H vs Q E hr Hw => ?_
 obtain ⟨t, h, q⟩ := vb cb A outer s H vs Q E hr Hw
 exact ⟨t, h.MW, q⟩
theorem bw.binds {x qual : Str} {st : Stmt} {f : aaC} {fd : abd} {ps : List Str} (F : bw K x qual st f fd)
  (h : ∀ (kV doc pm : aad) (an : Option aaC) (cb ct : aad) (us : List aad), us.length = ps.length → bindArgs (abS x qual (pe st) (iU st) (ao st) .none kV doc pm an cb ct) ⟨us, []⟩ = pure (ps.zip us)) : Binds K fd ps [] := by
 obtain ⟨oc, od, kV, doc, pm, an, cb, ct, Jf, rfl, lk, hcd⟩ := F.ex
 exact .all (h kV doc pm an cb ct)
theorem aK {x qual : Str} {st : Stmt} {f : aaC} {oc : aad} {od an : Option aaC} {Jf : Array (Option aad)} {kV doc pm cb ct : aad} (l : K.lookup f = some ⟨oc, od, .func (abS x qual (pe st) (iU st) (ao st) .none kV doc pm an cb ct), Jf⟩)
  (c : acL K cb qual = true) (k : ab5 K (.ref f) = true) : bw K x qual st f (abS x qual (pe st) (iU st) (ao st) .none kV doc pm an cb ct) := ⟨⟨oc, od, kV, doc, pm, an, cb, ct, Jf, rfl, l, c⟩, k⟩
end
theorem GJ {A : aba} {k : Nat} (hr : dD k A) : A.units + 1 < cLine := Nat.lt_of_le_of_lt (Nat.add_le_add_left (by decide : 1 ≤ 64) _) hr.units
section
variable {X : Cx}
theorem pv (i : Nat) {x : Str} {pos : Pos} (hN : X.N[i]? = some x := by rfl) (hv : Uk X.env.scope x := by first | exact aaM rfl | exact acn (aaM rfl) | exact acn (acn rfl)) (hd : (x == ("__debug__" : Str)) = false := by decide)
  (hcd : (x == ("__classdict__" : Str)) = false := by decide) : PE X (.Name x pos) (QD i) := N7 hN hv hd hcd
end
theorem bb {A B : Prop} (h : B) : if false = true then A else B := by
 rw [if_neg aaz]
 exact h
theorem dq {A B : Prop} (h : A) : if true = true then A else B := by
 rw [if_pos rfl]
 exact h
theorem mL {c A B : Prop} [Decidable c] (h1 : c → A) (h2 : ¬ c → B) : if c then A else B := by
 by_cases h : c
 ·rw [if_pos h]
  exact h1 h
 ·rw [if_neg h]
  exact h2 h
def ah (H H' : Hp) : Prop := ∀ b o, H b = some o → H' b = some o
theorem ah.refl (H : Hp) : ah H H := fun _ _ h => h
theorem ah.trans {H H1 H2 : Hp} (a : ah H H1) (b : ah H1 H2) : ah H H2 := fun c o h => b c o (a c o h)
theorem ah.free {H H' : Hp} (e : ah H H') {l : aaC} (h : H' l = ad2) : H l = ad2 := by
 cases q : H l with
 | none => rfl
 | some o =>
  rw [e l o q] at h
  cases h
theorem ah.seq {K : aaa} {H H' : Hp} {a : aaC} {xs : List V} (e : ah H H') (h : aH K H a xs) : aH K H' a xs := by
 rcases h with (h | ⟨o, h⟩) | h
 ·exact .inl (.inl (e _ _ h))
 ·exact .inl (.inr ⟨o, e _ _ h⟩)
 ·exact .inr h
end L2
namespace L2
open PySem PySem.Spec PyProof.Rows
def bZ (env : Env) : List (Str × NameKind) → List (Str × aaC) → List (Str × aaC)
 | [], cs => cs
 | (n, k) :: r, cs => if (k == abG) = true then bZ env r ((n, (env.cells.lookup n).getD 0) :: cs) else bZ env r cs
theorem i0 {env : Env} : ∀ (names : List (Str × NameKind)) (cs : List (Str × aaC)), (∀ y ∈ names, y.2 = .free → (env.cells.lookup y.1).isSome = true) →
  (forIn names cs (fun x (cs : List (Str × aaC)) => (match x with | (name, kind) => if (kind == abG) = true then (do let a ← cellOf env name; pure (ace ((name, a) :: cs))) else pure (ace cs) : Sem (ForInStep (List (Str × aaC))))) : Sem (List (Str × aaC))) = pure (bZ env names cs)
 | [], cs, _ => rfl
 | (n, k) :: r, cs, h => by
  have hr : ∀ y ∈ r, y.2 = .free → (env.cells.lookup y.1).isSome = true := fun y hy => h y (aal _ hy)
  rw [List.forIn_cons]
  by_cases hk : (k == abG) = true
  ·have e : k = .free := by simpa using hk
   have hs := h (n, k) aao e
   obtain ⟨a, ha⟩ := abI.mp hs
   simp only [hk, if_true, bZ, cellOf, ha, adB, pure_bind]
   exact i0 r _ hr
  ·simp only [hk, bZ, pure_bind, adg, if_false]
   exact i0 r _ hr
theorem E2 {env : Env} {scope : Scope} (h : ∀ y ∈ scope.names, y.2 = .free → (env.cells.lookup y.1).isSome = true) : closureFor scope env = pure (bZ env scope.names []) := by
 have e := i0 (env := env) scope.names [] h
 unfold closureFor
 simp only [bind_pure_comp, map_pure] at e ⊢
 rw [← e]
 simp
theorem qt {env : Env} : ∀ {names : List (Str × NameKind)} {cs : List (Str × aaC)} {y : Str} {c : aaC}, (∀ z ∈ names, z.2 = .free → (env.cells.lookup z.1).isSome = true) → (∀ y c, cs.lookup y = some c → env.cells.lookup y = some c) →
  (bZ env names cs).lookup y = some c → env.cells.lookup y = some c
 | [], _, _, _, _, hc, h => hc _ _ h
 | (n, k) :: r, cs, y, c, hn, hc, h => by
  have hr : ∀ z ∈ r, z.2 = .free → (env.cells.lookup z.1).isSome = true := fun z hz => hn z (aal _ hz)
  unfold bZ at h
  by_cases hk : (k == abG) = true
  ·rw [if_pos hk] at h
   have e : k = .free := by simpa using hk
   obtain ⟨a, ha⟩ := abI.mp (hn (n, k) aao e)
   refine qt hr (fun z d q => ?_) h
   rw [abu] at q
   cases hz : z == n with
   | true =>
    have ez : z = n := by simpa using hz
    rw [hz] at q
    simp only [ha, adB] at q
    have ha' : env.cells.lookup n = some a := ha
    rw [ez, ha']
    exact q
   | false =>
    rw [hz] at q
    exact hc z d q
  ·rw [if_neg hk] at h
   exact qt hr hc h
theorem qv {env : Env} : ∀ {names : List (Str × NameKind)} {cs : List (Str × aaC)} {y : Str}, ((y, abG) ∈ names ∨ (cs.lookup y).isSome = true) → ((bZ env names cs).lookup y).isSome = true
 | [], _, _, h => by
  rcases h with h | h
  ·cases h
  ·exact h
 | (n, k) :: r, cs, y, h => by
  unfold bZ
  have key : ∀ a : aaC, (cs.lookup y).isSome = true → (acr y ((n, a) :: cs)).isSome = true := fun a q => by
   rw [abu]
   cases y == n with
   | true => rfl
   | false => exact q
  by_cases hk : (k == abG) = true
  ·rw [if_pos hk]
   refine qv ?_
   rcases h with h | h
   ·rcases aaF.mp h with e | h
    ·cases e
     refine .inr ?_
     rw [abu]
     simp
    ·exact .inl h
   ·exact .inr (key _ h)
  ·rw [if_neg hk]
   refine qv ?_
   rcases h with h | h
   ·rcases aaF.mp h with e | h
    ·cases e
     exact absurd (by simp) hk
    ·exact .inl h
   ·exact .inr h
def kc (X : Cx) (scope : Scope) (cl : List (Str × aaC)) (N : List Str) (C : aaC) (s₀ : aaf) (H₀ : Hp) (ex : List aaC) : Cx where
 prog := X.prog
 w := X.w
 K := X.K
 mg := X.mg
 base := X.base
 A := X.A
 N := N
 s₀ := s₀
 H₀ := H₀
 env := compEnvC scope cl C X.env
 outer := X.stack
 stack := X.stack
 ex := ex
 fn := fun _ => false
 calm := X.calm
 pn := []
 xe := fun _ _ => False
def gU (X : Cx) (x : Str) (bc : List Nat) : List Str := x :: bc.map fun i => X.N.getD i (aab "")
def cD (σ : St) (o : Option V) (bc : List Nat) : St := o :: bc.map fun i => (σ[i]?).join
def ve (outer scope : Scope) (x : Str) (N : List Str) : Bool :=
 decide (scope.kind = .function) && scope.names.all (fun y => decide (y.2 ≠ .cell)) && scope.names.all (fun y => decide (y.2 = .local → scope.names.lookup y.1 = some .local)) && decide (scope.names.lookup x = some .local) &&
  scope.names.all (fun y => decide (y.2 = .free → (outer.names.lookup y.1 = some .cell ∨ outer.names.lookup y.1 = some .free))) && N.tail.all (fun y => decide (scope.names.lookup y = some .free)) && decide N.Nodup
structure Jk (outer scope : Scope) (x : Str) (N : List Str) : Prop where
 kind : scope.kind = .function
 Jl : ∀ y ∈ scope.names, y.2 ≠ .cell
 locs : ∀ y ∈ scope.names, y.2 = .local → scope.names.lookup y.1 = some .local
 tgt : scope.names.lookup x = some .local
 frees : ∀ y ∈ scope.names, y.2 = .free → (outer.names.lookup y.1 = some .cell ∨ outer.names.lookup y.1 = some .free)
 bc : ∀ y ∈ N.tail, scope.names.lookup y = some .free
 nd : N.Nodup
theorem HB {outer scope : Scope} {x : Str} {N : List Str} (h : ve outer scope x N = true) : Jk outer scope x N := by
 unfold ve at h
 simp only [aaN, aaS, decide_eq_true_eq] at h
 obtain ⟨⟨⟨⟨⟨⟨h1, h2⟩, h3⟩, h4⟩, h5⟩, h6⟩, h7⟩ := h
 exact ⟨h1, h2, h3, h4, h5, h6, h7⟩
theorem qw {scope : Scope} {env : Env} {y : Str} {k' : NameKind} (h : (relabel scope env).names.lookup y = some k') : ∃ k, scope.names.lookup y = some k ∧ (k' = k ∨ (k = .free ∧ k' = .cell)) := by
 have go : ∀ (names : List (Str × NameKind)), (names.map fun (n, k) => if (k == abG && env.scope.kind == .function && env.kindOf n == some .cell) then (n, aen) else (n, k)).lookup y = some k' →
   ∃ k, names.lookup y = some k ∧ (k' = k ∨ (k = .free ∧ k' = .cell)) := by
  intro names
  induction names with
  | nil => intro h; simp at h
  | cons a r ih =>
   obtain ⟨n, k⟩ := a
   intro h
   rw [aa3] at h
   by_cases hc : (k == abG && env.scope.kind == .function && env.kindOf n == some .cell) = true
   ·simp only [hc, if_true, abu] at h
    rw [abu]
    cases hy : y == n with
    | true =>
     rw [hy] at h
     have hk : k = .free := by
      simp only [aaN, beq_iff_eq] at hc
      exact hc.1.1
     exact ⟨k, rfl, .inr ⟨hk, (aa4 h).symm⟩⟩
    | false =>
     rw [hy] at h
     exact ih h
   ·simp only [hc, adg, if_false, abu] at h
    rw [abu]
    cases hy : y == n with
    | true =>
     rw [hy] at h
     exact ⟨k, rfl, .inl (aa4 h).symm⟩
    | false =>
     rw [hy] at h
     exact ih h
 exact go scope.names h
theorem z6 {scope : Scope} {env : Env} {y : Str} (h : scope.names.lookup y = some .free) : (relabel scope env).names.lookup y = some .cell ∨ (relabel scope env).names.lookup y = some .free := by
 have go : ∀ (names : List (Str × NameKind)), names.lookup y = some .free → (names.map fun (n, k) => if (k == abG && env.scope.kind == .function && env.kindOf n == some .cell) then (n, aen) else (n, k)).lookup y = some .cell ∨
   (names.map fun (n, k) => if (k == abG && env.scope.kind == .function && env.kindOf n == some .cell) then (n, aen) else (n, k)).lookup y = some .free := by
  intro names
  induction names with
  | nil => intro h; simp at h
  | cons a r ih =>
   obtain ⟨n, k⟩ := a
   intro h
   rw [aa3]
   rw [abu] at h
   by_cases hc : (k == abG && env.scope.kind == .function && env.kindOf n == some .cell) = true
   ·simp only [hc, if_true, abu]
    cases hy : y == n with
    | true => exact .inl rfl
    | false =>
     rw [hy] at h
     exact ih h
   ·simp only [hc, adg, if_false, abu]
    cases hy : y == n with
    | true =>
     rw [hy] at h
     have h' : k = .free := aa4 h
     exact .inr (by rw [h'])
    | false =>
     rw [hy] at h
     exact ih h
 exact go scope.names h
def Qc (X : Cx) (ifs : List Expr) (t : TT) : Prop :=
 ∀ (pins : List (aaC × Obj)) (s : aaf) (σ : St) (H : Hp) (Q : Bool → Hp → Prop), Inv X pins σ H s → t σ H Q →
  aaZ (model X.prog X.w) X.A (forIn ifs true fun c r => if r = true then do let ok ← isTrue c X.env (eval c X.env); pure (ace ok) else pure (ace r)) (TP X pins σ Q) X.xe s
def vf : TT := fun _ H Q => Q true H
theorem bj {X : Cx} : Qc X [] vf := fun _ _ _ H _ I h => wpAny_tests_nil ⟨H, I, h⟩
theorem qx {X : Cx} {c : Expr} {t : TT} (h : PT X c t) : Qc X [c] t := fun pins s σ H Q I hq => wpAny_tests_one (h pins s σ H Q I hq)
theorem z7 {prog : aaL} {w : aa9} {A : aba} {R : Result → aaf → Prop} {s : aaf} {elt target iter : Expr} {ifs : List Expr} {scope : Scope} {pos : Pos} {it acc : aad} {env : Env} (I : Nat → aaf → Prop)
  (turn : ∀ n s, I n s → aaZ (model prog w) A (pyNext it) (fun r s₁ => match r with
   | none => R (.ok .next) s₁
   | some v => aaZ (model prog w) A (letOwnedTupleGo target it v) (fun _ YS => aaZ (model prog w) A (assign target env v) (fun _ s₂ =>
     aaZ (model prog w) A (forIn ifs true fun c r => if r = true then do let ok ← isTrue c env (eval c env); pure (ace ok) else pure (ace r)) (fun ok s₃ =>
      if ok = true then aaZ (model prog w) A (eval elt env) (fun x s₄ =>
       aaZ (model prog w) A (call (.builtin "list.append") [acc, x]) (fun _ s₅ => ∃ m, m < n ∧ I m s₅) (fun _ _ => False) s₄) (fun _ _ => False) s₃
      else ∃ m, m < n ∧ I m s₃) (fun _ _ => False) s₂) (fun _ _ => False) YS) (fun _ _ => False) s₁) (fun _ _ => False) s)
  (n : Nat) (h : I n s) : codeAny (model prog w) A (.compLoop (.ListComp elt [⟨target, iter, ifs, 0⟩] scope pos) 0 it acc env) R s := by
 refine codeAny_loop rfl I (fun n s hI => ?_) n h
 show aaZ _ A ((compTurn (.ListComp elt [⟨target, iter, ifs, 0⟩] scope pos) 0 it acc env).onRaise (fun x => do noteFrame x env; theTreesLotGoes x)) _ _ s
 refine wpAny_noted ?_
 rw [compTurn_list]
 refine aau (wpAny_standAt (aau (wpAny_mono (turn n s hI) (fun r s₁ h₁ => ?_) fun _ _ h' => h'.elim)))
 cases r with
 | none => exact aaO h₁
 | some v =>
  refine aau (wpAny_mono h₁ (fun _ YS h₁' => ?_) fun _ _ h' => h'.elim)
  refine aau (wpAny_mono h₁' (fun _ s₂ h₂ => aau (wpAny_mono h₂ (fun ok s₃ h₃ => ?_) fun _ _ h' => h'.elim)) fun _ _ h' => h'.elim)
  cases ok with
  | false => exact aaO ⟨rfl, h₃⟩
  | true =>
   exact aau (aau (wpAny_mono h₃ (fun x s₄ h₄ => aau (wpAny_mono h₄ (fun _ s₅ h₅ => aaO (aaO ⟨rfl, h₅⟩)) fun _ _ h' => h'.elim)) fun _ _ h' => h'.elim))
def mP (tt : TT) (te : TE) (bc : List Nat) (σ : St) (Q : VK) (J : It) (H1 : Hp) (D : aaC) : Prop :=
 ∃ W : Nat → Nat → List V → Hp → Prop, (∃ m, W 0 m [] (upd H1 D (.lst []))) ∧ ∀ i m ys H, W i m ys H →
  H D = some (.lst ys) ∧ ys.length < aai ∧
  ((J.stop i H ∧ Q (.ref D) H) ∨ (J.go i H ∧ ∃ N : List V → Hp → Prop, (∀ zs H', N zs H' → ∃ m', m' < m ∧ W (i + 1) m' zs H') ∧ ∀ x H', J.Oc i H x H' → tt (cD σ (some x) bc) H' fun b H2 =>
   if b = true then te (cD σ (some x) bc) H2 fun y H3 => H3 D = some (.lst ys) ∧ N (ys ++ [y]) (upd H3 D (.lst (ys ++ [y])))
   else N ys H2))
def Jm (wi : TI) (tt : TT) (te : TE) (bc : List Nat) : TE := fun σ H Q => wi σ H fun J H1 => ∀ D, H1 D = none → mP tt te bc σ Q J H1 D
section
variable {X : Cx}
theorem E3 {scope : Scope} {x : Str} {bc : List Nat} {pins : List (aaC × Obj)} {σ : St} {H : Hp} {s3 : aaf} {h1 : Heap} {fp : List aaC} {m : Str → Option aad} {tk : Nat} (ok : Jk X.env.scope scope x (gU X x bc)) (I : Inv X pins σ H s3)
  (hf : ∀ b ∈ fp, u6 X pins H b) (rB : ∀ b ∈ fp, b < s3.heap.objs.size) (hn : h1.Ns s3.heap.objs.size m) (keep : ∀ b o, s3.heap.get? b = some o → h1.get? b = some o) :
  Inv (kc X scope (bZ X.env scope.names []) (gU X x bc) s3.heap.objs.size s3 H fp) [] (cD σ none bc) H { s3 with heap := h1, toks := tk } := by
 have GK : ∀ z ∈ scope.names, z.2 = .free → (X.env.cells.lookup z.1).isSome = true := fun z hz Q6 => by
  obtain ⟨c, e⟩ := I.ok.has z.1 (by
   rcases ok.frees z hz Q6 with q | q
   ·exact .inl q
   ·exact .inr q)
  rw [e]; rfl
 have sub : ∀ y c, (bZ X.env scope.names []).lookup y = some c → X.env.cells.lookup y = some c := fun y c h => qt GK (fun _ _ q => by simp at q) h
 have hC : H s3.heap.objs.size = none := I.hok.fresh (aar _)
 have MT : ∀ y c, X.env.cells.lookup y = some c → c < s3.heap.objs.size := fun y c e => by
  obtain ⟨v, z⟩ := I.cell y c e
  exact z.lt
 refine ⟨⟨I.ok.mod, ?_, I.ok.glob, I.ok.blt, aar _, fun y z c e1 e2 => I.ok.inj y z c (sub _ _ e1) (sub _ _ e2), fun y hy => ?_, fun y c QB _ => ?_, I.ok.hd, I.ok.frames, .inl rfl, fun b hb => ⟨abe (rB b hb), fun y c e => (hf b hb).2.2.2.2.1 y c (sub _ _ e)⟩,
   I.bs, aa8 I.ok.LD I.sz, fun b o e hb => ?_, fun b hb Ox => ?_, I.stack, I.Gq⟩,
  rfl, I.bare, Un.kept keep, ⟨m, hn, fun i y v e1 e2 e3 => ?_⟩, fun y c e => ?_, hC, fun y c e => I.pH y c (sub _ _ e), fun p hp => absurd (show p ∈ ([] : List (aaC × Obj)) from hp) (by simp), I.hok.kept keep, by simp [kc, gU, cD]⟩
 ·show (relabel scope X.env).kind = .function
  exact ok.kind
 ·have hy' : (relabel scope X.env).names.lookup y = some .cell ∨ (relabel scope X.env).names.lookup y = some .free := hy
  have fr : scope.names.lookup y = some .free := by
   rcases hy' with q | q
   ·obtain ⟨k, e, z⟩ := qw q
    rcases z with z | ⟨z, _⟩
    ·exact absurd z.symm (ok.Jl _ (abk e))
    ·rw [e, z]
   ·obtain ⟨k, e, z⟩ := qw q
    rcases z with z | ⟨_, z⟩
    ·rw [e, z]
    ·cases z
  exact abI.mp (qv (.inl (abk fr)))
 ·exact absurd (show (fun _ => false) y = true from QB) (by simp)
 ·rcases (hf b hb).2.2.2.1 with z | z
  ·exact I.ok.IS b o e z
  ·exact absurd (aa1 (aaT e) (aa8 I.ok.LD z)) (ach _)
 ·rcases aaF.mp (I.zP b Ox) with z | z
  ·exact (hf b hb).2.1 z
  ·exact (hf b hb).2.2.1 z
 ·have e1' : (gU X x bc)[i]? = some y := e1
  cases i with
  | zero => simp [cD] at e2
  | succ i =>
   simp only [gU, adx, aa2] at e1'
   simp only [cD, adx, aa2] at e2
   cases hj : bc[i]? with
   | none => rw [hj] at e2; cases e2
   | some j =>
    rw [hj] at e1' e2
    simp only [Option.map_some, Option.some.injEq] at e1' e2
    cases hσ : σ[j]? with
    | none => rw [hσ] at e2; cases e2
    | some o =>
     rw [hσ] at e2
     have e2' : o = some v := e2
     subst e2'
     have Q7 : j < X.N.length := by rw [← I.len]; exact (aaj.mp hσ).1
     have eN : X.N[j]? = some y := by
      rw [Ge9 Q7]
      rw [Gd9, Ge9 Q7] at e1'
      exact congrArg some e1'
     have hy : scope.names.lookup y = some .free := ok.bc y (by
      show y ∈ bc.map fun i => X.N.getD i (aab "")
      exact aat.mpr ⟨j, abn hj, e1'⟩)
     have hk := ok.frees (y, .free) (abk hy) rfl
     obtain ⟨m', _, hl⟩ := I.loc
     obtain ⟨u, r, q⟩ := hl j y v eN hσ (.inr hk)
     refine ⟨u, r, .inr ⟨z6 hy, ?_⟩⟩
     rcases q with ⟨k, _⟩ | ⟨_, c, e, z⟩
     ·have k' : X.env.scope.names.lookup y = some .local := k
      rw [k'] at hk
      rcases hk with hk | hk <;> cases hk
     ·obtain ⟨c', e'⟩ := abI.mp (qv (env := X.env) (cs := []) (.inl (abk hy)))
      have ec := sub _ _ e'
      rw [e] at ec
      cases ec
      obtain ⟨o, ho, hd⟩ := z
      exact ⟨c, e', o, keep c o ho, hd⟩
 ·obtain ⟨v, o, ho, hd⟩ := I.cell y c (sub _ _ e)
  exact ⟨v, o, keep c o ho, hd⟩
theorem y0 {x : Str} {px pos p : Pos} {iter elt : Expr} {ifs : List Expr} {scope : Scope} {wi : TI} {tt : TT} {te : TE} {bc : List Nat} {use : Option (aad → Sem Unit)} {QQ : aad → aaf → Prop}
  (hc : X.calm = true) (ho : ve X.env.scope scope x (gU X x bc) = true) (hi : PI X (.Name x px) iter wi)
  (ht : ∀ cl C s₀ H₀ ex, Qc (kc X scope cl (gU X x bc) C s₀ H₀ ex) ifs tt) (he : ∀ cl C s₀ H₀ ex, PE (kc X scope cl (gU X x bc) C s₀ H₀ ex) elt te)
  (hs : ∀ x, foldedSetIterable iter X.env x = pure x) {pins : List (aaC × Obj)} {s : aaf} {σ : St} {H : Hp} {Q : VK} (I : Inv X pins σ H s) (h : Jm wi tt te bc σ H Q)
  (fin : ∀ (D C : aaC) (H' : Hp) (s' : aaf) (m : Str → Option aad), Inv X pins σ H' s' → Q (.ref D) H' → s'.heap.Ns C m → u6 X pins H' C → compPost (model X.prog X.w) X.A X.xe use QQ (.ref D) C (.ok .next) s') :
  aaZ (model X.prog X.w) X.A (comprehension (.ListComp elt [⟨.Name x px, iter, ifs, 0⟩] scope pos) scope X.env p (newList []) false (eval iter X.env) use) QQ X.xe s := by
 have ok := HB ho
 have GK : ∀ z ∈ scope.names, z.2 = .free → (X.env.cells.lookup z.1).isSome = true := fun z hz Q6 => by
  obtain ⟨c, e⟩ := I.ok.has z.1 (by
   rcases ok.frees z hz Q6 with q | q
   ·exact .inl q
   ·exact .inr q)
  rw [e]; rfl
 refine wpAny_comprehension_free (cl := bZ X.env scope.names []) (use := use) rfl hs (E2 GK) ok.kind ok.locs (thn (hi pins s σ H _ I h) fun v s1 h1 => thn h1 fun Ur s2 h2 => ?_)
 obtain ⟨it, fp, tn, J, H2, e, I2, T, P9, f2, rd⟩ := h2
 subst e
 refine wpAny_newObj_type (wpAny_newFunctionEnv ok.Jl (by intro y hy; simp at hy) (fun h₁ Oy Oz => ?_) ok.kind)
 dsimp only at Oy Oz ⊢
 have xt : H2 s2.heap.objs.size = none := I2.hok.fresh (aar _)
 obtain ⟨W, ⟨m0, w0⟩, turn⟩ := rd s2.heap.objs.size xt
 have Q8 : ∀ b ∈ fp, b < s2.heap.objs.size := fun b hb => by
  obtain ⟨o, e, _⟩ := T.obj 0 _ P9 b hb
  exact aaT e
 have hsz : (s2.heap.push { cls := .type "list", dict := none, data := .seq ([] : List aad).toArray }).objs.size = s2.heap.objs.size + 1 := adZ ..
 have I3 : Inv X pins σ (upd H2 s2.heap.objs.size (.lst [])) { s2 with heap := s2.heap.push { cls := .type "list", dict := none, data := .seq ([] : List aad).toArray } } :=
  I2.laid (t' := s2.toks) (fun b u e => aav _ e) (aar _) ⟨by simp, [], 0, .nil, aa0 _ rfl⟩
 have M0 : tn 0 (s2.heap.push { cls := .type "list", dict := none, data := .seq ([] : List aad).toArray }) := T.keep _ _ _ P9 fun b _ o e => aav _ e
 generalize hH3 : s2.heap.push { cls := .type "list", dict := none, data := .seq ([] : List aad).toArray } = h3 at Oy Oz hsz I3 M0 ⊢
 generalize hHH : upd H2 s2.heap.objs.size (.lst []) = H3 at I3 w0
 have Q9 : ∀ b ∈ fp, b < h3.objs.size := fun b hb => by rw [hsz]; exact Nat.lt_succ_of_lt (Q8 b hb)
 have f3 : ∀ b ∈ fp, u6 X pins H3 b := fun b hb => ⟨by rw [← hHH, aA (abe (Q8 b hb))]; exact (f2 b hb).1, (f2 b hb).2⟩
 have keep : ∀ b o, h3.get? b = some o → h₁.get? b = some o := fun b o e => Oz.extBut b o (abe (aaT e)) (aav _ e)
 have I4 := E3 (s3 := { s2 with heap := h3 }) (tk := s2.toks + ([] : List (Str × aad)).length) ok I3 f3 Q9 Oy keep
 have YT : tn 0 h₁ := T.keep _ _ _ M0 fun b _ o e => keep b o e
 generalize E4 : kc X scope (bZ X.env scope.names []) (gU X x bc) ({ s2 with heap := h3 } : aaf).heap.objs.size { s2 with heap := h3 } H3 fp = X' at I4
 have eA : X'.A = X.A := by rw [← E4] <;> rfl
 have eP : X'.prog = X.prog := by rw [← E4] <;> rfl
 have ew : X'.w = X.w := by rw [← E4] <;> rfl
 have eK : X'.K = X.K := by rw [← E4] <;> rfl
 have ee : X'.env = compEnvC scope (bZ X.env scope.names []) h3.objs.size X.env := by rw [← E4] <;> rfl
 have ex : X'.xe = fun _ _ => False := by rw [← E4] <;> rfl
 have eN : X'.N = gU X x bc := by rw [← E4] <;> rfl
 have ec : X'.calm = true := by rw [← E4]; exact hc
 have efs : X'.fs = Ho X.stack := by rw [← E4] <;> rfl
 have hT' : Qc X' ifs tt := by rw [← E4]; exact ht _ _ _ _ _
 have hE' : PE X' elt te := by rw [← E4]; exact he _ _ _ _ _
 have leave : ∀ {σ' : St} {H' : Hp} {s' : aaf}, Inv X' [] σ' H' s' → Q (.ref s2.heap.objs.size) H' → compPost (model X.prog X.w) X.A X.xe use QQ (.ref s2.heap.objs.size) h3.objs.size (.ok .next) s' := fun {σ' H' s'} J q => by
  have un : Un (Ho X.stack) fp H3 H' h3 s'.heap := by have z := J.base; rw [← E4] at z; exact z
  have LO : s'.os = s2.os := by have z := J.os; rw [← E4] at z; exact z
  have hk : pS X.prog X.w H' s'.heap := by have z := J.hok; rw [eP, ew] at z; exact z
  have Jx := I3.QC (s' := s') (ch := fp) LO un hk J.bare fun b hb => ⟨(f3 b hb).2.2.2.1, (f3 b hb).2.1, (f3 b hb).2.2.2.2.1, (f3 b hb).2.2.2.2.2⟩
  obtain ⟨m, hn, _⟩ := J.loc
  have hn' : s'.heap.Ns h3.objs.size m := by rw [ee] at hn; exact hn
  have Q6 : H' h3.objs.size = none := by have z := J.free; rw [ee] at z; exact z
  exact fin _ _ H' s' m Jx q hn' (I3.Hq (aar _) Q6)
 have u7 : ∀ {H' : Hp}, (∀ b ∈ fp, H' b = none) → ∀ b ∈ fp, u6 X' [] H' b := fun {H'} hn b hb => by
  refine ⟨hn b hb, ?_, ?_, .inl ?_, fun y c e => ?_, fun p hp => ?_⟩
  ·rw [ee]; exact abe (Q9 b hb)
  ·rw [efs]
   intro z
   rcases aaF.mp (I3.zP b z) with z | z
   ·exact (f3 b hb).2.1 z
   ·exact (f3 b hb).2.2.1 z
  ·rw [← E4]; exact hb
  ·have e' : (bZ X.env scope.names []).lookup y = some c := by rw [ee] at e; exact e
   exact (f3 b hb).2.2.2.2.1 y c (qt GK (fun _ _ q => by simp at q) e')
  ·rw [← E4] at hp
   exact absurd (show p ∈ ([] : List (aaC × Obj)) from hp) (by simp)
 have loop : ∀ s₃ : aaf, s₃ = { s2 with heap := h₁, toks := s2.toks + ([] : List (Str × aad)).length } →
   codeAny (model X.prog X.w) X.A (.compLoop (.ListComp elt [⟨.Name x px, iter, ifs, 0⟩] scope pos) 0 (.ref it) (.ref s2.heap.objs.size) (compEnvC scope (bZ X.env scope.names []) h3.objs.size X.env))
    (compPost (model X.prog X.w) X.A X.xe use QQ (.ref s2.heap.objs.size) h3.objs.size) s₃ := by
  rintro s₃ rfl
  refine z7 (fun n s' => ∃ i o H' ys, Inv X' [] (cD σ o bc) H' s' ∧ tn i s'.heap ∧ (∀ b ∈ fp, H' b = none) ∧ W i n ys H') ?_ m0 ⟨0, none, H3, [], I4, YT, fun b hb => (f3 b hb).1, w0⟩
  rintro n s' ⟨i, o, H', ys, J, Gu, YU, w'⟩
  obtain ⟨hDl, hlen, alt⟩ := turn i n ys H' w'
  rcases alt with ⟨stop, q⟩ | ⟨go, N, hN, step⟩
  ·have z := T.done X' eP ew eK ec i [] s' _ H' (fun _ _ => False) J (u7 YU) Gu stop
   rw [eA] at z
   refine thn z fun r s4 ⟨hr, J4⟩ => ?_
   subst hr
   exact leave J4 q
  ·have z := T.item X' eP ew eK ec i [] s' _ H' (fun _ _ => False) J (u7 YU) Gu go
   rw [eA] at z
   refine thn z fun r s4 ⟨u, hr, h4⟩ => ?_
   subst hr
   refine thn h4 fun _ s5 ⟨xv, H5, J5, r5, y5, I8, QP⟩ => ?_
   have J5' := J5.pinned (u7 QP) (T.obj _ _ I8)
   have lx : (relabel scope X.env).names.lookup x = some .local := lookup_relabel_local ok.tgt
   have hg : PG X' (.Name x px) (tI 0) := bN (by rw [eN]; exact ok.nd) (by rw [eN] <;> rfl) (by rw [ee]; exact .inl lx) (by rw [ee]; exact .inr lx)
   have zg := hg _ s5 _ H5 xv u (fun σ6 H6 => σ6 = cD σ (some xv) bc ∧ H6 = H5) J5' r5 ⟨rfl, rfl⟩
   rw [eP, ew, eA, ee, ex] at zg
   refine thn zg fun _ s6 ⟨σ6, H6, J6, q6⟩ => ?_
   obtain ⟨e6, e6'⟩ := q6
   subst e6 e6'
   have zt := hT' _ s6 _ _ _ J6 (step xv _ y5)
   rw [eP, ew, eA, ee, ex] at zt
   refine thn zt fun b s7 ⟨H7, J7, q7⟩ => ?_
   have again : ∀ {H8 : Hp} {s8 : aaf} {Qd : List V}, Inv X' ([] ++ rH fp s5.heap) (cD σ (some xv) bc) H8 s8 → N Qd H8 → ∃ m, m < n ∧ ∃ i o H' ys, Inv X' [] (cD σ o bc) H' s8 ∧ tn i s8.heap ∧ (∀ b ∈ fp, H' b = none) ∧ W i m ys H' := fun {H8 s8 Qd} J8 n8 => by
    obtain ⟨m', hm, w8⟩ := hN Qd H8 n8
    refine ⟨m', hm, i + 1, some xv, H8, Qd, J8.ic, T.keep _ _ _ I8 fun b hb o e => (J8.pin (b, o) (aae _ (aae _ (fM hb e)))).1, fun b hb => ?_, w8⟩
    obtain ⟨o, e, d⟩ := T.obj _ _ I8 b hb
    exact (J8.pin (b, o) (aae _ (aae _ (fM hb e)))).2.1
   cases b with
   | false => exact again J7 q7
   | true =>
    have ze := hE' _ s7 _ H7 _ J7 q7
    rw [eP, ew, eA, ee, ex] at ze
    refine thn ze fun yv s8 ⟨y, H8, J8, r8, OA, q8⟩ => ?_
    have za := bh (X := X') _ s8 _ H8 (.ref s2.heap.objs.size) [y] (.ref s2.heap.objs.size) [yv] (fun _ H9 => H9 = upd H8 s2.heap.objs.size (.lst (ys ++ [y]))) J8 rfl (.cons r8 .nil) ⟨_, ys, y, rfl, rfl, OA, hlen, rfl⟩
    rw [eP, ew, eA, ex] at za
    refine thn za fun _ s9 ⟨_, H9, J9, _, q9⟩ => ?_
    subst q9
    exact again J9 q8
 exact codeAny_compStart_list (loop _ rfl) (T.self _ 0 _ _ _ YT (loop _ rfl))
theorem bA {x : Str} {px pos : Pos} {iter elt : Expr} {ifs : List Expr} {scope : Scope} {wi : TI} {tt : TT} {te : TE} (bc : List Nat)
  (hc : X.calm = true) (ho : ve X.env.scope scope x (gU X x bc) = true) (hi : PI X (.Name x px) iter wi)
  (ht : ∀ cl C s₀ H₀ ex, Qc (kc X scope cl (gU X x bc) C s₀ H₀ ex) ifs tt) (he : ∀ cl C s₀ H₀ ex, PE (kc X scope cl (gU X x bc) C s₀ H₀ ex) elt te)
  (hs : ∀ x, foldedSetIterable iter X.env x = pure x := by intro _; rfl) : PE X (.ListComp elt [⟨.Name x px, iter, ifs, 0⟩] scope pos) (Jm wi tt te bc) := by
 intro pins s σ H Q I h
 rw [eval_ListComp]
 refine y0 (use := none) hc ho hi ht he hs I h fun D C H' s' m J q hn hf => ?_
 exact ⟨m, hn, fun h' sb => ⟨.ref D, H', J.turned (t' := s'.toks) (fun b o hb e => (sb.2 b hb).trans e) hf.1 hf.2.1 hf.2.2.2.1 hf.2.2.2.2.1 hf.2.2.2.2.2, rfl, q⟩⟩
theorem kg {i : Nat} {x y : Str} {px py pos Ra : Pos} {iter elt : Expr} {ifs : List Expr} {scope : Scope} {wi : TI} {tt : TT} {te : TE} (bc : List Nat)
  (hN : X.N.Nodup) (hiy : X.N[i]? = some y) (hy : Loc X.env.scope y)
  (hc : X.calm = true) (ho : ve X.env.scope scope x (gU X x bc) = true) (hi : PI X (.Name x px) iter wi)
  (ht : ∀ cl C s₀ H₀ ex, Qc (kc X scope cl (gU X x bc) C s₀ H₀ ex) ifs tt) (he : ∀ cl C s₀ H₀ ex, PE (kc X scope cl (gU X x bc) C s₀ H₀ ex) elt te)
  (hsw : swapsWith (.ListComp elt [⟨.Name x px, iter, ifs, 0⟩] scope pos) (some (.Name y py)) Ra.line X.env = pure true := by rfl)
  (hs : ∀ x, foldedSetIterable iter X.env x = pure x := by intro _; rfl) (hf : X.fn y = true ∨ X.env.scope.names.lookup y = some .local := by first | exact .inl rfl | exact .inr rfl | assumption) :
  PS X (.Assign [.Name y py] (.ListComp elt [⟨.Name x px, iter, ifs, 0⟩] scope pos) Ra) (IY (Jm wi tt te bc) (tI i)) := by
 intro pins s σ H D I h
 rw [exec_Assign_Name_used _ _ _ _ hsw]
 refine aau (wpAny_standAt (aau ?_))
 show aaZ _ X.A (do let _ ← comprehension (.ListComp elt [⟨.Name x px, iter, ifs, 0⟩] scope pos) scope X.env _ (newList []) false (eval iter X.env) (some (assign (.Name y py) X.env))) _ _ s
 refine aau (wpAny_mono (y0 (QQ := fun _ s' => SP X pins D .next s') (use := some (assign (.Name y py) X.env)) hc ho hi ht he hs I h fun D' C H' s' m J q hn hf' => ?_) (fun _ s' hq => aaO (aaO hq)) fun _ _ e => e)
 refine wpAny_assign_Name (yQ (v := .ref D') J hN hiy hy rfl (fun s2 I2 Uv => ?_) hf)
 obtain ⟨a, sb, ha⟩ := Uv
 have hne : C ≠ a := by
  rcases ha with rfl | e
  ·exact hf'.2.1
  ·exact fun z => hf'.2.2.2.2.1 y a e z.symm
 exact ⟨m, hn.sameBut sb hne, fun h'' sb2 => ⟨_, H', I2.turned (t' := s2.toks) (fun b o hb e => (sb2.2 b hb).trans e) hf'.1 hf'.2.1 hf'.2.2.2.1 hf'.2.2.2.2.1 hf'.2.2.2.2.2, q⟩⟩
end
section
variable {tt : TT} {te : TE} {bc : List Nat} {σ : St} {H1 : Hp} {Q : VK}
theorem uM {J : It} {D : aaC} (n : Nat) (hn : n < aai) (at_ : Nat → V) (Pv : Nat → List V → Hp → Prop) (h0 : Pv 0 [] (upd H1 D (.lst [])))
  (M6 : ∀ ys H, Pv n ys H → J.stop n H) (hgo : ∀ i ys H, Pv i ys H → i < n → J.go i H) (hy : ∀ i ys H x H', Pv i ys H → i < n → J.Oc i H x H' → H' = H ∧ x = at_ i)
  (hD : ∀ i ys H, Pv i ys H → H D = some (.lst ys) ∧ ys.length ≤ i)
  (hs : ∀ i ys H, i < n → Pv i ys H → tt (cD σ (some (at_ i)) bc) H fun b H2 =>
   if b = true then te (cD σ (some (at_ i)) bc) H2 fun y H3 => H3 D = some (.lst ys) ∧ Pv (i + 1) (ys ++ [y]) (upd H3 D (.lst (ys ++ [y])))
   else Pv (i + 1) ys H2)
  (hd : ∀ ys H, Pv n ys H → Q (.ref D) H) : mP tt te bc σ Q J H1 D := by
 refine ⟨fun i m ys H => m = n - i ∧ i ≤ n ∧ Pv i ys H, ⟨n, by simp, abm _, h0⟩, ?_⟩
 rintro i m ys H ⟨rfl, hi, p⟩
 obtain ⟨ud, hl⟩ := hD i ys H p
 refine ⟨ud, by omega, ?_⟩
 by_cases rB : i < n
 ·refine .inr ⟨hgo i ys H p rB, Pv (i + 1), fun zs H' q => ⟨n - (i + 1), by omega, rfl, rB, q⟩, fun x H' y => ?_⟩
  obtain ⟨e, e'⟩ := hy i ys H x H' p rB y
  subst e e'
  exact hs i ys _ rB p
 ·have e : i = n := by omega
  subst e
  exact .inl ⟨M6 ys H p, hd ys H p⟩
theorem df {lo : Int} {n : Nat} {D : aaC} (hn : n < aai) (Pv : Nat → List V → Hp → Prop) (h0 : Pv 0 [] (upd H1 D (.lst [])))
  (hD : ∀ i ys H, Pv i ys H → H D = some (.lst ys) ∧ ys.length ≤ i)
  (hs : ∀ i ys H, i < n → Pv i ys H → tt (cD σ (some (.int (lo + i))) bc) H fun b H2 =>
   if b = true then te (cD σ (some (.int (lo + i))) bc) H2 fun y H3 => H3 D = some (.lst ys) ∧ Pv (i + 1) (ys ++ [y]) (upd H3 D (.lst (ys ++ [y])))
   else Pv (i + 1) ys H2)
  (hd : ∀ ys H, Pv n ys H → Q (.ref D) H) : mP tt te bc σ Q (MY lo n) H1 D :=
 uM (J := MY lo n) (Q := Q) (D := D) (H1 := H1) n hn (fun i => .int (lo + i)) Pv h0 (fun _ _ _ => aar _) (fun _ _ _ _ h => h) (fun _ _ _ _ _ _ _ y => y) hD hs hd
theorem jQ {K : aaa} {a : aaC} {xs : List V} {D : aaC} (hn : xs.length < aai) (Pv : Nat → List V → Hp → Prop) (h0 : Pv 0 [] (upd H1 D (.lst [])))
  (hl : ∀ i ys H, Pv i ys H → aH K H a xs) (hD : ∀ i ys H, Pv i ys H → H D = some (.lst ys) ∧ ys.length ≤ i)
  (hs : ∀ i ys H, i < xs.length → Pv i ys H → tt (cD σ (some (xs.getD i .bY)) bc) H fun b H2 =>
   if b = true then te (cD σ (some (xs.getD i .bY)) bc) H2 fun y H3 => H3 D = some (.lst ys) ∧ Pv (i + 1) (ys ++ [y]) (upd H3 D (.lst (ys ++ [y])))
   else Pv (i + 1) ys H2)
  (hd : ∀ ys H, Pv xs.length ys H → Q (.ref D) H) : mP tt te bc σ Q (IZ K a) H1 D :=
 uM (J := IZ K a) (Q := Q) (D := D) (H1 := H1) xs.length hn (fun i => xs.getD i .bY) Pv h0 (fun ys H p => ⟨xs, hl _ ys H p, aar _⟩)
  (fun i ys H p h => ⟨xs, xs[i], hl i ys H p, by simp [h]⟩) (fun i ys H x H' p h y => ⟨y.1, by
   have z := y.2 xs (hl i ys H p)
   rw [Gd9, z] <;> rfl⟩) hD hs hd
end
def Uw (x : Str) : It := ⟨fun i _ => i < x.cps.size, fun i H v H' => H' = H ∧ ∃ c, x.cps[i]? = some c ∧ v = .str ⟨#[c]⟩, fun i _ => i = x.cps.size⟩
theorem Jn {P : aaL} {w : aa9} {K : aaa} {tg : Expr} (ty : String) (EZ : ty = "str_ascii_iterator" ∨ ty = "str_iterator") (it : aaC) (x : Str) (t : Tok) :
  Turn P w K tg (Uw x) [it] it (fun i h => h.IsStrIter it ty x t i) where
 mem := by simp
 obj := fun i h st b hb => by
  have e : b = it := by simpa using hb
  subst e
  obtain ⟨o, e, c, d⟩ := st
  exact ⟨o, e, fun v z => by rw [d] at z; cases z⟩
 keep := fun i h h' st k => by
  obtain ⟨o, e, r⟩ := st
  exact ⟨o, k it (by simp) o e, r⟩
 item := by
  intro X hP hw hK hc i pins s σ H E I hf st hg
  subst hP hw hK
  obtain ⟨f0, f1, f2, f3, f4, f5⟩ := hf it (by simp)
  have wk : Walks X.prog X.w X.A it [it] [it] x.cps.size (SignAt x) (fun i h => h.IsStrIter it ty x t i) := by
   rcases EZ with e | e
   ·subst e; exact Walks.strAscii (I.ok.hd hc) it x t
   ·subst e; exact Walks.strWide (I.ok.hd hc) it x t
  have hn : ["enumerate", "zip", "dict_itemiterator", "dict_reverseitemiterator", "odict_iterator", "itertools.zip_longest", "itertools.pairwise"].contains ty = false := by
   rcases EZ with e | e
   ·subst e; decide
   ·subst e; decide
  refine wk.item i s _ E hg st fun v h' tk hv Gu kk => ?_
  obtain ⟨c, u, hc', rfl⟩ := hv
  have I1 : Inv X pins σ H { s with heap := h', toks := tk } := I.turned (fun b o hb e => kk b o (by simpa using hb) e) f0 f1 f3 f4 f5
  obtain ⟨o, e, ec, d⟩ := id Gu
  exact ⟨_, rfl, Gs (s := { s with heap := h', toks := tk }) e ec d hn ⟨.str ⟨#[c]⟩, H, I1, ⟨u, rfl⟩, ⟨rfl, c, hc', rfl⟩, Gu, fun b hb => (hf b hb).1⟩⟩
 done := by
  intro X hP hw hK hc i pins s σ H E I hf st hg
  subst hP hw hK
  obtain ⟨f0, f1, f2, f3, f4, f5⟩ := hf it (by simp)
  have wk : Walks X.prog X.w X.A it [it] [it] x.cps.size (SignAt x) (fun i h => h.IsStrIter it ty x t i) := by
   rcases EZ with e | e
   ·subst e; exact Walks.strAscii (I.ok.hd hc) it x t
   ·subst e; exact Walks.strWide (I.ok.hd hc) it x t
  have hi : i = x.cps.size := hg
  subst hi
  exact wk.done s _ E st fun h' tk kk => ⟨rfl, I.turned (fun b o hb e => kk b o (by simpa using hb) e) f0 f1 f3 f4 f5⟩
 self := fun A i s Q E st h => by
  rcases EZ with e | e
  ·subst e; exact wpAny_pyIter_striter_ascii st h
  ·subst e; exact wpAny_pyIter_striter_wide st h
def VJ (tl : TE) : TI := fun σ H R => tl σ H fun x H1 => ∃ z, x = .str z ∧ R (Uw z) H1
section
variable {X : Cx} {tg : Expr}
theorem OB {l : Expr} {tl : TE} (hl : PE X l tl) : PI X tg l (VJ tl) := by
 intro pins s σ H R I h
 refine thn (hl pins s σ H _ I h) fun v s1 ⟨x, H1, I1, r1, q1⟩ => ?_
 obtain ⟨z, e, q⟩ := q1
 subst e
 obtain ⟨t, rfl⟩ := r1
 have fin : ∀ ty, (ty = "str_ascii_iterator" ∨ ty = "str_iterator") → Uq X pins σ tg R (.ref s1.heap.objs.size) { s1 with heap := s1.heap.push { cls := .type ty, data := .fields #[.str z t, .int 0 0] } } := fun ty EZ => by
  refine ⟨s1.heap.objs.size, [s1.heap.objs.size], _, _, H1, rfl, I1.kept (t' := s1.toks) fun b o e => aav _ e, Jn ty EZ _ z t, ⟨_, aa0 _ rfl, rfl, rfl⟩, fun b hb => ?_, q⟩
  have e : b = s1.heap.objs.size := by simpa using hb
  subst e
  exact I1.Hq (aar _) (I1.hok.fresh (aar _))
 cases ha : z.cps.all (· < 128)
 ·exact wpAny_pyIter_wide ha (fin _ (.inr rfl))
 ·exact wpAny_pyIter_ascii ha (fin _ (.inl rfl))
end
theorem Jo {tt : TT} {te : TE} {bc : List Nat} {σ : St} {H1 : Hp} {Q : VK} {x : Str} {D : aaC} (hn : x.cps.size < aai) (Pv : Nat → List V → Hp → Prop) (h0 : Pv 0 [] (upd H1 D (.lst [])))
  (hD : ∀ i ys H, Pv i ys H → H D = some (.lst ys) ∧ ys.length ≤ i)
  (hs : ∀ i ys H, i < x.cps.size → Pv i ys H → tt (cD σ (some (.str ⟨#[x.cps.getD i 0]⟩)) bc) H fun b H2 =>
   if b = true then te (cD σ (some (.str ⟨#[x.cps.getD i 0]⟩)) bc) H2 fun y H3 => H3 D = some (.lst ys) ∧ Pv (i + 1) (ys ++ [y]) (upd H3 D (.lst (ys ++ [y])))
   else Pv (i + 1) ys H2)
  (hd : ∀ ys H, Pv x.cps.size ys H → Q (.ref D) H) : mP tt te bc σ Q (Uw x) H1 D :=
 uM (J := Uw x) (Q := Q) (D := D) (H1 := H1) x.cps.size hn (fun i => .str ⟨#[x.cps.getD i 0]⟩) Pv h0 (fun _ _ _ => rfl) (fun _ _ _ _ h => h)
  (fun i ys H v H' p h y => ⟨y.1, by
   obtain ⟨c, e, rfl⟩ := y.2
   rw [ac1, e] <;> rfl⟩) hD hs hd
section
variable {X : Cx}
theorem vh {zs : List Str} : ∀ {us : List aad}, Vals (zs.map V.str) us → StrsAre us zs := by
 induction zs with
 | nil => intro us r; rw [ab0] at r; cases r; exact .nil
 | cons z zs ih =>
  intro us r
  rw [aa3] at r
  cases r with
  | cons r1 r2 =>
   obtain ⟨t, e⟩ := r1
   subst e
   exact .cons z t (ih r2)
def rJoin (K : aaa) : V → List V → Hp → VK → Prop := fun x vs H Q => ∃ sep l zs, x = .str sep ∧ vs = [.ref l] ∧ (aH K H l (zs.map V.str) ∨ cK K H l (zs.map V.str)) ∧ (zs.map (·.length)).sum + zs.length * sep.length ≤ 16777216 ∧ Q (.str (adh sep zs)) H
theorem bV : Lq X "str.join" (rJoin X.K) := by
 intro pins s σ H x vs v us Q I rx rv h
 obtain ⟨sep, l, zs, rfl, rfl, hq, hz, q⟩ := h
 obtain ⟨t, rfl⟩ := rx
 obtain ⟨u, rfl, ru⟩ := vals1 rv
 cases ru
 rcases hq with hq | hq
 ·obtain ⟨its, r', pl, _⟩ := I.list hq
  exact join_list (items := its.toArray) pl.isList (vh r') hz fun t' k => ⟨.str _, H, I.tok _, ⟨t', rfl⟩, q⟩
 ·obtain ⟨its, r', pl, _⟩ := I.tuple hq
  exact join_tuple (items := its.toArray) pl (vh r') hz fun t' k => ⟨.str _, H, I.tok _, ⟨t', rfl⟩, q⟩
theorem C5 {bs : List Bool} : ∀ {us : List aad}, Vals (bs.map V.bl) us → us = bs.map acV := by
 induction bs with
 | nil => intro us r; rw [ab0] at r; cases r; rfl
 | cons z zs ih =>
  intro us r
  rw [aa3] at r
  cases r with
  | cons r1 r2 =>
   have e : _ = acV z := r1
   rw [e, ih r2]
   rfl
theorem all_range (bs : List Bool) : ((abj bs.length).all fun i => (bs[i]?).getD true) = bs.all id := by
 rw [abW, aaS, aaS]
 constructor
 ·intro h b hb
  obtain ⟨i, hi, rfl⟩ := aec hb
  have z := h i (abU.mpr hi)
  simpa [hi] using z
 ·intro h i hi
  have hi' := abU.mp hi
  have z := h _ (aaq hi')
  simpa [hi'] using z
theorem Jp : gT X (.builtin "all") (fun xs H Q => ∃ (p : aaC) (bs : List Bool), xs = [.ref p] ∧ X.calm = true ∧ aH X.K H p (bs.map V.bl) ∧ Q (.bl (bs.all id)) H) := by
 intro pins s σ H xs us Q I r h
 obtain ⟨p, bs, rfl, hc, hq, q⟩ := h
 obtain ⟨u, rfl, rx⟩ := vals1 r
 cases rx
 obtain ⟨its, r', pl, hz⟩ := I.list hq
 have ei := C5 r'
 have rB : p < s.heap.objs.size := by
  obtain ⟨_, e, _⟩ := pl.isList
  exact aaT e
 refine call_all_walk (wpAny_pyIter_list pl.isList ?_)
 refine ⟨s.heap.objs.size, [s.heap.objs.size, p], [s.heap.objs.size], its.toArray.size, _, _, fun i => (bs[i]?).getD true, rfl, Walks.list (A := X.A.in1) (I.ok.hd hc) _ p (abe rB) its.toArray,
  ⟨⟨_, aa0 _ rfl, rfl, rfl⟩, pl.isList.push _⟩, fun i v s' Q' E' hP hQ => ?_, fun h' tk hk => ?_⟩
 ·have hP' : its[i]? = some v := by simpa using hP
  rw [ei, aa2] at hP'
  cases hb : bs[i]? with
  | none => rw [hb] at hP'; cases hP'
  | some b =>
   rw [hb] at hP'
   have ev : acV b = v := aa4 hP'
   subst ev
   simp only [hb, adB] at hQ
   exact wpAny_truthy_bool hQ
 ·have el : its.toArray.size = bs.length := by rw [aaB, ei, Lm9]
  rw [el, all_range]
  refine ⟨.bl (bs.all id), H, I.kept (t' := tk) fun b o e => hk b o (fun hm => ?_) (aav _ e), rfl, q⟩
  rw [aak.mp hm] at e
  exact ach _ (aaT e)
theorem mQ : gT X (.builtin "isinstance") (fun xs H Q => ∃ (x : V) (n : String) (t : aad) (b : Bool), xs = [x, .ty n] ∧ mO X.K H x t ∧ abC X.K t (.type n) = some b ∧ Q (.bl b) H) := by
 intro pins s σ H xs us Q I r h
 obtain ⟨x, n, t, b, rfl, ty, e, q⟩ := h
 obtain ⟨u, u2, rfl, rx, ru⟩ := vals2 r
 have e2 : u2 = Value.type n := ru
 subst e2
 exact yT I rx ty e fun tk => ⟨.bl b, H, I.tok _, rfl, q⟩
end
end L2
namespace L2
open PySem PySem.Spec PyProof.Rows
section
variable {X : Cx}
def VL : V → Option Int → Option Int → Hp → VK → Prop := fun x lo hi H Q => ∃ z, x = .str z ∧ z.length ≤ aai ∧ Q (.str (acz z lo hi)) H
theorem part_of {v : aad} {o : Option Int} (p : IsPart v o) : ∃ q : Option (Int × Tok), v = partValue q ∧ q.map (·.1) = o := by
 cases p with
 | none => exact ⟨none, rfl, rfl⟩
 | int i t => exact ⟨some (i, t), rfl, rfl⟩
theorem kh : Q1 X VL := by
 intro pins s σ H x v vl vu lo hi sl Q I rx hs pl pu h
 obtain ⟨z, rfl, hz, q⟩ := h
 obtain ⟨t, rfl⟩ := rx
 obtain ⟨ql, rfl, el⟩ := part_of pl
 obtain ⟨qu, rfl, eu⟩ := part_of pu
 refine ⟨"str", _, F.slot_str_getitem.lookup, typeIs_str _ _ _, wpAny_getItem_str_slice (l := ql) (u := qu) (st := none) hs rfl ?_⟩
 have e : sliceMade z t ql qu none = if ((1 : Int) == 1 && (ac2 lo hi 1 z.length).length == z.length) = true then .val (.str z t) else .str ⟨((ac2 lo hi 1 z.length).filterMap (z.cps[·]?)).toArray⟩ := by
  unfold sliceMade slicePicked
  rw [el, eu]
  rfl
 rw [e]
 exact post_val_or_str ⟨aa8 (Txt.slice_le z lo hi) hz, fun t' k => ⟨.str (acz z lo hi), H, I.tok _, ⟨t', rfl⟩, q⟩⟩
theorem Jq {z : Str} {j : Int} (h0 : 0 ≤ j) (h1 : j ≤ z.length) : (acz z none (some j)).cps.toList = z.cps.toList.take j.toNat := by
 have e := eq_of_beq (slice_closes_toL (x := z) h0 h1)
 rw [e]
 simp
theorem HC {z : Str} {i j : Int} (h0 : 0 ≤ i) (h1 : i ≤ j) (h2 : j ≤ z.length) : (acz z (some i) (some j)).cps.toList = (z.cps.toList.drop i.toNat).take (j - i).toNat := by
 have e := eq_of_beq (slice_closesL (x := z) h0 h1 h2)
 rw [e]
end
inductive Dt where
 | bY | bl (b : Bool) | int (i : Int) | str (x : Str) | tup (ds : List Dt)
 deriving Inhabited
inductive tM (K : aaa) (H : Hp) : Dt → V → Prop
 | bY : tM K H .bY .bY
 | bl (b : Bool) : tM K H (.bl b) (.bl b)
 | int (i : Int) : tM K H (.int i) (.int i)
 | str (x : Str) : tM K H (.str x) (.str x)
 | tup {ds : List Dt} {xs : List V} {a : aaC} (h : cK K H a xs) (l : ds.length = xs.length) (r : ∀ (i : Nat) (h1 : i < ds.length) (h2 : i < xs.length), tM K H ds[i] xs[i]) : tM K H (.tup ds) (.ref a)
mutual
def Dt.deep : Dt → Nat
 | .tup ds => Dt.mR ds + 1
 | _ => 0
def Dt.mR : List Dt → Nat
 | [] => 0
 | d :: r => max (Dt.deep d) (Dt.mR r)
end
theorem ph : ∀ {ds : List Dt} {i : Nat} (h : i < ds.length), (ds[i]).deep ≤ Dt.mR ds
 | d :: r, 0, _ => by
  show d.deep ≤ max (Dt.deep d) (Dt.mR r)
  omega
 | d :: r, i + 1, h => by
  have z := ph (ds := r) (i := i) (by simpa using h)
  show (r[i]'(by simpa using h)).deep ≤ max (Dt.deep d) (Dt.mR r)
  omega
mutual
def EH : Dt → Dt → Bool
 | .bY, .bY => true
 | .bl a, .bl b => a == b
 | .bl a, .int b => (if a then 1 else 0) == b
 | .int a, .bl b => a == (if b then 1 else 0)
 | .int a, .int b => a == b
 | .str a, .str b => a == b
 | .tup a, .tup b => vi a b
 | _, _ => false
def vi : List Dt → List Dt → Bool
 | [], [] => true
 | a :: r, b :: q => EH a b && vi r q
 | _, _ => false
end
theorem ki : ∀ (a b : List Dt), ((abj (min a.length b.length)).all (fun i => EH (a.getD i .bY) (b.getD i .bY)) && a.length == b.length) = vi a b
 | [], [] => by unfold vi; rfl
 | [], b :: q => by unfold vi; simp
 | a :: r, [] => by unfold vi; simp
 | a :: r, b :: q => by
  have ih := ki r q
  rw [vi, ← ih]
  have e : min (a :: r).length (b :: q).length = min r.length q.length + 1 := by simp only [aag]; omega
  rw [e, List.range_succ_eq_map, abc, aeA]
  have e2 : ((a :: r).length == (b :: q).length) = (r.length == q.length) := by simp
  rw [e2, Bool.and_assoc]
  rfl
theorem Jr {K : aaa} {H : Hp} {X : Cx} {pins : List (aaC × Obj)} {σ : St} {s : aaf} (I : Inv X pins σ H s) (hK : X.K = K) :
  ∀ (n : Nat) {d e : Dt} {x : V}, d.deep ≤ n → tM K H d x → tM K H e x → EH d e = true := by
 subst hK
 intro n
 induction n with
 | zero =>
  intro d e x hd h1 h2
  cases h1 with
  | bY => cases h2; rfl
  | bl a => cases h2; show (a == a) = true; exact beq_self_eq_true a
  | int a => cases h2; show (a == a) = true; exact beq_self_eq_true a
  | str a => cases h2; show (a == a) = true; exact beq_self_eq_true a
  | tup h l r => exact absurd hd (by simp [Dt.deep])
 | succ n ih =>
  intro d e x hd h1 h2
  cases h1 with
  | @tup ds xs a h l r =>
   cases h2 with
   | @tup es ys b h' l' r' =>
    have hx : xs = ys := I.rG h h'
    subst hx
    show vi ds es = true
    rw [← ki, aaN, aaS]
    refine ⟨fun j hj => ?_, by rw [l, l']; simp⟩
    have hj' := abU.mp hj
    have g1 : ds.getD j .bY = ds[j]'(by omega) := by simp [Gd9, (show j < ds.length by omega)]
    have g2 : es.getD j .bY = es[j]'(by omega) := by simp [Gd9, (show j < es.length by omega)]
    rw [g1, g2]
    refine ih ?_ (r j (by omega) (by omega)) (r' j (by omega) (by omega))
    have z := ph (ds := ds) (i := j) (by omega)
    have hd' : Dt.mR ds + 1 ≤ n + 1 := hd
    omega
  | bY => exact ih (by simp [Dt.deep]) .bY h2
  | bl a => exact ih (by simp [Dt.deep]) (.bl a) h2
  | int a => exact ih (by simp [Dt.deep]) (.int a) h2
  | str a => exact ih (by simp [Dt.deep]) (.str a) h2
theorem Js {K : aaa} {H : Hp} {X : Cx} {pins : List (aaC × Obj)} {σ : St} {s : aaf} (I : Inv X pins σ H s) (hK : X.K = K) :
  ∀ (n : Nat) (A : aba) {d e : Dt} {x y : V} {u v : aad}, d.deep ≤ n → A.units + n < cLine → tM K H d x → tM K H e y → RelV x u → RelV y v → aev A s u v (EH d e) := by
 subst hK
 intro n
 induction n with
 | zero =>
  intro A d e x y u v hd hu h1 h2 ru rv
  cases h1 with
  | bY =>
   cases ru
   cases h2 with
   | bY => cases rv; exact adN _
   | bl b => cases rv; exact adT b
   | int b => obtain ⟨t, rfl⟩ := rv; exact ad4 b t
   | str b => obtain ⟨t, rfl⟩ := rv; exact ad5 b t
   | tup h l r => cases rv; obtain ⟨its, _, p, _⟩ := I.tuple h; exact SeqAt.EqAt.none_tuple p (by omega)
  | bl a =>
   cases ru
   cases h2 with
   | bY => cases rv; exact adU a
   | bl b => cases rv; exact adV a b
   | int b => obtain ⟨t, rfl⟩ := rv; exact ad6 a b t
   | str b => obtain ⟨t, rfl⟩ := rv; exact ad7 a b t
   | tup h l r => cases rv; obtain ⟨its, _, p, _⟩ := I.tuple h; exact SeqAt.EqAt.bool_tuple a p (by omega)
  | int a =>
   obtain ⟨t', rfl⟩ := ru
   cases h2 with
   | bY => cases rv; exact ad8 a t'
   | bl b => cases rv; exact ad9 a t' b
   | int b => obtain ⟨t, rfl⟩ := rv; exact ael a t' b t
   | str b => obtain ⟨t, rfl⟩ := rv; exact adb a t' b t
   | tup h l r => cases rv; obtain ⟨its, _, p, _⟩ := I.tuple h; exact SeqAt.EqAt.int_tuple a t' p (by omega)
  | str a =>
   obtain ⟨t', rfl⟩ := ru
   cases h2 with
   | bY => cases rv; exact aea a t'
   | bl b => cases rv; exact aeb a t' b
   | int b => obtain ⟨t, rfl⟩ := rv; exact ade a t' b t
   | str b => obtain ⟨t, rfl⟩ := rv; exact aem a t' b t
   | tup h l r => cases rv; obtain ⟨its, _, p, _⟩ := I.tuple h; exact SeqAt.EqAt.str_tuple a t' p (by omega)
  | tup h l r => exact absurd hd (by simp [Dt.deep])
 | succ n ih =>
  intro A d e x y u v hd hu h1 h2 ru rv
  cases h1 with
  | @tup ds xs a h l r =>
   cases ru
   obtain ⟨its, r1, p1, _⟩ := I.tuple h
   cases h2 with
   | bY => cases rv; exact SeqAt.EqAt.tuple_none p1 (by omega)
   | bl b => cases rv; exact SeqAt.EqAt.tuple_bool b p1 (by omega)
   | int b => obtain ⟨t, rfl⟩ := rv; exact SeqAt.EqAt.tuple_int b t p1 (by omega)
   | str b => obtain ⟨t, rfl⟩ := rv; exact SeqAt.EqAt.tuple_str b t p1 (by omega)
   | @tup es ys b h' l' r' =>
    cases rv
    obtain ⟨d9, r2, p2, _⟩ := I.tuple h'
    have HD := r1.length
    have HE := r2.length
    have key : SeqAt.RcAt A s (.ref a) (.ref b) ((abj (min its.toArray.size d9.toArray.size)).all (fun i => EH (ds.getD i .bY) (es.getD i .bY)) && its.toArray.size == d9.toArray.size) := by
     refine SeqAt.RcAt.tuples p1 p2 (by omega) fun j j1 j2 => ?_
     have YV : j < its.length := by simpa using j1
     have YW : j < d9.length := by simpa using j2
     have hx := r j (by omega) (by omega)
     have hy := r' j (by omega) (by omega)
     obtain ⟨u1, e1, q1⟩ := r1.get (i := j) (x := xs[j]) (by simp)
     obtain ⟨u2, e2, q2⟩ := r2.get (i := j) (x := ys[j]) (by simp)
     have c1 : its.toArray[j] = u1 := by
      have z := aaj.mp e1
      simpa using z.2
     have c2 : d9.toArray[j] = u2 := by
      have z := aaj.mp e2
      simpa using z.2
     rw [c1, c2]
     have g1 : ds.getD j .bY = ds[j] := by simp [Gd9, (show j < ds.length by omega)]
     have g2 : es.getD j .bY = es[j] := by simp [Gd9, (show j < es.length by omega)]
     rw [g1, g2]
     refine ih A.in1 ?_ (by show A.units + 1 + n < cLine; omega) hx hy q1 q2
     have z := ph (ds := ds) (i := j) (by omega)
     have hd' : Dt.mR ds + 1 ≤ n + 1 := hd
     omega
    have e0 : ((abj (min its.toArray.size d9.toArray.size)).all (fun i => EH (ds.getD i .bY) (es.getD i .bY)) && its.toArray.size == d9.toArray.size) = EH (.tup ds) (.tup es) := by
     rw [aaB, aaB, ← HD, ← HE, ← l, ← l']
     rw [ki]
     rfl
    rw [e0] at key
    by_cases hab : a = b
    ·subst hab
     have hx : xs = ys := I.rG h h'
     subst hx
     have ed : EH (.tup ds) (.tup es) = true := Jr I rfl (n + 1) hd (.tup h l r) (.tup h' l' r')
     rw [ed]
     exact adN _
    ·exact SeqAt.EqAt.of_refs hab key
  | bY => exact ih A (by simp [Dt.deep]) (by omega) .bY h2 ru rv
  | bl a => exact ih A (by simp [Dt.deep]) (by omega) (.bl a) h2 ru rv
  | int a => exact ih A (by simp [Dt.deep]) (by omega) (.int a) h2 ru rv
  | str a => exact ih A (by simp [Dt.deep]) (by omega) (.str a) h2 ru rv
theorem cK.same {K : aaa} {H H' : Hp} (e : ah H H') {a : aaC} {xs : List V} (h : cK K H a xs) : cK K H' a xs := by
 rcases h with (h | ⟨o, h⟩) | h
 ·exact .inl (.inl (e _ _ h))
 ·exact .inl (.inr ⟨o, e _ _ h⟩)
 ·exact .inr h
end L2
namespace L2
open PySem PySem.Spec PyProof.Rows
section
variable {P : aaL} {w : aa9} {K : aaa} {mg : Str → Option aad} {base : Heap} {N : List Str} {qual : Str} {scope : Scope} {f : aaC} {cd : aad} {A : aba} {outer : List Env} {s₀ : aaf} {H₀ : Hp} {E : XK}
end
section
variable {P : aaL} {w : aa9} {K : aaa} {mg : Str → Option aad} {base : Heap} {N : List Str} {qual : Str} {scope : Scope} {f : aaC} {cd : aad} {A : aba} {outer : List Env} {s₀ : aaf} {H₀ : Hp} {E : XK}
end
section
variable {X : Cx} {k : Nat} {f C : aaC} {fd : abd} {ps : List Str} {sp : Sp} {rL : List V} {ds : List aad} {x : Str} {p pos : Pos} {e : Expr} {es : List Expr} {t : TA} {pn : List (aaC × Obj)} {R : aad → St → Hp → Prop}
end
end L2
namespace L2
open PySem PySem.Spec PyProof.Rows
def br (P : aaL) (w : aa9) (K : aaa) (mg : Str → Option aad) (base : Heap) (x : Str) (k : Nat) (ps : List Str) (sp : Sp) : Prop :=
 ∃ f fd, a4 P w K mg base da k f fd ps sp ∧ Binds K fd ps [] ∧ ab5 K (.ref f) = true ∧ mg x = some (.ref f)
def LW (P : aaL) (w : aa9) (K : aaa) (mg : Str → Option aad) (base : Heap) (x : Str) (C : aaC) (k : Nat) (ps : List Str) (sp : Sp) : Prop :=
 ∃ f fd, Mk K C f ∧ a4 P w K mg base da k f fd ps sp ∧ Binds K fd ps [] ∧ mg x = some (.ref C)
def Met (P : aaL) (w : aa9) (K : aaa) (mg : Str → Option aad) (base : Heap) (C : aaC) (m : Str) (k : Nat) (ps : List Str) (sp : Sp) : Prop :=
 ∃ f fd, CM K C ∧ Meth K C m f ∧ a4 P w K mg base da k f fd ps sp ∧ Binds K fd ps []
section
variable {X : Cx} {k : Nat} {C : aaC} {ps : List Str} {sp : Sp} {x m : Str} {p pos apos : Pos} {e o : Expr} {es : List Expr} {ta : TE} {t : TA}
theorem ak (c : br X.prog X.w X.K X.mg X.base x k ps sp) (hr : dD k X.A) (hg : Gl X x) (ha : PA X (e :: es) t) (ET : (x == ("__debug__" : Str)) = false := by decide) (he : starEach (e :: es) X.env = (false, eval e X.env) :: starEach es X.env := by rfl) (hpl : (backTo pos (starEach es X.env)).any (·.1) = false := by rfl) :
  PE X (.Call (.Name x p) (e :: es) [] pos) (GC sp [] E0 t) := by
 obtain ⟨f, fd, F, b, kp, mg⟩ := c
 exact LL F hr hg mg kp b .nil vd ha ET he hpl
theorem qy (c : LW X.prog X.w X.K X.mg X.base x C k ps sp) (hr : dD (k + 1) X.A) (hg : Gl X x) (ha : PA X (e :: es) t) (ET : (x == ("__debug__" : Str)) = false := by decide) (he : starEach (e :: es) X.env = (false, eval e X.env) :: starEach es X.env := by rfl) (hpl : (backTo pos (starEach es X.env)).any (·.1) = false := by rfl) :
  PE X (.Call (.Name x p) (e :: es) [] pos) (M5 C sp [] E0 t) := by
 obtain ⟨f, fd, M, F, b, mg⟩ := c
 exact LN M F hr hg mg b .nil vd ha ET he hpl
theorem Rb {pl : Sem Bool} (he : PE X o ta) (c : Met X.prog X.w X.K X.mg X.base C m k ps sp) (hr : dD k X.A) (ha : PA X (e :: es) t)
  (M6 : starEach (e :: es) X.env = (false, eval e X.env) :: starEach es X.env := by rfl) (hpl : (backTo pos (starEach es X.env)).any (·.1) = false := by rfl)
  (ht : eval (.Call (.Attribute o m apos) (e :: es) [] pos) X.env = (do
   let ov ← eval o X.env
   standAt apos.atName
   let (f, first) ← holding [ov] (getMethod ov m pl)
   callWith pos f first (backTo pos (starEach (e :: es) X.env)) (backToKw pos (keywordEach [] X.env))) := by rfl) :
  PE X (.Call (.Attribute o m apos) (e :: es) [] pos) (GD C m sp [] E0 ta t) := by
 obtain ⟨f, fd, cl, M, F, b⟩ := c
 exact LM he cl M F hr b .nil vd ha M6 hpl ht
theorem y1 {pl : Sem Bool} (he : PE X o ta) (c : Met X.prog X.w X.K X.mg X.base C m k ps sp) (hr : dD k X.A)
  (ht : eval (.Call (.Attribute o m apos) [] [] pos) X.env = (do
   let ov ← eval o X.env
   standAt apos.atName
   let (f, first) ← holding [ov] (getMethod ov m pl)
   callWith pos f first (backTo pos (starEach [] X.env)) (backToKw pos (keywordEach [] X.env))) := by rfl) :
  PE X (.Call (.Attribute o m apos) [] [] pos) (GD C m sp [] E0 ta Hv) := by
 obtain ⟨f, fd, cl, M, F, b⟩ := c
 exact Jd he cl M F hr b .nil vd ht
def OC (X : Cx) (m : Str) (k : Nat) (ta : TE) (t : TA) : TE := fun σ H Q => ta σ H fun x H1 => ∃ a C dx fs ps sp, x = .ref a ∧ H1 a = some (.ins C dx fs) ∧ fs.lookup m = none ∧
 Met X.prog X.w X.K X.mg X.base C m k ps sp ∧ t σ H1 fun vs H2 => sp (x :: vs) H2 Q E0
theorem y2 {pl : Sem Bool} (he : PE X o ta) (hr : dD k X.A)
  (ht : eval (.Call (.Attribute o m apos) [] [] pos) X.env = (do
   let ov ← eval o X.env
   standAt apos.atName
   let (f, first) ← holding [ov] (getMethod ov m pl)
   callWith pos f first (backTo pos (starEach [] X.env)) (backToKw pos (keywordEach [] X.env))) := by rfl) :
  PE X (.Call (.Attribute o m apos) [] [] pos) (OC X m k ta Hv) := by
 intro pins s σ H Q I h
 refine acb (pl := pl) (thn (he pins s σ H _ I h) fun u s1 ⟨x, H1, I1, rx, a, C, dx, fs, ps, sp, ex, ea, l, ⟨f, fd, cl, M, F, b⟩, q⟩ => ?_) ht
 subst ex
 obtain rfl : u = aa5 a := rx
 refine ka I1 ea cl M l ?_
 exact ad3 (first := [.ref a]) I1.qj M.kp (u9 (us := [.ref a]) (vs := [.ref a]) F hr b .nil vd I1 (.cons rfl .nil) q)
theorem qz : gT X (.builtin "isinstance") (fun xs H Q => ∃ (x : V) (C : aaC) (t : aad) (b : Bool), xs = [x, .ref C] ∧ mO X.K H x t ∧ abC X.K t (.ref C) = some b ∧ Q (.bl b) H) := by
 intro pins s σ H xs us Q I r h
 obtain ⟨x, C, t, b, rfl, ty, e, q⟩ := h
 obtain ⟨u, u2, rfl, rx, ru⟩ := vals2 r
 have e2 : u2 = aa5 C := ru
 subst e2
 exact yT I rx ty e fun tk => ⟨.bl b, H, I.tok _, rfl, q⟩
theorem Jt {K : aaa} {T C : aaC} {b : Bool} (hc : adP K C = true) (ht : adk K (.ref C) = some (.type "type")) (hs : aej K C (.ref C) = some true) (hm : aej K T (.ref C) = some b) :
  abC K (.ref T) (.ref C) = some b := by
 unfold abC
 split
 ·rename_i h
  have e : aa5 T = aa5 C := beq_iff_eq.mp h
  injection e with e
  subst e
  rw [hs] at hm
  exact hm
 ·unfold PySem.W.kitCls
  have hc' : (PySem.W.clsIn K C).isSome = true := hc
  simp only [hc', ht, beq_self_eq_true, Bool.and_self, if_true]
  exact hm
def OD : V → List V → Hp → VK → Prop := fun x vs H Q => ∃ z, x = .str z ∧ vs = [] ∧ Q (.bl (aed z)) H
theorem E5 : Lq X "str.isupper" OD := by
 intro pins s σ H x xs v us Q I rx rs h
 obtain ⟨z, rfl, rfl, q⟩ := h
 obtain ⟨t, rfl⟩ := (show ∃ t, v = abw z t from rx)
 cases rs
 exact SC.isupper ⟨.bl (aed z), H, I, rfl, q⟩
end
end L2
namespace L2
open PySem PySem.Spec PyProof.Rows
section
variable {X : Cx}
theorem y3 : ∀ {l : List (Str × Tok)} {zs : List Str}, l.map (·.1) = zs → Vals (zs.map V.str) (strValues l)
 | [], _, e => by subst e; exact .nil
 | p :: r, _, e => by
  subst e
  exact .cons ⟨p.2, rfl⟩ (y3 rfl)
def OE : V → List V → Hp → VK → Prop := fun x vs H Q => ∃ z y, x = .str z ∧ vs = [.str y] ∧ (y.length == 0) = false ∧ z.length ≤ aai ∧ (acA z y).length ≤ aai ∧ ∀ l, H l = none → Q (.ref l) (upd H l (.lst ((acA z y).map V.str)))
open Builtin Builtin.Str in
theorem Ju {prog : aaL} {w : aa9} {A : aba} {E : aad → aaf → Prop} {s : aaf} {x y : Str} {t u : Tok} {Q : aad → aaf → Prop} (hy : (y.length == 0) = false) (hsz : x.length ≤ aai) (hsz2 : (acA x y).length ≤ aai)
  (h : ∀ l k, l.map (·.1) = acA x y → Q (.ref s.heap.objs.size) { s with heap := s.heap.push { cls := .type "list", data := .seq (strValues l).toArray }, toks := k }) :
  aaZ (model prog w) A (call (.builtin "str.split") [.str x t, .str y u]) Q E s := by
 unfold acA at hsz2 h
 cases h1 : (decide (x.length < y.length) || decide (strKind x < strKind y))
 ·rw [if_neg (ne_true_of_eq_false h1)] at hsz2 h
  cases hf : (occurrences x y 0 x.length (x.length + 1)).isEmpty
  ·rw [if_neg (ne_true_of_eq_false hf)] at hsz2 h
   refine call_meets ab8 (typeIs_str _ _ _) acB (acw _ _) (meets_str_split_sep x y t u h1 hy hf hsz hsz2) ?_
   show wants Q E _ { s with toks := _, heap := s.heap.push { cls := .type "list", data := .seq (strsFrom s.toks (partsBetween x (occurrences x y 0 x.length (x.length + 1)) y.length)).toArray } }
   rw [strsFrom_eq]
   exact h (numbered s.toks _) _ (numbered_texts _ _)
  ·rw [if_pos hf] at h
   exact call_meets ab8 (typeIs_str _ _ _) acB (acw _ _) (meets_str_split_not_found x y t u h1 hy hf) (h [(x, t)] s.toks rfl)
 ·rw [if_pos h1] at h
  exact call_meets ab8 (typeIs_str _ _ _) acB (acw _ _) (meets_str_split_cannot_occur x y t u h1) (h [(x, t)] s.toks rfl)
theorem Jv : Lq X "str.split" OE := by
 intro pins s σ H x vs v us Q I rx rv h
 obtain ⟨z, y, rfl, rfl, hy, h1, h2, q⟩ := h
 obtain ⟨t, rfl⟩ := rx
 obtain ⟨u, rfl, t', rfl⟩ := vals1 rv
 refine Ju hy h1 h2 fun l k e => ?_
 have hf : H s.heap.objs.size = none := I.hok.fresh (aar _)
 refine ⟨.ref s.heap.objs.size, upd H s.heap.objs.size (.lst ((acA z y).map V.str)), I.laid (t' := k) (fun b u e => aav _ e) (aar _) ?_, rfl, q _ hf⟩
 exact ⟨by rw [Lm9]; exact h2, strValues l, 0, y3 e, aa0 _ rfl⟩
def OG : V → List V → Hp → VK → Prop := fun x vs H Q => ∃ z y, x = .str z ∧ vs = [.str y] ∧ z.length ≤ aai ∧ Q (.str (ad0 z y)) H
theorem Jw : Lq X "str.strip" OG := by
 intro pins s σ H x vs v us Q I rx rv h
 obtain ⟨z, y, rfl, rfl, h1, q⟩ := h
 obtain ⟨t, rfl⟩ := rx
 obtain ⟨u, rfl, t', rfl⟩ := vals1 rv
 exact SC.stripChars (fun t2 k => ⟨.str _, H, I.tok _, ⟨t2, rfl⟩, q⟩) h1
theorem xu : gT X (.type "int") (fun xs H Q => ∃ z n, xs = [.str z] ∧ PySem.intText? z = some n ∧ z.length ≤ 640 ∧ Q (.int n) H) := by
 intro pins s σ H xs us Q I r h
 obtain ⟨z, n, rfl, hn, hl, q⟩ := h
 obtain ⟨u, rfl, t, rfl⟩ := vals1 r
 exact PySem.W.KIN.call_text hn hl ⟨.int n, H, I.tok _, ⟨_, rfl⟩, q⟩
end
end L2
namespace L2
open PySem PySem.Spec PyProof.Rows
theorem rN {M : Model} {A : aba} {E : aad → aaf → Prop} {s : aaf} {β : Type} {n : Nat} (f : Nat → β → Sem (ForInStep β)) (I : Nat → β → aaf → Prop) (Q : β → aaf → Prop) {b : β}
  (turn : ∀ i b s', i < n → I i b s' → aaZ M A (f i b) (fun r Oj => match r with | .done b' => Q b' Oj | .yield b' => I (i + 1) b' Oj) E s')
  (fin : ∀ b s', I n b s' → Q b s') (h : I 0 b s) : aaZ M A (forIn [0:n] b f) Q E s := by
 rw [Std.Legacy.Range.forIn_eq_forIn_range']
 have hsz : ([0:n] : aeD).size = n := by simp [Std.Legacy.Range.size]
 show aaZ M A (forIn (List.range' 0 ([0:n] : aeD).size 1) b f) Q E s
 rw [hsz]
 refine wpAny_forIn_list f (fun rest b s' => ∃ i, i ≤ n ∧ rest = List.range' i (n - i) 1 ∧ I i b s') Q ?_ ?_ _ _ ⟨0, abm _, by simp, h⟩
 ·rintro x rest b s' ⟨i, hi, er, hI⟩
  have rB : i < n := by
   cases e : n - i with
   | zero => rw [e] at er; cases er
   | succ m => omega
  have e2 : n - i = (n - (i + 1)) + 1 := by omega
  rw [e2, List.range'_succ] at er
  injection er with e3 e4
  subst e3
  refine wpAny_mono (turn x b s' rB hI) (fun r Oj q => ?_) fun _ _ q => q
  cases r with
  | done b' => exact q
  | yield b' => exact ⟨x + 1, rB, e4, q⟩
 ·rintro b s' ⟨i, hi, er, hI⟩
  have : i = n := by
   cases e : n - i with
   | zero => omega
   | succ m => rw [e, List.range'_succ] at er; cases er
  subst this
  exact fin b s' hI
open SeqAt in
theorem xw (l : aaC) (items : Array aad) (n : Nat) (dd : Option aaC) (sl : Array (Option aad)) (x : aad) (e : aad → Bool) (j : Nat) (hj : j < items.size) (hit : e items[j] = true) (Lp : ∀ m (hm : m < items.size), m < j → e items[m] = false) :
  Meets (Builtin.«tuple.index» ⟨[.ref l, x], []⟩)
   (fun A R s => s.heap.get? l = some { cls := .type "tuple", dict := dd, data := .seq items n, slots := sl } ∧ (∀ y, y ∈ items → EqAt A.in1 s y x (e y)) ∧ R (.ok (.ret (.int (j : Nat) s.toks))) { s with toks := s.toks + 1 }) :=
 .of_wp fun prog w A R s h => by
  obtain ⟨hp, g, d, tk, os⟩ := s; obtain ⟨hl, he, h⟩ := h
  wp_walk using wpAny_loadPart' hl, rN _ (fun i b s' => b.1 = none ∧ s' = ⟨hp, g, d, tk, os⟩ ∧ i ≤ j) _
  case turn =>
   rintro i b s' hi ⟨hb, rfl, hij⟩
   have hi' : i < items.size := by omega
   rw [Array.getElem?_eq_getElem hi']
   refine aau (he items[i] (Array.getElem_mem hi') prog w _ _ ?_)
   by_cases hy : i = j
   ·subst hy
    rw [hit]
    wp_walk
    exact ⟨_, rfl, h⟩
   ·rw [Lp i hi' (by omega)]
    wp_walk
    exact ⟨rfl, rfl, by omega⟩
  case fin =>
   rintro ⟨b1, b2⟩ s' ⟨hb, rfl, hij⟩
   omega
  case h =>
   exact ⟨rfl, rfl, abm _⟩
end L2
namespace L2
open PySem PySem.Spec PyProof.Rows
theorem LX {tt : TT} {te : TE} {bc : List Nat} {σ : St} {H1 : Hp} {Q : VK} {K : aaa} {a : aaC} {xs : List V} {D : aaC} (hn : xs.length < aai) (xt : H1 D = none) (hl : aH K H1 a xs) (kp : V → Bool) (f : V → V)
  (ht : ∀ x H' R, x ∈ xs → ah H1 H' → (∀ qA, ah H' qA → R (kp x) qA) → tt (cD σ (some x) bc) H' R)
  (he : ∀ x H' R, x ∈ xs → kp x = true → ah H1 H' → (∀ qA, ah H' qA → R (f x) qA) → te (cD σ (some x) bc) H' R)
  (hd : ∀ H', ah H1 H' → H' D = some (.lst ((xs.filter kp).map f)) → Q (.ref D) H') : mP tt te bc σ Q (IZ K a) H1 D := by
 refine jQ (K := K) (a := a) (xs := xs) hn (fun i ys H' => ah H1 H' ∧ H' D = some (.lst ys) ∧ ys = ((xs.take i).filter kp).map f) ⟨fun b o e => by rw [aA (aN e xt)]; exact e, ae, rfl⟩
  (fun i ys H' p => p.1.seq hl) (fun i ys H' p => ⟨p.2.1, ?_⟩) (fun i ys H' hi p => ?_) (fun ys H' p => ?_)
 ·rw [p.2.2, Lm9]
  refine aa8 (acf _ _) ?_
  rw [aaH]
  omega
 ·have hx : xs.getD i .bY = xs[i] := by rw [Gd9, Ge9 hi]; rfl
  rw [hx]
  have hm : xs[i] ∈ xs := aaq hi
  have step : ∀ b, kp xs[i] = b → ((xs.take (i + 1)).filter kp).map f = ((xs.take i).filter kp).map f ++ (if b = true then [f xs[i]] else []) := fun b hb => by
   rw [aap hi, abK, aan]
   cases b with
   | true => rw [if_pos rfl]; simp [hb]
   | false => rw [if_neg (by decide)]; simp [hb]
  refine ht _ _ _ hm p.1 fun H2 s2 => ?_
  cases hb : kp xs[i] with
  | true =>
   refine dq ?_
   refine he _ _ _ hm hb (ah.trans p.1 s2) fun H3 s3 => ?_
   refine ⟨s3 _ _ (s2 _ _ p.2.1), fun b o e => ?_, ae, ?_⟩
   ·rw [aA (aN e xt)]
    exact s3 _ _ (s2 _ _ (p.1 _ _ e))
   ·rw [step true hb, if_pos rfl, p.2.2]
  | false =>
   refine bb ⟨ah.trans p.1 s2, s2 _ _ p.2.1, ?_⟩
   rw [step false hb, if_neg (by decide), aaU]
   exact p.2.2
 ·rw [p.2.2, abb] at p
  exact hd H' p.1 p.2.1
end L2
namespace HT
open PySem PySem.Spec PyProof.Rows
section
variable {prog : aaL} {w : aa9} {A : aba} {E : aad → aaf → Prop} {s : aaf}
theorem qB {t sl : aaC} {items : Array aad} {vl vu : aad} {lo hi : Option Int} {Q : aad → aaf → Prop} (ht : IsTup s.heap t items) (hs : s.heap.IsSliceOf sl vl vu .none) (pl : IsPart vl lo) (pu : IsPart vu hi)
  (hw : d6 items.size 0 lo = 0 ∧ d6 items.size items.size hi = items.size) (h : Q (.ref t) s) : aaZ (model prog w) A (getItem (.ref t) (.ref sl)) Q E s := by
 obtain ⟨os, LO, CY, QZ⟩ := id hs
 have Vx : s.TypeIs (.ref sl) "slice" := ⟨os, LO, CY⟩
 unfold getItem
 try with_reducible refine wpAny_holding ?_
 first | refine aau (aaO ?_) | skip
 refine aau (wpAny_sequenceKey ht.typeIs (by decide) ?_)
 refine aau (wpAny_callSpecial?_slot (name := aab "__getitem__") ht.typeIs abg
  (wpAny_call_entry abg ht.typeIs entry_tuple_getitem ?_ (args_tuple_getitem _ _)))
 show aaZ _ _ (ada (.ref t) >>= _) _ _ s
 refine aau (tupleItemsOf_ ht ?_)
 refine aau (wpAny_typeOf Vx ?_)
 rw [if_pos (by decide)]
 refine aau (jN hs pl pu ?_)
 have VM : (((d6 items.size 0 lo : Nat) : Int) == 0 && (1 : Int) == 1 && (d6 items.size items.size hi - d6 items.size 0 lo) == items.size) = true := by
  rw [hw.1, hw.2]
  simp
 show aaZ _ _ (if (((d6 items.size 0 lo : Nat) : Int) == 0 && (1 : Int) == 1 && (d6 items.size items.size hi - d6 items.size 0 lo) == items.size) = true then _ else _) _ _ s
 rw [if_pos VM]
 unfold Builtin.Tuple.tupleIsExact
 refine aau (aau (wpAny_typeOf ht.typeIs (aaO ?_)))
 rw [if_pos (by decide)]
 refine aau (wpAny_rule ?_)
 first
  | exact aaO ⟨_, rfl, aaO h⟩
  | exact aau (aaO (aaO ⟨_, rfl, aaO h⟩))
end
end HT
namespace L2
open PySem PySem.Spec PyProof.Rows
section
variable {X : Cx}
def VN (K : aaa) : V → Option Int → Option Int → Hp → VK → Prop := fun x lo hi H Q => ∃ a xs, x = .ref a ∧ cK K H a xs ∧ ∀ p H', ah H H' → cK K H' p (kb xs lo hi) → Q (.ref p) H'
theorem LY : Q1 X (VN X.K) := by
 intro pins s σ H x v vl vu lo hi sl Q I rx hs pl pu h
 obtain ⟨a, xs, rfl, hx, q⟩ := h
 by_cases hw : HT.d6 xs.length 0 lo = 0 ∧ HT.d6 xs.length xs.length hi = xs.length
 ·cases rx
  obtain ⟨its, r, ht, hz⟩ := I.tuple hx
  have hlen : its.toArray.size = xs.length := by rw [aaB]; exact r.length.symm
  refine ⟨"tuple", _, abg.lookup, ht.typeIs, ?_⟩
  refine HT.qB ht hs pl pu (by rw [hlen]; exact hw) ⟨.ref a, H, I, rfl, q a H (ah.refl H) ?_⟩
  unfold kb
  rw [hw.1, hw.2, acM, Nat.sub_zero, abb]
  exact hx
 ·exact Om pins s σ H (.ref a) v vl vu lo hi sl Q I rx hs pl pu ⟨a, xs, rfl, hx, hw, fun p hp => q p _ (fun b o e => by rw [aA (aN e hp)]; exact e) (cK.of ae)⟩
theorem vj {xs : List V} {k : Nat} (h : k ≤ xs.length) : kb xs (some (k : Int)) none = xs.drop k := by
 unfold kb
 rw [HT.uL, HT.Jg, Nat.min_eq_left h, abp]
 rw [abf]
 omega
end
end L2
namespace L2
open PySem PySem.Spec PyProof.Rows
theorem vm (l : aaC) (xs : Array aad) (n : Nat) (b : aaC) (ys : Array aad) (k : Nat) (dd : Option aaC) (sl : Array (Option aad)) (few : ¬(!xs.isEmpty && abJ (xs.size + ys.size)) = true) (h1 : xs.size ≤ aai) (h2 : xs.size + ys.size ≤ aai + 1) :
  Meets (Builtin.«list.extend» ⟨[.ref l, .ref b], []⟩)
   (fun _ R st => st.heap.get? l = some { cls := .type "list", dict := none, data := .seq xs n, slots := #[] } ∧ st.heap.get? b = some { cls := .type "tuple", dict := dd, data := .seq ys k, slots := sl } ∧
    R (.ok (.ret adl)) { st with heap := st.heap.update l (adq fun x => x ++ ys), toks := st.toks }) :=
 .of_wp fun prog w A R st h => by
  obtain ⟨hp, gs, dr, tk, os⟩ := st
  obtain ⟨gl, gb, hR⟩ := h
  have i1 := AutoSeq1.idx_int
  have i2 := AutoSeq1.sub_tuple_tuple
  have i3 := AutoSeq1.sub_list_list
  have i4 := AutoSeq1.sub_tuple_list
  have i5 := AutoSeq1.sub_list_tuple
  have both : (xs ++ ys).size ≤ aai + 1 := by rw [Array.size_append]; exact h2
  wp_walk using (wpAny_updateSeq gl rfl (hz := h1) (_hz' := both)), ads gl, ads gb
  exact ⟨_, rfl, hR⟩
section
variable {X : Cx}
def Jy (K : aaa) : V → List V → Hp → VK → Prop := fun x vs H Q => ∃ l b xs zs, x = .ref l ∧ vs = [.ref b] ∧ H l = some (.lst xs) ∧ cK K H b zs ∧ xs.length + zs.length ≤ aai ∧ Q .bY (upd H l (.lst (xs ++ zs)))
theorem vo : Lq X "list.extend" (Jy X.K) := by
 intro pins s σ H x vs v us Q I rx rv h
 obtain ⟨l, b, xs, zs, rfl, rfl, hH, hB, hz, q⟩ := h
 cases (show v = aa5 l from rx)
 obtain ⟨u, rfl, ru⟩ := vals1 rv
 cases (show u = aa5 b from ru)
 obtain ⟨z, its, n, r, hl, e⟩ := I.Hx hH
 obtain ⟨d9, r2, pl, z2⟩ := I.tuple hB
 obtain ⟨⟨oc, od, dat, sl⟩, e2, hc, n2, hd⟩ := id pl
 simp only at hc hd
 subst hc hd
 have tL := r2.length
 have hsz : its.toArray.size + d9.toArray.size ≤ aai := by rw [aaB, aaB]; omega
 have Ji : ¬ (!its.toArray.isEmpty && abJ (its.toArray.size + d9.toArray.size)) = true := by
  rw [C0 hsz, Bool.and_false]
  exact aaz
 refine call_meets abM ⟨_, e, rfl⟩ adG (adw _ _)
  (vm l its.toArray n b d9.toArray n2 od sl Ji (by rw [aaB]; omega) (by omega)) ⟨e, e2, ?_⟩
 refine ⟨.bY, _, I.Ou (its' := its ++ d9) hH e (by simp) (r.append r2) ?_, rfl, q⟩
 rw [aac]
 omega
end
end L2
namespace L2
open PySem PySem.Spec PyProof.Rows
section
variable {X : Cx} {K : aaa} {o e : Expr} {f : Str} {pos : Pos} {ta : TE}
theorem z8 (hK : X.K = K) (he : PE X e ta) (hb : attributeBase e f X.env (eval e X.env) = eval e X.env) : PE X (.Attribute e f pos) (tFld K ta f) := by
 subst hK
 exact pe_fld he hb
def rLenK (K : aaa) : List V → Hp → VK → Prop := fun xs H Q => ∃ p ys, xs = [.ref p] ∧ (aH K H p ys ∨ cK K H p ys) ∧ Q (.int ys.length) H
theorem vp (hK : X.K = K) : gT X (.builtin "len") (rLenK K) := by
 subst hK
 exact aF
end
end L2
namespace L2
open PySem PySem.Spec PyProof.Rows
section
variable {κ : Type} [DecidableEq κ]
def bQ (kvs : List (κ × V)) (k : κ) : Option V := (kvs.find? fun kv => decide (kv.1 = k)).map (·.2)
def putK (kvs : List (κ × V)) (k : κ) (v : V) : List (κ × V) :=
 if (kvs.any fun kv => decide (kv.1 = k)) = true then kvs.map (fun kv => if kv.1 = k then (kv.1, v) else kv) else kvs ++ [(k, v)]
theorem mS {p : κ × V} {r : List (κ × V)} {k : κ} (e : p.1 = k) : bQ (p :: r) k = some p.2 := by simp [bQ, abQ, e]
theorem mT {p : κ × V} {r : List (κ × V)} {k : κ} (e : ¬ p.1 = k) : bQ (p :: r) k = bQ r k := by simp [bQ, abQ, e]
theorem jR (k : κ) : ∀ kvs : List (κ × V), (kvs.any fun kv => decide (kv.1 = k)) = (bQ kvs k).isSome
 | [] => rfl
 | p :: r => by
  rw [acy]
  by_cases e : p.1 = k
  ·simp only [mS e, decide_eq_true e, Bool.true_or, Option.isSome_some]
  ·rw [mT e, decide_eq_false e, aeo]; exact jR k r
theorem mU (kvs : List (κ × V)) (k : κ) (v : V) : (putK kvs k v).length ≤ kvs.length + 1 := by
 unfold putK
 split
 ·rw [Lm9]; omega
 ·rw [aac, aag, aa6]; omega
theorem C6 {kvs : List (κ × V)} {k : κ} (v : V) (h : bQ kvs k = none) : putK kvs k v = kvs ++ [(k, v)] := by
 unfold putK
 rw [jR, h]
 exact if_neg (by decide)
theorem mK.rO {o : Option V} {u : Option aad} (r : mK o u) : o.isSome = u.isSome := by
 cases o with
 | none => cases u with
  | none => rfl
  | some _ => exact (show False from r).elim
 | some _ => cases u with
  | none => exact (show False from r).elim
  | some _ => rfl
theorem mK.getD {o : Option V} {u : Option aad} {d : V} {d' : aad} (r : mK o u) (rd : RelV d d') : RelV (o.getD d) (u.getD d') := by
 cases o with
 | none => cases u with
  | none => exact rd
  | some _ => exact (show False from r).elim
 | some _ => cases u with
  | none => exact (show False from r).elim
  | some _ => exact r
theorem KV.val {kvs : List (κ × V)} {vs : List (κ × aad)} (r : KV kvs vs) (k : κ) : mK (bQ kvs k) (valueAt vs k) := by
 unfold KV at r
 induction r with
 | nil => exact ab6
 | @cons p q ps qs h t ih =>
  obtain ⟨h1, h2⟩ := h
  by_cases e : p.1 = k
  ·have e' : q.1 = k := h1.symm.trans e
   have b : valueAt (q :: qs) k = some q.2 := by simp [valueAt, abQ, e']
   rw [mS e, b]; exact h2
  ·have e' : ¬ q.1 = k := fun z => e (h1.trans z)
   have b : valueAt (q :: qs) k = valueAt qs k := by simp [valueAt, abQ, e']
   rw [mT e, b]; exact ih
theorem KV.any {kvs : List (κ × V)} {vs : List (κ × aad)} (r : KV kvs vs) (k : κ) : (kvs.any fun kv => decide (kv.1 = k)) = vs.any fun kv => decide (kv.1 = k) := by
 unfold KV at r
 induction r with
 | nil => rfl
 | cons h t ih => rw [acy, acy, ih, h.1]
theorem KV.OH {kvs : List (κ × V)} {vs : List (κ × aad)} (r : KV kvs vs) (k : κ) {y : V} {u : aad} (ry : RelV y u) :
  KV (kvs.map fun kv => if kv.1 = k then (kv.1, y) else kv) (vs.map fun kv => if kv.1 = k then (kv.1, u) else kv) := by
 unfold KV at r ⊢
 induction r with
 | nil => exact .nil
 | @cons p q ps qs h t ih =>
  rw [aa3, aa3]
  refine .cons ?_ ih
  obtain ⟨h1, h2⟩ := h
  by_cases e : p.1 = k
  ·rw [if_pos e, if_pos (h1.symm.trans e)]; exact ⟨h1, ry⟩
  ·rw [if_neg e, if_neg (fun z => e (h1.trans z))]; exact ⟨h1, h2⟩
theorem KV.put {kvs : List (κ × V)} {vs : List (κ × aad)} (r : KV kvs vs) (k : κ) {y : V} {u : aad} (ry : RelV y u) : KV (putK kvs k y) (stored vs k u) := by
 unfold putK stored
 rw [r.any k]
 by_cases e : (vs.any fun kv => decide (kv.1 = k)) = true
 ·rw [if_pos e, if_pos e]; exact r.OH k ry
 ·rw [if_neg e, if_neg e]; exact aeF r ⟨rfl, ry⟩
theorem KV.keys {kvs : List (κ × V)} {vs : List (κ × aad)} (r : KV kvs vs) : kvs.map (·.1) = vs.map (·.1) := by
 unfold KV at r
 induction r with
 | nil => rfl
 | cons h t ih => rw [aa3, aa3, ih, h.1]
theorem KV.length {kvs : List (κ × V)} {vs : List (κ × aad)} (r : KV kvs vs) : kvs.length = vs.length := aam r
end
theorem y4 {P : aaL} {w : aa9} {k : Key} {u : aad} (r : RelV (kV k) u) : (bM P w).is k u = true := by
 cases k with
 | inl i => obtain ⟨t, e⟩ := (show ∃ t, u = aeg i t from r); subst e; exact CO P w i t
 | inr x => obtain ⟨t, e⟩ := (show ∃ t, u = abw x t from r); subst e; exact CP P w x t
theorem y6 {P : aaL} {w : aa9} : ∀ {ks : List Key} {us : List aad}, Vals (ks.map kV) us → ItemsAre (bM P w) ks us
 | [], _, r => by rw [ab0] at r; cases r; exact .nil
 | k :: ks, _, r => by
  rw [aa3] at r
  cases r with
  | cons h t => exact .cons (y4 h) (y6 t)
abbrev KT (H : Hp) : List (List Key × V) → List (List Key × aaC × aad) → Prop := Paired fun p q => p.1 = q.1 ∧ H q.2.1 = some (.tup (p.1.map kV)) ∧ RelV p.2 q.2.2
theorem KT.val {H : Hp} {kvs : List (List Key × V)} {xs : List (List Key × aaC × aad)} (r : KT H kvs xs) (k : List Key) : mK (bQ kvs k) ((atKey xs k).map (·.2)) := by
 induction r with
 | nil => exact ab6
 | @cons p q ps qs h t ih =>
  obtain ⟨h1, _, h2⟩ := h
  by_cases e : p.1 = k
  ·have e' : q.1 = k := h1.symm.trans e
   have b : atKey (q :: qs) k = some q.2 := by simp [atKey, abQ, e']
   rw [mS e, b]; exact h2
  ·have e' : ¬ q.1 = k := fun z => e (h1.trans z)
   have b : atKey (q :: qs) k = atKey qs k := by simp [atKey, abQ, e']
   rw [mT e, b]; exact ih
theorem KT.OH {H : Hp} {kvs : List (List Key × V)} {xs : List (List Key × aaC × aad)} (r : KT H kvs xs) (k : List Key) {y : V} {u : aad} (ry : RelV y u) :
  KT H (kvs.map fun kv => if kv.1 = k then (kv.1, y) else kv) (xs.map (putAt k u)) := by
 induction r with
 | nil => exact .nil
 | @cons p q ps qs h t ih =>
  rw [aa3, aa3]
  refine .cons ?_ ih
  obtain ⟨h1, h2, h3⟩ := h
  unfold putAt
  by_cases e : p.1 = k
  ·rw [if_pos e, if_pos (h1.symm.trans e)]; exact ⟨h1, h2, ry⟩
  ·rw [if_neg e, if_neg (fun z => e (h1.trans z))]; exact ⟨h1, h2, h3⟩
theorem KT.put {H : Hp} {kvs : List (List Key × V)} {xs : List (List Key × aaC × aad)} (r : KT H kvs xs) (k : List Key) {b : aaC} {y : V} {u : aad} (hb : H b = some (.tup (k.map kV))) (ry : RelV y u) :
  KT H (putK kvs k y) (storedH xs k b u) := by
 have e : (kvs.any fun kv => decide (kv.1 = k)) = (atKey xs k).isSome := by
  rw [jR, (r.val k).rO, aew]
 unfold putK storedH
 rw [e]
 by_cases q : (atKey xs k).isSome = true
 ·rw [if_pos q, if_pos q]; exact r.OH k ry
 ·rw [if_neg q, if_neg q]; exact aeF r ⟨rfl, hb, ry⟩
theorem KT.keeps {H H' : Hp} {kvs : List (List Key × V)} {xs : List (List Key × aaC × aad)} (r : KT H kvs xs) (ht : ∀ b ys, H b = some (.tup ys) → H' b = some (.tup ys)) : KT H' kvs xs :=
 Paired.d8 r fun _ _ z => ⟨z.1, ht _ _ z.2.1, z.2.2⟩
section
variable {P : aaL} {w : aa9} {H : Hp} {h : Heap} {a : aaC}
theorem M7 {u : HO} (ok : pS P w H h) (e : Rd H a u) : cO P w H h a u := e.ok ok
theorem y7 {kvs : List (Key × V)} (ok : pS P w H h) (e : Rd H a (.dK kvs)) : kvs.length ≤ aai ∧ (a == sysModules) = false ∧ ∃ vs, KV kvs vs ∧ h.DictOf (bM P w) a vs :=
 show cO P w H h a (.dK kvs) from M7 ok e
theorem M8 {kvs : List (Key × V)} (ok : pS P w H h) (e : H a = some (.dK kvs)) : kvs.length ≤ aai ∧ (a == sysModules) = false ∧ ∃ vs, KV kvs vs ∧ h.DictOf (bM P w) a vs := y7 ok (.inl e)
theorem vq {ks : List Key} (ok : pS P w H h) (e : H a = some (.tup (ks.map kV))) : (tupleKind (bM P w)).is h ks a := by
 obtain ⟨_, its, r, o, h1, h2, n, h3⟩ := (show cO P w H h a (.tup (ks.map kV)) from ok a _ e)
 exact ⟨o, its.toArray, n, h1, h2, h3, by simpa using y6 r⟩
theorem y8 {kvs : List (List Key × V)} (ok : pS P w H h) (e : Rd H a (.dT kvs)) : kvs.length ≤ aai ∧ (a == sysModules) = false ∧
  ∃ xs, KT H kvs xs ∧ h.DictOfH (tupleKind (bM P w)) a xs := by
 obtain ⟨z, y, xs, r, o, es, ep, h1, h2, h3, h4, h5⟩ := (show cO P w H h a (.dT kvs) from M7 ok e)
 refine ⟨z, y, xs, r, o, es, ep, h1, h2, h3, h4, fun x hx => ?_, h5⟩
 have all : ∀ {l : List (List Key × V)} {m : List (List Key × aaC × aad)}, KT H l m → ∀ x ∈ m, (tupleKind (bM P w)).is h x.1 x.2.1 := by
  intro l m q
  induction q with
  | nil => intro x hx; exact nomatch hx
  | @cons p q ps qs hq t ih =>
   intro x hx
   rcases aaF.mp hx with e | hx
   ·subst e
    exact vq ok (by rw [← hq.1]; exact hq.2.1)
   ·exact ih x hx
 exact all r x hx
theorem Rc {kvs : List (List Key × V)} (ok : pS P w H h) (e : H a = some (.dT kvs)) : kvs.length ≤ aai ∧ (a == sysModules) = false ∧
  ∃ xs, KT H kvs xs ∧ h.DictOfH (tupleKind (bM P w)) a xs := y8 ok (.inl e)
end
def kj (H : Hp) (a : aaC) (y : V) (r : Option V) : Prop :=
 (∃ kvs k, Rd H a (.dK kvs) ∧ y = kV k ∧ r = bQ kvs k) ∨ ∃ kvs k b, Rd H a (.dT kvs) ∧ y = .ref b ∧ H b = some (.tup (k.map kV)) ∧ r = bQ kvs k
def HF (H : Hp) (a : aaC) (y v : V) (H' : Hp) : Prop :=
 (∃ kvs k, H a = some (.dK kvs) ∧ y = kV k ∧ kvs.length < aai ∧ H' = upd H a (.dK (putK kvs k v))) ∨
 ∃ kvs k b, H a = some (.dT kvs) ∧ y = .ref b ∧ H b = some (.tup (k.map kV)) ∧ kvs.length < aai ∧ H' = upd H a (.dT (putK kvs k v))
theorem kj.k {H : Hp} {a : aaC} {kvs : List (Key × V)} {k : Key} (e : H a = some (.dK kvs)) : kj H a (kV k) (bQ kvs k) := .inl ⟨kvs, k, .inl e, rfl, rfl⟩
theorem HF.k {H : Hp} {a : aaC} {kvs : List (Key × V)} {k : Key} {v : V} (e : H a = some (.dK kvs)) (hl : kvs.length < aai) : HF H a (kV k) v (upd H a (.dK (putK kvs k v))) := .inl ⟨kvs, k, e, rfl, hl, rfl⟩
section
variable {X : Cx} {pins : List (aaC × Obj)} {σ : St} {H : Hp} {s : aaf} {a : aaC} {y v : V} {u r : aad} {o : Option V} {A : aba} {E : aad → aaf → Prop}
theorem Inv.big (I : Inv X pins σ H s) : sysModules < s.heap.objs.size := by
 have h : aah < s.heap.objs.size := (I.mod.glob.keeps I.bk).lt
 exact Nat.lt_trans (by decide) h
theorem HG {Q : aad → aaf → Prop} (hu : A.units + 1 < cLine) (I : Inv X pins σ H s) (g : kj H a y (some v)) (ry : RelV y u) (h : ∀ w' s', Inv X pins σ H s' → RelV v w' → Q w' s') :
  aaZ (model X.prog X.w) A (getItem (.ref a) u) Q E s := by
 rcases g with ⟨kvs, k, e, ey, l⟩ | ⟨kvs, k, b, e, ey, eb, l⟩
 ·subst ey
  obtain ⟨z, hd, vs, rel, dd⟩ := y7 I.hok e
  obtain ⟨w', hw, EW⟩ := mK.some_of (v := v) (o := valueAt vs k) (by rw [l]; exact rel.val k)
  exact wpAny_getItem_of (y4 ry) dd.mapOf hw (h w' _ (I.tok _) EW)
 ·subst ey
  cases (show u = aa5 b from ry)
  obtain ⟨z, hd, xs, rel, dd⟩ := y8 I.hok e
  obtain ⟨w', hw, EW⟩ := mK.some_of (v := v) (o := (atKey xs k).map (·.2)) (by rw [l]; exact rel.val k)
  obtain ⟨p, hp, Qe⟩ := Option.map_eq_some_iff.mp hw
  refine wpAny_getItem_heap (tupleKind_room_in1 hu) (vq I.hok eb) dd hp ?_
  rw [Qe]
  exact h w' _ (I.tok _) EW
theorem LZ {Q : aad → aaf → Prop} (hu : A.units + 1 < cLine) (I : Inv X pins σ H s) (g : kj H a y o) (ry : RelV y u) (h : ∀ s', Inv X pins σ H s' → Q (.bool (!o.isSome)) s') :
  aaZ (model X.prog X.w) A (compareOp .NotIn u (.ref a)) Q E s := by
 rcases g with ⟨kvs, k, e, ey, l⟩ | ⟨kvs, k, b, e, ey, eb, l⟩
 ·subst ey
  obtain ⟨z, hd, vs, rel, dd⟩ := y7 I.hok e
  refine wpAny_notIn_of (y4 ry) hd dd.mapOf ?_
  rw [← (rel.val k).rO, ← l]
  exact h _ (I.tok _)
 ·subst ey
  cases (show u = aa5 b from ry)
  obtain ⟨z, hd, xs, rel, dd⟩ := y8 I.hok e
  refine wpAny_notIn_heap (tupleKind_room_in1 hu) (vq I.hok eb) hd dd ?_
  have q := (rel.val k).rO
  rw [aew] at q
  rw [← q, ← l]
  exact h _ (I.tok _)
theorem GL {h' : Heap} {t' : Nat} {ob : HO} (I : Inv X pins σ H s) (mu : Qx (H a)) (hs : adK a s.heap h') (he : ∃ q, h'.get? a = some q) (new : cO X.prog X.w (upd H a ob) h' a ob) :
  Inv X pins σ (upd H a ob) { s with heap := h', toks := t' } :=
 I.write (x := a) (e := a) mu (.inl rfl) (fun b q hb z => (hs.2 b hb).trans z) he new
theorem OI {P : aaL} {w : aa9} {H' : Hp} {h' : Heap} {kvs : List (Key × V)} {vs : List (Key × aad)} (z : kvs.length ≤ aai) (hd : (a == sysModules) = false) (rel : KV kvs vs) (dd : h'.DictOf (bM P w) a vs) :
  cO P w H' h' a (.dK kvs) := ⟨z, hd, vs, rel, dd⟩
theorem HH {H' : Hp} {Q : Unit → aaf → Prop} (hu : A.units + 1 < cLine) (I : Inv X pins σ H s) (g : HF H a y v H') (ry : RelV y u) (rv : RelV v r) (h : ∀ s', Inv X pins σ H' s' → Q () s') :
  aaZ (model X.prog X.w) A (setItem (.ref a) u r) Q E s := by
 rcases g with ⟨kvs, k, e, ey, l, eH⟩ | ⟨kvs, k, b, e, ey, eb, l, eH⟩
 ·subst ey eH
  obtain ⟨z, hd, vs, rel, dd⟩ := M8 I.hok e
  have hz : vs.length ≤ aai := by rw [← rel.length]; exact z
  have hl : (putK kvs k v).length ≤ aai := by have := mU kvs k v; omega
  refine wpAny_setItem_pairs (hsz := hz) (y4 ry) dd fun h' Ux hs => h _ ?_
  have he : ∃ q, h'.get? a = some q := let ⟨q, _, _, hq, _⟩ := Ux; ⟨q, hq⟩
  exact GL I (by rw [e]; exact ab6) hs he (OI hl hd (rel.put k rv) Ux)
 ·subst ey eH
  cases (show u = aa5 b from ry)
  obtain ⟨z, hd, xs, rel, dd⟩ := Rc I.hok e
  have hz : xs.length ≤ aai := by rw [← aam rel]; exact z
  have hl : (putK kvs k v).length ≤ aai := by have := mU kvs k v; omega
  refine wpAny_setItem_heap (hsz := hz) (tupleKind_room_in1 hu) (vq I.hok eb) dd fun h' Ux hs => h _ ?_
  obtain ⟨q, es, ep, hq, h2, h3, h4, _, h5⟩ := Ux
  refine GL I (by rw [e]; exact ab6) hs ⟨q, hq⟩ ⟨hl, hd, _, (rel.put k eb rv).keeps fun c ys ec => ?_, q, es, ep, hq, h2, h3, h4, h5⟩
  rw [aA (CQ ec e (fun z => nomatch z))]
  exact ec
end
section
variable {X : Cx} {pins : List (aaC × Obj)} {σ : St} {H : Hp} {s : aaf} {a : aaC} {kvs : List (Key × V)} {k : Key} {u : aad} {A : aba} {E : aad → aaf → Prop}
end
def Rf (i : Expr) : Prop := ∀ ov iv, subscripted i false ov iv = operate [ov, iv] (getItem ov iv)
theorem L0 {prog : aaL} {w : aa9} {A : aba} {E : aad → aaf → Prop} {s : aaf} {env : Env} {value slice : Expr} {pos : Pos} {T id : String} {Q : aad → aaf → Prop}
  (hl : typeLookup (.type T) "__getitem__" = pure (some (.builtin id))) (hs : Rf slice)
  (h : aaZ (model prog w) A (eval value env) (fun o s₁ => aaZ (model prog w) A (eval slice env) (fun i s₂ => s₂.TypeIs o T ∧ aaZ (model prog w) A (getItem o i) Q E s₂) E s₁) E s) :
  aaZ (model prog w) A (eval (.Subscript value slice pos) env) Q E s := by
 refine Subscript_ (wpAny_mono h (fun o s₁ h₁ => wpAny_mono h₁ (fun i s₂ h₂ => ?_) fun _ _ x => x) fun _ _ x => x)
 obtain ⟨hT, h₂⟩ := h₂
 unfold subscriptTail
 refine aau ?_
 rw [getitemInPython_of_ne hT.not_modules]
 refine aau (wpAny_specialOf hT hl ?_)
 have fin : aaZ (model prog w) A (subscripted slice false o i) (fun r s₃ => aaZ (model prog w) A (letTemporaryGo value o r >>= fun _ => pure r) Q E s₃) E s₂ := by
  rw [hs o i]
  exact wpAny_operating (wpAny_mono h₂ (fun r s₃ h₃ => aau (wpAny_letTemporaryGo (aaO h₃))) fun _ _ x => x)
 first
  | exact aaO (aau fin)
  | exact aau (aaO (aau fin))
  | exact aau fin
theorem C7 {X : Cx} {pins : List (aaC × Obj)} {σ : St} {H : Hp} {s : aaf} {a : aaC} {y : V} {o : Option V} (I : Inv X pins σ H s) (g : kj H a y o) : s.TypeIs (.ref a) "dict" := by
 rcases g with ⟨kvs, k, e, _, _⟩ | ⟨kvs, k, b, e, _, _, _⟩
 ·obtain ⟨_, _, vs, _, dd⟩ := y7 I.hok e
  exact dd.typeIs
 ·obtain ⟨_, _, xs, _, dd⟩ := y8 I.hok e
  exact dd.typeIs
def Rg (td ty : TE) : TE := fun σ H Q => td σ H fun x H1 => ty σ H1 fun y H2 => ∃ a v, x = .ref a ∧ kj H2 a y (some v) ∧ Q v H2
def L1 (ty td : TE) : TE := fun σ H Q => ty σ H fun y H1 => td σ H1 fun x H2 => ∃ a o, x = .ref a ∧ kj H2 a y o ∧ Q (.bl (!o.isSome)) H2
def Rh (td ty tv : TE) : TS := fun D σ H => tv σ H fun v H1 => td σ H1 fun x H2 => ty σ H2 fun y H3 => ∃ a H4, x = .ref a ∧ HF H3 a y v H4 ∧ D.nx σ H4
section
variable {X : Cx} {o i e value : Expr} {pos pos' QV : Pos} {td ty tv : TE}
theorem L3 (hu : X.A.units + 1 < cLine) (ho : PE X o td) (hi : PE X i ty) (hs : Rf i) : PE X (.Subscript o i pos) (Rg td ty) := by
 intro pins s σ H Q I h
 refine L0 PySem.F.slot_dict_getitem.lookup hs (thn (ho pins s σ H _ I h) fun u s1 ⟨x, H1, I1, rx, q1⟩ => thn (hi pins s1 σ H1 _ I1 q1) fun iv s2 ⟨y, H2, I2, ry, a, v, ex, g, q2⟩ => ?_)
 subst ex
 obtain rfl : u = aa5 a := rx
 exact ⟨C7 I2 g, HG hu I2 g ry fun w' s3 I3 EW => ⟨v, H2, I3, EW, q2⟩⟩
theorem rP (hu : X.A.units + 1 < cLine) (hi : PE X i ty) (ho : PE X o td) : PC X .NotIn i o (L1 ty td) := by
 intro pins s σ H Q I h
 refine thn (hi pins s σ H _ I h) fun iv s1 ⟨y, H1, I1, ry, q1⟩ => thn (ho pins s1 σ H1 _ I1 q1) fun u s2 ⟨x, H2, I2, rx, a, ov, ex, g, q2⟩ => ?_
 subst ex
 obtain rfl : u = aa5 a := rx
 exact LZ hu I2 g ry fun s3 I3 => ⟨.bl (!ov.isSome), H2, I3, rfl, q2⟩
theorem GN (hu : X.A.units + 1 < cLine) (ho : PE X o td) (hi : PE X i ty) (hv : PE X value tv) (hs : swapsWith value (some (.Subscript o i pos')) pos.line X.env = pure false) :
  PS X (.Assign [.Subscript o i pos'] value pos) (Rh td ty tv) := by
 intro pins s σ H D I h
 refine wpAny_Assign_Subscript (thn (hv pins s σ H _ I h) fun r s1 ⟨v, H1, I1, rv, q1⟩ => thn (ho pins s1 σ H1 _ I1 q1) fun u s2 ⟨x, H2, I2, rx, q2⟩ => thn (hi pins s2 σ H2 _ I2 q2) fun iv s3 ⟨y, H3, I3, ry, a, H4, ex, g, q3⟩ => ?_) hs
 subst ex
 obtain rfl : u = aa5 a := rx
 exact HH hu I3 g ry rv fun s4 I4 => ⟨σ, H4, I4, q3⟩
end
theorem Jz {P : aaL} {w : aa9} {H : Hp} (h : Heap) (hb : sysModules < h.objs.size) : cO P w H (h.push { cls := .type "dict", data := .dict #[] }) h.objs.size (.dK []) :=
 ⟨abm _, beq_eq_false_iff_ne.mpr (acp (abe hb)), [], .nil, aeG h⟩
def OJ : TE := fun _ H Q => ∀ p, H p = none → Q (.ref p) (upd H p (.dK []))
section
variable {X : Cx} {pos : Pos}
theorem C8 : PE X (.Dict [] [] pos) OJ := fun pins s σ H Q I h =>
 wpAny_Dict_empty ⟨.ref s.heap.objs.size, _, I.laid (a := s.heap.objs.size) (o := .dK []) (t' := s.toks) (fun _ _ q => aav _ q) (aar _) (Jz s.heap I.big), rfl, h _ (I.hok.fresh (aar _))⟩
end
def i6 (kvs more : List (Key × V)) : List (Key × V) := more.foldl (fun acc kv => putK acc kv.1 kv.2) kvs
structure M2 (X : Cx) (o : Expr) (m : Str) (apos : Pos) (e f : Expr) (cpos : Pos) : Prop where
 base : attributeBase o m X.env (eval o X.env) = eval o X.env
 few : ((backTo cpos (starEach [e, f] X.env)).all (fun x => !x.1) && (backToKw cpos (keywordEach [] X.env)).all (fun x => x.1.isSome)
  && decide (([e, f] : List Expr).length + ([] : List Keyword).length + (if ([] : List Keyword).isEmpty then 0 else 1) < 30)) = true
 line : (apos.endLine == cpos.line) = true
 trees : backTo cpos (starEach [e, f] X.env) = [(false, eval e X.env), (false, eval f X.env)]
def Ri (H : Hp) (a : aaC) : Prop := (∃ kvs, Rd H a (.dK kvs)) ∨ ∃ kvs, Rd H a (.dT kvs)
theorem L4 {X : Cx} {pins : List (aaC × Obj)} {σ : St} {H : Hp} {s : aaf} {a : aaC} (I : Inv X pins σ H s) (d : Ri H a) :
  s.TypeIs (.ref a) "dict" ∧ (∀ b, aa5 a = .ref b → ∃ ob, s.heap.get? b = some ob ∧ ob.dict = none) ∧ (a == sysModules) = false := by
 rcases d with ⟨kvs, e⟩ | ⟨kvs, e⟩
 ·obtain ⟨_, hd, vs, _, dd⟩ := y7 I.hok e
  refine ⟨dd.typeIs, fun b q => ?_, hd⟩
  cases q
  obtain ⟨ob, _, _, h1, h2, _⟩ := dd
  exact ⟨ob, h1, h2.2.1⟩
 ·obtain ⟨_, hd, xs, _, dd⟩ := y8 I.hok e
  refine ⟨dd.typeIs, fun b q => ?_, hd⟩
  cases q
  obtain ⟨ob, _, _, h1, h2, _⟩ := dd
  exact ⟨ob, h1, h2.2.1⟩
section
variable {X : Cx} {pins : List (aaC × Obj)} {σ : St} {H : Hp} {s : aaf} {a : aaC} {y d : V} {u r : aad} {o : Option V} {A : aba} {E : aad → aaf → Prop}
theorem OK {Q : aad → aaf → Prop} (hu : A.units + 1 < cLine) (I : Inv X pins σ H s) (g : kj H a y o) (ry : RelV y u) (rd : RelV d r) (h : ∀ w' s', Inv X pins σ H s' → RelV (o.getD d) w' → Q w' s') :
  aaZ (model X.prog X.w) A (call (.builtin "dict.get") [.ref a, u, r]) Q E s := by
 rcases g with ⟨kvs, k, e, ey, l⟩ | ⟨kvs, k, b, e, ey, eb, l⟩
 ·subst ey
  obtain ⟨z, hd, vs, rel, dd⟩ := y7 I.hok e
  refine call_meetsIn acO dd.typeIs adH (ady _ _ _) (meets_dict_get_default (bM X.prog X.w) a (y4 ry) hd r) ⟨_, dd.mapOf, h _ _ (I.tok _) ?_⟩
  rw [l]
  exact (rel.val k).getD rd
 ·subst ey
  cases (show u = aa5 b from ry)
  obtain ⟨z, hd, xs, rel, dd⟩ := y8 I.hok e
  refine call_meetsIn acO dd.typeIs adH (ady _ _ _) (meetsH_dict_get_default (tupleKind (bM X.prog X.w)) a b hd r) ⟨tupleKind_room_in1 hu, k, xs, vq I.hok eb, dd, h _ _ (I.tok _) ?_⟩
  rw [l]
  exact (rel.val k).getD rd
end
def OL (td ty tx : TE) : TE := fun σ H Q => td σ H fun x H1 => ∃ a, x = .ref a ∧ Ri H1 a ∧ ty σ H1 fun y H2 => tx σ H2 fun z H3 => ∃ o, kj H3 a y o ∧ Q (o.getD z) H3
section
variable {X : Cx} {o e f : Expr} {apos cpos : Pos} {td ty tx : TE}
theorem mV (hu : X.A.units + 1 < cLine) (ho : PE X o td) (he : PE X e ty) (hf : PE X f tx) (m : M2 X o "get" apos e f cpos) : PE X (.Call (.Attribute o "get" apos) [e, f] [] cpos) (OL td ty tx) := by
 intro pins s σ H Q I h
 refine wpAny_Call_method m.base m.few m.line PySem.F.plainAttrs_dict acO PySem.F.type_dict_get (thn (ho pins s σ H _ I h) fun u s1 ⟨x, H1, I1, rx, a, ex, d, q1⟩ => ?_)
 subst ex
 obtain rfl : u = aa5 a := rx
 obtain ⟨t1, t2, _⟩ := L4 I1 d
 refine ⟨t1, t2, ?_⟩
 rw [m.trees]
 refine ab7 rfl (acS (abR (thn (he pins s1 σ H1 _ I1 q1) fun iv s2 ⟨y, H2, I2, ry, q2⟩ =>
  abR (thn (hf pins s2 σ H2 _ I2 q2) fun fv s3 ⟨z, H3, I3, rz, ov, g, q3⟩ => ado ?_))))
 exact OK hu I3 g ry rz fun w' s4 I4 EW => ⟨_, H3, I4, EW, q3⟩
end
section
variable {X : Cx} {pins : List (aaC × Obj)} {σ : St} {H : Hp} {s : aaf} {a : aaC} {kvs : List (Key × V)} {A : aba} {E : aad → aaf → Prop}
end
section
variable {X : Cx} {pins : List (aaC × Obj)} {σ : St} {H : Hp} {s : aaf} {a : aaC} {y : V} {u : aad} {A : aba} {E : aad → aaf → Prop}
end
end L2
namespace L2
open PySem PySem.Spec PyProof.Rows
section
variable {X : Cx}
end
section
variable {κ : Type} [DecidableEq κ]
theorem L5 {kvs : List (κ × V)} {k : κ} {v : V} (h : bQ kvs k = some v) : k ∈ kvs.map (·.1) := by
 have q : (kvs.any fun kv => decide (kv.1 = k)) = true := by
  rw [jR, h]
  all_goals rfl
 obtain ⟨p, hp, e⟩ := adC.mp q
 exact aat.mpr ⟨p, hp, of_decide_eq_true e⟩
end
end L2
namespace L2
open PySem PySem.Spec PyProof.Rows
theorem OM {prog : aaL} {w : aa9} {A : aba} {E : aad → aaf → Prop} {s : aaf} {a : aaC} {o : Obj} {xs : Array aad} {k : Nat} {Q : Option aad → aaf → Prop}
  (hx : s.heap.get? a = some o) (hc : o.cls = .type "list") (Rj : o.data = .seq xs k) (hd : o.dict = none) (hA : A.handled = none)
  (h : ∀ h' tk e, Heap.NewExcOf s.heap h' e "AttributeError" → Q none { s with heap := h', toks := tk }) :
  aaZ (model prog w) A (getAttr? (.ref a) "keys") Q E s := by
 obtain ⟨c, dct, dat, sl⟩ := o
 simp only at hc Rj hd
 subst hc Rj hd
 obtain ⟨hp, g, d, tk, os⟩ := s
 have hT : ∀ tk', (⟨hp, g, d, tk', os⟩ : aaf).TypeIs (.ref a) "list" := fun _ => ⟨_, hx, rfl⟩
 have f1 := sub_AttributeError
 have f3 := ab1.lookup
 have f4 := ab1.bind (.ref a)
 have f5 := am_list_getattr_none
 have hmiss : typeLookup (.type "list") "keys" = pure none := by rw [typeLookup_type, builtinLookup_eq_fast]; kernel_rfl
 unfold getAttr? getAttrBy? getAttrBy
 repeat (any_goals (first | assumption | exact hT _ | ((with_reducible show aaZ _ _ (call (Value.builtin "list.__getattribute__") _ _) _ _ _); refine call_meets ab1 (hT _) am_entry_list_getattribute (PySem.F.args_list_getattribute_2 _ _) (meets_getattribute_miss_list a xs k sl "keys" _ hmiss (by decide +kernel) (by decide)) ⟨hx, hA, fun h' tk' e hx' => ?_⟩) | wp_step))
 obtain ⟨t', u', he⟩ := hx'.there
 show aaZ _ _ (getattributeRaised _ _ _ _ _ _ _) _ _ _
 unfold getattributeRaised
 repeat (any_goals (first | assumption | wp_step))
 exact h _ _ _ hx'.of
end L2
namespace L2
open PySem PySem.Spec PyProof.Rows
theorem entry_dul : entryFor table "dict.update.loop" = some Builtin.«dict.update.loop» := entryFor_of_tree (by kernel_rfl)
theorem plain_dul : plainId "dict.update.loop" = true := by decide +kernel
theorem paired_at {α β : Type} {F : α → β → Prop} : ∀ {l1 : List α} {l2 : List β}, Paired F l1 l2 → ∀ i (h1 : i < l1.length) (h2 : i < l2.length), F l1[i] l2[i]
 | _, _, .cons h _, 0, _, _ => h
 | _, _, .cons _ t, i + 1, h1, h2 => paired_at t i (by simpa using h1) (by simpa using h2)
theorem vr : ∀ (ps : List (Key × V)), (i6 [] ps).length ≤ ps.length := by
 have key : ∀ (ps acc : List (Key × V)), (i6 acc ps).length ≤ acc.length + ps.length := by
  intro ps
  induction ps with
  | nil => intro acc; exact aar _
  | cons p r ih =>
   intro acc
   have z := ih (putK acc p.1 p.2)
   have z2 : (putK acc p.1 p.2).length ≤ acc.length + 1 := mU acc p.1 p.2
   show (i6 (putK acc p.1 p.2) r).length ≤ _
   rw [aag]
   omega
 intro ps
 have z := key ps []
 simpa using z
section
variable {X : Cx} {pins : List (aaC × Obj)} {σ : St} {H : Hp} {s : aaf} {a it l : aaC} {ys : List V} {its : List aad} {ps : List (Key × V)}
def GO (K : aaa) (H : Hp) (ps : List (Key × V)) (ys : List V) : Prop := Paired (fun (p : Key × V) (y : V) => ∃ t, y = .ref t ∧ cK K H t [kV p.1, p.2]) ps ys
theorem L6 {A : aba} {R : Result → aaf → Prop} (I : Inv X pins σ H s) (hh : A.handled = none) (hl : s.heap.IsList l its.toArray) (rv : Vals ys its) (hP : GO X.K H ps ys) (hlen : ps.length ≤ 100000)
  (ha : s.heap.objs.size ≤ a) (VO : s.heap.objs.size ≤ it) (hne : a ≠ it)
  (fin : ∀ h' tk vs, (∀ b o, s.heap.get? b = some o → h'.get? b = some o) → h'.DictOf (bM X.prog X.w) a vs → KV (i6 [] ps) vs → R (.ok (.ret .none)) { s with heap := h', toks := tk }) :
  ∀ (k i : Nat) (h' : Heap) (tk : Nat) (vs : List (Key × aad)), its.length - i = k → i ≤ its.length → (∀ b o, s.heap.get? b = some o → h'.get? b = some o) → h'.IsListIter it l i → h'.DictOf (bM X.prog X.w) a vs → KV (i6 [] (ps.take i)) vs →
   aaZ (model X.prog X.w) A.in1 (Builtin.«dict.update.loop» ⟨[.ref a, .ref it, rawInt (i : Int), .none], []⟩) (fun fin s' => match fin with | .done f => R (.ok f) s' | .again c' => c'.quiet = true ∧ codeAny (model X.prog X.w) A c' R s') (fun e s' => R (.error e) s') { s with heap := h', toks := tk } := by
 have Rk := rv.length
 have tL := aam hP
 have lt : ∀ b o, s.heap.get? b = some o → b ≠ a ∧ b ≠ it := fun b o q => by
  exact ⟨abe (aa1 (aaT q) ha), abe (aa1 (aaT q) VO)⟩
 obtain ⟨ol, VP, tN⟩ := id hl
 intro k
 induction k with
 | zero =>
  intro i h' tk vs hk hi kp hit hD hK
  obtain rfl : i = its.length := by omega
  unfold Builtin.«dict.update.loop»
  dsimp only [rawInt]
  refine aau (wpAny_pyNext_list_end (s := { s with heap := h', toks := tk }) (A := A.in1) hh hit (show h'.IsList l its.toArray from ⟨ol, kp _ _ VP, tN⟩) (by simp) fun h2 Rm => ?_)
  dsimp only
  have pJ : h2.DictOf (bM X.prog X.w) a vs := hD.extBut Rm hne
  show aaZ _ _ (Builtin.Dict.addKeywords a [] >>= _) _ _ _
  refine aau (aaO (aaO ?_))
  exact fin h2 tk vs (fun b o q => Rm b o (lt b o q).2 (kp b o q)) pJ (by rw [← Rk, ← tL, abb] at hK; exact hK)
 | succ k ih =>
  intro i h' tk vs hk hi kp hit hD hK
  have hi1 : i < its.length := by omega
  have YX : i < ps.length := by omega
  unfold Builtin.«dict.update.loop»
  dsimp only [rawInt]
  refine aau (wpAny_pyNext_list_item (s := { s with heap := h', toks := tk }) (x := its[i]) hit (show h'.IsList l its.toArray from ⟨ol, kp _ _ VP, tN⟩) (by simp [hi1]) fun h1 Rn Uv => ?_)
  dsimp only
  have Qf : ∀ b o, s.heap.get? b = some o → h1.get? b = some o := fun b o q => (Uv.2 b (lt b o q).2).trans (kp b o q)
  have I1 : Inv X pins σ H { s with heap := h1, toks := tk } := I.kept Qf
  have Uy : h1.DictOf (bM X.prog X.w) a vs := hD.sameBut Uv hne
  obtain ⟨u1, f1, q1⟩ := rv.get (i := i) (x := ys[i]'(by omega)) (by simp)
  have eu : its[i] = u1 := (aaj.mp f1).2
  obtain ⟨t, et, hq⟩ : ∃ t, ys[i]'(by omega) = .ref t ∧ cK X.K H t [kV (ps[i]).1, (ps[i]).2] := by
   have z := hP
   unfold GO at z
   exact paired_at z i YX (by omega)
  rw [et] at q1
  have eu2 : its[i] = .ref t := by rw [eu]; exact q1
  rw [eu2]
  obtain ⟨itt, rt, pl, _⟩ := I1.tuple hq
  obtain ⟨uk, uv, rfl, rk, rvv⟩ := vals2 rt
  obtain ⟨ot, YY, hct, n, hdt⟩ := id pl
  have hTt : Shared.TypeIs { s with heap := h1, toks := tk } (.ref t) "tuple" := ⟨ot, YY, hct⟩
  refine aau (wpAny_holding (aau ?_))
  have hpi : ∀ {E' : aad → aaf → Prop} {Q' : List aad → aaf → Prop}, Q' [uk, uv] { s with heap := h1, toks := tk } → aaZ (model X.prog X.w) A.in1 (adI (.ref t)) Q' E' { s with heap := h1, toks := tk } := fun {E' Q'} hq' => by
   unfold adI
   refine aau (wpAny_typeOf hTt ?_)
   rw [if_pos (by decide)]
   refine aau (wpAny_seqItems YY hdt (aaO ?_))
   exact hq'
  refine wpAny_tryCatch (hpi ?_)
  dsimp only
  have hsz : vs.length ≤ aai := by
   have z := hK.length
   have z2 := vr (ps.take i)
   rw [aaH] at z2
   exact aa8 (show vs.length ≤ 100000 by omega) (show 100000 ≤ aai by rw [aaA]; decide)
  refine wpAny_holding (wpAny_dictSet_pairs (hsz := hsz) (y4 rk) Uy fun h2 pJ Ro => ?_)
  have M9 : ∀ b o, s.heap.get? b = some o → h2.get? b = some o := fun b o q => (Ro.2 b (lt b o q).1).trans (Qf b o q)
  have VQ : h2.IsListIter it l (i + 1) := by
   obtain ⟨o, ho, r⟩ := Rn
   exact ⟨o, (Ro.2 it (acp hne)).trans ho, r⟩
  refine aaO ?_
  refine ⟨plainId_quiet plain_dul _, codeAny_builtin entry_dul ?_⟩
  rw [adW plain_dul _]
  refine ih (i + 1) h2 (tk + 1) _ (by omega) (by omega) M9 VQ pJ ?_
  rw [aap YX]
  unfold i6
  rw [acG]
  exact hK.put _ rvv
theorem ue (hc : X.calm = true) : gT X (.type "dict") (fun xs H Q => ∃ (l : aaC) (ys : List V) (ps : List (Key × V)), xs = [.ref l] ∧ H l = some (.lst ys) ∧ GO X.K H ps ys ∧ ps.length ≤ 100000 ∧ ∀ d, H d = none → Q (.ref d) (upd H d (.dK (i6 [] ps)))) := by
 intro pins s σ H xs us Q I r h
 obtain ⟨l, ys, ps, rfl, hl, hP, hlen, q⟩ := h
 obtain ⟨u, rfl, ru⟩ := vals1 r
 cases (show u = aa5 l from ru)
 have hh := I.ok.hd hc
 obtain ⟨hz, its, n, rv, hg⟩ := (show cO X.prog X.w H s.heap l (.lst ys) from I.hok l _ hl)
 have hf : H s.heap.objs.size = none := I.hok.fresh (aar _)
 refine callType_codes (Q₁ := fun obj s₁ => obj = .ref s.heap.objs.size ∧ s₁ = { s with heap := s.heap.push { cls := .type "dict", data := .dict #[] } }) PySem.F.kt_called_dict (PySem.F.kt_typeCall_dict_1 _) PySem.F.entry_dict_init (kt_code_dict_new _ ⟨rfl, rfl⟩) ?_
 rintro obj s₁ ⟨rfl, rfl⟩
 have JA : (s.heap.push { cls := .type "dict", data := .dict #[] }).DictOf (bM X.prog X.w) s.heap.objs.size [] := aeG s.heap
 refine ⟨JA.typeIs, PySem.F.args_dict_init_2 _ _, ?_⟩
 unfold Builtin.«dict.__init__»
 refine aau ?_
 unfold Builtin.Dict.selfAndRest
 refine aau (wpAny_notOrdered_dict JA.typeIs ?_)
 show aaZ _ _ (pure (s.heap.objs.size, [aa5 l])) _ _ _
 refine aaO ?_
 show aaZ _ _ (adz "dict.__init__" s.heap.objs.size (.ref l) [] .none) _ _ _
 unfold adz
 have Rp : (s.heap.push { cls := .type "dict", data := .dict #[] }).get? l = some { cls := .type "list", data := .seq its.toArray n } := aav _ hg
 refine aau (wpAny_typeOf (T := "list") ⟨_, Rp, rfl⟩ ?_)
 rw [if_pos (by decide)]
 refine aau (OM Rp rfl rfl rfl hh fun h1 YZ e hx => ?_)
 rw [if_pos (show (none : Option aad).isNone = true from rfl)]
 refine aau (wpAny_rule ?_)
 have hg2 := hx.keeps _ _ Rp
 have hd2 : h1.DictOf (bM X.prog X.w) s.heap.objs.size [] := by
  obtain ⟨o, es, ep, ho, r⟩ := JA
  exact ⟨o, es, ep, hx.keeps _ _ ho, r⟩
 have Rq : s.heap.objs.size < h1.objs.size := by
  obtain ⟨o, es, ep, ho, r⟩ := hd2
  exact aaT ho
 have rQ : h1.IsList l its.toArray := ⟨_, hg2, rfl, n, rfl⟩
 refine aau (wpAny_pyIter_list (s := { s with heap := h1, toks := YZ }) rQ ?_)
 refine aaO ⟨plainId_quiet plain_dul _, codeAny_builtin entry_dul ?_⟩
 rw [adW plain_dul _]
 have kp0 : ∀ b o, s.heap.get? b = some o → (h1.push { cls := .type "list_iterator", data := .fields #[.ref l, .int 0 0] }).get? b = some o := fun b o q => aav _ (hx.keeps _ _ (aav _ q))
 refine L6 (A := X.A.in1) (its := its) (a := s.heap.objs.size) (it := h1.objs.size) I hh ⟨_, hg, rfl, n, rfl⟩ rv hP hlen (aar _) (adJ Rq) (abe Rq) (fun h' tk vs kp hD hK => ?_)
  its.length 0 (h1.push { cls := .type "list_iterator", data := .fields #[.ref l, .int 0 0] }) YZ [] (by omega) (abm _) kp0 ⟨_, aa0 _ rfl, rfl, rfl⟩ (hd2.push _) .nil
 refine ⟨rfl, .ref s.heap.objs.size, upd H s.heap.objs.size (.dK (i6 [] ps)), I.laid (t' := tk) kp (aar _) ?_, rfl, q _ hf⟩
 refine ⟨aa8 (vr ps) (aa8 hlen (by rw [aaA]; decide)), ?_, vs, hK, hD⟩
 exact beq_eq_false_iff_ne.mpr (Nat.ne_of_gt I.big)
end
end L2
namespace L2
open PySem PySem.Spec PyProof.Rows
section
variable {X : Cx}
theorem Rr {P : aaL} {w : aa9} {k : Key} {u : aad} (r : (bM P w).is k u = true) : RelV (kV k) u := by
 rcases cv (k := k) (v := u) r with ⟨i, t, rfl, rfl⟩ | ⟨x, t, rfl, rfl⟩
 ·exact ⟨t, rfl⟩
 ·exact ⟨t, rfl⟩
theorem GP : ∀ {xs : List V} {us : List aad}, us.length = xs.length → (∀ (j : Nat) (v : aad), us[j]? = some v → ∃ x, xs[j]? = some x ∧ RelV x v) → Vals xs us
 | [], [], _, _ => .nil
 | x :: xs, u :: us, hl, h => by
  obtain ⟨y, e, r⟩ := h 0 u rfl
  cases e
  exact .cons r (GP (by simpa using hl) fun j v e => h (j + 1) v (by simpa using e))
theorem vv (hc : X.calm = true) : gT X (.type "list") (fun xs H Q => ∃ (d : aaC) (kvs : List (Key × V)), xs = [.ref d] ∧ H d = some (.dK kvs) ∧ ∀ l, H l = none → Q (.ref l) (upd H l (.lst (kvs.map fun p => kV p.1)))) := by
 intro pins s σ H xs us Q I r h
 obtain ⟨d, kvs, rfl, hd, q⟩ := h
 obtain ⟨u, rfl, ru⟩ := vals1 r
 cases (show u = aa5 d from ru)
 obtain ⟨hz, lo, vs, hK, hD⟩ := M8 I.hok hd
 obtain ⟨o, es, ep, ho, rr⟩ := hD
 have hf : H s.heap.objs.size = none := I.hok.fresh (aar _)
 have hl := hK.length
 refine PySem.W.kdl_call (PySem.W.kdl_dict (knd := bM X.prog X.w) (kvs := vs) (ep := ep) lo) (I.ok.hd hc) ⟨o, es, ho, rr⟩ (by omega) fun h' tk acc c' kp hg JB => ?_
 refine ⟨.ref s.heap.objs.size, upd H s.heap.objs.size (.lst (kvs.map fun p => kV p.1)), I.laid (t' := tk) kp (aar _) ?_, rfl, q _ hf⟩
 refine ⟨by rw [Lm9]; exact hz, acc.toList, c', GP ?_ fun j v e => ?_, by simpa using hg⟩
 ·rw [Lm9, acq, JB.1, hl]
 ·obtain ⟨k, x, e1, e2⟩ := JB.2 j v (by rw [← Array.getElem?_toList]; exact e)
  have ek : (kvs.map (·.1))[j]? = some k := by
   rw [hK.keys, aa2, e1]
   rfl
  rw [aa2] at ek
  cases e3 : kvs[j]? with
  | none => rw [e3] at ek; cases ek
  | some p =>
   rw [e3] at ek
   have e4 : p.1 = k := aa4 ek
   exact ⟨kV p.1, by rw [aa2, e3]; rfl, by rw [e4]; exact Rr e2⟩
def L7 (K : aaa) : V → List V → Hp → VK → Prop := fun x vs H Q => ∃ (p : aaC) (xs : List V) (y : V) (j : Nat), x = .ref p ∧ vs = [y] ∧ cK K H p xs ∧ jO y = true ∧ xs.all jO = true ∧ (∃ z, xs[j]? = some z ∧ II z y = true) ∧ (∀ m z, m < j → xs[m]? = some z → II z y = false) ∧ Q (.int j) H
theorem JC : Lq X "tuple.index" (L7 X.K) := by
 intro pins s σ H x vs v us Q I rx rv h
 obtain ⟨p, xs, y, j, rfl, rfl, hq, fy, fx, ⟨z, ez, hz⟩, Lp, q⟩ := h
 cases (show v = aa5 p from rx)
 obtain ⟨u, rfl, ru⟩ := vals1 rv
 obtain ⟨its, r, pl, _⟩ := I.tuple hq
 obtain ⟨⟨oc, od, dat, sl⟩, ho, hc, n, hd⟩ := id pl
 simp only at hc hd
 subst hc hd
 have hl := r.length
 have hj : j < its.toArray.size := by
  have := (aaj.mp ez).1
  simp
  omega
 have at_ : ∀ m z, xs[m]? = some z → ∃ w, its[m]? = some w ∧ RelV z w := fun m z e => r.get e
 have flat : ∀ z ∈ xs, jO z = true := aaS.mp fx
 refine call_meets adt pl.typeIs PySem.F.entry_tuple_index (PySem.F.args_tuple_index_2 _ _) (xw p its.toArray n od sl u (EG y) j hj ?_ ?_) ⟨ho, fun w hw => jP ru fy r fx w (by simpa using hw), ⟨.int j, H, I.tok _, ⟨_, rfl⟩, q⟩⟩
 ·obtain ⟨w, ew, EW⟩ := at_ j z ez
  have e : its.toArray[j] = w := by
   have := (aaj.mp ew).2
   simpa using this
  rw [e, zZ EW (flat z (abn ez))]
  exact hz
 ·intro m hm hmj
  have hm' : m < xs.length := by simp at hm; omega
  obtain ⟨w, ew, EW⟩ := at_ m xs[m] (Ge9 hm')
  have e : its.toArray[m] = w := by
   have := (aaj.mp ew).2
   simpa using this
  rw [e, zZ EW (flat _ (aaq hm'))]
  exact Lp m _ hmj (Ge9 hm')
end
end L2
namespace cM
open PySem
abbrev dI : Str := "abcdefghijklmnopqrstuvwxyz"
abbrev d7 : Str := "ABCDEFGHIJKLMNOPQRSTUVWXYZ"
abbrev HI : Str := "0123456789"
def aZ (c : Nat) : Bool := decide (c ∈ dI.cps.toList) || (decide (c ∈ d7.cps.toList) || decide (c ∈ HI.cps.toList))
def JD (c : Nat) : Bool := c == 40 || (c == 41 || c == 44)
def shut (cur : List Nat) (r : List (List Nat)) : List (List Nat) := if cur = [] then r else cur :: r
def bO : List Nat → List Nat → List (List Nat)
 | [], cur => shut cur []
 | c :: r, cur => if aZ c = true then bO r (cur ++ [c]) else shut cur (if c = 32 then bO r [] else [c] :: bO r [])
def toks (l : List Nat) : List (List Nat) := bO l []
theorem vw : ∀ (n r cur : List Nat), n.all aZ = true → bO (n ++ r) cur = bO r (cur ++ n)
 | [], r, cur, _ => by simp
 | c :: n, r, cur, h => by
  rw [abc, aaN] at h
  rw [aco]
  show (if aZ c = true then bO (n ++ r) (cur ++ [c]) else _) = _
  rw [if_pos h.1, vw n r _ h.2, aaQ]
  rfl
def mW : List Nat → Prop
 | [] => True
 | c :: _ => aZ c = false
theorem E6 {r cur : List Nat} (hs : mW r) (hc : cur ≠ []) : bO r cur = cur :: toks r := by
 cases r with
 | nil =>
  show shut cur [] = cur :: shut [] []
  unfold shut
  rw [if_neg hc, if_pos rfl]
 | cons c r =>
  have hs' : aZ c = false := hs
  show (if aZ c = true then _ else shut cur _) = cur :: (if aZ c = true then _ else shut [] _)
  rw [hs', if_neg aaz, if_neg aaz]
  unfold shut
  rw [if_neg hc, if_pos rfl]
theorem d4 {n r : List Nat} (hn : n.all aZ = true) (h0 : n ≠ []) (hs : mW r) : toks (n ++ r) = n :: toks r := by
 unfold toks
 rw [vw n r [] hn, abr, E6 hs h0]
 rfl
theorem qC : aZ 32 = false := by decide +kernel
theorem GQ : aZ 40 = false := by decide +kernel
theorem GR : aZ 41 = false := by decide +kernel
theorem vx : aZ 44 = false := by decide +kernel
theorem dJ (r : List Nat) : toks (32 :: r) = toks r := by
 show (if aZ 32 = true then bO r ([] ++ [32]) else shut [] (if (32 : Nat) = 32 then bO r [] else [32] :: bO r [])) = bO r []
 rw [qC, if_neg aaz, if_pos rfl]
 rfl
theorem pj {c : Nat} (hc : JD c = true) (r : List Nat) : toks (c :: r) = [c] :: toks r := by
 have e : c = 40 ∨ c = 41 ∨ c = 44 := by
  unfold JD at hc
  simpa using hc
 have ha : aZ c = false := by
  rcases e with e | e | e <;> rw [e]
  ·exact GQ
  ·exact GR
  ·exact vx
 have hb : c ≠ 32 := by omega
 show (if aZ c = true then _ else shut [] (if c = 32 then bO r [] else [c] :: bO r [])) = _
 rw [ha, if_neg aaz, if_neg hb]
 rfl
theorem dc : ∀ (k : Nat) (r : List Nat), toks (aaW k 32 ++ r) = toks r
 | 0, r => rfl
 | k + 1, r => by
  rw [ac3, aco, dJ, dc k r]
theorem z9 (k : Nat) {r : List Nat} (h : mW r) : mW (aaW k 32 ++ r) := by
 cases k with
 | zero => exact h
 | succ k => exact qC
def bJ (l : List Nat) : Nat := (l.takeWhile aZ).length
theorem vy {l : List Nat} (h : bJ l ≠ 0) : toks l = l.take (bJ l) :: toks (l.drop (bJ l)) := by
 have e : l = l.takeWhile aZ ++ l.dropWhile aZ := (List.takeWhile_append_dropWhile).symm
 have et : l.take (bJ l) = l.takeWhile aZ := by
  unfold bJ
  conv => lhs; arg 2; rw [e]
  rw [List.take_left']
  rfl
 have ed : l.drop (bJ l) = l.dropWhile aZ := by
  unfold bJ
  conv => lhs; arg 2; rw [e]
  rw [List.drop_left']
  rfl
 rw [et, ed]
 conv => lhs; rw [e]
 refine d4 ?_ ?_ ?_
 ·exact List.all_takeWhile
 ·intro z
  unfold bJ at h
  rw [z] at h
  exact h rfl
 ·cases q : l.dropWhile aZ with
  | nil => trivial
  | cons c r =>
   have z := List.head_dropWhile_not (p := aZ) (l := l) (by rw [q]; simp)
   simp only [q, List.head_cons] at z
   exact z
theorem Aa {c : Nat} {r : List Nat} (h : bJ (c :: r) = 0) : aZ c = false := by
 unfold bJ at h
 rw [ac4] at h
 cases q : aZ c with
 | false => rfl
 | true => rw [q] at h; simp at h
def aB (p : List Nat) : Bool := decide (1 ≤ p.length) && (decide (p.length ≤ 12) && p.all aZ)
def gW : List (List Nat) → Option (List (List Nat) × Nat)
 | n :: m :: r => if aB n = true then (if m = [41] then some ([n], 2) else if m = [44] then (gW r).map fun q => (n :: q.1, q.2 + 2) else none) else none
 | _ => none
def between : List (List Nat) → List (List Nat)
 | [] => []
 | [a] => [a, [41]]
 | a :: r => a :: [44] :: between r
theorem pK : ∀ (as : List (List Nat)), as ≠ [] → (∀ a ∈ as, aB a = true) → gW (between as) = some (as, (between as).length)
 | [], h, _ => absurd rfl h
 | [a], _, hn => by
  show (if aB a = true then (if ([41] : List Nat) = [41] then some ([a], 2) else _) else none) = _
  rw [if_pos (hn a (by simp)), if_pos rfl]
  rfl
 | a :: b :: r, _, hn => by
  have ih := pK (b :: r) (by simp) fun x hx => hn x (aal _ hx)
  show (if aB a = true then (if ([44] : List Nat) = [41] then _ else if ([44] : List Nat) = [44] then (gW (between (b :: r))).map (fun q => (a :: q.1, q.2 + 2)) else none) else none) = _
  rw [if_pos (hn a (by simp)), if_neg (by decide), if_pos rfl, ih]
  rfl
end cM
namespace Bk
open PySem L2 cM
abbrev Cs := List Nat
abbrev S (p : Cs) : Str := ⟨p.toArray⟩
abbrev tx (p : Cs) : V := .str (S p)
theorem bq (p : Cs) : (S p).cps.toList = p := by simp
theorem uf (x : Str) : S x.cps.toList = x := by cases x; simp
theorem aD (p : Cs) : (S p).length = p.length := by simp [aeu]
theorem mX (x : Str) : x.cps.toList.length = x.length := by simp [aeu]
theorem y9 {a b : Cs} (h : S a = S b) : a = b := by
 have e := congrArg (fun s : Str => s.cps.toList) h
 simpa using e
theorem JE {a b : Cs} (h : tx a = tx b) : a = b := by
 have z : S a = S b := by injection h
 exact y9 z
theorem Ab (a b : Cs) : decide (tx a = tx b) = decide (a = b) := by
 rw [decide_eq_decide]
 exact ⟨JE, fun e => by rw [e]⟩
structure Fc where
 k : Cs
 as : List Cs
structure Kd where
 n : Cs
 c : Nat
 l : Bool
structure Lk where
 same : Bool
 l : Cs
 r : Cs
structure Rl where
 title : Cs
 take : List Fc
 keep : List Fc
 aO : List Lk
 put : List Fc
 tell : List (Cs × Cs)
structure Kp (H0 H H' : Hp) : Prop where
 new : ∀ b o, H0 b = none → H b = some o → H' b = some o
 tup : ∀ b xs, H b = some (.tup xs) → H' b = some (.tup xs)
 uY : ∀ b o u, H b = some (.uY o u) → H' b = some (.uY o u)
 vz : ∀ b, H' b = none → H b = none
theorem Kp.trans {H0 H H1 H2 : Hp} (a : Kp H0 H H1) (b : Kp H0 H1 H2) : Kp H0 H H2 :=
 ⟨fun c o n h => b.new c o n (a.new c o n h), fun c xs h => b.tup c xs (a.tup c xs h), fun c o u h => b.uY c o u (a.uY c o u h), fun c h => a.vz c (b.vz c h)⟩
theorem Kp.same {H0 H H' : Hp} (s : ah H H') : Kp H0 H H' := ⟨fun b o _ h => s b o h, fun b xs h => s b _ h, fun b o u h => s b _ h, fun b h => by
 cases e : H b with
 | none => rfl
 | some o => rw [s b o e] at h; cases h⟩
theorem Kp.upd {H0 H : Hp} {l : aaC} {o o' u0 : HO} (h0 : H0 l = some u0) (h : H l = some o) (nt : ∀ xs, o ≠ .tup xs) (nf : ∀ ob u, o ≠ .uY ob u) : Kp H0 H (upd H l o') := by
 refine ⟨fun b u n e => ?_, fun b xs e => ?_, fun b ob u e => ?_, fun b e => ?_⟩
 ·rw [aA (fun z => by rw [z, h0] at n; cases n)]; exact e
 ·rw [aA (fun z => by rw [z, h] at e; exact nt xs (aa4 e))]; exact e
 ·rw [aA (fun z => by rw [z, h] at e; exact nf ob u (aa4 e))]; exact e
 ·by_cases z : b = l
  ·rw [z, ae] at e; cases e
  ·rw [aA z] at e; exact e
theorem Kp.cg {H0 H1 H H' : Hp} (k : Kp H0 H H') (d : ∀ b, H1 b = none → H0 b = none) : Kp H1 H H' := ⟨fun b o n h => k.new b o (d b n) h, k.tup, k.uY, k.vz⟩
theorem cK.keep {K : aaa} {H0 H H' : Hp} (k : Kp H0 H H') {a : aaC} {xs : List V} (h : cK K H a xs) : cK K H' a xs := by
 rcases h with (h | ⟨o, h⟩) | h
 ·exact .inl (.inl (k.tup _ _ h))
 ·exact .inl (.inr ⟨o, k.uY _ _ _ h⟩)
 ·exact .inr h
def Fact (K : aaa) (H : Hp) (f : Fc) (v : V) : Prop := ∃ t t2, v = .ref t ∧ cK K H t [tx f.k, .ref t2] ∧ cK K H t2 (f.as.map tx)
def Kind (K : aaa) (H : Hp) (k : Kd) (v : V) : Prop := ∃ t, v = .ref t ∧ cK K H t [tx k.n, .int k.c, .bl k.l]
def Pair (K : aaa) (H : Hp) (p : Cs × Cs) (v : V) : Prop := ∃ t, v = .ref t ∧ cK K H t [tx p.1, tx p.2]
theorem Fact.keep {K : aaa} {H0 H H' : Hp} {f : Fc} {v : V} (k : Kp H0 H H') (h : Fact K H f v) : Fact K H' f v := by
 obtain ⟨t, t2, e, h1, h2⟩ := h
 exact ⟨t, t2, e, cK.keep k h1, cK.keep k h2⟩
theorem Kind.keep {K : aaa} {H0 H H' : Hp} {f : Kd} {v : V} (k : Kp H0 H H') (h : Kind K H f v) : Kind K H' f v := by
 obtain ⟨t, e, h1⟩ := h
 exact ⟨t, e, cK.keep k h1⟩
theorem Pair.keep {K : aaa} {H0 H H' : Hp} {p : Cs × Cs} {v : V} (k : Kp H0 H H') (h : Pair K H p v) : Pair K H' p v := by
 obtain ⟨t, e, h1⟩ := h
 exact ⟨t, e, cK.keep k h1⟩
def xx (α : Type) (R : Hp → α → V → Prop) (H0 H : Hp) (v : V) (xs : List α) : Prop := ∃ l vs, v = .ref l ∧ H0 l = none ∧ H l = some (.lst vs) ∧ Paired (R H) xs vs
theorem xx.keep {α : Type} {R : Hp → α → V → Prop} {H0 H H' : Hp} {v : V} {xs : List α} (k : Kp H0 H H') (hR : ∀ a u, R H a u → R H' a u) (h : xx α R H0 H v xs) : xx α R H0 H' v xs := by
 obtain ⟨l, vs, e, n, h1, h2⟩ := h
 exact ⟨l, vs, e, n, k.new _ _ n h1, L2.Paired.d8 h2 hR⟩
theorem xx.cg {α : Type} {R : Hp → α → V → Prop} {H0 H1 H : Hp} {v : V} {xs : List α} (d : ∀ b, H1 b = none → H0 b = none) (h : xx α R H1 H v xs) : xx α R H0 H v xs := by
 obtain ⟨l, vs, e, n, h1, h2⟩ := h
 exact ⟨l, vs, e, d l n, h1, h2⟩
def VR (C : aaC) (H0 H : Hp) (v : V) (F : List (Str × V) → Prop) : Prop := ∃ a dx fs, v = .ref a ∧ H0 a = none ∧ H a = some (.ins C dx fs) ∧ F fs
structure Cl where
 same : aaC
 unlike : aaC
 rule : aaC
 book : aaC
def Cl.look (c : Cl) (b : Bool) : aaC := if b = true then c.same else c.unlike
def qD (c : Cl) (H0 H : Hp) (k : Lk) (v : V) : Prop := VR (c.look k.same) H0 H v fun fs => fs.lookup ("left" : Str) = some (tx k.l) ∧ fs.lookup ("right" : Str) = some (tx k.r) ∧ fs.lookup ("holds" : Str) = none ∧ fs.lookup ("word" : Str) = none
theorem qD.keep {c : Cl} {H0 H H' : Hp} {x : Lk} {v : V} (k : Kp H0 H H') (h : qD c H0 H x v) : qD c H0 H' x v := by
 obtain ⟨a, dx, fs, e, n, h1, h2⟩ := h
 exact ⟨a, dx, fs, e, n, k.new _ _ n h1, h2⟩
def great (x : Cs) : Bool := decide (x.headD 0 ∈ d7.cps.toList)
def once : List Cs → List Cs → List Cs
 | [], acc => acc
 | x :: r, acc => once r (if x ∈ acc then acc else acc ++ [x])
def opens (fs : List Fc) : List Cs := once ((fs.flatMap (·.as)).filter great) []
def Facts (K : aaa) := xx Fc (Fact K)
def Pairs (K : aaa) := xx (Cs × Cs) (Pair K)
def Kinds (K : aaa) := xx Kd (Kind K)
def tO (H0 H : Hp) (v : V) (xs : List Cs) : Prop := ∃ l, v = .ref l ∧ H0 l = none ∧ H l = some (.lst (xs.map tx))
def Looks (c : Cl) (H0 H : Hp) (v : V) (xs : List Lk) : Prop := ∃ l vs, v = .ref l ∧ H0 l = none ∧ H l = some (.lst vs) ∧ Paired (qD c H0 H) xs vs
structure qE (K : aaa) (c : Cl) (H0 H : Hp) (r : Rl) (fs : List (Str × V)) : Prop where
 title : fs.lookup ("title" : Str) = some (tx r.title)
 taken : ∃ v, fs.lookup ("taken" : Str) = some v ∧ Facts K H0 H v r.take
 kept : ∃ v, fs.lookup ("kept" : Str) = some v ∧ Facts K H0 H v r.keep
 aO : ∃ v, fs.lookup ("looks" : Str) = some v ∧ Looks c H0 H v r.aO
 given : ∃ v, fs.lookup ("given" : Str) = some v ∧ Facts K H0 H v r.put
 told : ∃ v, fs.lookup ("told" : Str) = some v ∧ Pairs K H0 H v r.tell
 names : ∃ v, fs.lookup ("names" : Str) = some v ∧ tO H0 H v (opens (r.take ++ r.keep))
 calls : fs.lookup ("calls" : Str) = none
def ie (K : aaa) (c : Cl) (H0 H : Hp) (r : Rl) (v : V) : Prop := VR c.rule H0 H v (qE K c H0 H r)
theorem tO.keep {H0 H H' : Hp} {v : V} {xs : List Cs} (k : Kp H0 H H') (h : tO H0 H v xs) : tO H0 H' v xs := by
 obtain ⟨l, e, n, h1⟩ := h
 exact ⟨l, e, n, k.new _ _ n h1⟩
theorem Looks.keep {c : Cl} {H0 H H' : Hp} {v : V} {xs : List Lk} (k : Kp H0 H H') (h : Looks c H0 H v xs) : Looks c H0 H' v xs := by
 obtain ⟨l, vs, e, n, h1, h2⟩ := h
 exact ⟨l, vs, e, n, k.new _ _ n h1, L2.Paired.d8 h2 fun _ _ z => z.keep k⟩
theorem Facts.keep {K : aaa} {H0 H H' : Hp} {v : V} {xs : List Fc} (k : Kp H0 H H') (h : Facts K H0 H v xs) : Facts K H0 H' v xs := xx.keep k (fun _ _ z => z.keep k) h
theorem Pairs.keep {K : aaa} {H0 H H' : Hp} {v : V} {xs : List (Cs × Cs)} (k : Kp H0 H H') (h : Pairs K H0 H v xs) : Pairs K H0 H' v xs := xx.keep k (fun _ _ z => z.keep k) h
theorem qE.keep {K : aaa} {c : Cl} {H0 H H' : Hp} {r : Rl} {fs : List (Str × V)} (k : Kp H0 H H') (h : qE K c H0 H r fs) : qE K c H0 H' r fs := by
 obtain ⟨h1, ⟨v2, e2, h2⟩, ⟨v3, e3, h3⟩, ⟨v4, e4, h4⟩, ⟨v5, e5, h5⟩, ⟨v6, e6, h6⟩, ⟨v7, e7, h7⟩, h8⟩ := h
 exact ⟨h1, ⟨v2, e2, h2.keep k⟩, ⟨v3, e3, h3.keep k⟩, ⟨v4, e4, h4.keep k⟩, ⟨v5, e5, h5.keep k⟩, ⟨v6, e6, h6.keep k⟩, ⟨v7, e7, h7.keep k⟩, h8⟩
theorem ie.keep {K : aaa} {c : Cl} {H0 H H' : Hp} {r : Rl} {v : V} (k : Kp H0 H H') (h : ie K c H0 H r v) : ie K c H0 H' r v := by
 obtain ⟨a, dx, fs, e, n, h1, h2⟩ := h
 exact ⟨a, dx, fs, e, n, k.new _ _ n h1, h2.keep k⟩
def Rules (K : aaa) (c : Cl) (H0 H : Hp) (v : V) (xs : List Rl) : Prop := ∃ l vs, v = .ref l ∧ H0 l = none ∧ H l = some (.lst vs) ∧ Paired (ie K c H0 H) xs vs
structure Rt (K : aaa) (c : Cl) (H0 H : Hp) (ks : List Kd) (rs : List Rl) (fs : List (Str × V)) : Prop where
 kinds : ∃ v, fs.lookup ("kinds" : Str) = some v ∧ Kinds K H0 H v ks
 rules : ∃ v, fs.lookup ("rules" : Str) = some v ∧ Rules K c H0 H v rs
def Na (K : aaa) (c : Cl) (H0 H : Hp) (ks : List Kd) (rs : List Rl) (v : V) : Prop := VR c.book H0 H v (Rt K c H0 H ks rs)
def a8 (p : Cs) : Bool := aB p && decide (p.headD 0 ∈ dI.cps.toList)
inductive mY : List Cs → Fc → Prop
 | bare {k : Cs} (hk : a8 k = true) : mY [k] ⟨k, []⟩
 | empty {k : Cs} (hk : a8 k = true) : mY [k, [40], [41]] ⟨k, []⟩
 | args {k : Cs} {as : List Cs} (hk : a8 k = true) (h0 : as ≠ []) (h : ∀ a ∈ as, aB a = true) : mY (k :: [40] :: between as) ⟨k, as⟩
inductive qF : List Cs → List Fc → Prop
 | one {ps : List Cs} {f : Fc} (h : mY ps f) : qF ps [f]
 | more {ps r : List Cs} {f : Fc} {fs : List Fc} (h : mY ps f) (t : qF r fs) : qF (ps ++ [44] :: r) (f :: fs)
def cn (m : Cs) : List Cs → List (List Cs) → List (List Cs)
 | [], rows => rows
 | p :: r, rows => cn m r (if p = m then rows ++ [[]] else rows.dropLast ++ [rows.getLastD [] ++ [p]])
def glue (m : Cs) : List (List Cs) → List Cs
 | [] => []
 | [q] => q
 | q :: r => q ++ m :: glue m r
theorem mZ {m : Cs} : ∀ (q rest : List Cs) (done : List (List Cs)) (cur : List Cs), m ∉ q → cn m (q ++ rest) (done ++ [cur]) = cn m rest (done ++ [cur ++ q])
 | [], rest, done, cur, _ => by rw [abr, aaU]
 | p :: q, rest, done, cur, h => by
  have hp : p ≠ m := fun e => h (by rw [e]; exact aao)
  have hq : m ∉ q := fun z => h (aal _ z)
  show cn m (q ++ rest) (if p = m then _ else (done ++ [cur]).dropLast ++ [(done ++ [cur]).getLastD [] ++ [p]]) = _
  rw [if_neg hp, adX, show (done ++ [cur]).getLastD [] = cur by simp, mZ q rest done (cur ++ [p]) hq, aaQ, acP]
theorem gY {m : Cs} : ∀ (qs : List (List Cs)) (done : List (List Cs)), qs ≠ [] → (∀ q ∈ qs, m ∉ q) → cn m (glue m qs) (done ++ [[]]) = done ++ qs
 | [], _, h, _ => absurd rfl h
 | [q], done, _, h => by
  have e := mZ q [] done [] (h q (by simp))
  rw [aaU] at e
  show cn m q _ = _
  rw [e]
  rfl
 | q :: q2 :: r, done, _, h => by
  have e := mZ q (m :: glue m (q2 :: r)) done [] (h q (by simp))
  show cn m (q ++ m :: glue m (q2 :: r)) _ = _
  rw [e]
  show cn m (glue m (q2 :: r)) (if m = m then (done ++ [[] ++ q]) ++ [[]] else _) = _
  rw [if_pos rfl, gY (q2 :: r) (done ++ [[] ++ q]) (by simp) fun x hx => h x (aal _ hx), abr, aaQ, acP]
end Bk
namespace Bk
open PySem L2 cM
def gn (x : Str) : Bool := decide ((1 : Int) ≤ x.length) && (decide ((x.length : Int) ≤ 12) && x.cps.toList.all aZ)
theorem qG (p : List Nat) : gn (S p) = aB p := by
 unfold gn aB
 rw [aD, bq]
 have e1 : decide ((1 : Int) ≤ (p.length : Int)) = decide (1 ≤ p.length) := by
  rw [decide_eq_decide]; omega
 have e2 : decide ((p.length : Int) ≤ 12) = decide (p.length ≤ 12) := by
  rw [decide_eq_decide]; omega
 rw [e1, e2]
theorem Ac {x : Str} (h : 1 ≤ x.length) : qq x.cps.toList (0 : Int) = some (x.cps.toList.headD 0) := by
 have e := mX x
 cases q : x.cps.toList with
 | nil => rw [q] at e; simp at e; omega
 | cons a r => exact bU (j := 0) rfl
theorem JF {x : Str} (h : gn x = true) : 1 ≤ x.length := by
 unfold gn at h
 simp only [aaN, decide_eq_true_eq] at h
 omega
theorem sz {n : Nat} (h : n ≤ 100000) : n ≤ aai := by rw [aaA]; omega
theorem kl {n : Nat} (h : n ≤ 100000) : n < aai := by rw [aaA]; omega
theorem aj {H : Hp} {p : aaC} (h : H p = none) (o : HO) : ah H (upd H p o) := fun b u q => by rw [aA (aN q h)]; exact q
theorem ah.aQ {H H' : Hp} {p : aaC} (e : ah H H') (h : H p = none) (o : HO) : ah H (upd H' p o) := fun b u q => by
 rw [aA (aN q h)]
 exact e b u q
theorem mid {a b : Int} (h : 0 < b) : 0 ≤ a % b ∧ a % b < b := ⟨ac5 a (by omega), Int.emod_lt_of_pos a h⟩
theorem getD_get {l : List Nat} {i : Nat} (h : i < l.length) : l[i]? = some (l.getD i 0) := by
 rw [Gd9, Ge9 h]
 rfl
theorem C9 {l : List Nat} {i : Nat} (h : i < l.length) : l.drop i = l.getD i 0 :: l.drop (i + 1) := by
 rw [abt h, Gd9, Ge9 h]
 rfl
theorem vA {x : Str} {i : Int} (h0 : 0 ≤ i) (h1 : i < x.length) : qq x.cps.toList i = some (x.cps.toList.getD i.toNat 0) := by
 have hl := mX x
 have hk : i.toNat < x.cps.toList.length := by omega
 have z := bU (xs := x.cps.toList) (j := i.toNat) (v := x.cps.toList.getD i.toNat 0) (getD_get hk)
 rw [show ((i.toNat : Nat) : Int) = i by omega] at z
 exact z
def i7 (x : Str) : Bool := gn x && decide (x.cps.toList.headD 0 ∈ dI.cps.toList)
theorem Dc (p : List Nat) : i7 (S p) = a8 p := by
 unfold i7 a8
 rw [qG, bq]
def Ad : Sp := fun vs H Q _ => ∃ c, vs = [.str ⟨#[c]⟩] ∧ Q (.bl (aZ c)) H
def xy (f : Str → Bool) : Sp := fun vs H Q _ => ∃ x, vs = [.str x] ∧ x.length ≤ 20000 ∧ ∀ H', ah H H' → Q (.bl (f x)) H'
def uN : Sp := fun vs H Q _ => ∃ p : Cs, vs = [tx p] ∧ p ≠ [] ∧ p.length ≤ 1000 ∧ Q (.bl (great p)) H
def JG : Sp := fun vs H Q _ => ∃ (x : Str) (p : Nat), vs = [.str x, .int p] ∧ x.length ≤ 20000 ∧ p ≤ x.length ∧ Q (.int ((p + bJ (x.cps.toList.drop p) : Nat) : Int)) H
def m5 (m : Str) (c : Nat) : Bool := aZ c || (decide (c ∈ m.cps.toList) || c == 32)
def vB : Sp := fun vs H Q _ => ∃ x m, vs = [.str x, .str m] ∧ x.length ≤ 20000 ∧ 32 ∉ m.cps.toList ∧ x.cps.toList.all (m5 m) = true ∧ ∀ (l : aaC) (H' : Hp), ah H H' → H l = none → H' l = some (.lst ((toks x.cps.toList).map tx)) → Q (.ref l) H'
def qH : Sp := fun vs H Q _ => ∃ (l : aaC) (ps : List Cs) (p : Nat), vs = [.ref l, .int p] ∧ H l = some (.lst (ps.map tx)) ∧ ps.length ≤ 20000 ∧ Q (tx (ps.getD p [])) H
def E7 : Sp := fun vs H Q _ => ∃ (l : aaC) (ps : List Cs) (p n : Nat) (as : List Cs), vs = [.ref l, .int p] ∧ H l = some (.lst (ps.map tx)) ∧ ps.length ≤ 20000 ∧
 ((as = [] ∧ n = 1 ∧ ps.getD p [] = [41]) ∨ (ps.getD p [] ≠ [41] ∧ gW (ps.drop p) = some (as, n))) ∧
 ∀ (t t2 : aaC) (H' : Hp), ah H H' → H' t = some (.tup [.ref t2, .int ((p + n : Nat) : Int)]) → H' t2 = some (.tup (as.map tx)) → Q (.ref t) H'
inductive m6 : List Cs → Cs → List Cs → Nat → Prop
 | bare {k : Cs} {r : List Cs} (hk : a8 k = true) (h : r.getD 0 [] ≠ [40]) : m6 (k :: r) k [] 1
 | empty {k : Cs} {r : List Cs} (hk : a8 k = true) : m6 (k :: [40] :: [41] :: r) k [] 3
 | args {k : Cs} {r as : List Cs} {n : Nat} (hk : a8 k = true) (h0 : r.getD 0 [] ≠ [41]) (h : gW r = some (as, n)) : m6 (k :: [40] :: r) k as (n + 2)
def vC : Sp := fun vs H Q _ => ∃ (l : aaC) (ps : List Cs) (p n : Nat) (k : Cs) (as : List Cs), vs = [.ref l, .int p] ∧ H l = some (.lst (ps.map tx)) ∧ ps.length ≤ 20000 ∧ m6 (ps.drop p) k as n ∧
 ∀ (t t1 t2 : aaC) (H' : Hp), ah H H' → H' t = some (.tup [.ref t1, .int ((p + n : Nat) : Int)]) → H' t1 = some (.tup [tx k, .ref t2]) → H' t2 = some (.tup (as.map tx)) → Q (.ref t) H'
theorem E8 (l : List Nat) : bJ l ≤ l.length := by
 unfold bJ
 exact (List.takeWhile_sublist aZ).length_le
theorem Ae (c : Nat) (r : List Nat) : bJ (c :: r) = if aZ c = true then bJ r + 1 else 0 := by
 unfold bJ
 rw [ac4]
 split <;> simp
theorem rR : ∀ (l cur : List Nat), (bO l cur).length ≤ l.length + (if cur = [] then 0 else 1)
 | [], cur => by
  show (shut cur []).length ≤ _
  unfold shut
  by_cases h : cur = [] <;> simp [h]
 | c :: r, cur => by
  show (if aZ c = true then bO r (cur ++ [c]) else shut cur (if c = 32 then bO r [] else [c] :: bO r [])).length ≤ _
  have e1 := rR r (cur ++ [c])
  have e2 := rR r []
  rw [if_neg (by simp)] at e1
  rw [if_pos rfl] at e2
  by_cases ha : aZ c = true
  ·rw [if_pos ha, aag]
   omega
  ·rw [if_neg ha, aag]
   unfold shut
   by_cases h : cur = [] <;> by_cases h2 : c = 32 <;> simp [h, h2] <;> omega
theorem Dd (l : List Nat) : (toks l).length ≤ l.length := by
 have e := rR l []
 rw [if_pos rfl] at e
 exact e
theorem pT {c : Nat} (ha : aZ c = false) (hb : c ≠ 32) (r : List Nat) : toks (c :: r) = [c] :: toks r := by
 show (if aZ c = true then bO r ([] ++ [c]) else shut [] (if c = 32 then bO r [] else [c] :: bO r [])) = _
 rw [ha, if_neg (by simp), if_neg hb]
 rfl
theorem Af {x : Str} {p n : Nat} (h : p + n ≤ x.length) : acz x (some (p : Int)) (some ((p + n : Nat) : Int)) = S ((x.cps.toList.drop p).take n) := by
 have e := HC (z := x) (i := p) (j := ((p + n : Nat) : Int)) (by omega) (by omega) (by omega)
 rw [← uf (acz x (some (p : Int)) (some ((p + n : Nat) : Int))), e, show ((p : Int)).toNat = p by omega, show (((p + n : Nat) : Int) - (p : Int)).toNat = n by omega]
theorem hV {l : List Cs} {p i : Nat} : (l.drop p).getD i [] = l.getD (p + i) [] := by
 rw [Gd9, Gd9, List.getElem?_drop]
theorem HJ {l as : List Cs} {n : Nat} (h : gW l = some (as, n)) : ∃ nm mk r, l = nm :: mk :: r ∧ aB nm = true ∧ ((mk = [41] ∧ as = [nm] ∧ n = 2) ∨ (mk = [44] ∧ ∃ as' n', gW r = some (as', n') ∧ as = nm :: as' ∧ n = n' + 2)) := by
 match l, h with
 | nm :: mk :: r, h =>
  refine ⟨nm, mk, r, rfl, ?_⟩
  have h' : (if aB nm = true then (if mk = [41] then some ([nm], 2) else if mk = [44] then (gW r).map (fun q => (nm :: q.1, q.2 + 2)) else none) else none) = some (as, n) := h
  by_cases hn : aB nm = true
  ·rw [if_pos hn] at h'
   refine ⟨hn, ?_⟩
   by_cases h1 : mk = [41]
   ·rw [if_pos h1] at h'
    injection h' with h'
    injection h' with a b
    exact .inl ⟨h1, a.symm, b.symm⟩
   ·rw [if_neg h1] at h'
    by_cases h2 : mk = [44]
    ·rw [if_pos h2] at h'
     cases q : gW r with
     | none => rw [q] at h'; cases h'
     | some z =>
      rw [q] at h'
      injection h' with h'
      injection h' with a b
      exact .inr ⟨h2, z.1, z.2, rfl, a.symm, b.symm⟩
    ·rw [if_neg h2] at h'
     cases h'
  ·rw [if_neg hn] at h'
   cases h'
 | [_], h => exact nomatch h
 | [], h => exact nomatch h
theorem JH {a b : Cs} (h : a ≠ b) : decide (tx a = tx b) = false := decide_eq_false fun z => h (JE z)
def GS (x m : Str) (l : aaC) (H : Hp) (n : Nat) (σ : St) (H' : Hp) : Prop := ∃ (p : Nat) (done : List Cs) (o3 o4 : Option V), n = x.length - p ∧ σ = [some (.str x), some (.str m), some (.ref l), some (.int p), o3, o4] ∧ p ≤ x.length ∧ ah H H' ∧ H' l = some (.lst (done.map tx)) ∧ done ++ toks (x.cps.toList.drop p) = toks x.cps.toList
def Nb (l ln : aaC) (ps as : List Cs) (e : Nat) (H : Hp) (m : Nat) (σ : St) (H' : Hp) : Prop := ∃ (p n : Nat) (done as' : List Cs) (o3 o4 : Option V), m = (ps.drop p).length ∧ σ = [some (.ref l), some (.int p), some (.ref ln), o3, o4] ∧ ah H H' ∧ H' l = some (.lst (ps.map tx)) ∧ H' ln = some (.lst (done.map tx)) ∧ gW (ps.drop p) = some (as', n) ∧ done ++ as' = as ∧ p + n = e ∧ done.length + (ps.drop p).length ≤ 20000
theorem fO {p : Cs} (h : aB p = true) : 1 ≤ p.length ∧ p.length ≤ 12 := by
 unfold aB at h
 simp only [aaN, decide_eq_true_eq] at h
 exact ⟨h.1, h.2.1⟩
theorem eQ {p : Cs} (h : a8 p = true) : 1 ≤ p.length ∧ p.length ≤ 12 := by
 unfold a8 at h
 simp only [aaN] at h
 exact fO h.1
theorem mY.at {ps : List Cs} {f : Fc} (h : mY ps f) {r : List Cs} (hr : r.getD 0 [] ≠ [40]) : m6 (ps ++ r) f.k f.as ps.length := by
 cases h with
 | bare hk => exact .bare hk hr
 | empty hk => exact .empty hk
 | @args k as hk h0 h =>
  have e := pK as h0 h
  have e2 : ∀ (as : List Cs) (r : List Cs), as ≠ [] → (∀ a ∈ as, aB a = true) → gW (between as ++ r) = some (as, (between as).length) := by
   intro as
   induction as with
   | nil => intro r z; exact absurd rfl z
   | cons a t ih =>
    intro r _ ha
    cases t with
    | nil =>
     show gW (a :: [41] :: r) = some ([a], 2)
     show (if aB a = true then (if ([41] : Cs) = [41] then some ([a], 2) else _) else none) = _
     rw [if_pos (ha a (by simp)), if_pos rfl]
    | cons b t =>
     have ih' := ih r (by simp) fun x hx => ha x (aal _ hx)
     show gW (a :: [44] :: (between (b :: t) ++ r)) = some (a :: b :: t, (between (b :: t)).length + 2)
     show (if aB a = true then (if ([44] : Cs) = [41] then some ([a], 2) else if ([44] : Cs) = [44] then (gW (between (b :: t) ++ r)).map (fun q => (a :: q.1, q.2 + 2)) else none) else none) = _
     rw [if_pos (ha a (by simp)), if_neg (by decide), if_pos rfl, ih']
     rfl
  have e3 := e2 as r h0 h
  have Y0 : (between as ++ r).getD 0 [] ≠ [41] := by
   cases as with
   | nil => exact absurd rfl h0
   | cons a t =>
    have ha := h a (by simp)
    have hh : (between (a :: t) ++ r).getD 0 [] = a := by cases t <;> rfl
    rw [hh]
    intro z
    rw [z] at ha
    exact absurd ha (by decide +kernel)
  have z := m6.args hk Y0 e3
  show m6 (k :: [40] :: (between as ++ r)) k as ((between as).length + 2)
  exact z
theorem mY.pos {ps : List Cs} {f : Fc} (h : mY ps f) : 1 ≤ ps.length := by
 cases h <;> simp
theorem qF.pos {ps : List Cs} {fs : List Fc} (h : qF ps fs) : 1 ≤ ps.length := by
 cases h with
 | one h => exact h.pos
 | more h t => rw [aac]; have := h.pos; omega
theorem qF.head {ps : List Cs} {fs : List Fc} (h : qF ps fs) : ∃ (f : Fc) (n : Nat) (fs' : List Fc), fs = f :: fs' ∧ m6 ps f.k f.as n ∧ ((n = ps.length ∧ fs' = []) ∨ (n < ps.length ∧ ps.getD n [] = [44] ∧ qF (ps.drop (n + 1)) fs')) := by
 cases h with
 | @one _ f h =>
  have z := h.at (r := []) (by simp)
  rw [aaU] at z
  exact ⟨f, ps.length, [], rfl, z, .inl ⟨rfl, rfl⟩⟩
 | @more ps r f fs h t =>
  refine ⟨f, ps.length, fs, rfl, h.at (by simp), .inr ⟨by simp, ?_, ?_⟩⟩
  ·rw [Gd9, ac8 (aar _)]
   simp
  ·have e : (ps ++ [44] :: r).drop (ps.length + 1) = r := by
    rw [← acN, List.drop_left]
    rfl
   rw [e]
   exact t
def JI (K : aaa) : Sp := fun vs H Q _ => ∃ (l : aaC) (ps : List Cs) (fs : List Fc), vs = [.ref l] ∧ H l = some (.lst (ps.map tx)) ∧ ps.length ≤ 20000 ∧ qF ps fs ∧ ∀ v H', ah H H' → Facts K H H' v fs → Q v H'
def Ru (K : aaa) (l lf : aaC) (ps : List Cs) (fs : List Fc) (H : Hp) (m : Nat) (σ : St) (H' : Hp) : Prop := ∃ (p : Nat) (done rest : List Fc) (vs : List V) (o3 : Option V), m = (ps.drop p).length ∧ σ = [some (.ref l), some (.ref lf), some (.int p), o3] ∧ ah H H' ∧ H' l = some (.lst (ps.map tx)) ∧ H' lf = some (.lst vs) ∧ Paired (Fact K H') done vs ∧ qF (ps.drop p) rest ∧ done ++ rest = fs ∧ done.length + (ps.drop p).length ≤ 20000
end Bk
namespace Bk
open PySem L2 cM
def bP : List Cs → Cs
 | [] => []
 | [a] => a
 | a :: r => a ++ 10 :: bP r
def pG : Cs → List Cs
 | [] => [[]]
 | c :: r => if c = 10 then [] :: pG r else match pG r with
  | [] => [[c]]
  | q :: qs => (c :: q) :: qs
theorem Uz : ∀ p, pG p ≠ []
 | [] => by simp [pG]
 | c :: r => by
  unfold pG
  split
  ·simp
  ·split <;> simp
theorem De : ∀ (a r : Cs), 10 ∉ a → pG (a ++ 10 :: r) = a :: pG r
 | [], r, _ => by
  show (if 10 = 10 then [] :: pG r else _) = _
  rw [if_pos rfl]
 | c :: a, r, h => by
  have hc : c ≠ 10 := fun e => h (by rw [e]; exact aao)
  have ih := De a r fun z => h (aal _ z)
  show (if c = 10 then [] :: pG (a ++ 10 :: r) else match pG (a ++ 10 :: r) with | [] => [[c]] | q :: qs => (c :: q) :: qs) = _
  rw [if_neg hc, ih]
theorem Df : ∀ (a : Cs), 10 ∉ a → pG a = [a]
 | [], _ => rfl
 | c :: a, h => by
  have hc : c ≠ 10 := fun e => h (by rw [e]; exact aao)
  have ih := Df a fun z => h (aal _ z)
  show (if c = 10 then [] :: pG a else match pG a with | [] => [[c]] | q :: qs => (c :: q) :: qs) = _
  rw [if_neg hc, ih]
theorem rS : ∀ (ls : List Cs), ls ≠ [] → (∀ l ∈ ls, 10 ∉ l) → pG (bP ls) = ls
 | [], h, _ => absurd rfl h
 | [a], _, h => Df a (h a (by simp))
 | a :: b :: r, _, h => by
  show pG (a ++ 10 :: bP (b :: r)) = _
  rw [De a _ (h a (by simp)), rS (b :: r) (by simp) fun l hl => h l (aal _ hl)]
theorem Dg : ∀ (ls : List Str), (aci ⟨#[10]⟩ ls).cps.toList = bP (ls.map fun s => s.cps.toList)
 | [] => rfl
 | [a] => rfl
 | a :: b :: r => by
  have ih := Dg (b :: r)
  show ((a ++ (⟨#[10]⟩ : Str)) ++ aci ⟨#[10]⟩ (b :: r)).cps.toList = _
  rw [abl, abl, ih]
  show (a.cps.toList ++ [10]) ++ _ = a.cps.toList ++ 10 :: _
  simp
theorem JJ (x : Str) : acA x ⟨#[10]⟩ ≠ [] := by
 unfold acA
 split
 ·simp
 ·split
  ·simp
  ·intro h
   have e := congrArg ac0 h
   rw [PyProof.Rows.len_partsBetween] at e
   simp at e
theorem Dh {ls : List Cs} (h0 : ls ≠ []) (h : ∀ l ∈ ls, 10 ∉ l) : acA (S (bP ls)) (aab "\n") = ls.map S := by
 have e0 : (aab "\n") = ⟨#[10]⟩ := by decide +kernel
 rw [e0]
 have e1 := StrLaws.join_split (S (bP ls)) ⟨#[10]⟩
 have hf := StrLaws.split_free (S (bP ls)) 10
 have hn := JJ (S (bP ls))
 generalize acA (S (bP ls)) ⟨#[10]⟩ = ts at e1 hf hn
 have e2 : bP (ts.map fun s => s.cps.toList) = bP ls := by
  rw [← Dg, e1]
 have e3 := congrArg pG e2
 rw [rS ls h0 h, rS _ (by simpa using hn) (by
  intro l hl
  obtain ⟨t, ht, rfl⟩ := aat.mp hl
  exact hf t ht)] at e3
 rw [← e3, abA]
 have e4 : (S ∘ fun s : Str => s.cps.toList) = id := by
  funext s
  exact uf s
 rw [e4, acs]
def told (p : Cs) : Bool := match p.dropWhile (· == 32) with
 | [] => false
 | c :: _ => !(c == 35)
theorem GU (f : Nat → Bool) : ∀ (l : Cs), l.drop (l.takeWhile f).length = l.dropWhile f
 | [] => rfl
 | a :: r => by
  rw [ac4, acu]
  by_cases h : f a = true
  ·rw [if_pos h, if_pos h]
   exact GU f r
  ·rw [if_neg h, if_neg h]
   rfl
theorem JK (p : Cs) : ∃ q : Cs, ad0 (S p) (aab " ") = S q ∧ q.length ≤ p.length ∧ q.head? = (p.dropWhile (· == 32)).head? := by
 have e0 : (aab " ").cps.contains = fun c => c == 32 := by
  funext c
  have e : (aab " ").cps = #[32] := by decide +kernel
  rw [e]
  simp [adQ]
 unfold ad0
 rw [e0, PyProof.Rows.stripBy_eq]
 obtain ⟨a1, a2, a3⟩ := PyProof.Rows.lo_facts (fun c => c == 32) (S p)
 obtain ⟨b1, b2, b3, b4⟩ := PyProof.Rows.hi_facts (fun c => c == 32) (S p) _ a1
 have Y1 : stripLo (fun c => c == 32) true (S p) = (p.takeWhile (· == 32)).length := by
  simp [stripLo]
 rw [aD] at a1 a3 b2 b3
 generalize hlo : stripLo (fun c => c == 32) true (S p) = lo at a1 a2 a3 b1 b2 b3 b4 Y1
 generalize hhi : stripHi (fun c => c == 32) true (S p) lo = hi at b1 b2 b3 b4
 refine ⟨(p.drop lo).take (hi - lo), ?_, ?_, ?_⟩
 ·rw [← uf (Builtin.Str.strSub (S p) lo hi), StrLaws.strSub_toList, bq]
 ·rw [aaH, abf]
  omega
 ·rw [← GU, ← Y1]
  by_cases hx : lo = p.length
  ·rw [hx, List.drop_length, List.take_nil]
  ·have hl : lo < p.length := by omega
   have rB : lo < hi := by
    refine Nat.lt_of_not_le fun z => ?_
    have z1 := b3 lo z hl
    rcases a3 with a3 | a3
    ·exact hx a3
    ·rw [z1] at a3; cases a3
   rw [List.head?_take]
   rw [if_neg (by omega)]
def E9 : Sp := fun vs H Q _ => ∃ p : Cs, vs = [tx p] ∧ p.length ≤ 20000 ∧ Q (.bl (told p)) H
def Ag : Sp := fun vs H Q _ => ∃ ls : List Cs, vs = [tx (bP ls)] ∧ ls ≠ [] ∧ (∀ l ∈ ls, 10 ∉ l) ∧ (bP ls).length ≤ 20000 ∧ ∀ v H', ah H H' → tO H H' v (ls.filter told) → Q v H'
theorem zc : ∀ (ls : List Cs), ls.length ≤ (bP ls).length + 1
 | [] => by simp [bP]
 | [a] => by simp [bP]
 | a :: b :: r => by
  have ih := zc (b :: r)
  show (a :: b :: r).length ≤ (a ++ 10 :: bP (b :: r)).length + 1
  rw [aac, aag, aag (a := 10)]
  omega
theorem rT : ∀ (ls : List Cs) (l : Cs), l ∈ ls → l.length ≤ (bP ls).length
 | [a], l, h => by rw [aak.mp h]; exact aar _
 | a :: b :: r, l, h => by
  have ih := rT (b :: r)
  show l.length ≤ (a ++ 10 :: bP (b :: r)).length
  rw [aac, aag]
  rcases aaF.mp h with e | h
  ·rw [e]; omega
  ·have := ih l h; omega
abbrev cw : Str := "(),:;="
def Fb : Sp := fun vs H Q _ => ∃ p : Cs, vs = [tx p] ∧ p.length ≤ 20000 ∧ p.all (m5 cw) = true ∧ ∀ v H', ah H H' → tO H H' v (toks p) → Q v H'
abbrev a5 : Cs := [112, 97, 115, 115, 105, 110, 103]
abbrev a6 : Cs := [108, 97, 115, 116, 105, 110, 103]
abbrev cF : Cs := [114, 117, 108, 101]
abbrev bz : Cs := [116, 97, 107, 101]
abbrev bH : Cs := [107, 101, 101, 112]
abbrev bB : Cs := [108, 111, 111, 107]
abbrev cU : Cs := [112, 117, 116]
abbrev bR : Cs := [116, 101, 108, 108]
def zi (k : Kd) : List Cs := [if k.l = true then a6 else a5, k.n, [48 + k.c]]
def Fd (K : aaa) : Sp := fun vs H Q _ => ∃ (l : aaC) (k : Kd), vs = [.ref l] ∧ H l = some (.lst ((zi k).map tx)) ∧ a8 k.n = true ∧ k.c ≤ 4 ∧ ∀ v H', ah H H' → Kind K H' k v → Q v H'
end Bk
namespace Bk
open PySem L2 cM
theorem cA {tt : TE} {bc : List Nat} {σ : St} {H1 : Hp} {Q : VK} {K : aaa} {a : aaC} {xs : List V} {D : aaC} {β : Type} (bs : List β) (Out : Hp → Hp → β → V → Prop)
  (keep : ∀ H0 H H' b y, Kp H0 H H' → Out H0 H b y → Out H0 H' b y) (cg : ∀ H0 H2 H b y, (∀ c, H2 c = none → H0 c = none) → Out H2 H b y → Out H0 H b y)
  (hn : xs.length < aai) (xt : H1 D = none) (hl : aH K H1 a xs) (hb : bs.length = xs.length)
  (he : ∀ (i : Nat) x b H' R, xs[i]? = some x → bs[i]? = some b → ah H1 H' → (∀ y qA, ah H' qA → Out H' qA b y → R y qA) → tt (cD σ (some x) bc) H' R)
  (hd : ∀ H' ys, ah H1 H' → H' D = some (.lst ys) → Paired (Out H1 H') bs ys → Q (.ref D) H') : mP vf tt bc σ Q (IZ K a) H1 D := by
 have s0 : ah H1 (upd H1 D (.lst [])) := aj xt _
 have ON : ∀ c, upd H1 D (.lst []) c = none → H1 c = none := fun c h => s0.free h
 refine jQ (K := K) (a := a) (xs := xs) hn (fun i ys H' => ah H1 H' ∧ H' D = some (.lst ys) ∧ (∀ c, H' c = none → upd H1 D (.lst []) c = none) ∧ Paired (Out (upd H1 D (.lst [])) H') (bs.take i) ys) ⟨s0, ae, fun _ h => h, .nil⟩
  (fun i ys H' p => p.1.seq hl) (fun i ys H' p => ⟨p.2.1, ?_⟩) (fun i ys H' hi p => ?_) (fun ys H' p => ?_)
 ·have z := aam p.2.2.2
  rw [aaH] at z
  omega
 ·have hx : xs.getD i .bY = xs[i] := by rw [Gd9, Ge9 hi]; rfl
  rw [hx]
  have dH : i < bs.length := by omega
  refine he i xs[i] bs[i] H' _ (Ge9 hi) (Ge9 dH) p.1 fun y H2 s2 ho => ?_
  have pJ := s2 _ _ p.2.1
  have kp : Kp (upd H1 D (.lst [])) H2 (upd H2 D (.lst (ys ++ [y]))) := Kp.upd ae pJ (by intro xs z; cases z) (by intro o u z; cases z)
  refine ⟨pJ, ah.aQ (ah.trans p.1 s2) xt _, ae, fun c h => ?_, ?_⟩
  ·have h2 := kp.vz c h
   exact p.2.2.1 c (s2.free h2)
  ·rw [aap dH]
   refine (L2.Paired.d8 p.2.2.2 fun b v z => keep _ _ _ _ _ kp (keep _ _ _ _ _ (Kp.same s2) z)).snoc ?_
   exact keep _ _ _ _ _ kp (cg _ _ _ _ _ p.2.2.1 ho)
 ·have z := p.2.2.2
  rw [abp (by omega)] at z
  exact hd H' ys p.1 p.2.1 (L2.Paired.d8 z fun b v h => cg _ _ _ _ _ (fun c h => by
   by_cases e : c = D
   ·rw [e]; exact xt
   ·exact ON c h) h)
def jS (m p : Cs) (rows : List (List Cs)) : List (List Cs) := if p = m then rows ++ [[]] else rows.dropLast ++ [rows.getLastD [] ++ [p]]
theorem qI (m p : Cs) : ∀ (ps : List Cs) (rows : List (List Cs)), cn m (ps ++ [p]) rows = jS m p (cn m ps rows)
 | [], rows => rfl
 | q :: r, rows => qI m p r _
theorem JL {m p : Cs} {rows : List (List Cs)} : jS m p rows ≠ [] := by
 unfold jS
 split <;> simp
theorem vD (m : Cs) : ∀ (ps : List Cs) (rows : List (List Cs)), rows ≠ [] → cn m ps rows ≠ []
 | [], rows, h => h
 | q :: r, rows, h => vD m r _ (show jS m q rows ≠ [] from JL)
theorem tP {α β : Type} {R : α → β → Prop} : ∀ {l1 : List α} {l2 : List β}, Paired R l1 l2 → l1 ≠ [] → ∃ a1 x b1 y, l1 = a1 ++ [x] ∧ l2 = b1 ++ [y] ∧ Paired R a1 b1 ∧ R x y
 | _, _, .nil, h => absurd rfl h
 | _, _, .cons (a := a) (b := b) (l₁ := l1) (l₂ := l2) r t, _ => by
  cases t with
  | nil => exact ⟨[], a, [], b, rfl, rfl, .nil, r⟩
  | cons r2 t2 =>
   obtain ⟨a1, x, b1, y, e1, e2, h1, h2⟩ := tP (.cons r2 t2) (by simp)
   exact ⟨a :: a1, x, b :: b1, y, by rw [e1]; rfl, by rw [e2]; rfl, .cons r h1, h2⟩
theorem pU {α β : Type} {R : α → β → Prop} : ∀ {l1 : List α} {l2 : List β}, Paired R l1 l2 → ∀ {y : β}, y ∈ l2 → ∃ x, x ∈ l1 ∧ R x y
 | _, _, .nil, _, h => nomatch h
 | _, _, .cons r t, y, h => by
  rcases aaF.mp h with e | h
  ·subst e; exact ⟨_, aao, r⟩
  ·obtain ⟨x, hx, hr⟩ := pU t h
   exact ⟨x, aal _ hx, hr⟩
theorem aR {α β : Type} {R R' : α → β → Prop} : ∀ {l1 : List α} {l2 : List β}, Paired R l1 l2 → (∀ a b, b ∈ l2 → R a b → R' a b) → Paired R' l1 l2
 | _, _, .nil, _ => .nil
 | _, _, .cons r t, h => .cons (h _ _ aao r) (aR t fun a b hb => h a b (aal _ hb))
theorem tQ {α β γ : Type} {g : β → γ} {R : α → γ → Prop} : ∀ {l1 : List α} {l2 : List β}, Paired (fun a b => R a (g b)) l1 l2 → Paired R l1 (l2.map g)
 | _, _, .nil => .nil
 | _, _, .cons r t => .cons r (tQ t)
def Nc (H0 H : Hp) (row : List Cs) (v : V) : Prop := ∃ b, v = .ref b ∧ H0 b = none ∧ H b = some (.lst (row.map tx))
def Rows (H0 H : Hp) (v : V) (rows : List (List Cs)) : Prop := ∃ l vs, v = .ref l ∧ H0 l = none ∧ H l = some (.lst vs) ∧ Paired (Nc H0 H) rows vs
def m7 : Sp := fun vs H Q _ => ∃ (l : aaC) (ps : List Cs) (m : Cs), vs = [.ref l, tx m] ∧ H l = some (.lst (ps.map tx)) ∧ ps.length ≤ 20000 ∧ ∀ v H', ah H H' → Rows H H' v (cn m ps [[]]) → Q v H'
theorem tR (m : Cs) : ∀ (ps : List Cs) (rows : List (List Cs)), (cn m ps rows).length ≤ rows.length + ps.length + 1
 | [], rows => by show rows.length ≤ _; omega
 | p :: r, rows => by
  have ih := tR m r (jS m p rows)
  have : (jS m p rows).length ≤ rows.length + 1 := by
   unfold jS
   split
   ·simp
   ·rw [aac, List.length_dropLast, abH]; omega
  show (cn m r (jS m p rows)).length ≤ _
  rw [aag]
  omega
theorem vE (m : Cs) : ∀ (ps : List Cs) (rows : List (List Cs)) (B : Nat), (∀ r ∈ rows, r.length ≤ B) → ∀ r ∈ cn m ps rows, r.length ≤ B + ps.length
 | [], rows, B, h, r, hr => by have := h r hr; show r.length ≤ B + 0; omega
 | p :: q, rows, B, h, r, hr => by
  have ih := vE m q (jS m p rows) (B + 1) (by
   intro x hx
   unfold jS at hx
   split at hx
   ·rcases aax.mp hx with hx | hx
    ·have := h x hx; omega
    ·rw [aak.mp hx]; simp
   ·rcases aax.mp hx with hx | hx
    ·have := h x ((List.dropLast_sublist rows).subset hx); omega
    ·rw [aak.mp hx, aac]
     have : (rows.getLastD []).length ≤ B := by
      cases rows with
      | nil => exact abm _
      | cons a t => exact h _ (List.getLast_mem (by simp : a :: t ≠ []))
     rw [abH]
     omega) r hr
  rw [aag]
  omega
abbrev ig : Cs := [115, 97, 109, 101]
abbrev dM : Cs := [117, 110, 108, 105, 107, 101]
def jT (k : Lk) : List Cs := [k.l, if k.same = true then ig else dM, k.r]
def jU (p : Cs × Cs) : List Cs := [p.1, [61], p.2]
def GV : Sp := fun vs H Q _ => ∃ (l : aaC) (a m b : Cs), vs = [.ref l] ∧ H l = some (.lst [tx a, tx m, tx b]) ∧ aB a = true ∧ aB b = true ∧ ∀ H', ah H H' → Q .bY H'
structure uh (K : aaa) (C : aaC) : Prop where
 cl : CM K C
 nL : cz K C "left"
 nR : cz K C "right"
def km (K : aaa) : Sp := fun vs H Q _ => ∃ (C p dx : aaC) (l r : V), vs = [.ref p, l, r] ∧ uh K C ∧ H p = some (.ins C dx []) ∧ ∀ H' fs, H' p = some (.ins C dx fs) → fs.lookup ("left" : Str) = some l → fs.lookup ("right" : Str) = some r → fs.lookup ("holds" : Str) = none → fs.lookup ("word" : Str) = none → (∀ b o, H b = some o → b ≠ p → H' b = some o) → Q .bY H'
def Fe (c : Cl) : Sp := fun vs H Q _ => ∃ (l : aaC) (k : Lk), vs = [.ref l] ∧ H l = some (.lst ((jT k).map tx)) ∧ aB k.l = true ∧ aB k.r = true ∧ ∀ v H', ah H H' → qD c H H' k v → Q v H'
def Ff (K : aaa) : Sp := fun vs H Q _ => ∃ (l : aaC) (p : Cs × Cs), vs = [.ref l] ∧ H l = some (.lst ((jU p).map tx)) ∧ aB p.1 = true ∧ aB p.2 = true ∧ ∀ v H', ah H H' → Pair K H' p v → Q v H'
def Ah (c : Cl) : Sp := fun vs H Q _ => ∃ (l : aaC) (ks : List Lk), vs = [.ref l] ∧ H l = some (.lst ((glue [44] (ks.map jT)).map tx)) ∧ ks ≠ [] ∧ ks.length ≤ 1000 ∧ (∀ k ∈ ks, aB k.l = true ∧ aB k.r = true) ∧ ∀ v H', ah H H' → Looks c H H' v ks → Q v H'
def Ai (K : aaa) : Sp := fun vs H Q _ => ∃ (l : aaC) (ps : List (Cs × Cs)), vs = [.ref l] ∧ H l = some (.lst ((glue [44] (ps.map jU)).map tx)) ∧ ps ≠ [] ∧ ps.length ≤ 1000 ∧ (∀ k ∈ ps, aB k.1 = true ∧ aB k.2 = true) ∧ ∀ v H', ah H H' → Pairs K H H' v ps → Q v H'
theorem pq {p : Cs} (h : aB p = true) : p ≠ [44] := by
 intro e
 rw [e] at h
 exact absurd h (by decide +kernel)
theorem vF {m : Cs} : ∀ (qs : List (List Cs)) (B : Nat), (∀ q ∈ qs, q.length ≤ B) → (glue m qs).length ≤ qs.length * (B + 1)
 | [], _, _ => by simp [glue]
 | [q], B, h => by
  show q.length ≤ _
  have := h q (by simp)
  simp
  omega
 | q :: q2 :: r, B, h => by
  have ih := vF (m := m) (q2 :: r) B fun x hx => h x (aal _ hx)
  have hq := h q (by simp)
  show (q ++ m :: glue m (q2 :: r)).length ≤ _
  rw [aac, aag, aag, adA]
  omega
end Bk
namespace Bk
open PySem L2 cM
inductive Pt where
 | fs (l : List Fc)
 | lk (l : List Lk)
 | pr (l : List (Cs × Cs))
def dg (K : aaa) (c : Cl) (H0 H : Hp) (v : V) : Pt → Prop
 | .fs l => Facts K H0 H v l
 | .lk l => Looks c H0 H v l
 | .pr l => Pairs K H0 H v l
theorem dg.keep {K : aaa} {c : Cl} {H0 H H' : Hp} {v : V} (k : Kp H0 H H') : ∀ {p : Pt}, dg K c H0 H v p → dg K c H0 H' v p
 | .fs _, h => Facts.keep k h
 | .lk _, h => Looks.keep k h
 | .pr _, h => Pairs.keep k h
theorem qD.cg {c : Cl} {H0 H1 H : Hp} {x : Lk} {v : V} (d : ∀ b, H1 b = none → H0 b = none) (h : qD c H1 H x v) : qD c H0 H x v := by
 obtain ⟨a, dx, fs, e, n, r⟩ := h
 exact ⟨a, dx, fs, e, d a n, r⟩
theorem Looks.cg {c : Cl} {H0 H1 H : Hp} {xs : List Lk} {v : V} (d : ∀ b, H1 b = none → H0 b = none) (h : Looks c H1 H v xs) : Looks c H0 H v xs := by
 obtain ⟨l, vs, e, n, h1, h2⟩ := h
 exact ⟨l, vs, e, d l n, h1, L2.Paired.d8 h2 fun _ _ z => z.cg d⟩
theorem dg.cg {K : aaa} {c : Cl} {H0 H1 H : Hp} {v : V} (d : ∀ b, H1 b = none → H0 b = none) : ∀ {p : Pt}, dg K c H1 H v p → dg K c H0 H v p
 | .fs _, h => xx.cg d h
 | .lk _, h => Looks.cg d h
 | .pr _, h => xx.cg d h
def wordAt : Nat → Cs
 | 0 => bz
 | 1 => bH
 | 2 => bB
 | 3 => cU
 | _ => bR
theorem vG {i j : Nat} (hi : i < 5) (hj : j < 5) (h : wordAt i = wordAt j) : i = j := by
 rcases (by omega : i = 0 ∨ i = 1 ∨ i = 2 ∨ i = 3 ∨ i = 4) with e | e | e | e | e <;> subst e <;>
 rcases (by omega : j = 0 ∨ j = 1 ∨ j = 2 ∨ j = 3 ∨ j = 4) with e | e | e | e | e <;> subst e <;> first | rfl | exact absurd h (by decide)
inductive m8 : Nat → List Cs → Pt → Prop
 | fs {n : Nat} {ps : List Cs} {l : List Fc} (hn : n = 0 ∨ n = 1 ∨ n = 3) (h : qF ps l) : m8 n ps (.fs l)
 | lk {l : List Lk} (h0 : l ≠ []) (hl : l.length ≤ 1000) (h : ∀ k ∈ l, aB k.l = true ∧ aB k.r = true) : m8 2 (glue [44] (l.map jT)) (.lk l)
 | pr {l : List (Cs × Cs)} (h0 : l ≠ []) (hl : l.length ≤ 1000) (h : ∀ k ∈ l, aB k.1 = true ∧ aB k.2 = true) : m8 4 (glue [44] (l.map jU)) (.pr l)
def Fg (K : aaa) (c : Cl) : Sp := fun vs H Q _ => ∃ (l : aaC) (n : Nat) (ps : List Cs) (p : Pt), vs = [tx (wordAt n), .ref l] ∧ H l = some (.lst (ps.map tx)) ∧ ps.length ≤ 20000 ∧ m8 n ps p ∧ ∀ v H', ah H H' → dg K c H H' v p → Q v H'
structure Pr where
 n : Nat
 ps : List Cs
 p : Pt
def Nd : Nat → List Pr → Prop
 | _, [] => True
 | m, x :: r => m ≤ x.n ∧ x.n < 5 ∧ Nd (x.n + 1) r
structure GW (title : Cs) (L : List Pr) : Prop where
 tt : a8 title = true
 ne : L ≠ []
 inc : Nd 0 L
 ok : ∀ x ∈ L, m8 x.n x.ps x.p
 hd : ∃ x ∈ L, x.n = 0 ∨ x.n = 1
 no : ∀ x ∈ L, [59] ∉ x.ps
def gI (title : Cs) (L : List Pr) : List Cs := cF :: title :: [58] :: glue [59] (L.map fun x => wordAt x.n :: x.ps)
def dh (K : aaa) (c : Cl) (H0 H : Hp) (L : List Pr) (kvs : List (Key × V)) : Prop := Paired (fun (x : Pr) (kv : Key × V) => kv.1 = aaX (S (wordAt x.n)) ∧ dg K c H0 H kv.2 x.p) L kvs
theorem dh.keep {K : aaa} {c : Cl} {H0 H H' : Hp} {L : List Pr} {kvs : List (Key × V)} (k : Kp H0 H H') (h : dh K c H0 H L kvs) : dh K c H0 H' L kvs := L2.Paired.d8 h fun _ _ z => ⟨z.1, z.2.keep k⟩
def Fh (K : aaa) (c : Cl) : Sp := fun vs H Q _ => ∃ (l : aaC) (title : Cs) (L : List Pr), vs = [.ref l] ∧ H l = some (.lst ((gI title L).map tx)) ∧ (gI title L).length ≤ 20000 ∧ GW title L ∧
 ∀ (t d : aaC) (kvs : List (Key × V)) (H' : Hp), ah H H' → H' t = some (.tup [tx title, .ref d]) → H d = none → H' d = some (.dK kvs) → dh K c H H' L kvs → Q (.ref t) H'
theorem zj {kvs : List (Key × V)} {k : Key} (h : ∀ p ∈ kvs, p.1 ≠ k) : bQ kvs k = none := by
 cases e : bQ kvs k with
 | none => rfl
 | some v =>
  obtain ⟨p, hp, hk⟩ := aat.mp (L5 e)
  exact absurd hk (h p hp)
theorem rV : ∀ {L : List Pr} {m : Nat}, Nd m L → ∀ x ∈ L, m ≤ x.n ∧ x.n < 5
 | [], _, _, _, h => nomatch h
 | y :: r, m, hi, x, h => by
  rcases aaF.mp h with e | h
  ·subst e; exact ⟨hi.1, hi.2.1⟩
  ·have z := rV hi.2.2 x h
   have := hi.1
   exact ⟨by omega, z.2⟩
theorem JM : ∀ {L : List Pr} {m : Nat}, Nd m L → ∀ i (h : i < L.length), (∀ x ∈ L.take i, x.n < L[i].n) ∧ L[i].n < 5
 | y :: r, m, hi, 0, _ => ⟨(fun _ z => by cases z), hi.2.1⟩
 | y :: r, m, hi, i + 1, h => by
  have ih := JM hi.2.2 i (by simpa using h)
  refine ⟨fun x hx => ?_, ih.2⟩
  rw [aee] at hx
  rcases aaF.mp hx with e | hx
  ·subst e
   have := rV hi.2.2 (r[i]'(by simpa using h)) (aaq _)
   show x.n < (r[i]'(by simpa using h)).n
   omega
  ·exact ih.1 x hx
theorem zm : ∀ {L : List Pr} {m : Nat}, Nd m L → ∀ i (h : i < L.length), ∀ x ∈ L.drop (i + 1), L[i].n + 1 ≤ x.n
 | y :: r, m, hi, 0, _, x, hx => (rV hi.2.2 x hx).1
 | y :: r, m, hi, i + 1, h, x, hx => zm hi.2.2 i (by simpa using h) x hx
theorem GX : ∀ {L : List Pr} {m : Nat}, Nd m L → m ≤ 5 → L.length ≤ 5 - m
 | [], _, _, _ => abm _
 | y :: r, m, hi, hm => by
  have ih := GX hi.2.2 (by have := hi.2.1; omega)
  have := hi.1
  have := hi.2.1
  rw [aag]
  omega
theorem Di {m : Cs} : ∀ (qs : List (List Cs)) (q : List Cs), q ∈ qs → q.length ≤ (glue m qs).length
 | [a], q, h => by rw [aak.mp h]; exact aar _
 | a :: b :: r, q, h => by
  have ih := Di (m := m) (b :: r)
  show q.length ≤ (a ++ m :: glue m (b :: r)).length
  rw [aac, aag]
  rcases aaF.mp h with e | h
  ·rw [e]; omega
  ·have := ih q h; omega
theorem zo {K : aaa} {c : Cl} {H0 H : Hp} : ∀ {L : List Pr} {kvs : List (Key × V)}, dh K c H0 H L kvs → ∀ {x : Pr}, x ∈ L → (bQ kvs (aaX (S (wordAt x.n)) : Key)).isSome = true
 | _, _, .nil, _, h => nomatch h
 | _, _, .cons (a := a) (b := b) (l₁ := l1) (l₂ := l2) r t, x, h => by
  rw [← jR, acy]
  rcases aaF.mp h with e | h
  ·subst e
   rw [decide_eq_true r.1]
   rfl
  ·have ih := zo t h
   rw [← jR] at ih
   rw [ih, Bool.or_true]
end Bk
namespace Bk
open PySem L2 cM
def JN (f : Fc) : Prop := a8 f.k = true ∧ f.as.length ≤ 20000 ∧ ∀ a ∈ f.as, aB a = true
def mJ (x : Cs) (acc : List Cs) : List Cs := if great x = true then (if x ∈ acc then acc else acc ++ [x]) else acc
def eU (l : List Cs) (acc : List Cs) : List Cs := l.foldl (fun acc x => mJ x acc) acc
theorem iV : ∀ (l acc : List Cs), once (l.filter great) acc = eU l acc
 | [], acc => rfl
 | x :: r, acc => by
  rw [List.filter_cons]
  by_cases h : great x = true
  ·rw [if_pos h]
   show once (r.filter great) (if x ∈ acc then acc else acc ++ [x]) = eU r (mJ x acc)
   rw [iV r]
   unfold mJ
   rw [if_pos h]
  ·rw [if_neg h, iV r]
   show _ = eU r (mJ x acc)
   unfold mJ
   rw [if_neg h]
theorem JO (fs : List Fc) : opens fs = eU (fs.flatMap (·.as)) [] := iV _ _
theorem rW (a b acc : List Cs) : eU (a ++ b) acc = eU b (eU a acc) := acG ..
def xA (a : Cs) : Key × V := (aaX (S a), .bl true)
theorem JP (x : Cs) (acc : List Cs) : putK (acc.map xA) (aaX (S x) : Key) (.bl true) = (if x ∈ acc then acc else acc ++ [x]).map xA := by
 unfold putK
 have e : ((acc.map xA).any fun kv => decide (kv.1 = (aaX (S x) : Key))) = decide (x ∈ acc) := by
  rw [abW, adC, decide_eq_true_eq]
  constructor
  ·rintro ⟨kv, hm, hk⟩
   obtain ⟨a, ha, rfl⟩ := aat.mp hm
   have := of_decide_eq_true hk
   rw [y9 (adv this)] at ha
   exact ha
  ·intro h
   exact ⟨xA x, aat.mpr ⟨x, h, rfl⟩, decide_eq_true rfl⟩
 rw [e]
 by_cases h : x ∈ acc
 ·rw [decide_eq_true h, if_pos rfl, if_pos h]
  rw [abA]
  refine acv fun a _ => ?_
  show (if (xA a).1 = _ then ((xA a).1, V.bl true) else xA a) = xA a
  split <;> rfl
 ·rw [decide_eq_false h, if_neg (by decide), if_neg h, aan]
  rfl
theorem HK (x : Cs) (acc : List Cs) : (mJ x acc).length ≤ acc.length + 1 := by
 unfold mJ
 split
 ·split <;> simp
 ·omega
def Aj (K : aaa) : Sp := fun vs H Q _ => ∃ (l : aaC) (us : List V) (fs : List Fc), vs = [.ref l] ∧ H l = some (.lst us) ∧ Paired (Fact K H) fs us ∧ fs.length ≤ 20000 ∧ (∀ f ∈ fs, JN f) ∧ (fs.flatMap (·.as)).length ≤ 20000 ∧ ∀ v H', ah H H' → tO H H' v (opens fs) → Q v H'
def qJ (n : Nat) (L : List Pr) : Option Pr := L.find? fun x => x.n == n
def xB (n : Nat) (L : List Pr) : List Fc := match qJ n L with
 | some ⟨_, _, .fs l⟩ => l
 | _ => []
def L8 (L : List Pr) : List Lk := match qJ 2 L with
 | some ⟨_, _, .lk l⟩ => l
 | _ => []
def L9 (L : List Pr) : List (Cs × Cs) := match qJ 4 L with
 | some ⟨_, _, .pr l⟩ => l
 | _ => []
def rY (title : Cs) (L : List Pr) : Rl := ⟨title, xB 0 L, xB 1 L, L8 L, xB 3 L, L9 L⟩
theorem pw {K : aaa} {c : Cl} {H0 H : Hp} : ∀ {L : List Pr} {kvs : List (Key × V)} {n : Nat}, dh K c H0 H L kvs → (∀ x ∈ L, x.n < 5) → n < 5 →
  (qJ n L = none ∧ bQ kvs (aaX (S (wordAt n)) : Key) = none) ∨ ∃ x v, qJ n L = some x ∧ x ∈ L ∧ x.n = n ∧ bQ kvs (aaX (S (wordAt n)) : Key) = some v ∧ dg K c H0 H v x.p
 | _, _, n, .nil, _, _ => .inl ⟨rfl, rfl⟩
 | _, _, n, .cons (a := a) (b := b) (l₁ := l1) (l₂ := l2) r t, h5, hn => by
  by_cases e : a.n = n
  ·refine .inr ⟨a, b.2, ?_, aao, e, ?_, r.2⟩
   ·unfold qJ
    rw [abQ, show (a.n == n) = true by simpa using e]
   ·exact mS (by rw [r.1, e])
  ·have hf : qJ n (a :: l1) = qJ n l1 := by
    unfold qJ
    rw [abQ, show (a.n == n) = false by simpa using e]
   have hv : bQ (b :: l2) (aaX (S (wordAt n)) : Key) = bQ l2 (aaX (S (wordAt n)) : Key) := mT (by
    rw [r.1]
    intro z
    exact e (vG (h5 a aao) hn (y9 (adv z))))
   rw [hf, hv]
   rcases pw (n := n) t (fun x hx => h5 x (aal _ hx)) hn with z | ⟨x, v, z1, z2, z3⟩
   ·exact .inl z
   ·exact .inr ⟨x, v, z1, aal _ z2, z3⟩
theorem Dj {K : aaa} {H0 H : Hp} {l : aaC} (h0 : H0 l = none) (h : H l = some (.lst [])) : Facts K H0 H (.ref l) [] := ⟨l, [], rfl, h0, h, .nil⟩
theorem Dk {c : Cl} {H0 H : Hp} {l : aaC} (h0 : H0 l = none) (h : H l = some (.lst [])) : Looks c H0 H (.ref l) [] := ⟨l, [], rfl, h0, h, .nil⟩
theorem Dl {K : aaa} {H0 H : Hp} {l : aaC} (h0 : H0 l = none) (h : H l = some (.lst [])) : Pairs K H0 H (.ref l) [] := ⟨l, [], rfl, h0, h, .nil⟩
theorem Fi {K : aaa} {c : Cl} {H0 H : Hp} {L : List Pr} {kvs : List (Key × V)} {n : Nat} {l : aaC} (pa : dh K c H0 H L kvs) (h5 : ∀ x ∈ L, x.n < 5) (hok : ∀ x ∈ L, m8 x.n x.ps x.p) (hn : n = 0 ∨ n = 1 ∨ n = 3) (h0 : H0 l = none) (h : H l = some (.lst [])) :
  Facts K H0 H ((bQ kvs (aaX (S (wordAt n)) : Key)).getD (.ref l)) (xB n L) := by
 rcases pw (n := n) pa h5 (by omega) with ⟨z1, z2⟩ | ⟨⟨xn, Y2, xp⟩, v, z1, z2, rfl, z4, z5⟩
 ·rw [z2]
  unfold xB
  rw [z1]
  exact Dj h0 h
 ·rw [z4]
  unfold xB
  rw [z1]
  have hP := hok _ z2
  cases xp with
  | fs l => exact z5
  | lk l => cases hP; exact absurd (show 2 = 0 ∨ 2 = 1 ∨ 2 = 3 from hn) (by decide)
  | pr l => cases hP; exact absurd (show 4 = 0 ∨ 4 = 1 ∨ 4 = 3 from hn) (by decide)
theorem OO {K : aaa} {c : Cl} {H0 H : Hp} {L : List Pr} {kvs : List (Key × V)} {l : aaC} (pa : dh K c H0 H L kvs) (h5 : ∀ x ∈ L, x.n < 5) (hok : ∀ x ∈ L, m8 x.n x.ps x.p) (h0 : H0 l = none) (h : H l = some (.lst [])) :
  Looks c H0 H ((bQ kvs (aaX (S (wordAt 2)) : Key)).getD (.ref l)) (L8 L) := by
 rcases pw (n := 2) pa h5 (by omega) with ⟨z1, z2⟩ | ⟨⟨xn, Y2, xp⟩, v, z1, z2, z3, z4, z5⟩
 ·rw [z2]
  unfold L8
  rw [z1]
  exact Dk h0 h
 ·rw [z4]
  unfold L8
  rw [z1]
  have z3 : xn = 2 := z3
  subst z3
  have hP := hok _ z2
  cases xp with
  | fs l => cases hP with | fs hn _ => exact absurd (show 2 = 0 ∨ 2 = 1 ∨ 2 = 3 from hn) (by decide)
  | lk l => exact z5
  | pr l => cases hP
theorem OP {K : aaa} {c : Cl} {H0 H : Hp} {L : List Pr} {kvs : List (Key × V)} {l : aaC} (pa : dh K c H0 H L kvs) (h5 : ∀ x ∈ L, x.n < 5) (hok : ∀ x ∈ L, m8 x.n x.ps x.p) (h0 : H0 l = none) (h : H l = some (.lst [])) :
  Pairs K H0 H ((bQ kvs (aaX (S (wordAt 4)) : Key)).getD (.ref l)) (L9 L) := by
 rcases pw (n := 4) pa h5 (by omega) with ⟨z1, z2⟩ | ⟨⟨xn, Y2, xp⟩, v, z1, z2, z3, z4, z5⟩
 ·rw [z2]
  unfold L9
  rw [z1]
  exact Dl h0 h
 ·rw [z4]
  unfold L9
  rw [z1]
  have z3 : xn = 4 := z3
  subst z3
  have hP := hok _ z2
  cases xp with
  | fs l => cases hP with | fs hn _ => exact absurd (show 4 = 0 ∨ 4 = 1 ∨ 4 = 3 from hn) (by decide)
  | lk l => cases hP
  | pr l => exact z5
structure xC (K : aaa) (C : aaC) : Prop where
 cl : CM K C
 n1 : cz K C "title"
 n2 : cz K C "taken"
 n3 : cz K C "kept"
 n4 : cz K C "looks"
 n5 : cz K C "given"
 n6 : cz K C "told"
 n7 : cz K C "names"
structure Ma (K : aaa) (C : aaC) : Prop where
 cl : CM K C
 n1 : cz K C "kinds"
 n2 : cz K C "rules"
structure Mb (r : Rl) : Prop where
 heads : ∀ f ∈ r.take ++ r.keep, JN f
 few : (r.take ++ r.keep).length ≤ 20000
 VS : ((r.take ++ r.keep).flatMap (·.as)).length ≤ 20000
def uO (K : aaa) (c : Cl) : Sp := fun vs H Q _ => ∃ (H0 : Hp) (p dx d : aaC) (title : Cs) (L : List Pr) (kvs : List (Key × V)) (u0 : HO), vs = [.ref p, tx title, .ref d] ∧ H p = some (.ins c.rule dx []) ∧ H0 p = some u0 ∧ (∀ b, H b = none → H0 b = none) ∧ H d = some (.dK kvs) ∧
 dh K c H0 H L kvs ∧ (∀ x ∈ L, x.n < 5) ∧ (∀ x ∈ L, m8 x.n x.ps x.p) ∧ Mb (rY title L) ∧
 ∀ H' fs, H' p = some (.ins c.rule dx fs) → qE K c H0 H' (rY title L) fs → (∀ b o, H b = some o → b ≠ p → H' b = some o) → Q .bY H'
def uP (K : aaa) (c : Cl) : Sp := fun vs H Q _ => ∃ (p dx : aaC) (k r : V), vs = [.ref p, k, r] ∧ H p = some (.ins c.book dx []) ∧ ∀ H' fs, H' p = some (.ins c.book dx fs) → fs.lookup ("kinds" : Str) = some k → fs.lookup ("rules" : Str) = some r → (∀ b o, H b = some o → b ≠ p → H' b = some o) → Q .bY H'
def uQ (K : aaa) (c : Cl) : Sp := fun vs H Q _ => ∃ (H0 : Hp) (v : V) (r : Rl), vs = [v] ∧ ie K c H0 H r v ∧ Q (.bl (decide (r.take = []))) H
theorem cB {α β : Type} {R : α → β → Prop} : ∀ {a1 a2 : List α} {b1 b2 : List β}, Paired R a1 b1 → Paired R a2 b2 → Paired R (a1 ++ a2) (b1 ++ b2)
 | _, _, _, _, .nil, h => h
 | _, _, _, _, .cons r t, h => .cons r (cB t h)
end Bk
namespace Bk
open PySem L2 cM
theorem pz (a : Cs) (l : List Cs) : Lr (tx a) (l.map tx) = decide (a ∈ l) := by
 unfold Lr
 rw [List.any_map, abW, adC, decide_eq_true_eq]
 constructor
 ·rintro ⟨x, hx, h⟩
  have e : (S x == S a) = true := h
  rw [y9 (eq_of_beq e)] at hx
  exact hx
 ·intro h
  exact ⟨a, h, (show (S a == S a) = true from beq_self_eq_true _)⟩
theorem jV (l : List Cs) : (l.map tx).all jO = true := by
 rw [aeA, aaS]
 intro x _
 rfl
theorem pA {tt : TT} {te : TE} {bc : List Nat} {σ : St} {H1 : Hp} {Q : VK} {K : aaa} {a : aaC} {xs : List V} {D : aaC} {β γ : Type} (bs : List β) (kp : β → Bool) (g : β → γ) (Out : Hp → Hp → γ → V → Prop)
  (keep : ∀ H0 H H' b y, Kp H0 H H' → Out H0 H b y → Out H0 H' b y) (cg : ∀ H0 H2 H b y, (∀ c, H2 c = none → H0 c = none) → Out H2 H b y → Out H0 H b y)
  (hn : xs.length < aai) (xt : H1 D = none) (hl : aH K H1 a xs) (hb : bs.length = xs.length)
  (ht : ∀ (i : Nat) x b H' R, xs[i]? = some x → bs[i]? = some b → ah H1 H' → (∀ qA, ah H' qA → R (kp b) qA) → tt (cD σ (some x) bc) H' R)
  (he : ∀ (i : Nat) x b H' R, xs[i]? = some x → bs[i]? = some b → kp b = true → ah H1 H' → (∀ y qA, ah H' qA → Out H' qA (g b) y → R y qA) → te (cD σ (some x) bc) H' R)
  (hd : ∀ H' ys, ah H1 H' → H' D = some (.lst ys) → Paired (Out H1 H') ((bs.filter kp).map g) ys → Q (.ref D) H') : mP tt te bc σ Q (IZ K a) H1 D := by
 have s0 : ah H1 (upd H1 D (.lst [])) := aj xt _
 have ON : ∀ c, upd H1 D (.lst []) c = none → H1 c = none := fun c h => s0.free h
 refine jQ (K := K) (a := a) (xs := xs) hn (fun i ys H' => ah H1 H' ∧ H' D = some (.lst ys) ∧ (∀ c, H' c = none → upd H1 D (.lst []) c = none) ∧ Paired (Out (upd H1 D (.lst [])) H') (((bs.take i).filter kp).map g) ys) ⟨s0, ae, fun _ h => h, .nil⟩
  (fun i ys H' p => p.1.seq hl) (fun i ys H' p => ⟨p.2.1, ?_⟩) (fun i ys H' hi p => ?_) (fun ys H' p => ?_)
 ·have z := aam p.2.2.2
  rw [Lm9] at z
  have z2 := acf kp (bs.take i)
  rw [aaH] at z2
  omega
 ·have hx : xs.getD i .bY = xs[i] := by rw [Gd9, Ge9 hi]; rfl
  rw [hx]
  have dH : i < bs.length := by omega
  refine ht i xs[i] bs[i] H' _ (Ge9 hi) (Ge9 dH) p.1 fun Y3 OQ => ?_
  have Uy := OQ _ _ p.2.1
  have OR : ∀ c, Y3 c = none → upd H1 D (.lst []) c = none := fun c h => p.2.2.1 c (OQ.free h)
  cases hk : kp bs[i] with
  | false =>
   refine bb ⟨ah.trans p.1 OQ, Uy, OR, ?_⟩
   rw [aap dH, abK]
   have e : [bs[i]].filter kp = [] := by simp [hk]
   rw [e, aaU]
   exact L2.Paired.d8 p.2.2.2 fun b v z => keep _ _ _ _ _ (Kp.same OQ) z
  | true =>
   refine dq ?_
   refine he i xs[i] bs[i] Y3 _ (Ge9 hi) (Ge9 dH) hk (ah.trans p.1 OQ) fun y H2 s2 ho => ?_
   have pJ := s2 _ _ Uy
   have M9 : Kp (upd H1 D (.lst [])) H2 (upd H2 D (.lst (ys ++ [y]))) := Kp.upd ae pJ (by intro xs z; cases z) (by intro o u z; cases z)
   refine ⟨pJ, ah.aQ (ah.trans (ah.trans p.1 OQ) s2) xt _, ae, fun c h => ?_, ?_⟩
   ·exact OR c (s2.free (M9.vz c h))
   ·rw [aap dH, abK]
    have e : [bs[i]].filter kp = [bs[i]] := by simp [hk]
    rw [e, aan]
    refine (L2.Paired.d8 p.2.2.2 fun b v z => keep _ _ _ _ _ M9 (keep _ _ _ _ _ (Kp.same (ah.trans OQ s2)) z)).snoc ?_
    exact keep _ _ _ _ _ M9 (cg _ _ _ _ _ OR ho)
 ·have z := p.2.2.2
  rw [abp (by omega)] at z
  exact hd H' ys p.1 p.2.1 (L2.Paired.d8 z fun b v h => cg _ _ _ _ _ (fun c h => by
   by_cases e : c = D
   ·rw [e]; exact xt
   ·exact ON c h) h)
theorem bT : ∀ {l : List Cs} {ys : List V}, Paired (fun b y => y = tx b) l ys → ys = l.map tx
 | _, _, .nil => rfl
 | _, _, .cons r t => by rw [r, bT t]; rfl
def Rv (k : Kd) : Prop := a8 k.n = true ∧ k.c ≤ 4
structure pV (K : aaa) (c : Cl) (H0 H : Hp) (lk lr : aaC) (ks : List Kd) (rs : List Rl) (kvs rC : List V) : Prop where
 hk : H lk = some (.lst kvs)
 pk : Paired (Kind K H) ks kvs
 hr : H lr = some (.lst rC)
 pr : Paired (ie K c H0 H) rs rC
 ne : lk ≠ lr
 ok : ∃ u, H0 lk = some u
 or : ∃ u, H0 lr = some u
 vz : ∀ b, H b = none → H0 b = none
 fk : ks.length ≤ 10000
 fr : rs.length ≤ 10000
def Fj (K : aaa) (c : Cl) : Sp := fun vs H Q _ => ∃ (H0 : Hp) (lk lr : aaC) (ks : List Kd) (rs : List Rl) (kvs rC : List V) (p : Cs), vs = [.ref lk, .ref lr, tx p] ∧ pV K c H0 H lk lr ks rs kvs rC ∧ ks.length < 10000 ∧ rs.length < 10000 ∧ p.length ≤ 20000 ∧ p.all (m5 cw) = true ∧
  ((∃ k : Kd, toks p = zi k ∧ Rv k ∧ k.n ∉ ks.map (·.n) ∧ ∀ v H', (∀ b o, b ≠ lk → H b = some o → H' b = some o) → pV K c H0 H' lk lr (ks ++ [k]) rs (kvs ++ [v]) rC → Q .bY H') ∨
   (∃ (title : Cs) (L : List Pr), toks p = gI title L ∧ GW title L ∧ Mb (rY title L) ∧ title ∉ rs.map (·.title) ∧ ∀ v H', (∀ b o, b ≠ lr → H b = some o → H' b = some o) → pV K c H0 H' lk lr ks (rs ++ [rY title L]) kvs (rC ++ [v]) → Q .bY H'))
theorem ie.cg {K : aaa} {c : Cl} {H0 H1 H : Hp} {r : Rl} {v : V} (d : ∀ b, H1 b = none → H0 b = none) (h : ie K c H1 H r v) : ie K c H0 H r v := by
 obtain ⟨a, dx, fs, e, n, h1, ⟨t1, ⟨v2, e2, h2⟩, ⟨v3, e3, h3⟩, ⟨v4, e4, h4⟩, ⟨v5, e5, h5⟩, ⟨v6, e6, h6⟩, ⟨v7, e7, h7⟩, h8⟩⟩ := h
 refine ⟨a, dx, fs, e, d a n, h1, ⟨t1, ⟨v2, e2, xx.cg d h2⟩, ⟨v3, e3, xx.cg d h3⟩, ⟨v4, e4, Looks.cg d h4⟩, ⟨v5, e5, xx.cg d h5⟩, ⟨v6, e6, xx.cg d h6⟩, ⟨v7, e7, ?_⟩, h8⟩⟩
 obtain ⟨l, el, nl, hl⟩ := h7
 exact ⟨l, el, d l nl, hl⟩
theorem dg.apart {K : aaa} {c : Cl} {H0 H : Hp} {v : V} {x : aaC} {o : HO} (hx : H x = none) {p : Pt} (h : dg K c H0 H v p) : dg K c (upd H0 x o) H v p := by
 have key : ∀ b u, H b = some u → H0 b = none → upd H0 x o b = none := fun b u e n => by rw [aA (aN e hx)]; exact n
 cases p with
 | fs l =>
  obtain ⟨l, vs, e, n, h1, h2⟩ := h
  exact ⟨l, vs, e, key _ _ h1 n, h1, h2⟩
 | pr l =>
  obtain ⟨l, vs, e, n, h1, h2⟩ := h
  exact ⟨l, vs, e, key _ _ h1 n, h1, h2⟩
 | lk l =>
  obtain ⟨l, vs, e, n, h1, h2⟩ := h
  exact ⟨l, vs, e, key _ _ h1 n, h1, L2.Paired.d8 h2 fun k y z => by
   obtain ⟨a, dx, fs, e, n, z1, z2⟩ := z
   exact ⟨a, dx, fs, e, key _ _ z1 n, z1, z2⟩⟩
theorem qE.cg {K : aaa} {c : Cl} {H0 H1 H : Hp} {r : Rl} {fs : List (Str × V)} (d : ∀ b, H1 b = none → H0 b = none) (h : qE K c H1 H r fs) : qE K c H0 H r fs := by
 obtain ⟨t1, ⟨v2, e2, h2⟩, ⟨v3, e3, h3⟩, ⟨v4, e4, h4⟩, ⟨v5, e5, h5⟩, ⟨v6, e6, h6⟩, ⟨v7, e7, h7⟩, h8⟩ := h
 refine ⟨t1, ⟨v2, e2, xx.cg d h2⟩, ⟨v3, e3, xx.cg d h3⟩, ⟨v4, e4, Looks.cg d h4⟩, ⟨v5, e5, xx.cg d h5⟩, ⟨v6, e6, xx.cg d h6⟩, ⟨v7, e7, ?_⟩, h8⟩
 obtain ⟨l, el, nl, hl⟩ := h7
 exact ⟨l, el, d l nl, hl⟩
def vH (ks : List Kd) (f : Fc) : Prop := ∃ k ∈ ks, k.n = f.k ∧ f.as.length = k.c
def vI (K : aaa) : Sp := fun vs H Q _ => ∃ (lk lf : aaC) (kvs EI : List V) (ks : List Kd) (fs : List Fc), vs = [.ref lk, .ref lf] ∧ H lk = some (.lst kvs) ∧ Paired (Kind K H) ks kvs ∧ (ks.map (·.n)).Nodup ∧ ks.length ≤ 10000 ∧ H lf = some (.lst EI) ∧ Paired (Fact K H) fs EI ∧ (∀ f ∈ fs, vH ks f) ∧ ∀ H', ah H H' → Q .bY H'
def vJ (K : aaa) : Sp := fun vs H Q _ => ∃ (ll lf : aaC) (EI : List V) (ls : List Cs) (fs : List Fc), vs = [.ref ll, .ref lf] ∧ H ll = some (.lst (ls.map tx)) ∧ H lf = some (.lst EI) ∧ Paired (Fact K H) fs EI ∧ (∀ f ∈ fs, f.k ∉ ls) ∧ Q .bY H
def vK (K : aaa) (c : Cl) : Sp := fun vs H Q _ => ∃ (H0 : Hp) (ll : aaC) (v : V) (ls : List Cs) (r : Rl), vs = [.ref ll, v] ∧ H ll = some (.lst (ls.map tx)) ∧ ie K c H0 H r v ∧ (r.take = [] → ∀ f ∈ r.put, f.k ∈ ls) ∧ Q .bY H
def dN (r : Rl) : List Cs := (r.aO.flatMap fun k => [k.l, k.r]) ++ ((r.put.flatMap (·.as)) ++ (r.tell.flatMap fun p => [p.1, p.2]))
def Fl (K : aaa) (c : Cl) : Sp := fun vs H Q _ => ∃ (H0 : Hp) (v : V) (r : Rl), vs = [v] ∧ ie K c H0 H r v ∧ (dN r).length ≤ 20000 ∧ ∀ u H', ah H H' → tO H H' u (dN r) → Q u H'
def vL (K : aaa) (c : Cl) : Sp := fun vs H Q _ => ∃ (H0 : Hp) (v : V) (r : Rl), vs = [v] ∧ ie K c H0 H r v ∧ (dN r).length ≤ 20000 ∧ (∀ a ∈ dN r, aB a = true) ∧ (∀ a ∈ dN r, great a = true → a ∈ opens (r.take ++ r.keep)) ∧ ∀ H', ah H H' → Q .bY H'
structure Ak (ks : List Kd) (r : Rl) : Prop where
 fits : ∀ f ∈ r.take ++ r.keep ++ r.put, vH ks f
 takes : ∀ f ∈ r.take, f.k ∉ (ks.filter (·.l)).map (·.n)
 calls : r.take = [] → ∀ f ∈ r.put, f.k ∈ (ks.filter (·.l)).map (·.n)
 VT : ∀ a ∈ dN r, great a = true → a ∈ opens (r.take ++ r.keep)
 names : ∀ a ∈ dN r, aB a = true
 few : (dN r).length ≤ 20000
 VU : (r.take ++ r.keep ++ r.put).length ≤ 20000
def Al (K : aaa) (c : Cl) : Sp := fun vs H Q _ => ∃ (H0 : Hp) (lk lr : aaC) (ks : List Kd) (rs : List Rl) (kvs rC : List V), vs = [.ref lk, .ref lr] ∧ pV K c H0 H lk lr ks rs kvs rC ∧ (ks.map (·.n)).Nodup ∧ (∀ r ∈ rs, Ak ks r) ∧
 ∀ x dx fs H', ah H H' → H x = none → H' x = some (.ins c.book dx fs) → fs.lookup ("kinds" : Str) = some (.ref lk) → fs.lookup ("rules" : Str) = some (.ref lr) → Q (.ref x) H'
theorem qK : ∀ (ps acc : List (Key × V)), ((acc ++ ps).map (·.1)).Nodup → i6 acc ps = acc ++ ps
 | [], acc, _ => by show acc = acc ++ []; rw [aaU]
 | p :: r, acc, h => by
  have hn : bQ acc p.1 = none := zj fun q hq e => by
   rw [aan, aa3, acj] at h
   exact h.2.2 q.1 (aat.mpr ⟨q, hq, rfl⟩) p.1 aao e
  have ih := qK r (acc ++ [p]) (by rw [aaQ]; exact h)
  show i6 (putK acc p.1 p.2) r = _
  rw [C6 _ hn, ih, aaQ]
  rfl
theorem zp : ∀ {ps : List (Key × V)} {k : Key} {v : V}, (ps.map (·.1)).Nodup → (k, v) ∈ ps → bQ ps k = some v
 | p :: r, k, v, hn, h => by
  rw [aa3, acd] at hn
  rcases aaF.mp h with e | h
  ·subst e; exact mS rfl
  ·have : p.1 ≠ k := fun e => hn.1 (aat.mpr ⟨(k, v), h, e.symm⟩)
   rw [mT this]
   exact zp hn.2 h
theorem rZ {α : Type} (g : α → List Cs) (l : List α) (i : Nat) : ((l.take i).flatMap g).length ≤ (l.flatMap g).length := by
 have e : l.flatMap g = (l.take i).flatMap g ++ (l.drop i).flatMap g := by rw [← abv, acQ]
 rw [e, aac]
 omega
def tS (k : Kd) : Key × V := (aaX (S k.n), .int k.c)
theorem tT {K : aaa} {H : Hp} : ∀ {ks : List Kd} {ys : List V}, Paired (fun (k : Kd) (y : V) => ∃ t, y = .ref t ∧ cK K H t [tx k.n, .int k.c]) ks ys → GO K H (ks.map tS) ys
 | _, _, .nil => .nil
 | _, _, .cons r t => .cons r (tT t)
theorem tU {ks : List Kd} (h : (ks.map (·.n)).Nodup) : ((ks.map tS).map (·.1)).Nodup := by
 rw [abA]
 have e : ((fun p : Key × V => p.1) ∘ tS) = (fun n : Cs => (aaX (S n) : Key)) ∘ (fun k : Kd => k.n) := rfl
 rw [e, ← abA]
 exact List.pairwise_map.mpr (List.Pairwise.imp (fun hne e => hne (y9 (adv e))) h)
end Bk
namespace Bk
open PySem L2 cM
inductive It where
 | kind (k : Kd)
 | rule (title : Cs) (L : List Pr)
def It.ps : It → List Cs
 | .kind k => zi k
 | .rule t L => gI t L
def m9 : List It → List Kd
 | [] => []
 | .kind k :: r => k :: m9 r
 | .rule _ _ :: r => m9 r
def nh : List It → List Rl
 | [] => []
 | .kind _ :: r => nh r
 | .rule t L :: r => rY t L :: nh r
theorem ni (a b : List It) : m9 (a ++ b) = m9 a ++ m9 b := by
 induction a with
 | nil => rfl
 | cons x r ih => cases x <;> simp [m9, ih]
theorem nj (a b : List It) : nh (a ++ b) = nh a ++ nh b := by
 induction a with
 | nil => rfl
 | cons x r ih => cases x <;> simp [nh, ih]
def VV : It → Prop
 | .kind k => Rv k
 | .rule t L => GW t L ∧ Mb (rY t L)
structure Nf (ls : List Cs) (its : List (Cs × It)) : Prop where
 lines : ls.filter told = its.map (·.1)
 ok : ∀ x ∈ its, x.1.all (m5 cw) = true ∧ toks x.1 = x.2.ps ∧ VV x.2
 nk : ((m9 (its.map (·.2))).map (·.n)).Nodup
 nr : ((nh (its.map (·.2))).map (·.title)).Nodup
 good : ∀ r ∈ nh (its.map (·.2)), Ak (m9 (its.map (·.2))) r
 few : its.length < 10000
def Fm (K : aaa) (c : Cl) : Sp := fun vs H Q _ => ∃ (ls : List Cs) (its : List (Cs × It)), vs = [tx (bP ls)] ∧ ls ≠ [] ∧ (∀ l ∈ ls, 10 ∉ l) ∧ (bP ls).length ≤ 20000 ∧ Nf ls its ∧ ∀ v H', ah H H' → Na K c H H' (m9 (its.map (·.2))) (nh (its.map (·.2))) v → Q v H'
theorem vM : ∀ (a : List It), (m9 a).length ≤ a.length
 | [] => aar _
 | .kind k :: r => by show (m9 r).length + 1 ≤ _; have := vM r; rw [aag]; omega
 | .rule t L :: r => by show (m9 r).length ≤ _; have := vM r; rw [aag]; omega
theorem vN : ∀ (a : List It), (nh a).length ≤ a.length
 | [] => aar _
 | .kind k :: r => by show (nh r).length ≤ _; have := vN r; rw [aag]; omega
 | .rule t L :: r => by show (nh r).length + 1 ≤ _; have := vN r; rw [aag]; omega
end Bk
namespace L2
open PySem PySem.Spec PyProof.Rows
section
variable {X : Cx}
end
end L2
namespace L2
open PySem PySem.Spec PyProof.Rows
def VW (K : aaa) : R2 := fun x y H Q => ∃ d e, tM K H d x ∧ tM K H e y ∧ d.deep ≤ 20 ∧ (∃ ds, d = .tup ds) ∧ (∃ es, e = .tup es) ∧ Q (.bl (!EH d e)) H
theorem OS {X : Cx} (hu : X.A.units + 64 < cLine) : t9 X (compareOp .NotEq) (VW X.K) := by
 intro pins s σ H x y v u Q I rx ry h
 obtain ⟨d, e, h1, h2, hd, ⟨ds, rfl⟩, ⟨es, rfl⟩, q⟩ := h
 cases h1 with
 | @tup _ xs a g1 l1 r1 =>
  cases h2 with
  | @tup _ ys b g2 l2 r2 =>
   cases rx
   cases ry
   obtain ⟨its, JQ, p1, _⟩ := I.tuple g1
   obtain ⟨d9, HL, p2, _⟩ := I.tuple g2
   have HD := JQ.length
   have HE := HL.length
   refine SeqAt.RcNeAt.tuples (e := fun i => EH (ds.getD i .bY) (es.getD i .bY)) p1 p2 (by omega) (fun j j1 j2 => ?_) _ _ _ _ ?_
   ·have YV : j < its.length := by simpa using j1
    have YW : j < d9.length := by simpa using j2
    obtain ⟨u1, e1, q1⟩ := JQ.get (i := j) (x := xs[j]) (by simp)
    obtain ⟨u2, e2, q2⟩ := HL.get (i := j) (x := ys[j]) (by simp)
    have c1 : its.toArray[j] = u1 := by
     have z := aaj.mp e1
     simpa using z.2
    have c2 : d9.toArray[j] = u2 := by
     have z := aaj.mp e2
     simpa using z.2
    rw [c1, c2]
    have g1 : ds.getD j .bY = ds[j] := by simp [Gd9, (show j < ds.length by omega)]
    have g2 : es.getD j .bY = es[j] := by simp [Gd9, (show j < es.length by omega)]
    rw [g1, g2]
    refine Js I rfl 20 X.A.in1 ?_ (by show X.A.units + 1 + 20 < cLine; omega) (r1 j (by omega) (by omega)) (r2 j (by omega) (by omega)) q1 q2
    have z := ph (ds := ds) (i := j) (by omega)
    have hd' : Dt.mR ds + 1 ≤ 20 := hd
    omega
   ·refine ⟨.bl _, H, I, rfl, ?_⟩
    rw [aaB, aaB, ← HD, ← HE, ← l1, ← l2, ki]
    exact q
end L2
namespace Bk
open PySem L2 cM
abbrev ui : Str := "abcdefghijklmnopqrstuvwxyz0123456789ABCDEFGHIJKLMNOPQRSTUVWXYZ"
abbrev OT : Str := "abcdefghijklmnopqrstuvwxyz0123456789"
theorem cx (a b : List Nat) : S a ++ S b = S (a ++ b) := by
 rw [← uf (S a ++ S b), abl, bq, bq]
theorem OU (cs : List Nat) : adh (aab "") (cs.map fun c => S [c]) = S cs := by
 show acI (aab "") _ = _
 rw [abT]
 have e := PyProof.Rows.join_nil_signs (S cs)
 unfold PyProof.Rows.signs at e
 rw [bq] at e
 exact e
theorem cP : ∀ {as : List (List Nat)} {B : Nat}, (∀ a ∈ as, a.length ≤ B) → ((as.map S).map (·.length)).sum ≤ as.length * B
 | [], _, _ => by simp
 | a :: r, B, h => by
  have z := h a (by simp)
  have ih := cP (as := r) (B := B) fun x hx => h x (aal _ hx)
  rw [aa3, aa3, acU, aD, aag, adA]
  omega
theorem JR : ui.cps.toList.all aZ = true := by decide +kernel
theorem qL : ui.length = 62 := by decide +kernel
def Fn (K : aaa) : Sp := fun vs H Q _ => ∃ (a : aaC) (ns : List Int) (k : Int), vs = [.ref a, .int k] ∧ aH K H a (ns.map V.int) ∧ 0 ≤ k ∧ ∀ v : Int, Q (.int v) H
def qM : Sp := fun vs H Q _ => ∃ c k : Int, vs = [.int c, .int k] ∧ 0 ≤ k ∧ k ≤ 100 ∧ ∀ (v : Int) (H' : Hp), ah H H' → 0 ≤ v → Q (.int v) H'
def Good (fs : List Nat) (z : List Nat) : Prop := aB z = true ∧ z.headD 0 ∈ fs
def qN : Sp := fun vs H Q _ => ∃ (c : Int) (n : Nat) (fs : List Nat), vs = [.int c, .int n, tx fs] ∧ n ≤ 10 ∧ 10 ≤ fs.length ∧ fs.length ≤ 62 ∧ fs.all aZ = true ∧ fs.Nodup ∧
 ∀ (l : aaC) (zs : List (List Nat)) (H' : Hp), ah H H' → H l = none → H' l = some (.lst (zs.map tx)) → zs.length = n → (∀ z ∈ zs, Good fs z) → zs.Nodup → Q (.ref l) H'
def i8 (fs : List Nat) : Sp := fun vs H Q _ => ∃ (c : Int) (n : Nat), vs = [.int c, .int n] ∧ n ≤ 10 ∧
 ∀ (l : aaC) (zs : List (List Nat)) (H' : Hp), ah H H' → H l = none → H' l = some (.lst (zs.map tx)) → zs.length = n → (∀ z ∈ zs, Good fs z) → zs.Nodup → Q (.ref l) H'
def GY (K : aaa) : Sp := fun vs H Q _ => ∃ (a : aaC) (ns : List Int), vs = [.ref a] ∧ aH K H a (ns.map V.int) ∧ ns.length ≤ 63 ∧ ∀ H', Q (.bl true) H'
theorem Am {fs : List Nat} {c : Nat} {r : List Nat} (hc : c ∈ fs) (hf : fs.all aZ = true) (hr : r.all aZ = true) (hl : r.length ≤ 11) : Good fs ([c] ++ r) := by
 refine ⟨?_, hc⟩
 show aB (c :: r) = true
 unfold aB
 rw [aaS] at hf
 have z : (c :: r).all aZ = true := by rw [abc, hf c hc, hr]; rfl
 rw [z]
 simp
 omega
theorem sign_of {x : Str} {i : Int} (h0 : 0 ≤ i) (h1 : i < x.length) : ∃ c, qq x.cps.toList i = some c ∧ c ∈ x.cps.toList := by
 have hl := mX x
 exact ⟨_, vA h0 h1, abn (getD_get (by omega))⟩
theorem ij {T : List Nat} {n : Nat} (h : n ≤ T.length) : acz (S T) none (some (n : Int)) = S (T.take n) := by
 have e := Jq (z := S T) (j := (n : Int)) (by omega) (by rw [aD]; omega)
 rw [← uf (acz (S T) none (some (n : Int))), e, bq, show ((n : Int)).toNat = n by omega]
theorem gJ {α : Type} {n : Nat} {g : Nat → α} (h : ∀ i j, i < n → j < n → g i = g j → i = j) : ((abj n).map g).Nodup := by
 rw [List.nodup_iff_pairwise_ne, List.pairwise_map]
 refine List.Pairwise.imp_of_mem ?_ (List.nodup_range (n := n))
 intro a b ha hb hne e
 exact hne (h a b (abU.mp ha) (abU.mp hb) e)
theorem vO {l : List Nat} (h : l.Nodup) {i j : Nat} (hi : i < l.length) (hj : j < l.length) (e : l.getD i 0 = l.getD j 0) : i = j := by
 rw [Gd9, Gd9, Ge9 hi, Ge9 hj] at e
 have e : l[i] = l[j] := e
 have p := List.pairwise_iff_getElem.mp h
 rcases Nat.lt_trichotomy i j with z | z | z
 ·exact absurd e (p i j hi hj z)
 ·exact z
 ·exact absurd e.symm (p j i hj hi z)
theorem GZ {a : Int} {m i j : Nat} (hi : i < m) (hj : j < m) (e : ((a + (0 + (i : Int))) % (m : Int)).toNat = ((a + (0 + (j : Int))) % (m : Int)).toNat) : i = j := by
 have m0 : (0 : Int) < m := by omega
 have h1 := ac5 (a + (0 + (i : Int))) (b := (m : Int)) (by omega)
 have h2 := ac5 (a + (0 + (j : Int))) (b := (m : Int)) (by omega)
 have e' : (a + (0 + (i : Int))) % (m : Int) = (a + (0 + (j : Int))) % (m : Int) := by omega
 have e3 : ((i : Int) - (j : Int)) % (m : Int) = 0 := by
  have z := Int.emod_eq_emod_iff_emod_sub_eq_zero.mp e'
  have z2 : a + (0 + (i : Int)) - (a + (0 + (j : Int))) = (i : Int) - (j : Int) := by omega
  rw [z2] at z
  exact z
 obtain ⟨k, hk⟩ := Int.dvd_of_emod_eq_zero e3
 have VX : k = 0 := by
  rcases Int.lt_trichotomy k 0 with h | h | h
  ·have : (m : Int) * k ≤ -(m : Int) := by
    have := acR (show k ≤ -1 by omega) (Int.le_of_lt m0)
    omega
   omega
  ·exact h
  ·have : (m : Int) ≤ (m : Int) * k := by
    have := acR (show 1 ≤ k by omega) (Int.le_of_lt m0)
    omega
   omega
 rw [VX] at hk
 omega
theorem nq {K : aaa} {t : aad} : abC K t t = some true := by
 unfold abC
 rw [if_pos (beq_self_eq_true t)]
end Bk
namespace Bk
open PySem L2 cM
def gp (c : Nat) : List Cs → Cs
 | [] => []
 | [a] => a
 | a :: r => a ++ c :: gp c r
theorem zq (c : Nat) : ∀ (ls : List Str), (aci ⟨#[c]⟩ ls).cps.toList = gp c (ls.map fun s => s.cps.toList)
 | [] => rfl
 | [a] => rfl
 | a :: b :: r => by
  have ih := zq c (b :: r)
  show ((a ++ (⟨#[c]⟩ : Str)) ++ aci ⟨#[c]⟩ (b :: r)).cps.toList = _
  rw [abl, abl, ih]
  show (a.cps.toList ++ [c]) ++ _ = a.cps.toList ++ c :: _
  simp
theorem uR : ∀ ls, gp 10 ls = bP ls
 | [] => rfl
 | [a] => rfl
 | a :: b :: r => by
  show a ++ 10 :: gp 10 (b :: r) = a ++ 10 :: bP (b :: r)
  rw [uR (b :: r)]
theorem kq (c : Nat) (ls : List Cs) : adh ⟨#[c]⟩ (ls.map S) = S (gp c ls) := by
 show acI ⟨#[c]⟩ _ = _
 rw [abT, ← uf (aci ⟨#[c]⟩ (ls.map S)), zq, abA]
 have e : ((fun s : Str => s.cps.toList) ∘ S) = id := by
  funext p
  exact bq p
 rw [e, acs]
theorem zu : ∀ (ls : List Cs) (l : Cs), ls ≠ [] → bP (ls ++ [l]) = bP ls ++ 10 :: l
 | [], _, h => absurd rfl h
 | [a], l, _ => rfl
 | a :: b :: r, l, _ => by
  have ih := zu (b :: r) l (by simp)
  show a ++ 10 :: bP (b :: r ++ [l]) = (a ++ 10 :: bP (b :: r)) ++ 10 :: l
  rw [ih]
  simp
theorem Dm : ∀ (ls : List Cs) (B : Nat), (∀ l ∈ ls, l.length ≤ B) → (bP ls).length ≤ ls.length * (B + 1)
 | [], _, _ => by simp [bP]
 | [a], B, h => by
  have := h a (by simp)
  show a.length ≤ 1 * (B + 1)
  omega
 | a :: b :: r, B, h => by
  have ih := Dm (b :: r) B fun l hl => h l (aal _ hl)
  have h1 := h a (by simp)
  show (a ++ 10 :: bP (b :: r)).length ≤ ((b :: r).length + 1) * (B + 1)
  rw [aac, aag, adA]
  omega
def qO (k : Kd) (a b c d : Nat) : Cs := aaW a 32 ++ ((if k.l = true then a6 else a5) ++ (aaW b 32 ++ (k.n ++ (aaW c 32 ++ ([48 + k.c] ++ aaW d 32)))))
def az (k : Kd) : Cs := (if k.l = true then a6 else a5) ++ (32 :: (k.n ++ (32 :: [48 + k.c])))
theorem Fo (k : Kd) : az k = qO k 0 1 1 0 := by
 unfold az qO
 simp [aaW]
theorem JS (b : Bool) : (if b = true then a6 else a5).all aZ = true ∧ (if b = true then a6 else a5).length = 7 := by cases b <;> exact ⟨by decide +kernel, rfl⟩
theorem JT {c : Nat} (h : c ≤ 4) : aZ (48 + c) = true := by
 rcases (by omega : c = 0 ∨ c = 1 ∨ c = 2 ∨ c = 3 ∨ c = 4) with e | e | e | e | e <;> subst e <;> decide +kernel
theorem Dn {p : Cs} (h : a8 p = true) : p.all aZ = true := by
 unfold a8 aB at h
 simp only [aaN] at h
 exact h.1.2.2
theorem zw {n : Nat} (h : 1 ≤ n) (r : Cs) : mW (aaW n 32 ++ r) := by
 cases n with
 | zero => omega
 | succ n => exact qC
theorem Fp {k : Kd} {a b c d : Nat} (hn : a8 k.n = true) (hc : k.c ≤ 4) (hb : 1 ≤ b) (OV : 1 ≤ c) : toks (qO k a b c d) = zi k := by
 have h1 := JS k.l
 have hl := eQ hn
 unfold qO zi
 rw [dc, d4 h1.1 (fun z => by rw [z] at h1; exact absurd h1.2 (by decide)) (zw hb _), dc, d4 (Dn hn) (fun z => by rw [z] at hl; simp at hl) (zw OV _), dc,
  d4 (n := [48 + k.c]) (by simp [JT hc]) (by simp) (by have z := z9 d (r := []) trivial; rwa [aaU] at z)]
 have z := dc d []
 rw [aaU] at z
 rw [z]
 rfl
theorem JU {m : Str} {c : Nat} (h : aZ c = true) : m5 m c = true := by
 unfold m5
 rw [h]
 rfl
theorem qP {f : Nat → Bool} (h : f 32 = true) (n : Nat) : (aaW n 32).all f = true := by
 rw [aaS]
 intro x hx
 rw [(List.mem_replicate.mp hx).2]
 exact h
theorem zy {f : Nat → Bool} (UA : f 32 = true) (HM : ∀ c, aZ c = true → f c = true) {k : Kd} {a b c d : Nat} (hn : a8 k.n = true) (hc : k.c ≤ 4) : (qO k a b c d).all f = true := by
 have up : ∀ p : Cs, p.all aZ = true → p.all f = true := fun p h => by
  rw [aaS] at h ⊢
  exact fun x hx => HM x (h x hx)
 unfold qO
 rw [aaY, aaY, aaY, aaY, aaY, aaY, qP UA, qP UA, qP UA, qP UA, up _ (JS k.l).1, up _ (Dn hn), up [48 + k.c] (by simp [JT hc])]
 rfl
theorem JV {k : Kd} {a b c d : Nat} (hn : a8 k.n = true) (hc : k.c ≤ 4) : 10 ∉ qO k a b c d := by
 have z := zy (f := fun x => !(x == 10)) rfl (fun c h => by
  cases e : (c == 10) with
  | false => rfl
  | true =>
   rw [beq_iff_eq.mp e] at h
   exact absurd h (by decide +kernel)) (k := k) (a := a) (b := b) (c := c) (d := d) hn hc
 rw [aaS] at z
 intro h
 exact absurd (z 10 h) (by decide)
theorem JW {n : Nat} {r : Cs} : (aaW n 32 ++ r).dropWhile (· == 32) = r.dropWhile (· == 32) := by
 induction n with
 | zero => rfl
 | succ n ih => rw [ac3, aco, acu, if_pos (by decide)]; exact ih
theorem Fq {k : Kd} {a b c d : Nat} : told (qO k a b c d) = true := by
 unfold told qO
 rw [JW]
 cases k.l <;> rfl
theorem An {c : Nat} (h : c ≤ 4) : (aab (toString (c : Int))) = S [48 + c] := by
 rcases (by omega : c = 0 ∨ c = 1 ∨ c = 2 ∨ c = 3 ∨ c = 4) with e | e | e | e | e <;> subst e <;> decide +kernel
theorem Ao {c : Nat} (h : c ≤ 4) : (c : Int).natAbs.log2 < 1920 := by
 rcases (by omega : c = 0 ∨ c = 1 ∨ c = 2 ∨ c = 3 ∨ c = 4) with e | e | e | e | e <;> subst e <;> decide +kernel
end Bk
namespace Bk
open PySem L2 cM
def pB (K : aaa) : Sp := fun vs H Q _ => ∃ v k, vs = [v] ∧ Kind K H k v ∧ k.n.length ≤ 12 ∧ k.c ≤ 4 ∧ ∀ H', ah H H' → Q (tx (az k)) H'
theorem kr {k : Kd} (h : k.n.length ≤ 12) : (az k).length ≤ 22 := by
 unfold az
 have := (JS k.l).2
 simp only [aac, aag, aa6]
 omega
end Bk
namespace Bk
open PySem L2 cM
theorem gK {p : Cs} {z : Str} {t : Tok} (e : z = S p) : RelV (tx p) (abw z t) := ⟨t, by rw [e]⟩
end Bk
namespace L2
open PySem PySem.Spec PyProof.Rows
section
variable {X : Cx} {pins : List (aaC × Obj)} {σ : St} {H : Hp} {s : aaf} {h' : Heap}
end
end L2
namespace L2
open PySem PySem.Spec PyProof.Rows
section
variable {prog : aaL} {w : aa9} {A : aba} {E : aad → aaf → Prop} {s : aaf}
end
section
variable {X : Cx}
end
end L2
namespace L2
open PySem PySem.Spec PyProof.Rows
section
variable {X : Cx}
end
end L2
namespace L2
open PySem PySem.Spec PyProof.Rows
section
variable {X : Cx}
end
end L2
namespace L2
open PySem PySem.Spec PyProof.Rows
section
variable {X : Cx}
end
end L2
namespace L2
open PySem PySem.Spec PyProof.Rows
section
variable {X : Cx}
end
end L2
namespace L2
open PySem PySem.Spec PyProof.Rows
section
variable {X : Cx} {pins : List (aaC × Obj)} {σ : St}
end
end L2
namespace L2
open PySem PySem.Spec PyProof.Rows
section
variable {X : Cx}
end
end L2
namespace L2
open PySem PySem.Spec PyProof.Rows
theorem Dp {X : Cx} {K : aaa} (hK : X.K = K) : gT X (.type "list") (fun xs H Q => ∃ p ys, xs = [.ref p] ∧ (aH K H p ys ∨ cK K H p ys) ∧ ∀ l, H l = none → Q (.ref l) (upd H l (.lst ys))) := by
 subst hK
 exact z0
end L2
namespace L2
open PySem PySem.W PyProof.Rows
structure WO (lt : Nat → Nat → Bool) : Prop where
 aby : ∀ a b, lt a b = true → lt b a = false
 tr : ∀ a b c, lt b a = false → lt c b = false → lt c a = false
section
variable {lt : Nat → Nat → Bool} {n : Nat} (W : WO lt)
include W
end
end L2
namespace L2
open PySem PySem.W PySem.Calls PyProof.Rows
section
variable {prog : aaL} {w : aa9} {A : aba} {E : aad → aaf → Prop} {s : aaf}
end
end L2
namespace L2
open PySem PySem.W PySem.Calls PyProof.Rows
inductive Tr where
 | int (i : Int) | str (x : Str) | tup (l : List Tr)
 deriving Inhabited
mutual
def Tr.toD : Tr → Dt
 | .int i => .int i
 | .str x => .str x
 | .tup l => .tup (Tr.toDs l)
def Tr.toDs : List Tr → List Dt
 | [] => []
 | a :: r => a.toD :: Tr.toDs r
end
theorem toDs_length : ∀ (l : List Tr), (Tr.toDs l).length = l.length
 | [] => by unfold Tr.toDs; rfl
 | a :: r => by unfold Tr.toDs; simp [toDs_length r]
theorem toDs_get : ∀ (l : List Tr) (i : Nat) (h : i < l.length) (h' : i < (Tr.toDs l).length), (Tr.toDs l)[i] = (l[i]).toD
 | a :: r, 0, _, _ => by simp [Tr.toDs]
 | a :: r, i + 1, h, h' => by
  have := toDs_get r i (by simpa using h) (by rw [toDs_length]; simpa using h)
  simp only [Tr.toDs, List.getElem_cons_succ]
  exact this
end L2
namespace L2
open PySem PySem.W PySem.Calls PyProof.Rows
section
open PySem.SeqAt
open PySem.AutoSeq1 (wpAny_loadPart')
open PySem.MeetsSeq PySem.MeetsSeq2 PySem.MeetsSeq3
end
end L2
namespace L2
open PySem PySem.W PySem.Calls PyProof.Rows
end L2
namespace L2
open PySem PySem.W PySem.Calls PyProof.Rows
section
variable {prog : aaL} {w : aa9} {A : aba} {E : aad → aaf → Prop} {s : aaf} {Q : Bool → aaf → Prop}
end
def hdK : Tr → Nat
 | .tup (.str _ :: _) => 1
 | .tup (.int _ :: _) => 2
 | _ => 0
section
variable {X : Cx}
end
end L2
namespace L2
open PySem PySem.Spec PyProof.Rows
section
variable {X : Cx} {pins : List (aaC × Obj)} {σ : St} {H H' : Hp} {s : aaf}
end
section
variable {X : Cx} {o e f : Expr} {td ty tx : TE} {apos cpos : Pos}
end
end L2
namespace fI
open PySem
end fI
namespace fI
end fI
namespace fI
open PySem
end fI
namespace fI
open PySem
end fI
namespace fI
open PySem
end fI
namespace fI
open PySem
end fI
namespace fI
open PySem
end fI
namespace fI
open PySem
section
variable {prog : aaL} {w : aa9} {A : aba} {E : aad → aaf → Prop} {s : aaf} {a : aaC} {o : Obj} {es : Array (Int × aad)} {ep : Nat} {t : SetTable} {x : aad} {h : Int} {eqv : Nat → Bool} {Q : SetFound → aaf → Prop}
end
end fI
namespace fI
open PySem
section
variable {prog : aaL} {w : aa9} {A : aba} {E : aad → aaf → Prop} {s : aaf} {a : aaC} {es : Array (Int × aad)} {x : aad} {h : Int} {eqv : Nat → Bool} {l : Bool}
end
end fI
namespace L2
open PySem PySem.Spec PyProof.Rows
end L2
namespace L2
open PySem PySem.Spec PyProof.Rows
section
variable {X : Cx} {pins : List (aaC × Obj)} {σ : St} {H : Hp} {s : aaf}
end
end L2
namespace L2
open PySem PySem.Spec PyProof.Rows
section
variable {X : Cx} {pins : List (aaC × Obj)} {σ : St} {H : Hp} {s : aaf}
end
end L2
namespace L2
open PySem PySem.Spec PyProof.Rows fI
section
variable {X : Cx} {pins : List (aaC × Obj)} {σ : St} {H : Hp} {s : aaf} {a : aaC} {es : Array (Int × aad)} {tr : List Tr} {t : Tr} {x : V} {u : aad} {l : Bool}
end
end L2
namespace L2
open PySem PySem.Spec PyProof.Rows fI
section
variable {X : Cx} {pins : List (aaC × Obj)} {σ : St} {H : Hp} {s : aaf} {a it l : aaC} {ts : List Tr} {ys : List V} {its : List aad} {ld : Bool}
end
end L2
namespace PySem
section
variable {prog : aaL} {w : aa9} {A : aba} {E : aad → aaf → Prop} {s : aaf}
end
end PySem
namespace PySem.F
end PySem.F
namespace fI
open PySem
section
variable {M : Model} {A : aba} {E : aad → aaf → Prop} {s : aaf}
end
end fI
namespace fI
open PySem
section
variable {prog : aaL} {w : aa9} {A : aba} {E : aad → aaf → Prop} {s : aaf} {I a T : aaC} {first : aad} {i ep : Nat} {es : Array (Int × aad)} {t : SetTable} {pl : List Nat} {ord : List aad}
end
end fI
namespace fI
open PySem
section
variable {prog : aaL} {w : aa9} {A : aba} {E : aad → aaf → Prop} {s : aaf} {a : aaC} {ep : Nat} {es : Array (Int × aad)} {t : SetTable}
end
end fI
namespace fI
open PySem PySem.W PyProof.Rows
section
variable {prog : aaL} {w : aa9} {A : aba} {E : aad → aaf → Prop} {s : aaf} {a : aaC} {ep : Nat} {es : Array (Int × aad)} {t : SetTable}
end
end fI
namespace L2
open PySem PySem.Spec PyProof.Rows fI
section
variable {X : Cx}
end
end L2
namespace L2
open PySem PySem.Spec PyProof.Rows
section
variable {X : Cx} {pins : List (aaC × Obj)} {σ : St} {H : Hp} {s : aaf}
end
section
variable {X : Cx} {e : Expr} {te : TE} {pre : Str} {j : Nat} {p1 p2 p3 : Pos}
end
def VY (k : Str) (as : List Str) : Tr := .tup [.str k, .tup (as.map .str)]
theorem zz : ∀ (as : List Str), Dt.mR (Tr.toDs (as.map .str)) = 0
 | [] => rfl
 | a :: r => by
  show max 0 (Dt.mR (Tr.toDs (r.map .str))) = 0
  rw [zz r]
  rfl
theorem HN (k : Str) (as : List Str) : (VY k as).toD.deep = 2 := by
 show max 0 (max (Dt.mR (Tr.toDs (as.map .str)) + 1) 0) + 1 = 2
 rw [zz]
 rfl
theorem vP {K : aaa} {H : Hp} {t : aaC} {as : List Str} (h : cK K H t (as.map .str)) : tM K H (Tr.tup (as.map .str)).toD (.ref t) := by
 simp only [Tr.toD]
 refine .tup h (by rw [toDs_length, Lm9, Lm9]) fun i h1 h2 => ?_
 rw [toDs_get _ i (by rw [toDs_length] at h1; exact h1)]
 simp only [aas]
 simp only [Tr.toD]
 exact .str _
theorem JX {K : aaa} {H : Hp} {t t2 : aaC} {k : Str} {as : List Str} (h1 : cK K H t [.str k, .ref t2]) (h2 : cK K H t2 (as.map .str)) : tM K H (VY k as).toD (.ref t) := by
 show tM K H (.tup [.str k, (Tr.tup (as.map .str)).toD]) (.ref t)
 refine .tup h1 rfl fun i i1 i2 => ?_
 match i, i1, i2 with
 | 0, _, _ => exact .str _
 | 1, _, _ => exact vP h2
section
variable {P : aaL} {w : aa9} {K : aaa} {mg : Str → Option aad} {base : Heap} {N : List Str} {qual : Str} {scope : Scope} {f : aaC} {cd : aad} {A : aba} {outer : List Env} {s₀ : aaf} {H₀ : Hp} {E : XK} {x : Str} {k : Nat} {ps : List Str} {sp : Sp} {p pos : Pos} {e : Expr} {es : List Expr} {t : TA}
end
section
variable {X : Cx} {x : Str} {k : Nat} {ps : List Str} {sp : Sp} {p pos : Pos} {e : Expr} {es : List Expr} {t : TA} {pn : List (aaC × Obj)} {R : aad → St → Hp → Prop}
end
end L2
namespace L2
open PySem PySem.Spec PyProof.Rows
section
variable {X : Cx}
end
end L2
namespace Bk
open PySem L2 cM
def cOk (p : Cs) : Prop := p ≠ [] ∧ p.length ≤ 100 ∧ ∀ c ∈ p, c < 16 ^ 8
def fT (f : Fc) : Tr := VY (S f.k) (f.as.map S)
theorem dE (l : List Cs) : l.map tx = (l.map S).map V.str := by rw [abA]; rfl
theorem Fact.Y4 {K : aaa} {H : Hp} {f : Fc} {v : V} (h : Fact K H f v) : tM K H (fT f).toD v := by
 obtain ⟨t, t2, rfl, h1, h2⟩ := h
 exact JX h1 (by rw [← dE]; exact h2)
theorem Kind.sm {K : aaa} {H H' : Hp} (s : ah H H') {k : Kd} {v : V} (h : Kind K H k v) : Kind K H' k v := by
 obtain ⟨t, e, q⟩ := h
 exact ⟨t, e, q.same s⟩
theorem Fact.sm {K : aaa} {H H' : Hp} (s : ah H H') {f : Fc} {v : V} (h : Fact K H f v) : Fact K H' f v := by
 obtain ⟨t, t2, e, q, q2⟩ := h
 exact ⟨t, t2, e, q.same s, q2.same s⟩
end Bk
namespace Bk
open PySem L2 cM
def G0 (acc : List Cs) (n : Cs) : List Cs := if great n = true then (if n ∈ acc then acc else acc ++ [n]) else acc
def kn (acc ns : List Cs) : List Cs := ns.foldl G0 acc
theorem Ap : ∀ (ns acc : List Cs), (kn acc ns).length ≤ acc.length + ns.length
 | [], acc => by simp [kn]
 | n :: r, acc => by
  have z := Ap r (G0 acc n)
  have y : (G0 acc n).length ≤ acc.length + 1 := by
   unfold G0
   split
   ·split
    ·omega
    ·simp
   ·omega
  show (kn (G0 acc n) r).length ≤ _
  rw [aag]
  omega
end Bk
namespace L2
open PySem PySem.Spec PyProof.Rows
end L2
namespace Bk
open PySem L2 cM
theorem Rw (f : Fc) : hdK (fT f) = 1 ∧ (fT f).toD.deep ≤ 18 := ⟨rfl, by unfold fT; rw [HN]; decide⟩
end Bk
namespace L2
open PySem
end L2
namespace Bk
open PySem L2 cM
theorem OW (acc a b : List Cs) : kn acc (a ++ b) = kn (kn acc a) b := by unfold kn; rw [acG]
theorem HP {fs : List Fc} {i : Nat} (h : i < fs.length) : (fs.take (i + 1)).flatMap (·.as) = (fs.take i).flatMap (·.as) ++ fs[i].as := by
 rw [aap h, abv]
 simp
end Bk
namespace L2
end L2
namespace L2
open PySem PySem.Spec PyProof.Rows
section
variable {X : Cx}
end
end L2
namespace Bk
open PySem L2 cM
def xD (K : aaa) (H : Hp) (l : aaC) (ks : List Kd) : Prop := ∃ kvs, H l = some (.lst kvs) ∧ Paired (Kind K H) ks kvs
def Dq (K : aaa) (H : Hp) (l : aaC) (fs : List Fc) : Prop := ∃ EI, H l = some (.lst EI) ∧ Paired (Fact K H) fs EI
theorem xD.sm {K : aaa} {H H' : Hp} {l : aaC} {ks : List Kd} (s : ah H H') (h : xD K H l ks) : xD K H' l ks := by
 obtain ⟨kvs, h1, h2⟩ := h
 exact ⟨kvs, s _ _ h1, aR h2 fun _ _ _ => Kind.sm s⟩
theorem Dq.sm {K : aaa} {H H' : Hp} {l : aaC} {fs : List Fc} (s : ah H H') (h : Dq K H l fs) : Dq K H' l fs := by
 obtain ⟨kvs, h1, h2⟩ := h
 exact ⟨kvs, s _ _ h1, aR h2 fun _ _ _ => Fact.sm s⟩
theorem JY {p : Cs} (h : aB p = true) : cOk p := by
 unfold aB at h
 rw [aaN, aaN] at h
 have h1 := of_decide_eq_true h.1
 have h2 := of_decide_eq_true h.2.1
 refine ⟨fun e => by rw [e] at h1; simp at h1, by omega, fun c hc => ?_⟩
 have z := aaS.mp h.2.2 c hc
 have key : ∀ c : Nat, aZ c = true → c < 200 := by
  intro c hc
  unfold aZ at hc
  have a1 : ∀ d ∈ dI.cps.toList, d < 200 := by decide +kernel
  have a2 : ∀ d ∈ d7.cps.toList, d < 200 := by decide +kernel
  have a3 : ∀ d ∈ HI.cps.toList, d < 200 := by decide +kernel
  rw [acC, acC] at hc
  rcases hc with h | h | h
  ·exact a1 c (of_decide_eq_true h)
  ·exact a2 c (of_decide_eq_true h)
  ·exact a3 c (of_decide_eq_true h)
 have := key c z
 omega
end Bk
namespace Bk
open PySem L2 cM
theorem dt {K : aaa} {H : Hp} {d t : aaC} {ys : List V} {o : HO} {xs : List V} (hd : H d = some (.lst ys)) (h : cK K H t xs) : cK K (upd H d o) t xs := by
 rcases h with (h | ⟨ob, h⟩) | h
 ·refine .inl (.inl ?_)
  rw [aA (fun e => by rw [e, hd] at h; cases h)]
  exact h
 ·refine .inl (.inr ⟨ob, ?_⟩)
  rw [aA (fun e => by rw [e, hd] at h; cases h)]
  exact h
 ·exact .inr h
theorem r6 {K : aaa} {H : Hp} {d : aaC} {ys : List V} {o : HO} {f : Fc} {v : V} (hd : H d = some (.lst ys)) (h : Fact K H f v) : Fact K (upd H d o) f v := by
 obtain ⟨t, t2, e, h1, h2⟩ := h
 exact ⟨t, t2, e, dt hd h1, dt hd h2⟩
end Bk
namespace Bk
open PySem L2 cM
end Bk
namespace L2
theorem f7 {t1 t2 : TS} {D : Ends} {σ : St} {H : Hp} (Good : St → Hp → Prop) (h : (∀ σ' H', Good σ' H' → t2 D σ' H') → t1 { D with nx := t2 D } σ H) (fin : ∀ σ' H', Good σ' H' → t2 D σ' H') : LG t1 t2 D σ H := h fin
end L2
namespace Bk
open PySem L2 cM
end Bk
namespace Bk
open PySem L2 cM
end Bk
namespace L2
theorem nv {i : Nat} {x : V} {σ : St} {H : Hp} {K : St → Hp → Prop} (h : K (σ.set i (some x)) H) : tI i x σ H K := h
end L2
namespace L2
end L2
namespace Bk
open PySem L2 cM
end Bk
namespace PySem.W
open PySem PySem.Spec PySem.Calls PyProof.Rows Builtin Builtin.ObjectAttr Builtin.Getset_descriptor
section
variable {prog : aaL} {w : aa9} {A : aba} {E : aad → aaf → Prop} {K : Frag} {x D : aaC} {ox : Obj}
end
end PySem.W
namespace L2
open PySem PySem.Spec PyProof.Rows
section
variable {X : Cx} {x : aaC} {oe : Obj} {cls : aad}
end
end L2
namespace L2
open PySem PySem.Spec PyProof.Rows
section
variable {X : Cx} {e : Expr} {te : TE} {pre : Str} {j : Nat} {p1 p2 p3 : Pos}
end
end L2
namespace Bk
open PySem L2 cM
theorem pC : ∀ (l cur : Cs), ∀ p ∈ bO l cur, ∀ c ∈ p, c ∈ l ∨ c ∈ cur
 | [], cur, p, hp, c, hc => by
  have hp' : p ∈ shut cur [] := hp
  unfold shut at hp'
  by_cases h : cur = []
  ·rw [if_pos h] at hp'; cases hp'
  ·rw [if_neg h] at hp'
   rw [aak.mp hp'] at hc
   exact .inr hc
 | d :: r, cur, p, hp, c, hc => by
  have hp' : p ∈ (if aZ d = true then bO r (cur ++ [d]) else shut cur (if d = 32 then bO r [] else [d] :: bO r [])) := hp
  by_cases ha : aZ d = true
  ·rw [if_pos ha] at hp'
   rcases pC r _ p hp' c hc with z | z
   ·exact .inl (aal _ z)
   ·rcases aax.mp z with z | z
    ·exact .inr z
    ·rw [aak.mp z]; exact .inl (aao ..)
  ·rw [if_neg ha] at hp'
   have key : p ∈ (if d = 32 then bO r [] else [d] :: bO r []) → c ∈ d :: r ∨ c ∈ cur := fun hp' => by
    by_cases h2 : d = 32
    ·rw [if_pos h2] at hp'
     rcases pC r _ p hp' c hc with z | z
     ·exact .inl (aal _ z)
     ·cases z
    ·rw [if_neg h2] at hp'
     rcases aaF.mp hp' with rfl | hp'
     ·rw [aak.mp hc]; exact .inl (aao ..)
     ·rcases pC r _ p hp' c hc with z | z
      ·exact .inl (aal _ z)
      ·cases z
   unfold shut at hp'
   by_cases h : cur = []
   ·rw [if_pos h] at hp'; exact key hp'
   ·rw [if_neg h] at hp'
    rcases aaF.mp hp' with rfl | hp'
    ·exact .inr hc
    ·exact key hp'
end Bk
namespace L2
open PySem PySem.Spec PyProof.Rows
mutual
theorem vQ : ∀ d : Dt, EH d d = true
 | .bY => by unfold EH; rfl
 | .bl b => by unfold EH; exact beq_self_eq_true b
 | .int i => by unfold EH; exact beq_self_eq_true i
 | .str x => by unfold EH; exact beq_self_eq_true x
 | .tup ds => by unfold EH; exact zA ds
theorem zA : ∀ ds : List Dt, vi ds ds = true
 | [] => by unfold vi; rfl
 | d :: r => by unfold vi; rw [vQ d, zA r]; rfl
end
section
variable {X : Cx}
def Alike (K : aaa) (H : Hp) (x y : V) : Prop := ∃ (a b : aaC) (xs ys : List V) (ds : List Dt), x = .ref a ∧ y = .ref b ∧ aH K H a xs ∧ aH K H b ys ∧ ds.length = xs.length ∧ ds.length = ys.length ∧ (∀ d ∈ ds, d.deep ≤ 20) ∧
 (∀ (i : Nat) (h0 : i < ds.length) (h1 : i < xs.length), tM K H ds[i] xs[i]) ∧ (∀ (i : Nat) (h0 : i < ds.length) (h1 : i < ys.length), tM K H ds[i] ys[i])
def VZ (K : aaa) : R2 := fun x y H Q => Alike K H x y ∧ Q (.bl true) H
def V0 (K : aaa) : R2 := fun x y H Q => Alike K H x y ∧ Q (.bl false) H
theorem Dr {pins : List (aaC × Obj)} {σ : St} {H : Hp} {s : aaf} (I : Inv X pins σ H s) (hu : X.A.units + 64 < cLine) {a b : aaC} {xs ys : List V} {ds : List Dt} {its d9 : List aad} (JQ : Vals xs its) (HL : Vals ys d9) (e1 : ds.length = xs.length) (e2 : ds.length = ys.length) (hd : ∀ d ∈ ds, d.deep ≤ 20)
  (h1 : ∀ (i : Nat) (h0 : i < ds.length) (h1 : i < xs.length), tM X.K H ds[i] xs[i]) (h2 : ∀ (i : Nat) (h0 : i < ds.length) (h1 : i < ys.length), tM X.K H ds[i] ys[i]) (j : Nat) (j1 : j < its.toArray.size) (j2 : j < d9.toArray.size) : aev X.A.in1 s its.toArray[j] d9.toArray[j] true := by
 have HD := JQ.length
 have HE := HL.length
 have YV : j < its.length := by simpa using j1
 have YW : j < d9.length := by simpa using j2
 obtain ⟨u1, f1, q1⟩ := JQ.get (i := j) (x := xs[j]'(by omega)) (by simp)
 obtain ⟨u2, f2, q2⟩ := HL.get (i := j) (x := ys[j]'(by omega)) (by simp)
 have c1 : its.toArray[j] = u1 := by
  have z := aaj.mp f1
  simpa using z.2
 have c2 : d9.toArray[j] = u2 := by
  have z := aaj.mp f2
  simpa using z.2
 rw [c1, c2]
 have z := Js I rfl 20 X.A.in1 (hd _ (aaq (show j < ds.length by omega))) (by show X.A.units + 1 + 20 < cLine; omega) (h1 j (by omega) (by omega)) (h2 j (by omega) (by omega)) q1 q2
 rw [vQ] at z
 exact z
theorem V1 (hu : X.A.units + 64 < cLine) : t9 X (compareOp .Eq) (VZ X.K) := by
 intro pins s σ H x y v u Q I rx ry h
 obtain ⟨⟨a, b, xs, ys, ds, rfl, rfl, g1, g2, l1, l2, hd, h1, h2⟩, q⟩ := h
 cases rx
 cases ry
 obtain ⟨its, JQ, ⟨o1, n1, p1, c1, d1, f1⟩, _⟩ := I.list g1
 obtain ⟨d9, HL, ⟨o2, n2, p2, c2, d2, f2⟩, _⟩ := I.list g2
 have i1 : s.heap.IsList a its.toArray := ⟨o1, p1, c1, n1, by assumption⟩
 have i2 : s.heap.IsList b d9.toArray := ⟨o2, p2, c2, n2, by assumption⟩
 have HD := JQ.length
 have HE := HL.length
 refine SeqAt.RcAt.lists (e := fun _ => true) i1 i2 (by simp; omega) (by omega) (fun j j1 j2 => Dr (a := a) (b := b) I hu JQ HL l1 l2 hd h1 h2 j j1 j2) _ _ _ _ ?_
 refine ⟨.bl _, H, I, rfl, ?_⟩
 have e : (abj its.toArray.size).all (fun _ => true) = true := by simp
 rw [e]
 exact q
theorem r9 (hu : X.A.units + 64 < cLine) : t9 X (compareOp .NotEq) (V0 X.K) := by
 intro pins s σ H x y v u Q I rx ry h
 obtain ⟨⟨a, b, xs, ys, ds, rfl, rfl, g1, g2, l1, l2, hd, h1, h2⟩, q⟩ := h
 cases rx
 cases ry
 obtain ⟨its, JQ, ⟨o1, n1, p1, c1, d1, f1⟩, _⟩ := I.list g1
 obtain ⟨d9, HL, ⟨o2, n2, p2, c2, d2, f2⟩, _⟩ := I.list g2
 have i1 : s.heap.IsList a its.toArray := ⟨o1, p1, c1, n1, by assumption⟩
 have i2 : s.heap.IsList b d9.toArray := ⟨o2, p2, c2, n2, by assumption⟩
 have HD := JQ.length
 have HE := HL.length
 refine SeqAt.RcNeAt.lists (e := fun _ => true) i1 i2 (by simp; omega) (by omega) (fun j j1 j2 => Dr (a := a) (b := b) I hu JQ HL l1 l2 hd h1 h2 j j1 j2) _ _ _ _ ?_
 refine ⟨.bl _, H, I, rfl, ?_⟩
 have e : (abj its.toArray.size).all (fun _ => true) = true := by simp
 rw [e]
 exact q
theorem Alike.plain {K : aaa} {H : Hp} {a b : aaC} {ds : List Dt} {xs : List V} (h1 : aH K H a xs) (h2 : aH K H b xs) (hl : ds.length = xs.length) (hd : ∀ d ∈ ds, d.deep ≤ 20) (h : ∀ (i : Nat) (h0 : i < ds.length) (h1 : i < xs.length), tM K H ds[i] xs[i]) : Alike K H (.ref a) (.ref b) :=
 ⟨a, b, xs, xs, ds, rfl, rfl, h1, h2, hl, hl, hd, h, h⟩
theorem Alike.bools {K : aaa} {H : Hp} {a b : aaC} {bs : List Bool} (h1 : aH K H a (bs.map V.bl)) (h2 : aH K H b (bs.map V.bl)) : Alike K H (.ref a) (.ref b) := by
 refine .plain (ds := bs.map Dt.bl) h1 h2 (by simp) (fun d hd => ?_) fun i h0 h1 => ?_
 ·obtain ⟨b, _, rfl⟩ := aat.mp hd
  simp [Dt.deep]
 ·rw [aas, aas]
  exact .bl _
theorem Alike.texts {K : aaa} {H : Hp} {a b : aaC} {bs : List Str} (h1 : aH K H a (bs.map V.str)) (h2 : aH K H b (bs.map V.str)) : Alike K H (.ref a) (.ref b) := by
 refine .plain (ds := bs.map Dt.str) h1 h2 (by simp) (fun d hd => ?_) fun i h0 h1 => ?_
 ·obtain ⟨b, _, rfl⟩ := aat.mp hd
  simp [Dt.deep]
 ·rw [aas, aas]
  exact .str _
end
end L2
namespace L2
open PySem PySem.Spec PyProof.Rows
section
variable {X : Cx}
end
end L2
namespace PySem
open Sem (wp)
section
variable {prog : aaL} {w : aa9}
variable {A : aba} {E : aad → aaf → Prop} {s : aaf}
end
end PySem
namespace L2
open PySem PySem.Spec PyProof.Rows
section
variable {X : Cx} {pins : List (aaC × Obj)} {σ : St} {H : Hp} {s : aaf} {a : aaC} {xs : List FE} {k : FK} {y : V} {u r : aad} {A : aba} {E : aad → aaf → Prop}
end
section
variable {X : Cx} {o i e f value : Expr} {pos pos' QV apos cpos : Pos} {td ty tv tz : TE}
end
end L2
namespace L2
open PySem PySem.Spec PyProof.Rows
section
variable {X : Cx} {pins : List (aaC × Obj)} {σ : St} {H : Hp} {s : aaf} {a it l : aaC} {ys : List V} {its : List aad} {ps : List (Key × V)}
end
end L2
namespace L2
open PySem PySem.Spec PyProof.Rows
section
variable {X : Cx}
end
end L2
namespace Bk
section
variable {α : Type} [DecidableEq α]
end
end Bk
namespace Bk
open PySem L2 cM
deriving instance DecidableEq for Fc
end Bk
namespace L2
open PySem PySem.Spec PyProof.Rows Bk
end L2
namespace Bk
open PySem L2 cM
end Bk
namespace Bk
open PySem L2 cM
end Bk
namespace Bk
open PySem L2 cM
end Bk
namespace Bk
open PySem L2 cM
theorem vP {K : aaa} {H : Hp} : ∀ {as : List Str} {ys : List V}, as.length = ys.length → (∀ i (h0 : i < (Tr.toDs (as.map Tr.str)).length) (h1 : i < ys.length), tM K H (Tr.toDs (as.map Tr.str))[i] ys[i]) → ys = as.map V.str
 | [], [], _, _ => rfl
 | [], _ :: _, h, _ => by cases h
 | _ :: _, [], h, _ => by cases h
 | a :: as, y :: ys, h, hd => by
  have h0 : tM K H (Dt.str a) y := by
   have z := hd 0 (by simp [Tr.toDs]) (by simp)
   simpa [Tr.toDs, Tr.toD] using z
  have e : y = .str a := by cases h0; rfl
  have ih := vP (K := K) (H := H) (as := as) (ys := ys) (by simpa using h) fun i h0 h1 => by
   have z := hd (i + 1) (by simpa [Tr.toDs] using h0) (by simpa using h1)
   simpa [Tr.toDs] using z
  rw [e, ih]
  rfl
end Bk
namespace Bk
open PySem L2 cM
end Bk
namespace Bk
open PySem L2 cM
end Bk
namespace Bk
open PySem L2 cM
end Bk
namespace Bk
open PySem L2 cM
end Bk
namespace Bk
open PySem L2 cM
end Bk
namespace Bk
open PySem L2 cM
end Bk
namespace R3
variable (Rx sm : Nat → Bool)
structure Sg : Prop where
 n32 : Rx 32 = false
 n40 : Rx 40 = false
 Y0 : Rx 41 = false
 n44 : Rx 44 = false
variable (S : Sg Rx)
include S
end R3
namespace Bk
open PySem L2 cM
end Bk
namespace Bk
open PySem L2 cM
def au (g : Fc) : Cs := if g.as = [] then g.k else ((g.k ++ [40]) ++ gp 44 g.as) ++ [41]
def bp : List Cs → Cs
 | [] => []
 | [a] => a
 | a :: r => a ++ 44 :: 32 :: bp r
theorem Ds : ∀ (ls : List Str), (aci (aab ", ") ls).cps.toList = bp (ls.map fun s => s.cps.toList)
 | [] => rfl
 | [a] => rfl
 | a :: b :: r => by
  have ih := Ds (b :: r)
  show ((a ++ (aab ", ")) ++ aci (aab ", ") (b :: r)).cps.toList = _
  rw [abl, abl, ih]
  have e : (aab ", ").cps.toList = [44, 32] := by decide +kernel
  rw [e]
  show (a.cps.toList ++ [44, 32]) ++ _ = a.cps.toList ++ 44 :: 32 :: _
  simp
theorem ku (ls : List Cs) : adh (aab ", ") (ls.map S) = S (bp ls) := by
 show acI (aab ", ") _ = _
 rw [abT, ← uf (aci (aab ", ") (ls.map S)), Ds, abA]
 have e : ((fun s : Str => s.cps.toList) ∘ S) = id := by
  funext p
  exact bq p
 rw [e, acs]
structure FG (g : Fc) : Prop where
 k : a8 g.k = true
 as : ∀ a ∈ g.as, aB a = true
 n : g.as.length ≤ 4
def Mc (g : Fc) : List Cs := if g.as = [] then [g.k] else g.k :: [40] :: between g.as
theorem G3 {g : Fc} (h : FG g) : mY (Mc g) g := by
 unfold Mc
 by_cases e : g.as = []
 ·rw [if_pos e]
  have z := mY.bare h.k
  cases g
  cases e
  exact z
 ·rw [if_neg e]
  exact .args h.k e h.as
theorem jW {p : Cs} (h : aB p = true) : p.all aZ = true ∧ p ≠ [] := by
 unfold aB at h
 simp only [aaN, decide_eq_true_eq] at h
 exact ⟨h.2.2, fun e => by rw [e] at h; simp at h⟩
theorem qQ : ∀ (as : List Cs) (r : Cs), as ≠ [] → (∀ a ∈ as, aB a = true) → toks (gp 44 as ++ 41 :: r) = between as ++ toks r
 | [], _, h, _ => absurd rfl h
 | [a], r, _, h => by
  have z := jW (h a (aao ..))
  show toks (a ++ 41 :: r) = a :: [41] :: toks r
  rw [d4 z.1 z.2 (show mW (41 :: r) from GR), pj rfl]
 | a :: b :: t, r, _, h => by
  have z := jW (h a (aao ..))
  have ih := qQ (b :: t) r (by simp) fun x hx => h x (aal _ hx)
  show toks ((a ++ 44 :: gp 44 (b :: t)) ++ 41 :: r) = a :: [44] :: (between (b :: t) ++ toks r)
  rw [aaQ, aco, d4 z.1 z.2 (show mW (44 :: (gp 44 (b :: t) ++ 41 :: r)) from vx), pj rfl, ih]
theorem zB {g : Fc} (h : FG g) {r : Cs} (hr : mW r) : toks (au g ++ r) = Mc g ++ toks r := by
 have hk := h.k
 unfold a8 at hk
 rw [aaN] at hk
 have z := jW hk.1
 unfold au Mc
 by_cases e : g.as = []
 ·rw [if_pos e, if_pos e, d4 z.1 z.2 hr]
  rfl
 ·rw [if_neg e, if_neg e, aaQ, aaQ, aaQ]
  show toks (g.k ++ 40 :: (gp 44 g.as ++ 41 :: r)) = g.k :: [40] :: (between g.as ++ toks r)
  rw [d4 z.1 z.2 (show mW (40 :: (gp 44 g.as ++ 41 :: r)) from GQ), pj rfl, qQ g.as r e h.as]
theorem Du : ∀ (fs : List Fc), fs ≠ [] → (∀ g ∈ fs, FG g) → qF (toks (bp (fs.map au))) fs
 | [], h, _ => absurd rfl h
 | [g], _, h => by
  have hg := h g (aao ..)
  have z := zB hg (r := []) trivial
  rw [aaU, show toks [] = [] from rfl, aaU] at z
  show qF (toks (au g)) [g]
  rw [z]
  exact .one (G3 hg)
 | g :: g2 :: t, _, h => by
  have hg := h g (aao ..)
  have ih := Du (g2 :: t) (by simp) fun x hx => h x (aal _ hx)
  show qF (toks (au g ++ 44 :: 32 :: bp ((g2 :: t).map au))) (g :: g2 :: t)
  rw [zB hg (show mW (44 :: 32 :: bp ((g2 :: t).map au)) from vx), pj rfl, dJ]
  exact .more (G3 hg) ih
theorem zC {f : Nat → Bool} (UB : f 44 = true) : ∀ (as : List Cs), (∀ a ∈ as, a.all f = true) → (gp 44 as).all f = true
 | [], _ => rfl
 | [a], h => h a (aao ..)
 | a :: b :: t, h => by
  have ih := zC UB (b :: t) fun x hx => h x (aal _ hx)
  show (a ++ 44 :: gp 44 (b :: t)).all f = true
  rw [aaY, abc, ih, UB, h a (aao ..)]
  rfl
theorem qR : ∀ (as : List Cs), (∀ a ∈ as, a.length ≤ 12) → (gp 44 as).length ≤ as.length * 13
 | [], _ => abm _
 | [a], h => by have := h a (aao ..); show a.length ≤ 1 * 13; omega
 | a :: b :: t, h => by
  have ih := qR (b :: t) fun x hx => h x (aal _ hx)
  have := h a (aao ..)
  show (a ++ 44 :: gp 44 (b :: t)).length ≤ (b :: t).length.succ * 13
  rw [aac, aag]
  omega
end Bk
namespace L2
open PySem PySem.Spec PyProof.Rows Bk
theorem JZ {tt : TT} {te : TE} {bc : List Nat} {σ : St} {H1 : Hp} {Q : VK} {K : aaa} {a : aaC} {xs : List V} {D : aaC} (hn : xs.length < aai) (Pv : Nat → List V → Hp → Prop) (h0 : Pv 0 [] (upd H1 D (.lst [])))
  (hl : ∀ i ys H, Pv i ys H → cK K H a xs) (hD : ∀ i ys H, Pv i ys H → H D = some (.lst ys) ∧ ys.length ≤ i)
  (hs : ∀ i ys H, i < xs.length → Pv i ys H → tt (cD σ (some (xs.getD i .bY)) bc) H fun b H2 =>
   if b = true then te (cD σ (some (xs.getD i .bY)) bc) H2 fun y H3 => H3 D = some (.lst ys) ∧ Pv (i + 1) (ys ++ [y]) (upd H3 D (.lst (ys ++ [y])))
   else Pv (i + 1) ys H2)
  (hd : ∀ ys H, Pv xs.length ys H → Q (.ref D) H) : mP tt te bc σ Q (MX K a) H1 D :=
 uM (J := MX K a) (Q := Q) (D := D) (H1 := H1) xs.length hn (fun i => xs.getD i .bY) Pv h0 (fun ys H p => ⟨xs, hl _ ys H p, aar _⟩)
  (fun i ys H p h => ⟨xs, xs[i], hl i ys H p, by simp [h]⟩) (fun i ys H x H' p h y => ⟨y.1, by
   have z := y.2 xs (hl i ys H p)
   rw [Gd9, z] <;> rfl⟩) hD hs hd
section
variable {te : TE} {bc : List Nat} {σ : St} {H1 : Hp} {Q : VK} {K : aaa} {a : aaC} {xs : List V} {D : aaC} {gs : List V}
theorem zD {i : Nat} {ys : List V} {H' : Hp} (hn : gs.length = xs.length) (xt : H1 D = none) (he : ∀ (i : Nat) x g H' R, xs[i]? = some x → gs[i]? = some g → ah H1 H' → (∀ qA, ah H' qA → R g qA) → te (cD σ (some x) bc) H' R) (hi : i < xs.length)
  (p : ah H1 H' ∧ H' D = some (.lst ys) ∧ ys = gs.take i) : vf (cD σ (some (xs.getD i .bY)) bc) H' fun b H2 =>
   if b = true then te (cD σ (some (xs.getD i .bY)) bc) H2 fun y H3 => H3 D = some (.lst ys) ∧ (ah H1 (upd H3 D (.lst (ys ++ [y]))) ∧ upd H3 D (.lst (ys ++ [y])) D = some (.lst (ys ++ [y])) ∧ ys ++ [y] = gs.take (i + 1))
   else (ah H1 H2 ∧ H2 D = some (.lst ys) ∧ ys = gs.take (i + 1)) := by
 have hx : xs.getD i .bY = xs[i] := by rw [Gd9, Ge9 hi]; rfl
 rw [hx]
 unfold vf
 simp only [if_true]
 have Y5 : i < gs.length := by omega
 refine he i _ gs[i] _ _ (Ge9 hi) (Ge9 Y5) p.1 fun H3 s3 => ?_
 refine ⟨s3 _ _ p.2.1, ah.aQ (ah.trans p.1 s3) xt _, ae, ?_⟩
 rw [p.2.2, aap Y5]
theorem J0 (hn : gs.length = xs.length) (hz : xs.length < aai) (xt : H1 D = none) (hl : aH K H1 a xs) (he : ∀ (i : Nat) x g H' R, xs[i]? = some x → gs[i]? = some g → ah H1 H' → (∀ qA, ah H' qA → R g qA) → te (cD σ (some x) bc) H' R)
  (hd : ∀ H', ah H1 H' → H' D = some (.lst gs) → Q (.ref D) H') : mP vf te bc σ Q (IZ K a) H1 D := by
 refine jQ (K := K) (a := a) (xs := xs) hz (fun i ys H' => ah H1 H' ∧ H' D = some (.lst ys) ∧ ys = gs.take i) ⟨aj xt _, ae, rfl⟩ (fun i ys H' p => p.1.seq hl) (fun i ys H' p => ⟨p.2.1, by rw [p.2.2, aaH]; omega⟩) (fun i ys H' hi p => zD hn xt he hi p) (fun ys H' p => ?_)
 have z := p.2.2
 rw [abp (by omega)] at z
 exact hd H' p.1 (z ▸ p.2.1)
theorem J1 (hn : gs.length = xs.length) (hz : xs.length < aai) (xt : H1 D = none) (hl : cK K H1 a xs) (he : ∀ (i : Nat) x g H' R, xs[i]? = some x → gs[i]? = some g → ah H1 H' → (∀ qA, ah H' qA → R g qA) → te (cD σ (some x) bc) H' R)
  (hd : ∀ H', ah H1 H' → H' D = some (.lst gs) → Q (.ref D) H') : mP vf te bc σ Q (MX K a) H1 D := by
 refine JZ (K := K) (a := a) (xs := xs) hz (fun i ys H' => ah H1 H' ∧ H' D = some (.lst ys) ∧ ys = gs.take i) ⟨aj xt _, ae, rfl⟩ (fun i ys H' p => hl.same p.1) (fun i ys H' p => ⟨p.2.1, by rw [p.2.2, aaH]; omega⟩) (fun i ys H' hi p => zD hn xt he hi p) (fun ys H' p => ?_)
 have z := p.2.2
 rw [abp (by omega)] at z
 exact hd H' p.1 (z ▸ p.2.1)
end
end L2
namespace L2
open PySem PySem.Spec PyProof.Rows
section
variable {X : Cx}
end
end L2
namespace L2
open PySem PySem.Spec PyProof.Rows
section
variable {X : Cx} {pins : List (aaC × Obj)} {σ : St} {H : Hp} {s : aaf} {a it l : aaC} {ks : List Str} {its : List aad}
end
end L2
namespace Un
section
variable {α : Type} [DecidableEq α] (great : α → Bool) (lt : α → α → Bool)
variable {great lt}
end
end Un
namespace Bk
open PySem L2 cM
end Bk
namespace Bk
open PySem L2 cM
end Bk
namespace Bk
open PySem L2 cM
end Bk
namespace L2
open PySem PySem.Spec PyProof.Rows Bk
end L2
namespace Bk
open PySem L2 cM
end Bk
namespace Bk
open PySem L2 cM
end Bk
namespace Bk
open PySem L2 cM
end Bk
namespace Bk
end Bk
namespace Bk
open PySem L2 cM
end Bk
namespace Bk
open PySem L2 cM
end Bk
namespace Bk
open PySem L2 cM
structure FN (g : Fc) : Prop where
 k : aB g.k = true
 as : ∀ a ∈ g.as, aB a = true
 n : g.as.length ≤ 4
theorem FN.OX {g : Fc} (h : FN g) : g.k.length ≤ 12 := (fO h.k).2
theorem FN.Md {g : Fc} (h : FN g) : ∀ a ∈ g.as, a.length ≤ 12 := fun a ha => (fO (h.as a ha)).2
theorem sd {g : Fc} (h : FN g) : (au g).length ≤ 70 := by
 have z := qR g.as h.Md
 have z2 := h.OX
 have z3 := h.n
 unfold au
 by_cases e : g.as = []
 ·rw [if_pos e]; omega
 ·rw [if_neg e]
  simp only [aac, aag, aa6]
  omega
def zE (K : aaa) : Sp := fun vs H Q _ => ∃ (v : V) (g : Fc), vs = [v] ∧ Fact K H g v ∧ FN g ∧ Q (tx (au g)) H
def Fs (K : aaa) : Sp := fun vs H Q _ => ∃ (a : aaC) (xs : List V) (fs : List Fc), vs = [.ref a] ∧ (aH K H a xs ∨ cK K H a xs) ∧ Paired (Fact K H) fs xs ∧ (∀ g ∈ fs, FN g) ∧ fs.length ≤ 63 ∧ ∀ H', ah H H' → Q (tx (bp (fs.map au))) H'
end Bk
namespace L2
open PySem PySem.Spec PyProof.Rows Bk
end L2
namespace Bk
open PySem L2 cM
end Bk
namespace Bk
open PySem L2 cM
end Bk
namespace Bk
open PySem L2 cM
theorem J2 : ∀ (ns : List Cs) {acc : List Cs} (x : Cs), x ∈ kn acc ns ↔ x ∈ acc ∨ (x ∈ ns ∧ great x = true)
 | [], acc, x => by simp [kn]
 | n :: ns, acc, x => by
  show x ∈ kn (G0 acc n) ns ↔ _
  rw [J2 ns, aaF]
  have e : x ∈ G0 acc n ↔ x ∈ acc ∨ (x = n ∧ great x = true) := by
   unfold G0
   split
   ·rename_i g
    split
    ·rename_i hm
     exact ⟨.inl, fun z => z.elim id fun ⟨e, _⟩ => e ▸ hm⟩
    ·rw [aax, aak]
     exact ⟨fun z => z.elim .inl fun e => .inr ⟨e, e ▸ g⟩, fun z => z.elim .inl fun e => .inr e.1⟩
   ·rename_i g
    exact ⟨.inl, fun z => z.elim id fun ⟨e, g'⟩ => absurd (e ▸ g') g⟩
  rw [e]
  constructor
  ·rintro ((h | ⟨h, g⟩) | ⟨h, g⟩)
   ·exact .inl h
   ·exact .inr ⟨.inl h, g⟩
   ·exact .inr ⟨.inr h, g⟩
  ·rintro (h | ⟨h | h, g⟩)
   ·exact .inl (.inl h)
   ·exact .inl (.inr ⟨h, g⟩)
   ·exact .inr ⟨h, g⟩
end Bk
namespace Bk
open PySem L2 cM
end Bk
namespace Bk
open PySem L2 cM
end Bk
namespace Bk
open PySem L2 cM
theorem OY {xs : List V} {k : Nat} (h : k ≤ xs.length) : kb xs none (some (k : Int)) = xs.take k := by
 unfold kb
 have e1 : HT.d6 xs.length 0 none = 0 := rfl
 have e2 : HT.d6 xs.length xs.length (some (k : Int)) = min k xs.length := HT.uL _ _ k
 rw [e1, e2, acM, Nat.sub_zero, Nat.min_eq_left h]
end Bk
namespace Bk
open PySem L2 cM
theorem Dv (cur : Cs) (x y : List Cs) : shut cur (x ++ y) = shut cur x ++ y := by
 unfold shut
 split <;> rfl
def Me (c : Nat) (ts : List Cs) : List Cs := if c = 32 then ts else [c] :: ts
theorem se {c : Nat} (hc : aZ c = false) (r : Cs) : ∀ (a cur : Cs), bO (a ++ c :: r) cur = bO a cur ++ Me c (toks r)
 | [], cur => by
  show (if aZ c = true then bO r (cur ++ [c]) else shut cur (if c = 32 then bO r [] else [c] :: bO r [])) = shut cur [] ++ Me c (toks r)
  rw [hc, if_neg aaz, ← Dv, abr]
  rfl
 | d :: a, cur => by
  show (if aZ d = true then bO (a ++ c :: r) (cur ++ [d]) else shut cur (if d = 32 then bO (a ++ c :: r) [] else [d] :: bO (a ++ c :: r) [])) = (if aZ d = true then bO a (cur ++ [d]) else shut cur (if d = 32 then bO a [] else [d] :: bO a [])) ++ _
  rw [se hc r a (cur ++ [d]), se hc r a []]
  by_cases hd : aZ d = true
  ·rw [if_pos hd, if_pos hd]
  ·rw [if_neg hd, if_neg hd, ← Dv]
   by_cases h2 : d = 32
   ·rw [if_pos h2, if_pos h2]
   ·rw [if_neg h2, if_neg h2, aco]
theorem jX {c : Nat} (hc : aZ c = false) (a r : Cs) : toks (a ++ c :: r) = toks a ++ Me c (toks r) := se hc r a []
theorem gZ (a r : Cs) : toks (a ++ 32 :: r) = toks a ++ toks r := jX qC a r
theorem qS {c : Nat} (hc : aZ c = false) (h : c ≠ 32) (a r : Cs) : toks (a ++ c :: r) = toks a ++ [c] :: toks r := by
 rw [jX hc]
 unfold Me
 rw [if_neg h]
theorem vR (n : Nat) (a : Cs) : toks (a ++ aaW n 32) = toks a := by
 induction n with
 | zero => rw [aef, aaU]
 | succ n ih =>
  rw [ac3, gZ]
  have z := dc n []
  rw [aaU] at z
  rw [z]
  exact aaU _
theorem Dw {c : Nat} (x rest : Cs) (n : Nat) (h : aZ c = false ∨ mW rest) : toks (x ++ c :: (aaW n 32 ++ rest)) = toks (x ++ c :: rest) := by
 rcases h with h | h
 ·rw [jX h, jX h, dc]
 ·cases rest with
  | nil =>
   rw [aaU]
   have e : x ++ c :: aaW n 32 = (x ++ [c]) ++ aaW n 32 := by simp
   rw [e, vR]
  | cons d r =>
   have h : aZ d = false := h
   have e : x ++ c :: (aaW n 32 ++ d :: r) = ((x ++ [c]) ++ aaW n 32) ++ d :: r := by simp
   have e2 : x ++ c :: d :: r = (x ++ [c]) ++ d :: r := by simp
   rw [e, e2, jX h, jX h, vR]
def cE (sep : Cs) : List Cs → Cs
 | [] => []
 | [a] => a
 | a :: r => a ++ (sep ++ cE sep r)
theorem pD (sep : Str) : ∀ (ls : List Str), (aci sep ls).cps.toList = cE sep.cps.toList (ls.map fun s => s.cps.toList)
 | [] => rfl
 | [a] => rfl
 | a :: b :: r => by
  have ih := pD sep (b :: r)
  show ((a ++ sep) ++ aci sep (b :: r)).cps.toList = _
  rw [abl, abl, ih, aaQ]
  rfl
theorem qT (sep : Cs) (ls : List Cs) : adh (S sep) (ls.map S) = S (cE sep ls) := by
 show acI (S sep) _ = _
 rw [abT, ← uf (aci (S sep) (ls.map S)), pD, abA, bq]
 have e : ((fun s : Str => s.cps.toList) ∘ S) = id := by
  funext p
  exact bq p
 rw [e, acs]
theorem vS : ∀ ls, bp ls = cE [44, 32] ls
 | [] => rfl
 | [a] => rfl
 | a :: b :: r => by
  show a ++ 44 :: 32 :: bp (b :: r) = a ++ ([44, 32] ++ cE [44, 32] (b :: r))
  rw [vS (b :: r)]
  rfl
theorem pE {c : Nat} (hc : aZ c = false) (h : c ≠ 32) : ∀ ls, toks (cE [c, 32] ls) = glue [c] (ls.map toks)
 | [] => rfl
 | [a] => rfl
 | a :: b :: r => by
  show toks (a ++ c :: 32 :: cE [c, 32] (b :: r)) = toks a ++ [c] :: glue [c] ((b :: r).map toks)
  rw [qS hc h, dJ, pE hc h (b :: r)]
theorem eV {p : Cs} (h : aB p = true) : toks p = [p] := by
 have z := jW h
 have e := d4 z.1 z.2 (r := []) trivial
 rw [aaU] at e
 exact e
def bt (k : Lk) : Cs := k.l ++ 32 :: ((if k.same = true then ig else dM) ++ 32 :: k.r)
def bD (p : Cs × Cs) : Cs := p.1 ++ 32 :: 61 :: 32 :: p.2
theorem HQ {k : Lk} (h : aB k.l = true ∧ aB k.r = true) : toks (bt k) = jT k := by
 unfold bt jT
 rw [gZ, gZ, eV h.1, eV h.2]
 cases k.same <;> rfl
theorem J3 : aZ 61 = false := by decide +kernel
theorem Mf : aZ 59 = false := by decide +kernel
theorem Ka : aZ 58 = false := by decide +kernel
theorem HR {p : Cs × Cs} (h : aB p.1 = true ∧ aB p.2 = true) : toks (bD p) = jU p := by
 unfold bD jU
 rw [gZ, eV h.1, pT J3 (by decide), dJ, eV h.2]
 rfl
def aT (w : Cs) (m : List Cs) : List Cs := if m = [] then [] else [w ++ 32 :: bp m]
def cq (r : Rl) : List Cs := aT bz (r.take.map au) ++ (aT bH (r.keep.map au) ++ (aT bB (r.aO.map bt) ++ (aT cU (r.put.map au) ++ aT bR (r.tell.map bD))))
def bE (r : Rl) : Cs := cF ++ 32 :: (r.title ++ 58 :: 32 :: cE [59, 32] (cq r))
def Ng (n : Nat) (fs : List Fc) : List Pr := if fs = [] then [] else [⟨n, toks (bp (fs.map au)), .fs fs⟩]
def Ry (ks : List Lk) : List Pr := if ks = [] then [] else [⟨2, glue [44] (ks.map jT), .lk ks⟩]
def Rz (ps : List (Cs × Cs)) : List Pr := if ps = [] then [] else [⟨4, glue [44] (ps.map jU), .pr ps⟩]
def gq (r : Rl) : List Pr := Ng 0 r.take ++ (Ng 1 r.keep ++ (Ry r.aO ++ (Ng 3 r.put ++ Rz r.tell)))
structure uj (r : Rl) : Prop where
 t : a8 r.title = true
 f : ∀ g ∈ r.take ++ (r.keep ++ r.put), FG g
 l : ∀ k ∈ r.aO, aB k.l = true ∧ aB k.r = true
 p : ∀ p ∈ r.tell, aB p.1 = true ∧ aB p.2 = true
 hd : r.take ++ r.keep ≠ []
 few : r.take.length ≤ 20 ∧ r.keep.length ≤ 20 ∧ r.aO.length ≤ 20 ∧ r.put.length ≤ 20 ∧ r.tell.length ≤ 20
theorem eX : aB bz = true ∧ aB bH = true ∧ aB bB = true ∧ aB cU = true ∧ aB bR = true ∧ aB cF = true ∧ aB ig = true ∧ aB dM = true := by decide +kernel
theorem Aq {n : Nat} {w : Cs} (hw : aB w = true) (e : wordAt n = w) (fs : List Fc) : (aT w (fs.map au)).map toks = (Ng n fs).map fun x => wordAt x.n :: x.ps := by
 unfold aT Ng
 by_cases h : fs = []
 ·subst h; rfl
 ·rw [if_neg (by simpa using h), if_neg h]
  show [toks (w ++ 32 :: bp (fs.map au))] = [wordAt n :: toks (bp (fs.map au))]
  rw [gZ, eV hw, e]
  rfl
theorem Mg {ks : List Lk} (hk : ∀ k ∈ ks, aB k.l = true ∧ aB k.r = true) : (aT bB (ks.map bt)).map toks = (Ry ks).map fun x => wordAt x.n :: x.ps := by
 unfold aT Ry
 by_cases h : ks = []
 ·subst h; rfl
 ·rw [if_neg (by simpa using h), if_neg h]
  show [toks (bB ++ 32 :: bp (ks.map bt))] = [bB :: glue [44] (ks.map jT)]
  have e : (ks.map bt).map toks = ks.map jT := by
   rw [abA]
   exact acv fun k h => HQ (hk k h)
  rw [gZ, eV eX.2.2.1, vS, pE (by decide +kernel) (by decide), e]
  rfl
theorem Mh {ps : List (Cs × Cs)} (hp : ∀ p ∈ ps, aB p.1 = true ∧ aB p.2 = true) : (aT bR (ps.map bD)).map toks = (Rz ps).map fun x => wordAt x.n :: x.ps := by
 unfold aT Rz
 by_cases h : ps = []
 ·subst h; rfl
 ·rw [if_neg (by simpa using h), if_neg h]
  show [toks (bR ++ 32 :: bp (ps.map bD))] = [bR :: glue [44] (ps.map jU)]
  have e : (ps.map bD).map toks = ps.map jU := by
   rw [abA]
   exact acv fun p h => HR (hp p h)
  rw [gZ, eV eX.2.2.2.2.1, vS, pE (by decide +kernel) (by decide), e]
  rfl
theorem zF {r : Rl} (h : uj r) : toks (bE r) = gI r.title (gq r) := by
 have ht := h.t
 unfold a8 at ht
 rw [aaN] at ht
 unfold bE gI
 rw [gZ, eV eX.2.2.2.2.2.1, qS Ka (by decide), eV ht.1, dJ, pE Mf (by decide)]
 have e : (cq r).map toks = (gq r).map fun x => wordAt x.n :: x.ps := by
  unfold cq gq
  rw [aan, aan, aan, aan, aan, aan, aan, aan, Aq (n := 0) eX.1 rfl, Aq (n := 1) eX.2.1 rfl, Mg h.l, Aq (n := 3) eX.2.2.2.1 rfl, Mh h.p]
 rw [e]
 rfl
theorem Ft (r : Rl) : rY r.title (gq r) = r := by
 obtain ⟨t, a, b, c, d, e⟩ := r
 cases a <;> cases b <;> cases c <;> cases d <;> cases e <;> rfl
theorem Mi (r : Rl) : Nd 0 (gq r) := by
 obtain ⟨t, a, b, c, d, e⟩ := r
 cases a <;> cases b <;> cases c <;> cases d <;> cases e <;> simp [gq, Ng, Ry, Rz, Nd]
end Bk
namespace Bk
open PySem L2 cM
def Fu (c : Nat) : Bool := aZ c || (c == 40 || (c == 41 || (c == 44 || (c == 32 || c == 61))))
theorem Nh {c : Nat} (h : Fu c = true) : m5 cw c = true := by
 unfold Fu at h
 simp only [acC, beq_iff_eq] at h
 rcases h with h | h | h | h | h | h
 ·exact JU h
 all_goals subst h; decide +kernel
theorem OZ : Fu 59 = false := by decide +kernel
theorem Kb : m5 cw 10 = false := by decide +kernel
theorem O0 : m5 cw 35 = false := by decide +kernel
theorem Fv {f g : Nat → Bool} (h : ∀ c, f c = true → g c = true) {x : Cs} (hx : x.all f = true) : x.all g = true := by
 rw [aaS] at hx ⊢
 exact fun c hc => h c (hx c hc)
theorem Fw {f : Nat → Bool} {c : Nat} (h : f c = false) {x : Cs} (hx : x.all f = true) : c ∉ x := fun hc => by
 rw [aaS] at hx
 rw [hx c hc] at h
 cases h
theorem V2 {c : Nat} (h : aZ c = true) : Fu c = true := by
 unfold Fu
 rw [h]
 rfl
theorem ny {p : Cs} (h : aB p = true) : p.all Fu = true := Fv (fun _ => V2) (jW h).1
theorem sf {f : Nat → Bool} {sep : Cs} (hs : sep.all f = true) : ∀ (ls : List Cs), (∀ l ∈ ls, l.all f = true) → (cE sep ls).all f = true
 | [], _ => rfl
 | [a], h => h a (aao ..)
 | a :: b :: r, h => by
  have ih := sf hs (b :: r) fun l hl => h l (aal _ hl)
  show (a ++ (sep ++ cE sep (b :: r))).all f = true
  rw [aaY, aaY, h a (aao ..), hs, ih]
  rfl
theorem di {p : Cs} (h : a8 p = true) : aB p = true := by
 unfold a8 at h
 rw [aaN] at h
 exact h.1
theorem Kc {g : Fc} (h : FG g) : (au g).all Fu = true := by
 unfold au
 have hk := ny (di h.k)
 split
 ·exact hk
 ·rw [aaY, aaY, aaY, hk, zC (by decide +kernel) _ fun l hl => ny (h.as l hl)]
  decide +kernel
theorem O1 {k : Lk} (h : aB k.l = true ∧ aB k.r = true) : (bt k).all Fu = true := by
 unfold bt
 rw [aaY, abc, aaY, abc, ny h.1, ny h.2]
 cases k.same <;> decide +kernel
theorem O2 {k : Cs × Cs} (h : aB k.1 = true ∧ aB k.2 = true) : (bD k).all Fu = true := by
 unfold bD
 rw [aaY, abc, abc, abc, ny h.1, ny h.2]
 decide +kernel
theorem Ni {ls : List Cs} (h : ∀ l ∈ ls, l.all Fu = true) : (bp ls).all Fu = true := by
 rw [vS]
 exact sf (by decide +kernel) ls h
theorem vT {w : Cs} (hw : aB w = true) {m : List Cs} (h : ∀ l ∈ m, l.all Fu = true) : ∀ l ∈ aT w m, l.all Fu = true := by
 unfold aT
 split
 ·intro l hl; cases hl
 ·intro l hl
  rw [aak.mp hl, aaY, abc, ny hw, Ni h]
  decide +kernel
theorem uj.parts {r : Rl} (h : uj r) : ∀ l ∈ cq r, l.all Fu = true := by
 have hf : ∀ fs : List Fc, (∀ g ∈ fs, g ∈ r.take ++ (r.keep ++ r.put)) → ∀ l ∈ fs.map au, l.all Fu = true := fun fs hs l hl => by
  obtain ⟨g, hg, rfl⟩ := aat.mp hl
  exact Kc (h.f g (hs g hg))
 intro l hl
 unfold cq at hl
 simp only [aax] at hl
 rcases hl with hl | hl | hl | hl | hl
 ·exact vT eX.1 (hf _ fun g hg => aay _ hg) l hl
 ·exact vT eX.2.1 (hf _ fun g hg => aae _ (aay _ hg)) l hl
 ·refine vT eX.2.2.1 (fun l hl => ?_) l hl
  obtain ⟨g, hg, rfl⟩ := aat.mp hl
  exact O1 (h.l g hg)
 ·exact vT eX.2.2.2.1 (hf _ fun g hg => aae _ (aae _ hg)) l hl
 ·refine vT eX.2.2.2.2.1 (fun l hl => ?_) l hl
  obtain ⟨g, hg, rfl⟩ := aat.mp hl
  exact O2 (h.p g hg)
theorem Mj {r : Rl} (h : uj r) : (bE r).all (m5 cw) = true := by
 have e1 : cF.all (m5 cw) = true := by decide +kernel
 have e2 : m5 cw 32 = true := by decide +kernel
 have e3 : m5 cw 58 = true := by decide +kernel
 unfold bE
 rw [aaY, e1, abc, e2, aaY, abc, abc, e2, e3, Fv (fun _ => Nh) (ny (di h.t)), sf (f := m5 cw) (by decide +kernel) _ fun l hl => Fv (fun _ => Nh) (h.parts l hl)]
 rfl
theorem Ar {m : Cs} : ∀ (qs : List (List Cs)) (x : Cs), x ∈ glue m qs → x = m ∨ ∃ q ∈ qs, x ∈ q
 | [], _, h => by cases h
 | [q], x, h => .inr ⟨q, aao .., h⟩
 | q :: a :: r, x, h => by
  have h : x ∈ q ++ m :: glue m (a :: r) := h
  rcases aax.mp h with h | h
  ·exact .inr ⟨q, aao .., h⟩
  ·rcases aaF.mp h with h | h
   ·exact .inl h
   ·rcases Ar (a :: r) x h with h | ⟨p, hp, h⟩
    ·exact .inl h
    ·exact .inr ⟨p, aal _ hp, h⟩
theorem uS {p : Cs} (h : aB p = true) : [59] ≠ p := fun e => by
 rw [← e] at h
 exact absurd h (by decide +kernel)
theorem uj.rule {r : Rl} (h : uj r) : GW r.title (gq r) := by
 have hF : ∀ n (fs : List Fc), (∀ g ∈ fs, FG g) → (n = 0 ∨ n = 1 ∨ n = 3) → ∀ x ∈ Ng n fs, m8 x.n x.ps x.p ∧ [59] ∉ x.ps := fun n fs hf hn x hx => by
  unfold Ng at hx
  split at hx
  ·cases hx
  ·rename_i h0
   rw [aak.mp hx]
   refine ⟨.fs hn (Du fs h0 hf), fun h9 => ?_⟩
   have z := pC (bp (fs.map au)) [] [59] h9 59 (aak.mpr rfl)
   rcases z with z | z
   ·refine Fw OZ (Ni fun l hl => ?_) z
    obtain ⟨g, hg, rfl⟩ := aat.mp hl
    exact Kc (hf g hg)
   ·cases z
 have all : ∀ x ∈ gq r, m8 x.n x.ps x.p ∧ [59] ∉ x.ps := fun x hx => by
  unfold gq at hx
  simp only [aax] at hx
  rcases hx with hx | hx | hx | hx | hx
  ·exact hF 0 _ (fun g hg => h.f g (aay _ hg)) (.inl rfl) x hx
  ·exact hF 1 _ (fun g hg => h.f g (aae _ (aay _ hg))) (.inr (.inl rfl)) x hx
  ·unfold Ry at hx
   split at hx
   ·cases hx
   ·rename_i h0
    rw [aak.mp hx]
    refine ⟨.lk h0 (by have := h.few.2.2.1; omega) h.l, fun h9 => ?_⟩
    rcases Ar _ _ h9 with e | ⟨q, hq, e⟩
    ·exact absurd e (by decide)
    ·obtain ⟨k, hk, rfl⟩ := aat.mp hq
     unfold jT at e
     have hk := h.l k hk
     simp only [aaF, adD, or_false] at e
     rcases e with e | e | e
     ·exact uS hk.1 e
     ·cases hs : k.same with
      | true => rw [hs] at e; exact absurd e (by decide)
      | false => rw [hs] at e; exact absurd e (by decide)
     ·exact uS hk.2 e
  ·exact hF 3 _ (fun g hg => h.f g (aae _ (aae _ hg))) (.inr (.inr rfl)) x hx
  ·unfold Rz at hx
   split at hx
   ·cases hx
   ·rename_i h0
    rw [aak.mp hx]
    refine ⟨.pr h0 (by have := h.few.2.2.2.2; omega) h.p, fun h9 => ?_⟩
    rcases Ar _ _ h9 with e | ⟨q, hq, e⟩
    ·exact absurd e (by decide)
    ·obtain ⟨k, hk, rfl⟩ := aat.mp hq
     unfold jU at e
     have hk := h.p k hk
     simp only [aaF, adD, or_false] at e
     rcases e with e | e | e
     ·exact uS hk.1 e
     ·exact absurd e (by decide)
     ·exact uS hk.2 e
 have Y6 : ∃ x ∈ gq r, x.n = 0 ∨ x.n = 1 := by
  have hd := h.hd
  unfold gq
  cases e1 : r.take with
  | cons a t => exact ⟨_, aay _ (aak.mpr rfl), .inl rfl⟩
  | nil =>
   cases e2 : r.keep with
   | cons a t => exact ⟨_, aae _ (aay _ (aak.mpr rfl)), .inr rfl⟩
   | nil => rw [e1, e2] at hd; exact absurd rfl hd
 refine ⟨h.t, fun e => ?_, Mi r, fun x hx => (all x hx).1, Y6, fun x hx => (all x hx).2⟩
 obtain ⟨x, hx, _⟩ := Y6
 rw [e] at hx
 cases hx
theorem Ml {x : Cs} (h : x.all (m5 cw) = true) (ht : toks x ≠ []) : told x = true := by
 have go : ∀ y : Cs, y.all (m5 cw) = true → toks y ≠ [] → ∃ c r, y.dropWhile (· == 32) = c :: r ∧ c ≠ 35 := by
  intro y
  induction y with
  | nil => intro _ h; exact absurd rfl h
  | cons c r ih =>
   intro hy EZ
   rw [abc, aaN] at hy
   by_cases hc : c = 32
   ·subst hc
    rw [dJ] at EZ
    rw [acu, if_pos (by decide)]
    exact ih hy.2 EZ
   ·rw [acu, if_neg (by simpa using hc)]
    refine ⟨c, r, rfl, fun e => ?_⟩
    rw [e, O0] at hy
    exact absurd hy.1 (by decide)
 obtain ⟨c, r, e, hc⟩ := go x h ht
 unfold told
 rw [e]
 simpa using hc
theorem HS (x y z : Str) (hy : y.length ≠ 0) : ∃ ts, aci y ts = x ∧ acJ x y z = aci z ts := by
 unfold acJ
 have h0 : (y.length == 0) = false := by simpa using hy
 rw [h0, adY, Bool.or_false]
 cases he : (ab3 x y 0 x.length (x.length + 1)).isEmpty
 ·rw [if_neg aaz]
  obtain ⟨f, h⟩ := StrLaws.occ_chain x y (x.length + 1)
  refine ⟨_, ?_, abT ..⟩
  rw [StrLaws.partsBetween_eq, StrLaws.join_partsFrom x y _ 0 f h, StrLaws.sub_whole]
 ·rw [if_pos rfl]
  exact ⟨[x], rfl, rfl⟩
theorem vU {a b : Cs} {m : List Cs} (ha : ∀ x r, toks (x ++ (a ++ r)) = toks x ++ (m ++ toks r)) (hb : ∀ x r, toks (x ++ (b ++ r)) = toks x ++ (m ++ toks r)) : ∀ ls, toks (cE a ls) = toks (cE b ls)
 | [] => rfl
 | [x] => rfl
 | x :: y :: r => by
  show toks (x ++ (a ++ cE a (y :: r))) = toks (x ++ (b ++ cE b (y :: r)))
  rw [ha, hb, vU ha hb (y :: r)]
theorem zG {a b : Cs} (h : ∀ c ∈ b, c ∈ a) : ∀ ls c, c ∈ cE b ls → c ∈ cE a ls
 | [], _, h => h
 | [x], _, h => h
 | x :: y :: r, c, hc => by
  have hc : c ∈ x ++ (b ++ cE b (y :: r)) := hc
  show c ∈ x ++ (a ++ cE a (y :: r))
  simp only [aax] at hc ⊢
  rcases hc with hc | hc | hc
  ·exact .inl hc
  ·exact .inr (.inl (h c hc))
  ·exact .inr (.inr (zG h (y :: r) c hc))
theorem Dx {a b : Cs} (h : b.length ≤ a.length) : ∀ ls, (cE b ls).length ≤ (cE a ls).length
 | [] => aar _
 | [x] => aar _
 | x :: y :: r => by
  have ih := Dx h (y :: r)
  show (x ++ (b ++ cE b (y :: r))).length ≤ (x ++ (a ++ cE a (y :: r))).length
  simp only [aac]
  omega
structure IJ (p q : Cs) : Prop where
 t : toks q = toks p
 ok : p.all (m5 cw) = true → q.all (m5 cw) = true
 n : q.length ≤ p.length
theorem IJ.refl (p : Cs) : IJ p p := ⟨rfl, id, aar _⟩
theorem IJ.trans {p q r : Cs} (a : IJ p q) (b : IJ q r) : IJ p r := ⟨b.t.trans a.t, fun h => b.ok (a.ok h), aa8 b.n a.n⟩
theorem G4 {a b : Cs} {m : List Cs} (ha0 : a ≠ []) (hs : ∀ c ∈ b, c ∈ a) (hl : b.length ≤ a.length) (ha : ∀ x r, toks (x ++ (a ++ r)) = toks x ++ (m ++ toks r)) (hb : ∀ x r, toks (x ++ (b ++ r)) = toks x ++ (m ++ toks r)) (p : Cs) : ∃ q, acJ (S p) (S a) (S b) = S q ∧ IJ p q := by
 obtain ⟨ts, h1, h2⟩ := HS (S p) (S a) (S b) (by rw [aD]; intro e; exact ha0 (aaV e))
 have e1 := congrArg (fun s : Str => s.cps.toList) h1
 simp only [bq, pD] at e1
 refine ⟨cE b (ts.map fun s => s.cps.toList), ?_, ?_, fun h => ?_, ?_⟩
 ·rw [h2, ← uf (aci (S b) ts), pD, bq]
 ·rw [← e1]
  exact (vU ha hb _).symm
 ·rw [aaS] at h ⊢
  intro c hc
  have z := zG hs _ c hc
  rw [e1] at z
  exact h c z
 ·rw [← e1]
  exact Dx hl _
theorem Ke {c : Nat} (hc : aZ c = false) (h : c ≠ 32) (p : Cs) : ∃ q, acJ (S p) (S [c, 32]) (S [c]) = S q ∧ IJ p q :=
 G4 (m := [[c]]) (by simp) (fun d hd => by rw [aak.mp hd]; exact aao ..) (by show 1 ≤ 2; decide) (fun x r => by
  show toks (x ++ c :: 32 :: r) = _
  rw [qS hc h, dJ]
  rfl) (fun x r => by
  show toks (x ++ c :: r) = _
  rw [qS hc h]
  rfl) p
theorem O3 (p : Cs) : ∃ q, acJ (S p) (S [32, 61]) (S [61]) = S q ∧ IJ p q :=
 G4 (m := [[61]]) (by simp) (fun d hd => by rw [aak.mp hd]; exact aal _ (aao ..)) (by decide) (fun x r => by
  show toks (x ++ 32 :: 61 :: r) = _
  rw [gZ, pT J3 (by decide)]
  rfl) (fun x r => by
  show toks (x ++ 61 :: r) = _
  rw [qS J3 (by decide)]
  rfl) p
end Bk
namespace L2
open PySem PySem.Spec PyProof.Rows
section
variable {X : Cx} {k : Nat} {m : Str} {pos apos : Pos} {o : Expr} {ta : TE}
def O4 (P : aaL) (w : aa9) (K : aaa) (mg : Str → Option aad) (base : Heap) (m : Str) (k : Nat) (ta : TE) (t : TA) : TE := fun σ H Q => ta σ H fun x H1 => ∃ a C dx fs ps sp, x = .ref a ∧ H1 a = some (.ins C dx fs) ∧ fs.lookup m = none ∧
 Met P w K mg base C m k ps sp ∧ t σ H1 fun vs H2 => sp (x :: vs) H2 Q E0
theorem HU {P : aaL} {w : aa9} {K : aaa} {mg : Str → Option aad} {base : Heap} {pl : Sem Bool} (hP : X.prog = P) (hw : X.w = w) (hK : X.K = K) (hm : X.mg = mg) (hb : X.base = base) (he : PE X o ta) (hr : dD k X.A)
  (ht : eval (.Call (.Attribute o m apos) [] [] pos) X.env = (do
   let ov ← eval o X.env
   standAt apos.atName
   let (f, first) ← holding [ov] (getMethod ov m pl)
   callWith pos f first (backTo pos (starEach [] X.env)) (backToKw pos (keywordEach [] X.env))) := by rfl) :
  PE X (.Call (.Attribute o m apos) [] [] pos) (O4 P w K mg base m k ta Hv) := by
 subst hP hw hK hm hb
 exact y2 he hr ht
end
end L2
namespace Bk
open PySem L2 cM
def As : Sp := fun vs H Q _ => ∃ (w m : Cs), vs = [tx w, tx m] ∧ w.length ≤ 12 ∧ m.length ≤ 20000 ∧ Q (tx (if m = [] then [] else w ++ 32 :: m)) H
def fK (b : Bool) : Cs := if b = true then ig else dM
def ky (b : Bool) : Sp := fun vs H Q _ => ∃ p, vs = [.ref p] ∧ Q (tx (fK b)) H
def Au (K : aaa) (c : Cl) : Sp := fun vs H Q _ => ∃ (v : V) (H0 : Hp) (r : Rl), vs = [v] ∧ ie K c H0 H r v ∧ uj r ∧ ∀ H', ah H H' → Q (tx (bE r)) H'
def vV (K : aaa) (c : Cl) : Sp := fun vs H Q _ => ∃ (v : V) (H0 : Hp) (ks : List Kd) (rs : List Rl), vs = [v] ∧ Na K c H0 H ks rs v ∧ (∀ k ∈ ks, k.n.length ≤ 12 ∧ k.c ≤ 4) ∧ ks.length ≤ 100 ∧ (∀ r ∈ rs, uj r) ∧ rs.length ≤ 100 ∧ ∀ H', ah H H' → Q (tx (bP (ks.map az ++ rs.map bE))) H'
theorem Mm : ∀ (ls : List Cs), (∀ l ∈ ls, l ≠ []) → (bp ls = [] ↔ ls = [])
 | [], _ => ⟨fun _ => rfl, fun _ => rfl⟩
 | [a], h => ⟨fun e => absurd e (h a (aao ..)), fun e => by cases e⟩
 | a :: b :: r, h => ⟨fun e => by
   have e : a ++ 44 :: 32 :: bp (b :: r) = [] := e
   exact absurd (List.append_eq_nil_iff.mp e).1 (h a (aao ..)), fun e => by cases e⟩
theorem nz {w : Cs} {m : List Cs} (h : ∀ l ∈ m, l ≠ []) : [if bp m = [] then [] else w ++ 32 :: bp m].filter (fun x => !decide (x = [])) = aT w m := by
 unfold aT
 by_cases e : m = []
 ·subst e; rfl
 ·rw [if_neg e, if_neg fun z => e ((Mm m h).mp z)]
  rw [List.filter_cons, if_pos (by simp)]
  rfl
theorem Mn {g : Fc} (h : FG g) : au g ≠ [] := by
 have z := (jW (di h.k)).2
 unfold au
 split
 ·exact z
 ·simp
theorem Mo (k : Lk) : bt k ≠ [] := by unfold bt; simp
theorem Mp (p : Cs × Cs) : bD p ≠ [] := by unfold bD; simp
def dO (r : Rl) : List (Cs × Cs) := [(bz, bp (r.take.map au)), (bH, bp (r.keep.map au)), (bB, bp (r.aO.map bt)), (cU, bp (r.put.map au)), (bR, bp (r.tell.map bD))]
def pL (x : Cs × Cs) : Cs := if x.2 = [] then [] else x.1 ++ 32 :: x.2
theorem uj.rows {r : Rl} (h : uj r) : ((dO r).map pL).filter (fun x => !decide (x = [])) = cq r := by
 have hf : ∀ fs : List Fc, (∀ g ∈ fs, g ∈ r.take ++ (r.keep ++ r.put)) → ∀ l ∈ fs.map au, l ≠ [] := fun fs hs l hl => by
  obtain ⟨g, hg, rfl⟩ := aat.mp hl
  exact Mn (h.f g (hs g hg))
 have e : ((dO r).map pL) = [if bp (r.take.map au) = [] then [] else bz ++ 32 :: bp (r.take.map au)] ++ ([if bp (r.keep.map au) = [] then [] else bH ++ 32 :: bp (r.keep.map au)] ++ ([if bp (r.aO.map bt) = [] then [] else bB ++ 32 :: bp (r.aO.map bt)] ++ ([if bp (r.put.map au) = [] then [] else cU ++ 32 :: bp (r.put.map au)] ++ [if bp (r.tell.map bD) = [] then [] else bR ++ 32 :: bp (r.tell.map bD)]))) := rfl
 rw [e, abK, abK, abK, abK, nz (hf _ fun g hg => aay _ hg), nz (hf _ fun g hg => aae _ (aay _ hg)), nz (m := r.aO.map bt) (fun l hl => by obtain ⟨k, _, rfl⟩ := aat.mp hl; exact Mo k), nz (hf _ fun g hg => aae _ (aae _ hg)), nz (m := r.tell.map bD) (fun l hl => by obtain ⟨k, _, rfl⟩ := aat.mp hl; exact Mp k)]
 rfl
theorem FG.fn {g : Fc} (h : FG g) : FN g := ⟨di h.k, h.as, h.n⟩
theorem cQ {p : Cs} (h : aB p = true) : p.length ≤ 12 := by
 unfold aB at h
 simp only [aaN, decide_eq_true_eq] at h
 omega
theorem uT {k : Lk} (h : aB k.l = true ∧ aB k.r = true) : (bt k).length ≤ 32 := by
 have h1 := cQ h.1
 have h2 := cQ h.2
 have h3 : (if k.same = true then ig else dM).length ≤ 6 := by cases k.same <;> decide
 unfold bt
 simp only [aac, aag]
 omega
theorem uU {k : Cs × Cs} (h : aB k.1 = true ∧ aB k.2 = true) : (bD k).length ≤ 32 := by
 have h1 := cQ h.1
 have h2 := cQ h.2
 unfold bD
 simp only [aac, aag]
 omega
theorem uV {g : Fc} (h : FG g) : (au g).length ≤ 100 := by
 have := sd h.fn
 omega
theorem Av {ls : List Cs} {B : Nat} (h : ∀ l ∈ ls, l.length ≤ B) : (bp ls).length ≤ ls.length * (B + 2) := by
 rw [vS]
 induction ls with
 | nil => simp [cE]
 | cons a r ih =>
  have ha := h a (aao ..)
  have ih := ih fun l hl => h l (aal _ hl)
  cases r with
  | nil => show a.length ≤ 1 * (B + 2); omega
  | cons b t =>
   show (a ++ ([44, 32] ++ cE [44, 32] (b :: t))).length ≤ ((b :: t).length + 1) * (B + 2)
   rw [aac, aac, adA]
   simp only [aag, aa6] at ih ⊢
   omega
theorem uj.Fx {r : Rl} (h : uj r) : ∀ x ∈ dO r, x.1.length ≤ 12 ∧ x.2.length ≤ 2100 := by
 have hf : ∀ fs : List Fc, (∀ g ∈ fs, g ∈ r.take ++ (r.keep ++ r.put)) → fs.length ≤ 20 → (bp (fs.map au)).length ≤ 2100 := fun fs hs hl => by
  have z := Av (ls := fs.map au) (B := 100) fun l hl => by
   obtain ⟨g, hg, rfl⟩ := aat.mp hl
   exact uV (h.f g (hs g hg))
  rw [Lm9] at z
  omega
 have h1 := hf _ (fun g hg => aay _ hg) h.few.1
 have h2 := hf _ (fun g hg => aae _ (aay _ hg)) h.few.2.1
 have h4 := hf _ (fun g hg => aae _ (aae _ hg)) h.few.2.2.2.1
 have h3 := Av (ls := r.aO.map bt) (B := 32) fun l hl => by
  obtain ⟨g, hg, rfl⟩ := aat.mp hl
  exact uT (h.l g hg)
 have h5 := Av (ls := r.tell.map bD) (B := 32) fun l hl => by
  obtain ⟨g, hg, rfl⟩ := aat.mp hl
  exact uU (h.p g hg)
 rw [Lm9] at h3 h5
 have f3 := h.few.2.2.1
 have f5 := h.few.2.2.2.2
 intro x hx
 unfold dO at hx
 simp only [aaF, adD, or_false] at hx
 rcases hx with rfl | rfl | rfl | rfl | rfl
 ·exact ⟨(by show bz.length ≤ 12; decide), h1⟩
 ·exact ⟨(by show bH.length ≤ 12; decide), h2⟩
 ·refine ⟨(by show bB.length ≤ 12; decide), ?_⟩
  show (bp (r.aO.map bt)).length ≤ 2100
  omega
 ·exact ⟨(by show cU.length ≤ 12; decide), h4⟩
 ·refine ⟨(by show bR.length ≤ 12; decide), ?_⟩
  show (bp (r.tell.map bD)).length ≤ 2100
  omega
theorem jY {B : Nat} : ∀ (ls : List Cs), (∀ l ∈ ls, l.length ≤ B) → (cE [59, 32] ls).length ≤ ls.length * (B + 2)
 | [], _ => by simp [cE]
 | [a], h => by
  have := h a (aao ..)
  show a.length ≤ 1 * (B + 2)
  omega
 | a :: b :: r, h => by
  have ih := jY (b :: r) fun l hl => h l (aal _ hl)
  have ha := h a (aao ..)
  show (a ++ ([59, 32] ++ cE [59, 32] (b :: r))).length ≤ ((b :: r).length + 1) * (B + 2)
  rw [aac, aac, adA]
  simp only [aag, aa6] at ih ⊢
  omega
theorem nA {w : Cs} {m : List Cs} (hw : w.length ≤ 12) (hm : (bp m).length ≤ 2100) : ∀ l ∈ aT w m, l.length ≤ 2200 := by
 unfold aT
 split
 ·intro l hl; cases hl
 ·intro l hl
  rw [aak.mp hl, aac, aag]
  omega
theorem aS (w : Cs) (m : List Cs) : (aT w m).length ≤ 1 := by
 unfold aT
 split <;> simp
theorem uj.G5 {r : Rl} (h : uj r) : ∀ l ∈ cq r, l.length ≤ 2200 := by
 have hr := h.Fx
 unfold dO at hr
 have h1 := hr (bz, bp (r.take.map au)) (by simp)
 have h2 := hr (bH, bp (r.keep.map au)) (by simp)
 have h3 := hr (bB, bp (r.aO.map bt)) (by simp)
 have h4 := hr (cU, bp (r.put.map au)) (by simp)
 have h5 := hr (bR, bp (r.tell.map bD)) (by simp)
 intro l hl
 unfold cq at hl
 simp only [aax] at hl
 rcases hl with hl | hl | hl | hl | hl
 ·exact nA h1.1 h1.2 l hl
 ·exact nA h2.1 h2.2 l hl
 ·exact nA h3.1 h3.2 l hl
 ·exact nA h4.1 h4.2 l hl
 ·exact nA h5.1 h5.2 l hl
theorem uj.len {r : Rl} (h : uj r) : (bE r).length ≤ 11100 := by
 have hp := h.G5
 have hn : (cq r).length ≤ 5 := by
  have p1 := aS bz (r.take.map au)
  have p2 := aS bH (r.keep.map au)
  have p3 := aS bB (r.aO.map bt)
  have p4 := aS cU (r.put.map au)
  have p5 := aS bR (r.tell.map bD)
  unfold cq
  simp only [aac]
  omega
 have z := jY _ hp
 have ht := cQ (di h.t)
 have e : cF.length = 4 := rfl
 unfold bE
 rw [aac, e]
 simp only [aac, aag]
 have : (cq r).length * (2200 + 2) ≤ 5 * 2202 := ack _ hn
 omega
end Bk
namespace Bk
open PySem L2 cM
structure KG (ks : List Kd) : Prop where
 len : ks.length = 4
 nd : (ks.map (·.n)).Nodup
 ok : ∀ k ∈ ks, a8 k.n = true ∧ k.c ≤ 4
 yes : ∃ k ∈ ks, k.l = true
 no : ∃ k ∈ ks, k.l = false
def vW (K : aaa) : Sp := fun vs H Q _ => ∃ (c : Int) (l : aaC) (ns : List Int), vs = [.int c, .ref l] ∧ aH K H l (ns.map V.int) ∧ 1 ≤ ns.length ∧ ns.length ≤ 100 ∧ (∀ n ∈ ns, 0 ≤ n ∧ n ≤ 4) ∧
 ∀ (p : aaC) (ks : List Kd) (H' : Hp), ah H H' → H p = none → xD K H' p ks → KG ks → Q (.ref p) H'
def Kf (ks : List Kd) (ns : List Cs) (f : Fc) : Prop := (∃ k ∈ ks, f.k = k.n ∧ f.as.length = k.c) ∧ ∀ a ∈ f.as, a ∈ ns
def Aw (K : aaa) : Sp := fun vs H Q _ => ∃ (lk ln : aaC) (c : Int) (ks : List Kd) (ns : List Cs), vs = [.ref lk, .ref ln, .int c] ∧ xD K H lk ks ∧ 1 ≤ ks.length ∧ ks.length ≤ 100 ∧ (∀ k ∈ ks, k.c ≤ 4) ∧ H ln = some (.lst (ns.map tx)) ∧ 1 ≤ ns.length ∧ ns.length ≤ 100 ∧
 ∀ (v : V) (f : Fc) (H' : Hp), ah H H' → Fact K H' f v → Kf ks ns f → Q v H'
def vX (K : aaa) : Sp := fun vs H Q _ => ∃ (c : Int) (l : aaC) (ns : List Int) (m : Nat), vs = [.int c, .ref l] ∧ aH K H l (ns.map V.int) ∧ 1 ≤ ns.length ∧ ns.length ≤ 100 ∧ 1 ≤ m ∧ m ≤ 4 ∧ (∀ n ∈ ns, 0 ≤ n ∧ n ≤ m) ∧
 ∀ (p : aaC) (a b c d e : Nat) (H' : Hp), ah H H' → H p = none → H' p = some (.lst [.int a, .int b, .int c, .int d, .int e]) → a ≤ m ∧ b ≤ m ∧ c ≤ m ∧ d ≤ m ∧ e ≤ m → 1 ≤ a + b → Q (.ref p) H'
def vY (K : aaa) : Sp := fun vs H Q _ => ∃ (lk ln lc : aaC) (ks : List Kd) (ns : List Cs) (cs : List Int) (first many : Nat), vs = [.ref lk, .ref ln, .ref lc, .int first, .int many] ∧ xD K H lk ks ∧ 1 ≤ ks.length ∧ ks.length ≤ 100 ∧ (∀ k ∈ ks, k.c ≤ 4) ∧ H ln = some (.lst (ns.map tx)) ∧ 1 ≤ ns.length ∧ ns.length ≤ 100 ∧
 aH K H lc (cs.map V.int) ∧ 1 ≤ cs.length ∧ cs.length ≤ 100 ∧ first ≤ 20 ∧ many ≤ 20 ∧
 ∀ (p : aaC) (fs : List Fc) (H' : Hp), ah H H' → H p = none → Dq K H' p fs → fs.length = many → (∀ f ∈ fs, Kf ks ns f) → Q (.ref p) H'
def uW (K : aaa) : Sp := fun vs H Q _ => ∃ (lf : aaC) (fs : List Fc), vs = [.ref lf] ∧ Dq K H lf fs ∧ fs.length ≤ 100 ∧ (∀ f ∈ fs, f.as.length ≤ 4 ∧ ∀ a ∈ f.as, aB a = true) ∧
 ∀ (p : aaC) (H' : Hp), ah H H' → H p = none → H' p = some (.lst ((opens fs).map tx)) → Q (.ref p) H'
def Fy (K : aaa) : Sp := fun vs H Q _ => ∃ (ln lc : aaC) (ns : List Cs) (cs : List Int) (first k : Nat), vs = [.ref ln, .ref lc, .int first, .int k] ∧ H ln = some (.lst (ns.map tx)) ∧ 1 ≤ ns.length ∧ ns.length ≤ 100 ∧ aH K H lc (cs.map V.int) ∧ 1 ≤ cs.length ∧ cs.length ≤ 100 ∧ first ≤ 20 ∧ k ≤ 20 ∧
 ∀ (t : aaC) (a b : Cs) (n : Nat) (H' : Hp), ah H H' → a ∈ ns → b ∈ ns → n < 2 → cK K H' t [tx a, tx b, .int n] → Q (.ref t) H'
end Bk
namespace Bk
open PySem L2 cM
def qU (K : aaa) (H : Hp) (k : Lk) (v : V) : Prop := ∃ t, v = .ref t ∧ cK K H t [tx k.l, tx (fK k.same), tx k.r]
theorem qU.sm {K : aaa} {H H' : Hp} (s : ah H H') {k : Lk} {v : V} (h : qU K H k v) : qU K H' k v := by
 obtain ⟨t, e, h⟩ := h
 exact ⟨t, e, h.same s⟩
def Dy (K : aaa) (H : Hp) (l : aaC) (ks : List Lk) : Prop := ∃ vs, H l = some (.lst vs) ∧ Paired (qU K H) ks vs
def Mq (K : aaa) (H : Hp) (l : aaC) (ps : List (Cs × Cs)) : Prop := ∃ vs, H l = some (.lst vs) ∧ Paired (Pair K H) ps vs
theorem Dy.sm {K : aaa} {H H' : Hp} (s : ah H H') {l : aaC} {ks : List Lk} (h : Dy K H l ks) : Dy K H' l ks := by
 obtain ⟨vs, h1, h2⟩ := h
 exact ⟨vs, s _ _ h1, aR h2 fun _ _ _ => qU.sm s⟩
theorem Mq.sm {K : aaa} {H H' : Hp} (s : ah H H') {l : aaC} {ks : List (Cs × Cs)} (h : Mq K H l ks) : Mq K H' l ks := by
 obtain ⟨vs, h1, h2⟩ := h
 exact ⟨vs, s _ _ h1, aR h2 fun _ _ _ ⟨t, e, z⟩ => ⟨t, e, z.same s⟩⟩
def Qg (k : Kd) : Bool := !k.l
structure O5 (ks : List Kd) (os ws : List Cs) (r : Rl) : Prop where
 take : ∀ f ∈ r.take, Kf (ks.filter Qg) (os ++ ws) f
 keep : ∀ f ∈ r.keep, Kf ks (os ++ ws) f
 put : ∀ f ∈ r.put, Kf (if r.take = [] then ks.filter (·.l) else ks) (opens (r.take ++ r.keep) ++ ws) f
 aO : ∀ k ∈ r.aO, k.l ∈ opens (r.take ++ r.keep) ++ ws ∧ k.r ∈ opens (r.take ++ r.keep) ++ ws
 tell : ∀ p ∈ r.tell, p.1 ∈ opens (r.take ++ r.keep) ++ ws ∧ p.2 ∈ opens (r.take ++ r.keep) ++ ws
 hd : 1 ≤ r.take.length + r.keep.length
 few : r.take.length ≤ 4 ∧ r.keep.length ≤ 4 ∧ r.aO.length ≤ 4 ∧ r.put.length ≤ 4 ∧ r.tell.length ≤ 4
def Few (m : Nat) (r : Rl) : Prop := r.take.length ≤ m ∧ r.keep.length ≤ m ∧ r.aO.length ≤ m ∧ r.put.length ≤ m ∧ r.tell.length ≤ m
def Fz (K : aaa) (H : Hp) (t : aaC) (r : Rl) : Prop := ∃ a b l g p, cK K H t [.ref a, .ref b, .ref l, .ref g, .ref p] ∧ Dq K H a r.take ∧ Dq K H b r.keep ∧ Dy K H l r.aO ∧ Dq K H g r.put ∧ Mq K H p r.tell
theorem Fz.sm {K : aaa} {H H' : Hp} (s : ah H H') {t : aaC} {r : Rl} (h : Fz K H t r) : Fz K H' t r := by
 obtain ⟨a, b, l, g, p, h0, h1, h2, h3, h4, h5⟩ := h
 exact ⟨a, b, l, g, p, h0.same s, h1.sm s, h2.sm s, h3.sm s, h4.sm s, h5.sm s⟩
def Ax (K : aaa) : Sp := fun vs H Q _ => ∃ (lk lo lw lc lm : aaC) (ks : List Kd) (os ws : List Cs) (cs ms : List Int) (m : Nat), vs = [.ref lk, .ref lo, .ref lw, .ref lc, .ref lm] ∧ xD K H lk ks ∧ KG ks ∧ H lo = some (.lst (os.map tx)) ∧ H lw = some (.lst (ws.map tx)) ∧ os.length ≤ 10 ∧ 1 ≤ ws.length ∧ ws.length ≤ 10 ∧ (∀ n ∈ os ++ ws, aB n = true) ∧
 H lc = some (.lst (cs.map V.int)) ∧ 2 ≤ cs.length ∧ cs.length ≤ 100 ∧ aH K H lm (ms.map V.int) ∧ 1 ≤ ms.length ∧ ms.length ≤ 100 ∧ 1 ≤ m ∧ m ≤ 4 ∧ (∀ n ∈ ms, 0 ≤ n ∧ n ≤ m) ∧
 ∀ (t : aaC) (r : Rl) (H' : Hp), ah H H' → Fz K H' t r → O5 ks os ws r → Few m r → Q (.ref t) H'
theorem FA {fs : List Fc} (h : ∀ g ∈ fs, g.as.length ≤ 4) (h2 : fs.length ≤ 8) (hk : kn [] (fs.flatMap (·.as)) = opens fs) : (opens fs).length ≤ 32 := by
 have z := Ap (fs.flatMap (·.as)) []
 rw [hk] at z
 have e : (fs.flatMap (·.as)).length ≤ 4 * fs.length := by
  clear z hk h2
  induction fs with
  | nil => simp
  | cons a r ih =>
   have h1 := h a (aao ..)
   have ih := ih fun g hg => h g (aal _ hg)
   rw [abZ, aac, aag]
   omega
 simp only [aa6] at z
 omega
end Bk
namespace Bk
open PySem L2 cM
def vZ (K : aaa) : Sp := fun vs H Q _ => ∃ (t : aaC) (r : Rl), vs = [tx r.title, .ref t] ∧ Fz K H t r ∧ uj r ∧ ∀ H', ah H H' → Q (tx (bE r)) H'
end Bk
namespace Bk
open PySem L2 cM
def v8 : List Cs := [bz, bH, bB, cU, bR, ig, dM, cF, a5, a6]
def kwAt (m k : Nat) : Cs := v8.getD ((m + 3 * k) % 10) []
def zH (m : Nat) : List Cs := (abj 8).map (kwAt m)
theorem Kg : ∀ m, m < 10 → (zH m).Nodup ∧ ∀ z ∈ zH m, a8 z = true := by decide +kernel
theorem Kh (m k : Nat) : kwAt (m % 10) k = kwAt m k := by
 unfold kwAt
 rw [show (m % 10 + 3 * k) % 10 = (m + 3 * k) % 10 by omega]
theorem HV (m : Nat) : zH (m % 10) = zH m := by
 unfold zH
 exact acv fun k _ => Kh m k
def FC : Sp := fun vs H Q _ => ∃ (n : Nat), vs = [.int n] ∧ ∀ (l : aaC) (zs : List Cs) (H' : Hp), ah H H' → H l = none → H' l = some (.lst (zs.map tx)) → zs.length = 8 → zs.Nodup → (∀ z ∈ zs, a8 z = true) → Q (.ref l) H'
structure Spr (p q : Cs) : Prop where
 t : toks q = toks p
 ok : p.all (m5 cw) = true → q.all (m5 cw) = true
 n : q.length ≤ 3 * p.length + 4
def v9 : Sp := fun vs H Q _ => ∃ (p : Cs) (n : Nat), vs = [tx p, .int n] ∧ p.length ≤ 20000 ∧ ∀ (q : Cs) (H' : Hp), ah H H' → Spr p q → Q (tx q) H'
def Ki : Cs := [40, 41, 44, 59, 58, 61, 32]
def RA : Cs := [40, 41, 44, 59, 58, 61]
theorem O6 : ∀ c ∈ Ki, aZ c = false := by decide +kernel
theorem RB : ∀ c ∈ RA, aZ c = false := by decide +kernel
theorem Kj {p t : Cs} {k : Nat} (hk : k < p.length) (h : toks (t ++ p.drop k) = toks p) (n : Nat) (hs : n = 0 ∨ p[k] ∈ Ki ∨ (∀ c ∈ (p.drop (k + 1)).head?, c ∈ RA)) : toks ((t ++ [p[k]]) ++ aaW n 32 ++ p.drop (k + 1)) = toks p := by
 rw [← h, abt hk]
 have e : (t ++ [p[k]]) ++ aaW n 32 ++ p.drop (k + 1) = t ++ p[k] :: (aaW n 32 ++ p.drop (k + 1)) := by simp
 rw [e]
 rcases hs with h0 | h1 | h2
 ·subst h0; rfl
 ·exact Dw t _ n (.inl (O6 _ h1))
 ·refine Dw t _ n (.inr ?_)
  cases hd : p.drop (k + 1) with
  | nil => trivial
  | cons c r =>
   rw [hd] at h2
   exact RB c (h2 c rfl)
end Bk
namespace Bk
open PySem L2 cM
def wa (K : aaa) (c : Cl) : Sp := fun vs H Q _ => ∃ (v : V) (ld : aaC) (H0 : Hp) (ks : List Lk), vs = [v, .ref ld] ∧ Looks c H0 H v ks ∧ Dy K H ld ks ∧ ks.length ≤ 20 ∧ (∀ k ∈ ks, aB k.l = true ∧ aB k.r = true) ∧ ∀ H', ah H H' → Q (.bl true) H'
def sg (K : aaa) (c : Cl) : Sp := fun vs H Q _ => ∃ (v : V) (t : aaC) (H0 : Hp) (r : Rl), vs = [v, tx r.title, .ref t] ∧ ie K c H0 H r v ∧ Fz K H t r ∧ uj r ∧ r.take.length + r.keep.length ≤ 8 ∧ ∀ H', ah H H' → Q (.bl true) H'
end Bk
namespace Bk
open PySem L2 cM
theorem nB {K : aaa} {H : Hp} {a b : aaC} {fs : List Fc} {us vs : List V} (h1 : aH K H a us) (h2 : aH K H b vs) (p1 : Paired (Fact K H) fs us) (p2 : Paired (Fact K H) fs vs) : Alike K H (.ref a) (.ref b) := by
 have z1 := aam p1
 have z2 := aam p2
 refine ⟨a, b, us, vs, fs.map fun g => (fT g).toD, rfl, rfl, h1, h2, by simpa using z1, by simpa using z2, fun d hd => ?_, fun i h0 h1 => ?_, fun i h0 h1 => ?_⟩
 ·obtain ⟨g, _, rfl⟩ := aat.mp hd
  exact aa8 (Rw g).2 (by decide)
 ·rw [aas]
  exact Fact.Y4 (paired_at p1 i (by simpa using h0) h1)
 ·rw [aas]
  exact Fact.Y4 (paired_at p2 i (by simpa using h0) h1)
theorem Dz {K : aaa} {H : Hp} {k : Cs × Cs} {v : V} (h : Pair K H k v) : tM K H (.tup [.str (S k.1), .str (S k.2)]) v := by
 obtain ⟨t, e, ht⟩ := h
 rw [e]
 refine .tup ht rfl fun j j1 j2 => ?_
 match j, j1, j2 with
 | 0, _, _ => exact .str _
 | 1, _, _ => exact .str _
theorem DA {K : aaa} {H : Hp} {a b : aaC} {ps : List (Cs × Cs)} {us vs : List V} (h1 : aH K H a us) (h2 : aH K H b vs) (p1 : Paired (Pair K H) ps us) (p2 : Paired (Pair K H) ps vs) : Alike K H (.ref a) (.ref b) := by
 have z1 := aam p1
 have z2 := aam p2
 refine ⟨a, b, us, vs, ps.map fun k => .tup [.str (S k.1), .str (S k.2)], rfl, rfl, h1, h2, by simpa using z1, by simpa using z2, fun d hd => ?_, fun i h0 h1 => ?_, fun i h0 h1 => ?_⟩
 ·obtain ⟨g, _, rfl⟩ := aat.mp hd
  show 1 ≤ 20
  decide
 ·rw [aas]
  exact Dz (paired_at p1 i (by simpa using h0) h1)
 ·rw [aas]
  exact Dz (paired_at p2 i (by simpa using h0) h1)
end Bk
namespace Bk
open PySem L2 cM
def tV (r : Rl) (t : Cs) : Rl := { r with title := t }
theorem Kk {fs : List Fc} {a : Cs} (hk : kn [] (fs.flatMap (·.as)) = opens fs) (h : a ∈ opens fs) : (∃ f ∈ fs, a ∈ f.as) ∧ great a = true := by
 rw [← hk] at h
 rcases (J2 _ a).mp h with h | ⟨h, g⟩
 ·cases h
 ·obtain ⟨f, hf, h⟩ := List.mem_flatMap.mp h
  exact ⟨⟨f, hf, h⟩, g⟩
section
variable {ks : List Kd} {os ws : List Cs} {r : Rl} {t : Cs}
theorem O5.names (hG : KG ks) (hN : ∀ n ∈ os ++ ws, aB n = true) (d : O5 ks os ws r) (hk : kn [] ((r.take ++ r.keep).flatMap (·.as)) = opens (r.take ++ r.keep)) : ∀ n ∈ opens (r.take ++ r.keep) ++ ws, aB n = true := fun n hn => by
 rcases aax.mp hn with h | h
 ·obtain ⟨⟨f, hf, ha⟩, _⟩ := Kk hk h
  rcases aax.mp hf with z | z
  ·exact hN n ((d.take f z).2 n ha)
  ·exact hN n ((d.keep f z).2 n ha)
 ·exact hN n (aae _ h)
theorem Kf.fg {ks CN : List Kd} {ns : List Cs} {f : Fc} (hG : KG ks) (hs : ∀ k ∈ CN, k ∈ ks) (hN : ∀ n ∈ ns, aB n = true) (h : Kf CN ns f) : FG f := by
 obtain ⟨⟨k, hk, e1, e2⟩, ha⟩ := h
 have z := hG.ok k (hs k hk)
 exact ⟨by rw [e1]; exact z.1, fun a h => hN a (ha a h), by rw [e2]; exact z.2⟩
theorem wb {p : Prop} [Decidable p] : ∀ k ∈ (if p then ks.filter (·.l) else ks), k ∈ ks := fun k hk => by
 split at hk
 ·exact (abh.mp hk).1
 ·exact hk
theorem O5.rlT (hG : KG ks) (hN : ∀ n ∈ os ++ ws, aB n = true) (ht : a8 t = true) (d : O5 ks os ws r) (hk : kn [] ((r.take ++ r.keep).flatMap (·.as)) = opens (r.take ++ r.keep)) : uj (tV r t) := by
 have Kl := d.names hG hN hk
 refine ⟨ht, fun g hg => ?_, fun k hk => ⟨Kl _ (d.aO k hk).1, Kl _ (d.aO k hk).2⟩, fun k hk => ⟨Kl _ (d.tell k hk).1, Kl _ (d.tell k hk).2⟩, fun e => ?_, ?_⟩
 ·rcases aax.mp hg with z | z
  ·exact (d.take g z).fg hG (fun k hk => (abh.mp hk).1) hN
  ·rcases aax.mp z with z | z
   ·exact (d.keep g z).fg hG (fun k hk => hk) hN
   ·exact (d.put g z).fg hG wb Kl
 ·have := d.hd
  have z := congrArg ac0 e
  rw [aac] at z
  have z : r.take.length + r.keep.length = 0 := z
  omega
 ·have := d.few
  show r.take.length ≤ 20 ∧ r.keep.length ≤ 20 ∧ r.aO.length ≤ 20 ∧ r.put.length ≤ 20 ∧ r.tell.length ≤ 20
  omega
theorem Mr (hG : KG ks) {k : Kd} (hk : k ∈ ks) (hl : k.l = false) : k.n ∉ (ks.filter (·.l)).map (·.n) := fun h => by
 obtain ⟨k2, Y7, e⟩ := aat.mp h
 obtain ⟨h2, l2⟩ := abh.mp Y7
 have : k2 = k := by
  have nd := hG.nd
  clear h hG Y7
  induction ks with
  | nil => cases hk
  | cons a r ih =>
   rw [aa3, acd] at nd
   rcases aaF.mp hk with z | z <;> rcases aaF.mp h2 with y | y
   ·rw [y, z]
   ·subst z
    exact absurd (by rw [← e]; exact ab4 y) nd.1
   ·subst y
    exact absurd (by rw [e]; exact ab4 z) nd.1
   ·exact ih z y nd.2
 rw [this, hl] at l2
 cases l2
theorem O5.good (hG : KG ks) (hN : ∀ n ∈ os ++ ws, aB n = true) (hW : ∀ n ∈ ws, great n = false) (d : O5 ks os ws r) (hk : kn [] ((r.take ++ r.keep).flatMap (·.as)) = opens (r.take ++ r.keep)) : Ak ks (tV r t) := by
 have Kl := d.names hG hN hk
 have Y8 : ∀ a ∈ dN (tV r t), a ∈ opens (r.take ++ r.keep) ++ ws := fun a ha => by
  unfold dN at ha
  simp only [aax, List.mem_flatMap] at ha
  rcases ha with ⟨k, hk, h⟩ | ⟨f, hf, h⟩ | ⟨p, hp, h⟩
  ·rcases aaF.mp h with e | e
   ·rw [e]; exact (d.aO k hk).1
   ·rw [aak.mp e]; exact (d.aO k hk).2
  ·exact (d.put f hf).2 a h
  ·rcases aaF.mp h with e | e
   ·rw [e]; exact (d.tell p hp).1
   ·rw [aak.mp e]; exact (d.tell p hp).2
 refine ⟨fun f hf => ?_, fun f hf => ?_, fun e f hf => ?_, fun a ha g => ?_, fun a ha => Kl a (Y8 a ha), ?_, ?_⟩
 ·have fit : ∀ {CN} {ns : List Cs}, (∀ k ∈ CN, k ∈ ks) → Kf CN ns f → vH ks f := fun hs h => by
   obtain ⟨⟨k, hk, e1, e2⟩, _⟩ := h
   exact ⟨k, hs k hk, e1.symm, e2⟩
  rcases aax.mp hf with z | z
  ·rcases aax.mp z with z | z
   ·exact fit (fun k hk => (abh.mp hk).1) (d.take f z)
   ·exact fit (fun k hk => hk) (d.keep f z)
  ·exact fit wb (d.put f z)
 ·obtain ⟨⟨k, hk, e1, _⟩, _⟩ := d.take f hf
  obtain ⟨hk, hp⟩ := abh.mp hk
  rw [e1]
  refine Mr hG hk ?_
  unfold Qg at hp
  simpa using hp
 ·have e : r.take = [] := e
  obtain ⟨⟨k, hk, e1, _⟩, _⟩ := d.put f hf
  rw [if_pos e] at hk
  rw [e1]
  exact ab4 hk
 ·rcases aax.mp (Y8 a ha) with z | z
  ·exact z
  ·rw [hW a z] at g
   cases g
 ·have few := d.few
  have f4 : (r.put.flatMap (·.as)).length ≤ 4 * r.put.length := by
   have hp : ∀ f ∈ r.put, f.as.length ≤ 4 := fun f hf => ((d.put f hf).fg hG wb Kl).n
   generalize r.put = l at hp
   induction l with
   | nil => simp
   | cons a s ih =>
    have h1 := hp a (aao ..)
    have ih := ih fun g hg => hp g (aal _ hg)
    rw [abZ, aac, aag]
    omega
  have two : ∀ {α : Type} (l : List α) (x y : α → Cs), (l.flatMap fun k => [x k, y k]).length = 2 * l.length := fun l x y => by
   induction l with
   | nil => rfl
   | cons a s ih => rw [abZ, aac, ih]; simp; omega
  unfold dN
  rw [aac, aac]
  have e1 := two r.aO (·.l) (·.r)
  have e2 := two r.tell (·.1) (·.2)
  show (r.aO.flatMap fun k => [k.l, k.r]).length + ((r.put.flatMap (·.as)).length + (r.tell.flatMap fun p => [p.1, p.2]).length) ≤ 20000
  omega
 ·have few := d.few
  show (r.take ++ r.keep ++ r.put).length ≤ 20000
  rw [aac, aac]
  omega
end
end Bk
namespace Bk
open PySem L2 cM
def DB (ks : List Kd) : List (Cs × It) := ks.map fun k => (az k, .kind k)
theorem O7 (ks : List Kd) : m9 ((DB ks).map (·.2)) = ks ∧ nh ((DB ks).map (·.2)) = [] := by
 unfold DB
 induction ks with
 | nil => exact ⟨rfl, rfl⟩
 | cons a r ih =>
  refine ⟨?_, ih.2⟩
  show a :: m9 _ = a :: r
  rw [ih.1]
theorem uj.V3 {r : Rl} (h : uj r) : Mb r := by
 have few := h.few
 have hf : ∀ f ∈ r.take ++ r.keep, FG f := fun f hf => h.f f (by
  rcases aax.mp hf with z | z
  ·exact aay _ z
  ·exact aae _ (aay _ z))
 refine ⟨fun f hf' => ?_, by rw [aac]; omega, ?_⟩
 ·have z := hf f hf'
  exact ⟨z.k, by have := z.n; omega, z.as⟩
 ·have hl : (r.take ++ r.keep).length ≤ 40 := by rw [aac]; omega
  generalize r.take ++ r.keep = l at hf hl
  have z : (l.flatMap (·.as)).length ≤ 4 * l.length := by
   clear hl
   induction l with
   | nil => simp
   | cons a s ih =>
    have h1 := (hf a (aao ..)).n
    have ih := ih fun g hg => hf g (aal _ hg)
    rw [abZ, aac, aag]
    omega
  omega
theorem Ms {r : Rl} (h : uj r) : toks (bE r) ≠ [] := by
 rw [zF h]
 unfold gI
 simp
def kz (first : Bool) (ks : List Kd) (line : Cs) : List Cs := if first = true then line :: ks.map az else ks.map az ++ [line]
def pM (first : Bool) (ks : List Kd) (line : Cs) (r : Rl) : List (Cs × It) := if first = true then (line, .rule r.title (gq r)) :: DB ks else DB ks ++ [(line, .rule r.title (gq r))]
theorem DC (first : Bool) (ks : List Kd) (line : Cs) (r : Rl) : m9 ((pM first ks line r).map (·.2)) = ks ∧ nh ((pM first ks line r).map (·.2)) = [r] := by
 obtain ⟨e1, e2⟩ := O7 ks
 unfold pM
 cases first with
 | true =>
  refine ⟨e1, ?_⟩
  show rY r.title (gq r) :: nh ((DB ks).map (·.2)) = [r]
  rw [e2, Ft]
 | false =>
  rw [if_neg (by decide), aan, ni, nj, e1, e2]
  refine ⟨?_, ?_⟩
  ·show ks ++ [] = ks
   rw [aaU]
  ·show [] ++ [rY r.title (gq r)] = [r]
   rw [Ft]
   rfl
theorem sh {k : Kd} (h : a8 k.n = true ∧ k.c ≤ 4) : (az k).all (m5 cw) = true ∧ toks (az k) = zi k ∧ told (az k) = true ∧ 10 ∉ az k := by
 rw [Fo]
 exact ⟨zy (by decide +kernel) (fun c h => JU h) h.1 h.2, Fp h.1 h.2 (by decide) (by decide), Fq, JV h.1 h.2⟩
theorem O8 (first : Bool) {ks : List Kd} {line : Cs} {r : Rl} (hG : KG ks) (hT : uj r) (hg : Ak ks r) (hl : toks line = toks (bE r)) (hok : line.all (m5 cw) = true) : Nf (kz first ks line) (pM first ks line r) := by
 have ht : told line = true := Ml hok (by rw [hl]; exact Ms hT)
 obtain ⟨e1, e2⟩ := DC first ks line r
 have hmem : ∀ x ∈ pM first ks line r, x = (line, .rule r.title (gq r)) ∨ ∃ k ∈ ks, x = (az k, .kind k) := fun x hx => by
  unfold pM DB at hx
  cases first with
  | true =>
   rcases aaF.mp hx with z | z
   ·exact .inl z
   ·obtain ⟨k, hk, rfl⟩ := aat.mp z
    exact .inr ⟨k, hk, rfl⟩
  | false =>
   rw [if_neg (by decide)] at hx
   rcases aax.mp hx with z | z
   ·obtain ⟨k, hk, rfl⟩ := aat.mp z
    exact .inr ⟨k, hk, rfl⟩
   ·exact .inl (aak.mp z)
 have O9 : (pM first ks line r).map (·.1) = kz first ks line := by
  unfold pM kz DB
  cases first with
  | true => simp [acK]
  | false => simp [acK]
 refine ⟨?_, fun x hx => ?_, by rw [e1]; exact hG.nd, by rw [e2]; simp, fun r' hr => ?_, ?_⟩
 ·rw [O9]
  refine List.filter_eq_self.mpr fun l hl' => ?_
  rw [← O9] at hl'
  obtain ⟨x, hx, rfl⟩ := aat.mp hl'
  rcases hmem x hx with rfl | ⟨k, hk, rfl⟩
  ·exact ht
  ·exact (sh (hG.ok k hk)).2.2.1
 ·rcases hmem x hx with rfl | ⟨k, hk, rfl⟩
  ·refine ⟨hok, ?_, hT.rule, ?_⟩
   ·show toks line = gI r.title (gq r)
    rw [hl, zF hT]
   ·rw [Ft]
    exact hT.V3
  ·obtain ⟨z1, z2, _⟩ := sh (hG.ok k hk)
   exact ⟨z1, z2, hG.ok k hk⟩
 ·rw [e2] at hr
  rw [aak.mp hr, e1]
  exact hg
 ·have : (pM first ks line r).length = (kz first ks line).length := by rw [← O9, Lm9]
  rw [this]
  unfold kz
  have := hG.len
  cases first <;> simp <;> omega
end Bk
namespace Bk
open PySem L2 cM
def wc : Sp := fun vs H Q _ => ∃ (p : Cs), vs = [tx p] ∧ p.length ≤ 20000 ∧ ∀ (q : Cs) (H' : Hp), ah H H' → IJ p q → Q (tx q) H'
theorem DD {fs : Cs} (h : ∀ c ∈ fs, c ∉ d7.cps.toList) {z : Cs} (hz : z.headD 0 ∈ fs) : great z = false := by
 unfold great
 exact decide_eq_false (h _ hz)
theorem Km {z : Cs} (hz : z.headD 0 ∈ OT.cps.toList) : great z = false := DD (by decide +kernel) hz
theorem DE {z : Cs} (h : a8 z = true) : great z = false := by
 unfold a8 at h
 rw [aaN] at h
 exact DD (fs := dI.cps.toList) (by decide +kernel) (of_decide_eq_true h.2)
end Bk
namespace Bk
open PySem L2 cM
theorem DF {K : aaa} {H : Hp} {a b : aaC} {ks : List Kd} {us vs : List V} (h1 : aH K H a us) (h2 : aH K H b vs) (p1 : Paired (Kind K H) ks us) (p2 : Paired (Kind K H) ks vs) : Alike K H (.ref a) (.ref b) := by
 have z1 := aam p1
 have z2 := aam p2
 have one : ∀ {k : Kd} {v : V}, Kind K H k v → tM K H (.tup [.str (S k.n), .int k.c, .bl k.l]) v := fun h => by
  obtain ⟨t, e, ht⟩ := h
  rw [e]
  refine .tup ht rfl fun j j1 j2 => ?_
  match j, j1, j2 with
  | 0, _, _ => exact .str _
  | 1, _, _ => exact .int _
  | 2, _, _ => exact .bl _
 refine ⟨a, b, us, vs, ks.map fun k => .tup [.str (S k.n), .int k.c, .bl k.l], rfl, rfl, h1, h2, by simpa using z1, by simpa using z2, fun d hd => ?_, fun i h0 h1 => ?_, fun i h0 h1 => ?_⟩
 ·obtain ⟨g, _, rfl⟩ := aat.mp hd
  show 1 ≤ 20
  decide
 ·rw [aas]
  exact one (paired_at p1 i (by simpa using h0) h1)
 ·rw [aas]
  exact one (paired_at p2 i (by simpa using h0) h1)
theorem nC {w : Cs} {m : List Cs} (hw : w.length ≤ 4) (hm : m.length ≤ 4) (hl : ∀ l ∈ m, l.length ≤ 70) : ∀ l ∈ aT w m, l.length ≤ 300 := by
 have z := Av hl
 have z2 : m.length * (70 + 2) ≤ 4 * 72 := ack _ hm
 unfold aT
 split
 ·intro l hl; cases hl
 ·intro l hl
  rw [aak.mp hl, aac, aag]
  omega
theorem uj.V4 {r : Rl} (h : uj r) (f4 : r.take.length ≤ 4 ∧ r.keep.length ≤ 4 ∧ r.aO.length ≤ 4 ∧ r.put.length ≤ 4 ∧ r.tell.length ≤ 4) : (bE r).length ≤ 1600 := by
 have hf : ∀ fs : List Fc, (∀ g ∈ fs, g ∈ r.take ++ (r.keep ++ r.put)) → ∀ l ∈ fs.map au, l.length ≤ 70 := fun fs hs l hl => by
  obtain ⟨g, hg, rfl⟩ := aat.mp hl
  exact sd (h.f g (hs g hg)).fn
 have hp : ∀ l ∈ cq r, l.length ≤ 300 := fun l hl => by
  unfold cq at hl
  simp only [aax] at hl
  rcases hl with hl | hl | hl | hl | hl
  ·exact nC (by decide) (by rw [Lm9]; exact f4.1) (hf _ fun g hg => aay _ hg) l hl
  ·exact nC (by decide) (by rw [Lm9]; exact f4.2.1) (hf _ fun g hg => aae _ (aay _ hg)) l hl
  ·refine nC (by decide) (by rw [Lm9]; exact f4.2.2.1) (fun l hl => ?_) l hl
   obtain ⟨g, hg, rfl⟩ := aat.mp hl
   have := uT (h.l g hg)
   omega
  ·exact nC (by decide) (by rw [Lm9]; exact f4.2.2.2.1) (hf _ fun g hg => aae _ (aae _ hg)) l hl
  ·refine nC (by decide) (by rw [Lm9]; exact f4.2.2.2.2) (fun l hl => ?_) l hl
   obtain ⟨g, hg, rfl⟩ := aat.mp hl
   have := uU (h.p g hg)
   omega
 have hn : (cq r).length ≤ 5 := by
  have p1 := aS bz (r.take.map au)
  have p2 := aS bH (r.keep.map au)
  have p3 := aS bB (r.aO.map bt)
  have p4 := aS cU (r.put.map au)
  have p5 := aS bR (r.tell.map bD)
  unfold cq
  simp only [aac]
  omega
 have z := jY _ hp
 have ht := cQ (di h.t)
 have e : cF.length = 4 := rfl
 unfold bE
 rw [aac, e]
 simp only [aac, aag]
 have : (cq r).length * (300 + 2) ≤ 5 * 302 := ack _ hn
 omega
theorem Kn (first : Bool) {ks : List Kd} {line : Cs} (hG : KG ks) (hl : line.length ≤ 5000) : (bP (kz first ks line)).length ≤ 20000 ∧ kz first ks line ≠ [] := by
 have h4 := hG.len
 have hk : ∀ l ∈ ks.map az, l.length ≤ 22 := fun l hl => by
  obtain ⟨k, hk, rfl⟩ := aat.mp hl
  exact kr (eQ (hG.ok k hk).1).2
 have z := Dm (ks.map az) 22 hk
 have hne : (ks.map az).length = 4 := by rw [Lm9]; exact h4
 generalize Ls : ks.map az = l at z hne
 refine ⟨?_, ?_⟩
 ·unfold kz
  rw [Ls]
  cases first with
  | true =>
   match l, hne with
   | b :: t, _ =>
    show (line ++ 10 :: bP (b :: t)).length ≤ 20000
    rw [aac, aag]
    omega
  | false =>
   rw [if_neg (by decide), zu l line (by intro e; rw [e] at hne; simp at hne), aac, aag]
   omega
 ·unfold kz
  cases first <;> simp
theorem Mt (first : Bool) {ks : List Kd} {line : Cs} (hG : KG ks) (hok : line.all (m5 cw) = true) : ∀ l ∈ kz first ks line, 10 ∉ l := fun l hl => by
 have hk : ∀ l ∈ ks.map az, 10 ∉ l := fun l hl => by
  obtain ⟨k, hk, rfl⟩ := aat.mp hl
  exact (sh (hG.ok k hk)).2.2.2
 unfold kz at hl
 cases first with
 | true =>
  rcases aaF.mp hl with z | z
  ·rw [z]; exact Fw Kb hok
  ·exact hk l z
 | false =>
  rw [if_neg (by decide)] at hl
  rcases aax.mp hl with z | z
  ·exact hk l z
  ·rw [aak.mp z]; exact Fw Kb hok
theorem zI : ∀ {ls : List Cs} {l : Cs}, l ∈ ls → l.length ≤ (bP ls).length
 | [a], l, h => by rw [aak.mp h]; exact aar _
 | a :: b :: r, l, h => by
  show l.length ≤ (a ++ 10 :: bP (b :: r)).length
  rw [aac, aag]
  rcases aaF.mp h with z | z
  ·rw [z]; omega
  ·have := zI z
   omega
def DG (zs : List Cs) (ks : List Kd) (i : Nat) : Kd := ⟨zs.getD i [], (ks.getD i ⟨[], 0, false⟩).c, (ks.getD i ⟨[], 0, false⟩).l⟩
theorem Ay {zs : List Cs} {ks : List Kd} {i : Nat} (h1 : i < zs.length) (h2 : i < ks.length) : DG zs ks i = ⟨zs[i], ks[i].c, ks[i].l⟩ := by
 unfold DG
 rw [Gd9, Ge9 h1, Gd9, Ge9 h2]
 rfl
theorem KG.V5 {zs : List Cs} {ks : List Kd} (hG : KG ks) (h8 : zs.length = 8) (nd : zs.Nodup) (hs : ∀ z ∈ zs, a8 z = true) : KG ((abj 4).map (DG zs ks)) := by
 have h4 := hG.len
 have key : ∀ k ∈ (abj 4).map (DG zs ks), ∃ (i : Nat) (h1 : i < zs.length) (h2 : i < ks.length), k = ⟨zs[i], ks[i].c, ks[i].l⟩ := fun k hk => by
  obtain ⟨i, hi, rfl⟩ := aat.mp hk
  have hi := abU.mp hi
  exact ⟨i, by omega, by omega, Ay (by omega) (by omega)⟩
 have back : ∀ k ∈ ks, ∃ k' ∈ (abj 4).map (DG zs ks), k'.l = k.l := fun k hk => by
  obtain ⟨i, hi, e⟩ := aec hk
  refine ⟨DG zs ks i, ab4 (abU.mpr (by omega)), ?_⟩
  rw [Ay (by omega) hi, e]
 refine ⟨by simp, ?_, fun k hk => ?_, ?_, ?_⟩
 ·have e : ((abj 4).map (DG zs ks)).map (·.n) = zs.take 4 := by
   match zs, h8 with
   | [a, b, c, d, e, f, g, h], _ => rfl
  rw [e]
  exact nd.sublist (List.take_sublist _ _)
 ·obtain ⟨i, h1, h2, rfl⟩ := key k hk
  exact ⟨hs _ (aaq h1), (hG.ok _ (aaq h2)).2⟩
 ·obtain ⟨k, hk, e⟩ := hG.yes
  obtain ⟨k', hk', e'⟩ := back k hk
  exact ⟨k', hk', e'.trans e⟩
 ·obtain ⟨k, hk, e⟩ := hG.no
  obtain ⟨k', hk', e'⟩ := back k hk
  exact ⟨k', hk', e'.trans e⟩
end Bk
namespace L2
open PySem PySem.Spec PyProof.Rows
theorem wpAny_toks {α : Type} {M : Model} {A : aba} {t : Sem α} {Q : α → aaf → Prop} {E : aad → aaf → Prop} {s : aaf} {n : Nat} (hn : n ≤ s.toks) (h : aaZ M A t Q E s) : aaZ M A t (fun a s' => n ≤ s'.toks ∧ Q a s') E s := by
 intro Γ p hΓ
 exact Sem.wp_mono M Γ _ (fun a p' s' hq => hq) (fun e p' s' hq => hq.2) _ _ (Sem.wp_toks M Γ n t _ _ _ _ hn (h Γ p hΓ))
theorem V6 {α : Type} {M : Model} {A : aba} {t : Sem α} {Q : α → aaf → Prop} {E : aad → aaf → Prop} {s : aaf} {n : Nat} (hn : n ≤ s.toks) (h : aaZ M A t (fun a s' => n ≤ s'.toks → Q a s') E s) : aaZ M A t Q E s := thn (wpAny_toks hn h) fun _ _ z => z.2 z.1
def Nj (X : Cx) (e : Expr) (t : TE) : Prop :=
 ∀ (pins : List (aaC × Obj)) (s : aaf) (σ : St) (H : Hp) (Q : VK), 1 ≤ s.toks → Inv X pins σ H s → t σ H Q → aaZ (model X.prog X.w) X.A (eval e X.env) (EP X pins σ Q) X.xe s
def Pa (X : Cx) (st : Stmt) (t : TS) : Prop :=
 ∀ (pins : List (aaC × Obj)) (s : aaf) (σ : St) (H : Hp) (D : Ends), 1 ≤ s.toks → Inv X pins σ H s → t D σ H → aaZ (model X.prog X.w) X.A (exec st X.env) (SP X pins D) X.xe s
def si (X : Cx) (st : List Stmt) (t : TS) : Prop :=
 ∀ (pins : List (aaC × Obj)) (s : aaf) (σ : St) (H : Hp) (D : Ends), 1 ≤ s.toks → Inv X pins σ H s → t D σ H → aaZ (model X.prog X.w) X.A (execs st X.env) (SP X pins D) X.xe s
section
variable {X : Cx} {st : Stmt} {rest : List Stmt} {t u : TS} {pos : Pos}
theorem Az (h : EF X rest t) : si X rest t := fun pins s σ H D _ I q => h pins s σ H D I q
theorem ik (h : PS X st t) : Pa X st t := fun pins s σ H D _ I q => h pins s σ H D I q
theorem cy (h1 : Pa X st t) (h2 : si X rest u) : si X (st :: rest) (LG t u) := by
 intro pins s σ H D hn I h
 refine wpAny_execs_cons (thn (wpAny_toks hn (h1 pins s σ H { D with nx := u D } hn I h)) fun f s1 ⟨rD, q⟩ => ?_)
 cases f with
 | next =>
  obtain ⟨σ', H', I', q⟩ := q
  exact h2 pins s1 σ' H' D rD I' q
 | ret v => exact q
 | brk => exact q
 | cont => exact q
theorem DH (h1 : Pa X st t) : si X [st] t := by
 intro pins s σ H D hn I h
 refine wpAny_execs_cons (thn (h1 pins s σ H D hn I h) fun f s1 q => ?_)
 cases f with
 | next => exact wpAny_execs_nil q
 | ret v => exact q
 | brk => exact q
 | cont => exact q
theorem Pb {c : Expr} {a b : List Stmt} {tc : TT} (hc : PT X c tc) (ha : si X a t) (hb : si X b u) : Pa X (.If c a b pos) (QK tc t u) := by
 intro pins s σ H D hn I h
 refine wpAny_If (thn (wpAny_toks hn (hc pins s σ H _ I h)) fun d s1 ⟨rD, H1, I1, q1⟩ => ?_)
 cases d with
 | true => exact ha pins s1 σ H1 D rD I1 q1
 | false => exact hb pins s1 σ H1 D rD I1 q1
theorem Mu {e : Expr} {te : TE} (he : Nj X e te) : Pa X (.Return (some e) pos) (QI te) := by
 intro pins s σ H D hn I h
 exact wpAny_Return_some (thn (he pins s σ H _ hn I h) fun v s1 ⟨y, H1, I1, r1, q1⟩ => ⟨y, σ, H1, I1, r1, q1⟩)
theorem HW (h1 : ∀ (pins : List (aaC × Obj)) (s : aaf) (σ : St) (H : Hp) (D : Ends), Inv X pins σ H s → t D σ H → aaZ (model X.prog X.w) X.A (exec st X.env) (fun f s' => 1 ≤ s'.toks ∧ SP X pins D f s') X.xe s) (h2 : si X rest u) : EF X (st :: rest) (LG t u) := by
 intro pins s σ H D I h
 refine wpAny_execs_cons (thn (h1 pins s σ H { D with nx := u D } I h) fun f s1 ⟨rD, q⟩ => ?_)
 cases f with
 | next =>
  obtain ⟨σ', H', I', q⟩ := q
  exact h2 pins s1 σ' H' D rD I' q
 | ret v => exact q
 | brk => exact q
 | cont => exact q
end
end L2
namespace L2
open PySem PySem.Spec PyProof.Rows
structure DI (P : aaL) (w : aa9) (K : aaa) (mg : Str → Option aad) (base : Heap) (CX : GB) (k : Nat) (f : aaC) (fd : abd) (ps : List Str) (sp : Sp) : Prop where
 len : ∀ vs H Q E, sp vs H Q E → vs.length = ps.length
 run : ∀ (A : aba) (outer : List Env) (s : aaf) (H : Hp) (args : Args) (us : List aad) (vs : List V) (Q : VK) (E : XK), 1 ≤ s.toks → dD k A → CV P w K mg base A outer s H → BindsTo s fd args (ps.zip us) → Vals vs us → sp vs H Q E →
  codeAny (model P w) A (.call (.ref f) args) (CR CX outer P w H s Q E) s
theorem Pc {CX : GB} {P : aaL} {w : aa9} {K : aaa} {mg : Str → Option aad} {base : Heap} {k : Nat} {f : aaC} {name qual : Str} {params : Arguments} {body : List Stmt} {scope : Scope} {dV kV doc pm cb ct oc : aad} {an od : Option aaC}
  {Jf : Array (Option aad)} {N ps : List Str} {sp : Sp} (lk : K.lookup f = some ⟨oc, od, .func (abS name qual params body scope dV kV doc pm an cb ct), Jf⟩) (hcd : acL K cb qual = true) (S : ax N ps scope)
  (len : ∀ vs H Q E, sp vs H Q E → vs.length = ps.length)
  (vb : ∀ (A : aba) (outer : List Env) (s : aaf) (H : Hp) (vs : List V) (Q : VK) (E : XK), dD k (A.deeper (envOfC qual scope s.heap.objs.size f cb)) → sp vs H Q E →
   ∃ t, si (xq CX P w K mg base N qual scope f cb A outer s H E) body t ∧ t { nx := fun _ H' => Q .bY H', rt := Q } (start N vs) H) :
  DI P w K mg base CX (k + 1) f (abS name qual params body scope dV kV doc pm an cb ct) ps sp := by
 refine ⟨len, fun A outer s H args us vs Q E hn hr e0 hb r Hw => ?_⟩
 have hl := len _ _ _ _ Hw
 have KX : K.In s.heap := e0.mod.LC.keeps fun b o e => (e0.bs b o e).1
 have lim : s.heap.NoLimit := e0.mod.nolimit.keeps fun b o e => (e0.bs b o e).1
 have hkind : ∀ y ∈ ps.zip us, scope.names.lookup y.1 = some .local ∨ (scope.names.lookup y.1 = some .cell ∧ ((cellsFrom (s.heap.objs.size + 1) scope.names []).lookup y.1).isSome = true) := fun ⟨n, v⟩ hy => by
  rcases S.par n (acZ hy).1 with q | q
  ·exact .inl q
  ·exact .inr ⟨q, acD _ _ _ (.inl q)⟩
 refine codeAny_call_function hr.depth (KX _ _ lk) rfl S.co S.gen rfl (aek KX hcd) (hb _ _ _ _ ?_)
 refine V6 hn ?_
 refine wpAny_newFunctionEnv_cells S.kind hkind fun env he s1 x => ?_
 intro rD
 subst he
 refine ⟨lim.keeps x.toInCall.keep, codeAny_func ?_⟩
 obtain ⟨t, ht, hq⟩ := vb A outer s H vs Q E (hr.deeper _) Hw
 have I : Inv (xq CX P w K mg base N qual scope f cb A outer s H E) [] (start N vs) H s1 := yY S hr.hd e0 hl r x
 refine wpAny_mono (ht [] s1 (start N vs) H _ rD I hq) (fun fl s' hs => ?_) fun e s' hs => hs
 have fin : ∀ {σ' : St} {H' : Hp} {v : V} {u : aad}, Inv (xq CX P w K mg base N qual scope f cb A outer s H E) [] σ' H' s' → RelV v u → Q v H' → CE outer P w H s Q u s' :=
  fun {σ' H' v u} J rv q => ⟨v, H', J.os, J.bare, J.base, J.hok, rv, q⟩
 cases fl with
 | ret u =>
  obtain ⟨v, σ', H', J, rv, q⟩ := hs
  exact fin J rv q
 | next =>
  obtain ⟨σ', H', J, q⟩ := hs
  exact fin (v := V.bY) (u := adl) J rfl q
 | brk =>
  obtain ⟨_, _, _, q⟩ := hs
  exact abo q
 | cont =>
  obtain ⟨_, _, _, q⟩ := hs
  exact abo q
end L2
namespace L2
open PySem PySem.Spec PyProof.Rows
def Pd (P : aaL) (w : aa9) (K : aaa) (mg : Str → Option aad) (base : Heap) (x : Str) (k : Nat) (ps : List Str) (sp : Sp) : Prop :=
 ∃ f fd, DI P w K mg base da k f fd ps sp ∧ Binds K fd ps [] ∧ ab5 K (.ref f) = true ∧ mg x = some (.ref f)
section
variable {X : Cx} {k : Nat} {ps : List Str} {sp : Sp} {x : Str} {p pos : Pos} {e : Expr} {es : List Expr} {t : TA} {f : aaC} {fd : abd} {ds : List aad} {rL : List V} {CX : GB} {E : XK}
theorem Mv {pins : List (aaC × Obj)} {σ : St} {H : Hp} {s : aaf} {Q : VK} {us : List aad} {vs : List V} (F : DI X.prog X.w X.K X.mg X.base CX k f fd ps sp) (hn : 1 ≤ s.toks) (hr : dD k X.A) (hb : Binds X.K fd ps ds) (hd : Vals rL ds) (hx : Passes CX X E)
  (I : Inv X pins σ H s) (r : Vals vs us) (h : sp (vs ++ rL) H Q E) : aaZ (model X.prog X.w) X.A (call (.ref f) us) (EP X pins σ Q) X.xe s := by
 have r2 : Vals (vs ++ rL) (us ++ ds) := r.append hd
 have hl : (us ++ ds).length = ps.length := by rw [← r2.length]; exact F.len _ _ _ _ h
 refine wpAny_call (codeAny_mono (F.run X.A X.stack s H ⟨us, []⟩ (us ++ ds) (vs ++ rL) Q E hn hr I.Oh (hb s us I.qj hl) r2 h) fun r s' hq => ?_)
 cases r with
 | error e => exact hx pins σ H s e s' I hq
 | ok fl =>
  cases fl with
  | ret u => exact I.after hq
  | next => exact abo hq
  | brk => exact abo hq
  | cont => exact abo hq
theorem HX (c : Pd X.prog X.w X.K X.mg X.base x k ps sp) (hr : dD k X.A) (hg : Gl X x) (ha : PA X (e :: es) t) (ET : (x == ("__debug__" : Str)) = false := by decide) (he : starEach (e :: es) X.env = (false, eval e X.env) :: starEach es X.env := by rfl) (hpl : (backTo pos (starEach es X.env)).any (·.1) = false := by rfl) :
  Nj X (.Call (.Name x p) (e :: es) [] pos) (GC sp [] E0 t) := by
 obtain ⟨f, fd, F, b, kp, mg⟩ := c
 intro pins s σ H Q hn I h
 refine wpAny_Call_Name_kw (qk I hg mg ?_ ET)
 refine ab9 (h₀ := X.base) I.ok.mod.LC kp (thn (wpAny_toks hn (ha pos pins s σ H _ I h)) fun us s1 ⟨rD, vs, H1, I1, r, q⟩ => ⟨I1.qj, ?_⟩) he hpl
 exact Mv F rD hr b .nil vd I1 r q
theorem Mw {i : Nat} {te : TE} {pos' : Pos} (hN : X.N.Nodup) (hi : X.N[i]? = some x) (hx : Loc X.env.scope x) (he : Nj X e te) (hs : swapsWith e (some (.Name x pos')) pos.line X.env = pure false := by rfl) (hf : X.fn x = true ∨ X.env.scope.names.lookup x = some .local := by first | exact aaM rfl | exact acn rfl) :
  Pa X (.Assign [.Name x pos'] e pos) (IY te (tI i)) := by
 intro pins s σ H D hn I h
 refine wpAny_Assign_Name (thn (he pins s σ H _ hn I h) fun v s1 ⟨y, H1, I1, r1, q1⟩ => ?_) hs
 exact mM I1 hN hi hx r1 (fun s2 I2 => ⟨_, H1, I2, q1⟩) hf
end
end L2
namespace L2
open PySem PySem.Spec PyProof.Rows
theorem si.MW {X : Cx} {st : List Stmt} {t : TS} (h : si X.MW st t) : si X st t := fun pins s σ H D hn I hw =>
 wpAny_mono (h pins s σ H D hn (I.u5 _) hw) (fun _ _ q => q.j9) fun _ _ z => abo z
theorem bw.okT {P : aaL} {w : aa9} {K : aaa} {mg : Str → Option aad} {base : Heap} {x qual : Str} {st : Stmt} {f : aaC} {fd : abd} {N ps : List Str} {k : Nat} {sp : Sp} (F : bw K x qual st f fd) (S : ax N ps (ao st)) (len : ∀ vs H Q E, sp vs H Q E → vs.length = ps.length)
  (vb : ∀ (cb : aad) (A : aba) (outer : List Env) (s : aaf) (H : Hp) (vs : List V) (Q : VK) (E : XK), dD k (A.deeper (envOfC qual (ao st) s.heap.objs.size f cb)) → sp vs H Q E →
   ∃ t, si (xq da P w K mg base N qual (ao st) f cb A outer s H E).MW (iU st) t ∧ t { nx := fun _ H' => Q .bY H', rt := Q } (start N vs) H) : DI P w K mg base da (k + 1) f fd ps sp := by
 obtain ⟨oc, od, kV, doc, pm, an, cb, ct, Jf, rfl, lk, hcd⟩ := F.ex
 refine Pc lk hcd S len fun A outer s H vs Q E hr Hw => ?_
 obtain ⟨t, h, q⟩ := vb cb A outer s H vs Q E hr Hw
 exact ⟨t, h.MW, q⟩
def UC (X : Cx) (e : Expr) (t : TE) : Prop :=
 ∀ (pins : List (aaC × Obj)) (s : aaf) (σ : St) (H : Hp) (Q : VK), Inv X pins σ H s → t σ H Q → aaZ (model X.prog X.w) X.A (eval e X.env) (fun v s' => 1 ≤ s'.toks ∧ EP X pins σ Q v s') X.xe s
def UD (X : Cx) (es : List Expr) (t : TA) : Prop :=
 ∀ (pos : Pos) (pins : List (aaC × Obj)) (s : aaf) (σ : St) (H : Hp) (Q : List V → Hp → Prop), Inv X pins σ H s → t σ H Q → aaZ (model X.prog X.w) X.A (spliced (backTo pos (starEach es X.env))) (fun v s' => 1 ≤ s'.toks ∧ AP X pins σ Q v s') X.xe s
def PSG (X : Cx) (st : Stmt) (t : TS) : Prop :=
 ∀ (pins : List (aaC × Obj)) (s : aaf) (σ : St) (H : Hp) (D : Ends), Inv X pins σ H s → t D σ H → aaZ (model X.prog X.w) X.A (exec st X.env) (fun f s' => 1 ≤ s'.toks ∧ SP X pins D f s') X.xe s
section
variable {X : Cx} {k : Nat} {ps : List Str} {sp : Sp} {x : Str} {p pos : Pos} {e : Expr} {es : List Expr} {t : TA} {te : TE}
theorem Mx {i j pos} : UC X (.Constant (.int i) j pos) (tC (.int i)) := fun _ s _ H _ I h => wpAny_Constant_int ⟨(by show 1 ≤ s.toks + 1; omega), .int i, H, I.tok _, ⟨_, rfl⟩, h⟩
theorem Ko (ha : UC X e te) (hr : PA X es t) (hs : starEach (e :: es) X.env = (false, eval e X.env) :: starEach es X.env := by rfl) : UD X (e :: es) (GA te t) := by
 intro pos pins s σ H Q I h
 rw [hs]
 show aaZ _ _ (spliced ((false, eval e X.env) :: backTo pos (starEach es X.env))) _ _ s
 refine abR (thn (ha pins s σ H _ I h) fun u s1 ⟨hn, x, H1, I1, r1, q1⟩ => ?_)
 exact thn (wpAny_toks hn (hr pos pins s1 σ H1 _ I1 q1)) fun us s2 ⟨zV, xs, H2, I2, r2, q2⟩ => ⟨zV, x :: xs, H2, I2, .cons r1 r2, q2⟩
theorem Kq (ha : PE X e te) (hr : UD X es t) (hs : starEach (e :: es) X.env = (false, eval e X.env) :: starEach es X.env := by rfl) : UD X (e :: es) (GA te t) := by
 intro pos pins s σ H Q I h
 rw [hs]
 show aaZ _ _ (spliced ((false, eval e X.env) :: backTo pos (starEach es X.env))) _ _ s
 refine abR (thn (ha pins s σ H _ I h) fun u s1 ⟨x, H1, I1, r1, q1⟩ => ?_)
 exact thn (hr pos pins s1 σ H1 _ I1 q1) fun us s2 ⟨zV, xs, H2, I2, r2, q2⟩ => ⟨zV, x :: xs, H2, I2, .cons r1 r2, q2⟩
theorem HY (c : br X.prog X.w X.K X.mg X.base x k ps sp) (hr : dD k X.A) (hg : Gl X x) (ha : UD X (e :: es) t) (ET : (x == ("__debug__" : Str)) = false := by decide) (he : starEach (e :: es) X.env = (false, eval e X.env) :: starEach es X.env := by rfl) (hpl : (backTo pos (starEach es X.env)).any (·.1) = false := by rfl) :
  UC X (.Call (.Name x p) (e :: es) [] pos) (GC sp [] E0 t) := by
 obtain ⟨f, fd, F, b, kp, mg⟩ := c
 intro pins s σ H Q I h
 refine wpAny_Call_Name_kw (qk I hg mg ?_ ET)
 refine ab9 (h₀ := X.base) I.ok.mod.LC kp (thn (ha pos pins s σ H _ I h) fun us s1 ⟨rD, vs, H1, I1, r, q⟩ => ⟨I1.qj, ?_⟩) he hpl
 exact wpAny_toks rD (u9 F hr b .nil vd I1 r q)
theorem My {i : Nat} {pos' : Pos} (hN : X.N.Nodup) (hi : X.N[i]? = some x) (hx : Loc X.env.scope x) (he : UC X e te) (hs : swapsWith e (some (.Name x pos')) pos.line X.env = pure false := by rfl) (hf : X.fn x = true ∨ X.env.scope.names.lookup x = some .local := by first | exact aaM rfl | exact acn rfl) :
  PSG X (.Assign [.Name x pos'] e pos) (IY te (tI i)) := by
 intro pins s σ H D I h
 refine wpAny_Assign_Name (thn (he pins s σ H _ I h) fun v s1 ⟨hn, y, H1, I1, r1, q1⟩ => ?_) hs
 exact wpAny_toks hn (mM I1 hN hi hx r1 (fun s2 I2 => ⟨_, H1, I2, q1⟩) hf)
end
end L2
namespace L2
open PySem PySem.Spec PyProof.Rows
section
variable {X : Cx} {e : Expr} {es : List Expr} {te : TE} {t : TA} {pos : Pos}
def tCt (x : Str) : TE := fun _ H Q => ∀ t, 1 ≤ t → Q (.tok x t) H
theorem pF {x j pos} : Nj X (.Constant (.str x) j pos) (tCt x) := fun _ s _ H _ hn I h => adf ⟨.tok x s.toks, H, I.tok _, rfl, h _ hn⟩
def RC (X : Cx) (es : List Expr) (t : TA) : Prop :=
 ∀ (pos : Pos) (pins : List (aaC × Obj)) (s : aaf) (σ : St) (H : Hp) (Q : List V → Hp → Prop), 1 ≤ s.toks → Inv X pins σ H s → t σ H Q → aaZ (model X.prog X.w) X.A (spliced (backTo pos (starEach es X.env))) (AP X pins σ Q) X.xe s
theorem G6 : RC X [] Hv := fun _ _ _ _ H Q _ I h => ado ⟨[], H, I, .nil, h⟩
theorem jZ (ha : Nj X e te) (hr : RC X es t) (hs : starEach (e :: es) X.env = (false, eval e X.env) :: starEach es X.env := by rfl) : RC X (e :: es) (GA te t) := by
 intro pos pins s σ H Q hn I h
 rw [hs]
 show aaZ _ _ (spliced ((false, eval e X.env) :: backTo pos (starEach es X.env))) _ _ s
 refine abR (thn (wpAny_toks hn (ha pins s σ H _ hn I h)) fun u s1 ⟨rD, x, H1, I1, r1, q1⟩ => ?_)
 exact thn (hr pos pins s1 σ H1 _ rD I1 q1) fun us s2 ⟨xs, H2, I2, r2, q2⟩ => ⟨x :: xs, H2, I2, .cons r1 r2, q2⟩
theorem Mz (h : RC X es t) : Nj X (.List es pos) (QW t) := by
 intro pins s σ H Q hn I hq
 refine wpAny_List_spliced (thn (h pos pins s σ H _ hn I hq) fun us s1 ⟨xs, H1, I1, r, z, q⟩ => ⟨by rw [← r.length]; exact z, ?_⟩)
 have hf : H1 s1.heap.objs.size = none := I1.hok.fresh (aar _)
 refine ⟨.ref s1.heap.objs.size, upd H1 s1.heap.objs.size (.lst xs), I1.laid (t' := s1.toks) (fun b u e => aav _ e) (aar _) ?_, rfl, q _ hf⟩
 exact ⟨z, us, 0, r, aa0 _ rfl⟩
def Y9 (X : Cx) (tg iter : Expr) (wi : TI) : Prop :=
 ∀ (pins : List (aaC × Obj)) (s : aaf) (σ : St) (H : Hp) (R : It → Hp → Prop), 1 ≤ s.toks → Inv X pins σ H s → wi σ H R →
  aaZ (model X.prog X.w) X.A (eval iter X.env) (fun v s1 => aaZ (model X.prog X.w) X.A (pyIter v) (Uq X pins σ tg R) X.xe s1) X.xe s
theorem Kr {tg l : Expr} {tl : TE} (hl : Nj X l tl) : Y9 X tg l (MZ X.K tl) := by
 intro pins s σ H R hn I h
 refine thn (hl pins s σ H _ hn I h) fun v s1 ⟨x, H1, I1, r1, q1⟩ => ?_
 obtain ⟨a, e, ⟨xs, hq⟩, q⟩ := q1
 subst e
 cases r1
 obtain ⟨its, rv, p, hz⟩ := I1.list hq
 refine wpAny_pyIter_list p.isList ?_
 refine ⟨s1.heap.objs.size, [s1.heap.objs.size], _, _, H1, rfl, I1.kept (t' := s1.toks) fun b o e => aav _ e, yR a _, ⟨_, aa0 _ rfl, rfl, rfl⟩, fun b hb => ?_, q⟩
 have e : b = s1.heap.objs.size := by simpa using hb
 subst e
 exact I1.Hq (aar _) (I1.hok.fresh (aar _))
theorem MA {tg iter : Expr} {body : List Stmt} {wi : TI} {g : TG} {tb : TS} {pos : Pos} (hp : PassesOwn (model X.prog X.w) X.A X.env X.xe) (hc : X.calm = true) (hi : Y9 X tg iter wi) (hg : PG X tg g) (hb : si X body tb)
  (hs : ∀ x, foldedSetIterable iter X.env x = pure x := by intro _; rfl) : Pa X (.For tg iter body [] pos) (QN wi g tb) := by
 intro pins s σ H D hn I h
 refine wpAny_For (thn (wpAny_toks hn (hi pins s σ H _ hn I h)) fun v s1 ⟨rD, h1⟩ => thn (wpAny_toks rD h1) fun Ur s2 ⟨zV, h2⟩ => ?_) hs
 obtain ⟨it, fp, tn, J, H2, e, I2, T, P9, f2, W, ⟨m0, w0⟩, turn⟩ := h2
 subst e
 have u7 : ∀ {H' : Hp}, (∀ b ∈ fp, H' b = none) → ∀ b ∈ fp, u6 X pins H' b := fun hn b hb => ⟨hn b hb, (f2 b hb).2⟩
 refine codeAny_forLoop_any (fun n s' => 1 ≤ s'.toks ∧ ∃ i σ' H', Inv X pins σ' H' s' ∧ tn i s'.heap ∧ (∀ b ∈ fp, H' b = none) ∧ W i n σ' H') ?_ m0 ⟨zV, 0, σ, H2, I2, P9, fun b hb => (f2 b hb).1, w0⟩
 rintro n s3 ⟨hn3, i, σ3, H3, I3, M0, QO, w3⟩
 rcases turn i n σ3 H3 w3 with ⟨stop, qn⟩ | ⟨go, N, hN, step⟩
 ·refine wpAny_passesOwn hp (thn (T.done X rfl rfl rfl hc i pins s3 σ3 H3 X.xe I3 (u7 QO) M0 stop) fun r s4 ⟨hr, I4⟩ => ?_)
  subst hr
  exact wpAny_execs_nil ⟨σ3, H3, I4, qn⟩
 ·refine wpAny_passesOwn hp (thn (wpAny_toks hn3 (T.item X rfl rfl rfl hc i pins s3 σ3 H3 X.xe I3 (u7 QO) M0 go)) fun r s4 ⟨UE, u, hr, h4⟩ => ?_)
  subst hr
  refine wpAny_passesOwn hp (thn (wpAny_toks UE h4) fun _ s5 ⟨hn5, x, H5, I5, r5, y5, I8, QP⟩ => ?_)
  have Vp := I5.pinned (u7 QP) (T.obj _ _ I8)
  refine wpAny_passesOwn hp (thn (wpAny_toks hn5 (hg _ s5 σ3 H5 x u _ Vp r5 (step x H5 y5))) fun _ s6 ⟨Nk, σ6, H6, I6, q6⟩ => ?_)
  refine wpAny_passesOwn hp (thn (wpAny_toks Nk (hb _ s6 σ6 H6 _ Nk I6 q6)) fun f s7 ⟨hn7, q7⟩ => ?_)
  have again : ∀ {σ7 : St} {H7 : Hp}, Inv X (pins ++ rH fp s5.heap) σ7 H7 s7 → N σ7 H7 → ∃ m, m < n ∧ 1 ≤ s7.toks ∧ ∃ i σ' H', Inv X pins σ' H' s7 ∧ tn i s7.heap ∧ (∀ b ∈ fp, H' b = none) ∧ W i m σ' H' := fun {σ7 H7} I7 n7 => by
   obtain ⟨m', hm, w7⟩ := hN σ7 H7 n7
   refine ⟨m', hm, hn7, i + 1, σ7, H7, I7.ic, T.keep _ _ _ I8 fun b hb o e => (I7.pin (b, o) (aae _ (aae _ (fM hb e)))).1, fun b hb => ?_, w7⟩
   obtain ⟨o, e, d⟩ := T.obj _ _ I8 b hb
   exact (I7.pin (b, o) (aae _ (aae _ (fM hb e)))).2.1
  cases f with
  | next => obtain ⟨σ7, H7, I7, n7⟩ := q7; exact again I7 n7
  | cont => obtain ⟨σ7, H7, I7, n7⟩ := q7; exact again I7 n7
  | brk => obtain ⟨σ7, H7, I7, q7⟩ := q7; exact ⟨σ7, H7, I7.ic, q7⟩
  | ret v => obtain ⟨x7, σ7, H7, I7, r7, q7⟩ := q7; exact ⟨x7, σ7, H7, I7.ic, r7, q7⟩
def RD (ta : TE) (y : Str) : TE := fun σ H Q => ta σ H fun v H1 => ∃ x u, v = .tok x u ∧ (x.length == 0) = false ∧ (x ++ y).length ≤ aai ∧ ∀ t, 1 ≤ t → Q (.tok (x ++ y) t) H1
theorem MB {a : Expr} {ta : TE} {y : Str} {j : Nat} {p pos : Pos} (hy : (y.length == 0) = false) (ha : PE X a ta) : PE X (.BinOp a .Add (.Constant (.str y) j p) pos) (RD ta y) := by
 intro pins s σ H Q I h
 refine wpAny_BinOp (thn (ha pins s σ H _ I h) fun v s1 ⟨z, H1, I1, r1, x, u, ez, hx, hz, q⟩ => ?_)
 subst ez
 cases r1
 refine adf ?_
 refine PySem.P.add_str ?_
 rw [if_neg (by rw [hx]; exact aaz), if_neg (by rw [hy]; exact aaz)]
 exact ⟨hz, .tok (x ++ y) (s1.toks + 1), H1, (I1.tok _).tok _, rfl, q _ (by omega)⟩
open Builtin Builtin.Str in
theorem DJ {prog : aaL} {w : aa9} {A : aba} {E : aad → aaf → Prop} {s : aaf} {x y z : Str} {t : Tok} {u v : Nat} {Q : aad → aaf → Prop} (hu : 1 ≤ u) (hv : 1 ≤ v) (V7 : (y == z) = false) (hb : x.length + (x.length + 1) * z.length ≤ 16777216)
    (hq : ∀ t' k, Q (.str (acJ x y z) t') { s with toks := k }) (hq' : Q (.str x t) s) : aaZ (model prog w) A (call (.builtin "str.replace") [.str x t, .str y u, .str z v]) Q E s := by
  by_cases Za : u = v
  · subst Za
    have g : Gives («str.replace» ⟨[.str x t, .str y u, .str z u], []⟩) (.val (.str x t)) := by
      show Gives (if ((occurrences x y 0 x.length (x.length + 1)).isEmpty || (y.length == 0 && z.length == 0)) = true then (do rule "str.replace.nothing"; ret (.str x t)) else
          (do let same ← isSame (.str y u) (.str z u)
              if same = true then (do rule "str.replace.old-is-new"; ret (.str x t)) else
              if tooLong (x.length + (occurrences x y 0 x.length (x.length + 1)).length * z.length) = true then unsupported "str.replace:memory" else
              retStr (glued z (partsBetween x (occurrences x y 0 x.length (x.length + 1)) y.length)))) _
      have e : isSame (.str y u) (.str z u) = pure true := by
        show (if (u == 0 || u == 0) = true then _ else if (u == u) = true then pure true else _ : Sem Bool) = _
        rw [if_neg (by have : u ≠ 0 := by omega
                       simp [this]), if_pos (by simp)]
      cases hc : ((occurrences x y 0 x.length (x.length + 1)).isEmpty || (y.length == 0 && z.length == 0))
      · rw [e]
        exact .rule (.of_eq rfl)
      · exact .rule (.of_eq rfl)
    exact call_gives acE (typeIs_str _ _ _) F.entry_str_replace (F.args_str_replace_3 _ _ _) g hq'
  · exact SC.replace (Nat.pos_iff_ne_zero.mp hu) (Nat.pos_iff_ne_zero.mp hv) Za V7 hb hq
def RE : V → List V → Hp → VK → Prop := fun a vs H Q => ∃ x y u z v, a = .str x ∧ vs = [.tok y u, .tok z v] ∧ 1 ≤ u ∧ 1 ≤ v ∧ (y == z) = false ∧ x.length + (x.length + 1) * z.length ≤ 16777216 ∧ Q (.str (acJ x y z)) H ∧ Q (.str x) H
theorem G7 : Lq X "str.replace" RE := by
 intro pins s σ H a vs w us Q I ra rv h
 obtain ⟨x, y, u, z, v, rfl, rfl, hu, hv, V7, hb, q, q'⟩ := h
 obtain ⟨t, rfl⟩ := ra
 cases rv with
 | cons r rr =>
  cases rr with
  | cons r' rr =>
   cases rr
   cases r
   cases r'
   exact DJ hu hv V7 hb (fun t' k => ⟨.str _, H, I.tok _, ⟨t', rfl⟩, q⟩) ⟨.str _, H, I, ⟨t, rfl⟩, q'⟩
theorem Pe {o : Expr} {to : TE} {name : Str} {apos cpos : Pos} {T id : String} {r : V → List V → Hp → VK → Prop} (pa : PlainAttrs T) (slot : Slot T name id) (EZ : typeOf (.builtin id) = pure (.type "method_descriptor")) (hm : Lq X id r) (ho : PE X o to) (ha : RC X (e :: es) t)
  (CZ : attributeBase o name X.env (eval o X.env) = eval o X.env := by rfl)
  (hfew : ((backTo cpos (starEach (e :: es) X.env)).all (fun x => !x.1) && (backToKw cpos (keywordEach [] X.env)).all (fun x => x.1.isSome)
   && decide ((e :: es).length + ([] : List Keyword).length + (if ([] : List Keyword).isEmpty then 0 else 1) < 30)) = true := by rfl)
  (hline : (apos.endLine == cpos.line) = true := by rfl) (hs : starEach (e :: es) X.env = (false, eval e X.env) :: starEach es X.env := by rfl) (E1 : (backTo cpos (starEach es X.env)).any (·.1) = false := by rfl) :
  Nj X (.Call (.Attribute o name apos) (e :: es) [] cpos) (Q3 X.K T r to t) := by
 intro pins s σ H Q hn I h
 refine wpAny_Call_method_late CZ hfew hline rfl (thn (wpAny_toks hn (ho pins s σ H _ I h)) fun v s1 ⟨rD, x, H1, I1, r1, ty, q1⟩ => ?_)
 obtain ⟨h1, h2⟩ := EY I1 r1 ty
 refine ⟨T, id, pa, slot, EZ, h1, h2, ?_⟩
 have hA := ha cpos pins s1 σ H1 _ rD I1 q1
 rw [hs] at hA ⊢
 refine ab7 (by show (false || (backTo cpos (starEach es X.env)).any (·.1)) = false; rw [E1] <;> rfl) (acS ?_)
 exact thn hA fun us s2 ⟨vs, H2, I2, r2, q2⟩ => hm pins s2 σ H2 x vs v us Q I2 r1 r2 q2
end
end L2
namespace iS
open PySem L2 cM Bk
set_option maxHeartbeats 4000000
def top (i : Nat) : Stmt := PySem.Challenge.pw_poolrules_k10_a_rule_and_its_fields.main.body.getD i (.Pass ⟨0, 0, 0, 0⟩)
abbrev gL : Stmt := top 15
abbrev sj : Stmt := top 16
abbrev pW : Stmt := top 17
abbrev il : Stmt := top 18
abbrev nD : Stmt := top 19
abbrev kC : Stmt := top 20
abbrev ip : Stmt := top 21
abbrev we : Stmt := top 22
abbrev pX : Stmt := top 23
abbrev pY : Stmt := top 24
abbrev sk : Stmt := top 25
abbrev ir : Stmt := top 26
abbrev i9 : Stmt := top 28
abbrev ja : Stmt := top 29
abbrev nE : Stmt := inClass (top 31) 0
abbrev nF : Stmt := inClass (top 32) 1
abbrev jb : Stmt := inClass (top 33) 1
abbrev kE : Stmt := top 40
abbrev so : Stmt := top 41
abbrev jc : Stmt := top 42
abbrev nG : Stmt := top 43
abbrev nH : Stmt := top 44
abbrev nI : Stmt := top 45
abbrev kI : Stmt := top 46
abbrev nJ : Stmt := top 47
abbrev kJ : Stmt := top 48
abbrev nK : Stmt := top 49
abbrev eY : Stmt := top 50
abbrev wg : Stmt := top 51
abbrev nM : Stmt := inClass (top 53) 0
abbrev kL : Stmt := inClass (top 53) 1
abbrev nN : Stmt := inClass (top 54) 0
abbrev kO : Stmt := top 55
abbrev nO : Stmt := top 56
abbrev nP : Stmt := top 57
abbrev kW : Stmt := top 58
abbrev kY : Stmt := top 59
abbrev jd : Stmt := top 60
abbrev kZ : Stmt := top 61
abbrev nQ : Stmt := top 62
abbrev nS : Stmt := top 63
abbrev nT : Stmt := top 64
abbrev nU : Stmt := top 65
abbrev iu : Stmt := top 67
abbrev pZ : Stmt := top 68
abbrev lj : Stmt := top 69
abbrev je : Stmt := top 70
abbrev lq : Stmt := top 71
abbrev lu : Stmt := top 72
abbrev ly : Stmt := top 73
abbrev nV : Stmt := top 74
abbrev fQ : Stmt := top 75
abbrev jf : Stmt := top 76
abbrev lA : Stmt := top 77
abbrev lB : Stmt := top 78
abbrev p6 : Stmt := top 79
abbrev nW : Stmt := top 80
abbrev fR : Stmt := top 81
abbrev fS : Stmt := top 82
abbrev jg : Stmt := top 83
abbrev jh : Stmt := top 84
abbrev gM : Stmt := top 85
abbrev lC : Stmt := top 86
abbrev ji : Stmt := top 87
abbrev qV : Stmt := top 88
section
variable {P : aaL} {w : aa9} {K : aaa} {mg : Str → Option aad} {base : Heap} {f : aaC} {fd : abd} {c : Cl}
theorem um : ax ["sign"] ["sign"] (ao il) := ⟨rfl, rfl, rfl, by decide +kernel, rfl, by decide +kernel, by decide +kernel⟩
theorem uo {u1 u2 u3 : aad} (F : bw K "is_name_sign" "is_name_sign" il f fd) (AA : mg "SMALL" = some u1) (AB : RelV (.str dI) u1) (AD : mg "GREAT" = some u2) (AE : RelV (.str d7) u2) (HZ : mg "FIGURES" = some u3) (Ia : RelV (.str HI) u3) :
  a4 P w K mg base da 1 f fd ["sign"] Ad := by
 refine F.ok um (fun vs H Q E h => ?_) (fun cb A outer s H vs Q E hr h => ?_)
 ·obtain ⟨c, rfl, _⟩ := h
  rfl
 obtain ⟨c, rfl, q⟩ := h
 refine ⟨_, (ai (aC (MV (dF eS (pv 0) (de rfl AA AB) (by with_unfolding_all rfl)) (MV (dF eS (pv 0) (de rfl AD AE) (by with_unfolding_all rfl)) (rE (dF eS (pv 0) (de rfl HZ Ia) (by with_unfolding_all rfl))))))), ?_⟩
 refine ⟨_, rfl, _, _, rfl, rfl, _, rfl, ?_⟩
 rw [abE]
 refine mL (fun z => ?_) (fun z => ?_)
 ·have e : aZ c = true := by unfold aZ; rw [z]; rfl
  rw [e] at q
  exact q
 refine ⟨_, rfl, _, _, rfl, rfl, _, rfl, ?_⟩
 rw [abE]
 have z' : decide (c ∈ dI.cps.toList) = false := by simpa using z
 refine mL (fun y => ?_) (fun y => ?_)
 ·have e : aZ c = true := by unfold aZ; rw [y]; simp
  rw [e] at q
  exact q
 have y' : decide (c ∈ d7.cps.toList) = false := by simpa using y
 refine ⟨_, rfl, _, _, rfl, rfl, ?_⟩
 rw [abE]
 have e : aZ c = decide (c ∈ HI.cps.toList) := by unfold aZ; rw [z', y']; rfl
 rw [e] at q
 exact q
theorem FD : ax ["text"] ["text"] (ao sj) := ⟨rfl, rfl, rfl, by decide +kernel, rfl, by decide +kernel, by decide +kernel⟩
theorem FF {u1 : aad} (F : bw K "is_name" "is_name" sj f fd) (cV : br P w K mg base "is_name_sign" 1 ["sign"] Ad)
  (aX : mg "len" = none) (RG : mg "all" = none) (Ib : mg "LONGEST" = some u1) (Ic : RelV (.int 12) u1) : a4 P w K mg base da 2 f fd ["text"] (xy gn) := by
 refine F.ok FD (fun vs H Q E h => ?_) (fun cb A outer s H vs Q E hr h => ?_)
 ·obtain ⟨c, rfl, _⟩ := h
  rfl
 obtain ⟨x, rfl, hx, q⟩ := h
 refine ⟨_, (ai (aC (rF (Ja M1 M1 af (aM d3 rfl aX aaI (aa (pv 0) ab)) (de rfl Ib Ic)) (rE (aM Jp rfl RG PyProof.Rows.boot_all (aa (bA [] rfl (by kernel_rfl) (OB (pv 0)) (fun _ _ _ _ _ => bj) (fun _ _ _ _ _ => (ak cV (hr.mono (by decide)) rfl (aa (pv 0) ab)))) ab)))))), ?_⟩
 refine ⟨_, rfl, x, rfl, sz (by omega), _, _, rfl, rfl, _, rfl, ?_⟩
 refine mL (fun c1 => ?_) (fun c1 => ?_)
 ·refine ⟨_, _, rfl, rfl, _, rfl, ?_⟩
  refine mL (fun c2 => ?_) (fun c2 => ?_)
  ·refine ⟨_, rfl, x, rfl, fun D hD => ?_⟩
   refine Jo (x := x) (kl (show x.cps.size ≤ 100000 by have z : x.cps.size ≤ 20000 := hx; omega)) (fun i ys H' => ah H H' ∧ H' D = some (.lst ys) ∧ ys = ((x.cps.toList.take i).map aZ).map V.bl) ⟨aj hD _, ae, rfl⟩ (fun i ys H' p => ⟨p.2.1, ?_⟩) (fun i ys H' hi p => ?_) (fun ys H' p => ?_)
   ·rw [p.2.2]
    simp
    omega
   ·refine ⟨_, rfl, _, rfl, p.2.1, ?_⟩
    refine ⟨fun b o e => ?_, ae, ?_⟩
    ·rw [aA (aN e hD)]
     exact p.1 b o e
    ·rw [p.2.2]
     have hi' : i < x.cps.toList.length := by simpa using hi
     rw [aap hi']
     simp [ac1, hi]
   ·refine ⟨D, (x.cps.toList.map aZ), rfl, rfl, .inl (.inl ?_), ?_⟩
    ·rw [p.2.1, p.2.2, abp (by simp)]
    ·have e : gn x = (x.cps.toList.map aZ).all id := by
      unfold gn
      rw [c1, c2]
      simp [aeA, acK]
     have q' := q H' p.1
     rw [e] at q'
     exact q'
  ·have e : gn x = false := by
    unfold gn
    have RH : decide ((x.length : Int) ≤ 12) = false := by simpa using c2
    rw [RH]
    simp
   have q' := q H (ah.refl H)
   rw [e] at q'
   exact q'
 ·have e : gn x = false := by
   unfold gn
   have c1' : decide ((1 : Int) ≤ x.length) = false := by simpa using c1
   rw [c1']
   simp
  have q' := q H (ah.refl H)
  rw [e] at q'
  exact ⟨_, rfl, bb q'⟩
theorem sq : ax ["text"] ["text"] (ao gL) := ⟨rfl, rfl, rfl, by decide +kernel, rfl, by decide +kernel, by decide +kernel⟩
theorem sr {u1 : aad} (F : bw K "is_small_word" "is_small_word" gL f fd) (dA : br P w K mg base "is_name" 2 ["text"] (xy gn))
  (AA : mg "SMALL" = some u1) (AB : RelV (.str dI) u1) : a4 P w K mg base da 3 f fd ["text"] (xy i7) := by
 refine F.ok sq (fun vs H Q E h => ?_) (fun cb A outer s H vs Q E hr h => ?_)
 ·obtain ⟨c, rfl, _⟩ := h
  rfl
 obtain ⟨x, rfl, hx, q⟩ := h
 refine ⟨_, (ai (aC (rF (ak dA (hr.mono (by decide)) rfl (aa (pv 0) ab)) (rE (dF eS (aq fN (pv 0) af (fun _ _ => rfl)) (de rfl AA AB) (by with_unfolding_all rfl)))))), ?_⟩
 refine ⟨_, rfl, x, rfl, hx, fun H' sm => ⟨_, rfl, ?_⟩⟩
 have q' := q H' sm
 unfold i7 at q'
 refine mL (fun c => ?_) (fun c => ?_)
 ·refine ⟨_, rfl, x, 0, _, rfl, rfl, sz (by omega), Ac (JF c), _, _, rfl, rfl, ?_⟩
  rw [abE]
  rw [c, Bool.true_and] at q'
  exact q'
 ·have e : gn x = false := by simpa using c
  rw [e, adY] at q'
  exact q'
theorem nY : ax ["text", "start", "end"] ["text", "start"] (ao pX) := ⟨rfl, rfl, rfl, by decide +kernel, rfl, by decide +kernel, by decide +kernel⟩
theorem DK (F : bw K "name_end" "name_end" pX f fd) (cV : br P w K mg base "is_name_sign" 1 ["sign"] Ad) (aX : mg "len" = none) : a4 P w K mg base da 2 f fd ["text", "start"] JG := by
 refine F.ok nY (fun vs H Q E h => ?_) (fun cb A outer s H vs Q E hr h => ?_)
 ·obtain ⟨x, p, rfl, _⟩ := h
  rfl
 obtain ⟨x, p, rfl, hx, hp, q⟩ := h
 have hl := mX x
 refine ⟨_, (ag (aw (i := 2) nY.nd rfl (aaM rfl) (pv 1))
 (ag (qm aaP (PW.pt (zS (ay Gz (pv 2) (aM d3 rfl aX aaI (aa (pv 0) ab)) (aL _)) (uJ (cR (ak cV (hr.mono (by decide)) rfl (aa (aq fN (pv 0) (pv 2) (fun _ _ => rfl)) ab))))))
 (ai (zT (i := 2) nY.nd rfl (aaM rfl) af zU)))
 (ai (aC (pv 2))))), ?_⟩
 refine ⟨_, rfl, fun m σ H' => H' = H ∧ ∃ j : Nat, m = x.length - (p + j) ∧ σ = [some (.str x), some (.int p), some (.int ((p + j : Nat) : Int))] ∧ p + j ≤ x.length ∧ bJ (x.cps.toList.drop p) = j + bJ (x.cps.toList.drop (p + j)), ⟨_, rfl, 0, rfl, rfl, hp, by simp⟩, ?_⟩
 rintro m σ H' ⟨rfl, j, rfl, rfl, hj, e⟩
 refine ⟨_, rfl, _, rfl, x, rfl, sz (by omega), _, _, rfl, rfl, _, rfl, ?_⟩
 refine mL (fun c => ?_) (fun c => ?_)
 ·have c' : p + j < x.length := by
   have z := of_decide_eq_true c
   omega
  have hd : x.cps.toList.drop (p + j) = x.cps.toList.getD (p + j) 0 :: x.cps.toList.drop (p + j + 1) := C9 (by omega)
  rw [hd, Ae] at e
  refine ⟨_, rfl, _, rfl, x, _, _, rfl, rfl, sz (by omega), vA (by omega) (by omega), _, rfl, _, rfl, ?_⟩
  rw [show ((p + j : Nat) : Int).toNat = p + j by omega]
  refine mL (fun c2 => ?_) (fun c2 => ?_)
  ·rw [if_pos c2] at e
   refine ⟨fun σ' H2 => H2 = H' ∧ σ' = [some (.str x), some (.int p), some (.int ((p + (j + 1) : Nat) : Int))], fun σ' H2 z => ⟨x.length - (p + (j + 1)), by omega, z.1, j + 1, rfl, z.2, by omega, by rw [← Nat.add_assoc]; omega⟩, ?_⟩
   refine ⟨_, rfl, _, _, rfl, rfl, rfl, ?_⟩
   show [some (V.str x), some (V.int p), some (V.int (((p + j : Nat) : Int) + 1))] = _
   rw [show ((p + (j + 1) : Nat) : Int) = ((p + j : Nat) : Int) + 1 by omega]
  ·rw [if_neg c2] at e
   refine ⟨_, rfl, ?_⟩
   rw [e] at q
   exact q
 ·have c' : ¬ (p + j < x.length) := fun z => c (decide_eq_true (by omega))
  have hd : x.cps.toList.drop (p + j) = [] := acF (by omega)
  rw [hd] at e
  refine bb ⟨_, rfl, ?_⟩
  rw [e] at q
  exact q
theorem fU : ax ["text", "marks", "found", "place", "end", "sign"] ["text", "marks"] (ao we) := ⟨rfl, rfl, rfl, by decide +kernel, rfl, by decide +kernel, by decide +kernel⟩
theorem Ie (F : bw K "pieces" "pieces" we f fd) (p7 : br P w K mg base "name_end" 2 ["text", "start"] JG) (aX : mg "len" = none) : a4 P w K mg base da 3 f fd ["text", "marks"] vB := by
 refine F.ok fU (fun vs H Q E h => ?_) (fun cb A outer s H vs Q E hr h => ?_)
 ·obtain ⟨x, m, rfl, _⟩ := h
  rfl
 obtain ⟨x, mk, rfl, hx, V8, hok, q⟩ := h
 have hl := mX x
 refine ⟨_, (ag (aw (i := 2) fU.nd rfl (aaM rfl) (a7 ab))
 (ag (aw (i := 3) fU.nd rfl (aaM rfl) af)
 (ag (qm aaP (ay Gz (pv 3) (aM d3 rfl aX aaI (aa (pv 0) ab)) (aL _))
 (ag (aw (i := 4) fU.nd rfl (aaM rfl) (ak p7 (hr.mono (by decide)) rfl (aa (pv 0) (aa (pv 3) ab))))
 (ag (aV (ay yS (pv 4) (pv 3) (aL _))
 (ag (bf (bo aaD aaE aaG bh (pv 2) (aa (cf kh (pv 0) (b7 (pv 3)) (b7 (pv 4))) ab)))
 (ag (aw (i := 3) fU.nd rfl (aaM rfl) (pv 4))
 (ai CT)))
 aE)
 (ag (aw (i := 5) fU.nd rfl (aaM rfl) (aq fN (pv 0) (pv 3) (fun _ _ => rfl)))
 (ag (aV (ay eS (pv 5) (pv 1) (by with_unfolding_all rfl))
 (ai (bf (bo aaD aaE aaG bh (pv 2) (aa (pv 5) ab))))
 (ai (aV (ay fJ (pv 5) ar (aL _))
 bg
 aE)))
 (ai (zT (i := 3) fU.nd rfl (aaM rfl) af zU)))))))
 (ai (aC (pv 2)))))), ?_⟩
 refine ⟨(by show 0 ≤ aai; decide), fun l Ks => ?_⟩
 refine ⟨GS x mk l H, ⟨_, 0, [], none, none, rfl, rfl, abm _, aj Ks _, ae, rfl⟩, ?_⟩
 rintro m σ H' ⟨p, done, o3, o4, rfl, rfl, hp, sm, hL, e⟩
 have hlen : done.length ≤ 20000 := by
  have z := congrArg ac0 e
  rw [aac] at z
  have z2 := Dd x.cps.toList
  omega
 refine ⟨_, rfl, _, rfl, x, rfl, sz (by omega), _, _, rfl, rfl, _, rfl, ?_⟩
 refine mL (fun c => ?_) (fun c => ?_)
 ·have c' : p < x.length := by
   have z := of_decide_eq_true c
   omega
  refine ⟨fun σ' H2 => ∃ m', m' < x.length - p ∧ GS x mk l H m' σ' H2, fun σ' H2 z => z, ?_⟩
  refine ⟨_, rfl, _, rfl, x, p, rfl, hx, hp, ?_⟩
  refine ⟨_, rfl, _, rfl, _, _, rfl, rfl, _, rfl, ?_⟩
  have hd := C9 (l := x.cps.toList) (i := p) (by omega)
  have Zb := E8 (x.cps.toList.drop p)
  rw [abf] at Zb
  refine mL (fun c2 => ?_) (fun c2 => ?_)
  ·have RH : 0 < bJ (x.cps.toList.drop p) := by
    have z := of_decide_eq_true c2
    omega
   refine ⟨_, rfl, .inl ⟨rfl, _, aH.of hL⟩, _, rfl, _, rfl, _, rfl, _, rfl, _, rfl, x, rfl, sz (by omega), ?_⟩
   rw [Af (by omega)]
   refine ⟨l, _, _, rfl, rfl, hL, (by rw [Lm9]; exact kl (by omega)), ?_⟩
   refine ⟨_, rfl, x.length - (p + bJ (x.cps.toList.drop p)), by omega, p + bJ (x.cps.toList.drop p), done ++ [(x.cps.toList.drop p).take (bJ (x.cps.toList.drop p))], _, _, rfl, rfl, by omega, ah.aQ sm Ks _, ?_, ?_⟩
   ·rw [ae, aan]
    rfl
   ·rw [vy (by omega), acN] at e
    rw [aaQ]
    exact e
  ·have RH : bJ (x.cps.toList.drop p) = 0 := by
    have z : ¬ ((p : Int) < ((p + bJ (x.cps.toList.drop p) : Nat) : Int)) := fun z => c2 (decide_eq_true z)
    omega
   have HM : aZ (x.cps.toList.getD p 0) = false := by
    rw [hd] at RH
    exact Aa RH
   have UG : m5 mk (x.cps.toList.getD p 0) = true := by
    rw [aaS] at hok
    exact hok _ (abn (getD_get (by omega)))
   refine ⟨_, rfl, _, rfl, x, p, _, rfl, rfl, sz (by omega), vA (by omega) (by omega), ?_⟩
   rw [show ((p : Nat) : Int).toNat = p by omega]
   refine ⟨_, rfl, _, rfl, _, _, rfl, rfl, _, rfl, ?_⟩
   rw [abE]
   rw [hd] at e
   refine mL (fun c3 => ?_) (fun c3 => ?_)
   ·have hb : x.cps.toList.getD p 0 ≠ 32 := fun z => V8 (by have := of_decide_eq_true c3; rw [z] at this; exact this)
    rw [pT HM hb] at e
    refine ⟨_, rfl, .inl ⟨rfl, _, aH.of hL⟩, _, rfl, l, _, _, rfl, rfl, hL, (by rw [Lm9]; exact kl (by omega)), ?_⟩
    refine ⟨_, rfl, _, _, rfl, rfl, x.length - (p + 1), by omega, p + 1, done ++ [[x.cps.toList.getD p 0]], _, _, rfl, rfl, by omega, ah.aQ sm Ks _, ?_, ?_⟩
    ·rw [ae, aan]
     rfl
    ·rw [aaQ]
     exact e
   ·have hb : x.cps.toList.getD p 0 = 32 := by
     unfold m5 at UG
     rw [HM, aeo] at UG
     have c3' : decide (x.cps.toList.getD p 0 ∈ mk.cps.toList) = false := by simpa using c3
     rw [c3', aeo] at UG
     exact eq_of_beq UG
    rw [hb] at e ⊢
    rw [dJ] at e
    refine ⟨_, rfl, rfl, _, rfl, ?_⟩
    have z : decide (V.str ⟨#[32]⟩ = V.str (aab " ")) = true := by decide +kernel
    rw [z]
    refine bb ?_
    exact ⟨_, rfl, _, _, rfl, rfl, x.length - (p + 1), by omega, p + 1, done, _, _, rfl, rfl, by omega, sm, hL, e⟩
 ·have c' : p = x.length := by
   have z : ¬ ((p : Int) < (x.length : Int)) := fun z => c (decide_eq_true z)
   omega
  have hd : x.cps.toList.drop p = [] := acF (by omega)
  rw [hd] at e
  have e' : done = toks x.cps.toList := by
   rw [← e]
   show done = done ++ []
   rw [aaU]
  rw [e'] at hL
  exact ⟨_, rfl, q l H' sm Ks hL⟩
theorem DL : ax ["found", "place"] ["found", "place"] (ao pY) := ⟨rfl, rfl, rfl, by decide +kernel, rfl, by decide +kernel, by decide +kernel⟩
theorem DM (F : bw K "piece_at" "piece_at" pY f fd) (aX : mg "len" = none) : a4 P w K mg base da 1 f fd ["found", "place"] qH := by
 refine F.ok DL (fun vs H Q E h => ?_) (fun cb A outer s H vs Q E hr h => ?_)
 ·obtain ⟨l, ps, p, rfl, _⟩ := h
  rfl
 obtain ⟨l, ps, p, rfl, hL, hz, q⟩ := h
 refine ⟨_, (ag (aV (ay Gz (pv 1) (aM aF rfl aX aaI (aa (pv 0) ab)) (aL _))
 (ai (aC (aq aG (pv 0) (pv 1) (fun _ _ => rfl))))
 aE)
 (ai (aC ar))), ?_⟩
 refine ⟨_, rfl, _, rfl, l, _, rfl, .inl (aH.of hL), _, _, rfl, rfl, _, rfl, ?_⟩
 refine mL (fun c => ?_) (fun c => ?_)
 ·have c' : p < ps.length := by
   have z := of_decide_eq_true c
   rw [Lm9] at z
   omega
  refine ⟨_, rfl, _, rfl, l, _, _, tx (ps.getD p []), rfl, rfl, aH.of hL, ?_, q⟩
  refine bU ?_
  rw [aa2, Gd9, Ge9 c']
  rfl
 ·have c' : ps.length ≤ p := by
   have z : ¬ ((p : Int) < (((ps.map tx).length : Nat) : Int)) := fun z => c (decide_eq_true z)
   rw [Lm9] at z
   omega
  have e : ps.getD p [] = [] := by
   rw [Gd9, List.getElem?_eq_none c']
   rfl
  rw [e] at q
  exact q
theorem du : ax ["found", "place", "names", "name", "mark"] ["found", "place"] (ao ir) := ⟨rfl, rfl, rfl, by decide +kernel, rfl, by decide +kernel, by decide +kernel⟩
theorem uq (F : bw K "arguments_at" "arguments_at" ir f fd) (bI : br P w K mg base "piece_at" 1 ["found", "place"] qH) (dA : br P w K mg base "is_name" 2 ["text"] (xy gn)) (AF : mg "tuple" = none) :
  a4 P w K mg base da 3 f fd ["found", "place"] E7 := by
 refine F.ok du (fun vs H Q E h => ?_) (fun cb A outer s H vs Q E hr h => ?_)
 ·obtain ⟨l, ps, p, n, as, rfl, _⟩ := h
  rfl
 obtain ⟨l, ps, p, n, as, rfl, hL, hz, alt, q⟩ := h
 refine ⟨_, (ag (aw (i := 2) du.nd rfl (aaM rfl) (a7 ab))
 (ag (aV (ay cS (ak bI (hr.mono (by decide)) rfl (aa (pv 0) (aa (pv 1) ab))) ar (aL _))
 (ai (aC (cT (aa (cT ab) (aa (av cj (pv 1) af) ab)))))
 aE)
 (ai (qm aaP (cR c7)
 (ag (aw (i := 3) du.nd rfl (aaM rfl) (ak bI (hr.mono (by decide)) rfl (aa (pv 0) (aa (pv 1) ab))))
 (ag (aV (iZ (cR (ak dA (hr.mono (by decide)) rfl (aa (pv 3) ab))))
 bg
 aE)
 (ag (bf (bo aaD aaE aaG bh (pv 2) (aa (pv 3) ab)))
 (ag (aw (i := 4) du.nd rfl (aaM rfl) (ak bI (hr.mono (by decide)) rfl (aa (pv 0) (aa (av cj (pv 1) af) ab))))
 (ag (zT (i := 1) du.nd rfl (aaM rfl) af zU)
 (ag (aV (ay cS (pv 4) ar (aL _))
 (ai (aC (cT (aa (dY pI rfl AF PyProof.Rows.Boot.«tuple» (aa (pv 2) ab)) (aa (pv 1) ab)))))
 aE)
 (ai (aV (ay fJ (pv 4) ar (aL _))
 bg
 aE)))))))))))), ?_⟩
 refine ⟨(by show 0 ≤ aai; decide), fun ln UH => ?_⟩
 have Zc : l ≠ ln := fun z => by rw [z, UH] at hL; cases hL
 have rQ : upd H ln (.lst []) l = some (.lst (ps.map tx)) := by rw [aA Zc]; exact hL
 refine ⟨_, rfl, _, rfl, l, ps, p, rfl, rQ, hz, rfl, _, rfl, ?_⟩
 rcases alt with ⟨rfl, rfl, e41⟩ | ⟨V9, ha⟩
 ·rw [e41]
  have z : decide (tx [41] = V.str (aab ")")) = true := by decide +kernel
  rw [z]
  refine dq ⟨(by show 0 ≤ aai; decide), fun t2 uX => ?_⟩
  refine ⟨_, rfl, _, _, rfl, rfl, (by show 2 ≤ aai; decide), fun t ht => ?_⟩
  have Wa : t2 ≠ t := fun z => by rw [← z, ae] at ht; cases ht
  refine q t t2 _ (ah.trans (aj UH _) (ah.trans (aj uX _) (aj ht _))) ae ?_
  rw [aA Wa]
  exact ae
 ·have z : decide (tx (ps.getD p []) = V.str (aab ")")) = false := JH (b := [41]) V9
  rw [z]
  refine bb ?_
  refine ⟨Nb l ln ps as (p + n) H, ⟨_, p, n, [], as, none, none, rfl, rfl, aj UH _, rQ, ae, ha, rfl, rfl, by rw [abf]; simp; omega⟩, ?_⟩
  rintro m σ H' ⟨p', n', done, as', o3, o4, rfl, rfl, sm, hL', hN', ha', ed, ep, hdl⟩
  obtain ⟨nm, mk, r, er, qW, Wb⟩ := HJ ha'
  have g0 : ps.getD p' [] = nm := by
   have z := hV (l := ps) (p := p') (i := 0)
   rw [er] at z
   exact z.symm
  have g1 : ps.getD (p' + 1) [] = mk := by
   have z := hV (l := ps) (p := p') (i := 1)
   rw [er] at z
   exact z.symm
  have Ig : ps.drop (p' + 2) = r := by
   rw [← acN, er]
   rfl
  have tN : (ps.drop p').length = r.length + 2 := by rw [er]; rfl
  refine ⟨_, rfl, ?_⟩
  refine dq ⟨fun σ' H2 => ∃ m', m' < (ps.drop p').length ∧ Nb l ln ps as (p + n) H m' σ' H2, fun σ' H2 z => z, ?_⟩
  refine ⟨_, rfl, _, rfl, l, ps, p', rfl, hL', hz, ?_⟩
  rw [g0]
  have Zb : nm.length ≤ 12 := by
   unfold aB at qW
   simp only [aaN, decide_eq_true_eq] at qW
   exact qW.2.1
  refine ⟨_, rfl, S nm, rfl, by rw [aD]; omega, fun H2 xE => ⟨_, rfl, ?_⟩⟩
  rw [qG, qW]
  refine bb ?_
  have Kl := xE _ _ hN'
  have wj := xE _ _ hL'
  refine ⟨_, rfl, .inl ⟨rfl, _, aH.of Kl⟩, _, rfl, ln, _, _, rfl, rfl, Kl, (by rw [Lm9]; exact kl (by omega)), ?_⟩
  have Nl : upd H2 ln (.lst (done.map tx ++ [tx nm])) l = some (.lst (ps.map tx)) := by rw [aA Zc]; exact wj
  refine ⟨_, rfl, _, rfl, _, _, rfl, rfl, l, ps, p' + 1, rfl, Nl, hz, ?_⟩
  rw [g1]
  refine ⟨_, rfl, _, _, rfl, rfl, ?_⟩
  have RI : ah H (upd H2 ln (.lst (done.map tx ++ [tx nm]))) := ah.aQ (ah.trans sm xE) UH _
  refine ⟨_, rfl, rfl, _, rfl, ?_⟩
  rcases Wb with ⟨rfl, rfl, rfl⟩ | ⟨rfl, as2, n2, ha2, rfl, rfl⟩
  ·have z : decide (tx [41] = V.str (aab ")")) = true := by decide +kernel
   rw [z]
   refine dq ⟨_, rfl, ln, _, rfl, .inl ⟨aH.of ae, fun t2 uX => ?_⟩⟩
   refine ⟨_, rfl, (by show 2 ≤ aai; decide), fun t ht => ?_⟩
   have Wa : t2 ≠ t := fun z => by rw [← z, ae] at ht; cases ht
   refine q t t2 _ (ah.trans RI (ah.trans (aj uX _) (aj ht _))) ?_ ?_
   ·rw [ae, ← ep]
    rfl
   ·rw [aA Wa, ae, ← ed, aan]
    rfl
  ·have z : decide (tx [44] = V.str (aab ")")) = false := by decide +kernel
   rw [z]
   refine bb ?_
   have z2 : decide (tx [44] = V.str (aab ",")) = true := by decide +kernel
   refine ⟨_, rfl, rfl, _, rfl, ?_⟩
   rw [z2]
   refine bb ?_
   refine ⟨(ps.drop (p' + 2)).length, by rw [Ig, tN]; omega, p' + 2, n2, done ++ [nm], as2, _, _, rfl, rfl, RI, Nl, ?_, by rw [Ig]; exact ha2, by rw [aaQ]; exact ed, by omega, by rw [Ig, aac]; simp only [aag, aa6]; omega⟩
   rw [ae, aan]
   rfl
theorem p8 : ax ["found", "place", "kind", "reading"] ["found", "place"] (ao sk) := ⟨rfl, rfl, rfl, by decide +kernel, rfl, by decide +kernel, by decide +kernel⟩
theorem FH (F : bw K "fact_at" "fact_at" sk f fd) (bI : br P w K mg base "piece_at" 1 ["found", "place"] qH) (bC : br P w K mg base "is_small_word" 3 ["text"] (xy i7)) (iw : br P w K mg base "arguments_at" 3 ["found", "place"] E7) :
  a4 P w K mg base da 4 f fd ["found", "place"] vC := by
 refine F.ok p8 (fun vs H Q E h => ?_) (fun cb A outer s H vs Q E hr h => ?_)
 ·obtain ⟨l, ps, p, n, k, as, rfl, _⟩ := h
  rfl
 obtain ⟨l, ps, p, n, k, as, rfl, hL, hz, hF, q⟩ := h
 refine ⟨_, (ag (aw (i := 2) p8.nd rfl (aaM rfl) (ak bI (hr.mono (by decide)) rfl (aa (pv 0) (aa (pv 1) ab))))
 (ag (aV (iZ (cR (ak bC (hr.mono (by decide)) rfl (aa (pv 2) ab))))
 bg
 aE)
 (ag (aV (ay fJ (ak bI (hr.mono (by decide)) rfl (aa (pv 0) (aa (av cj (pv 1) af) ab))) ar (aL _))
 (ai (aC (cT (aa (cT (aa (pv 2) (aa (cT ab) ab))) (aa (av cj (pv 1) af) ab)))))
 aE)
 (ag (aw (i := 3) p8.nd rfl (aaM rfl) (ak iw (hr.mono (by decide)) rfl (aa (pv 0) (aa (av cj (pv 1) af) ab))))
 (ai (aC (cT (aa (cT (aa (pv 2) (aa (aq aI (pv 3) af (fun _ _ => rfl)) ab))) (aa (aq aI (pv 3) af (fun _ _ => rfl)) ab))))))))), ?_⟩
 have hd : ∃ r, ps.drop p = k :: r ∧ a8 k = true := by
  generalize ps.drop p = l0 at hF
  cases hF with
  | bare hk h => exact ⟨_, rfl, hk⟩
  | empty hk => exact ⟨_, rfl, hk⟩
  | args hk h0 h => exact ⟨_, rfl, hk⟩
 obtain ⟨r0, ed, hk⟩ := hd
 have g0 : ps.getD p [] = k := by
  have z := hV (l := ps) (p := p) (i := 0)
  rw [ed] at z
  exact z.symm
 have Nm : k.length ≤ 12 := by
  unfold a8 aB at hk
  simp only [aaN, decide_eq_true_eq] at hk
  exact hk.1.2.1
 have hkb : i7 (S k) = true := by
  unfold i7
  rw [qG, bq]
  exact hk
 refine ⟨_, rfl, _, rfl, l, ps, p, rfl, hL, hz, ?_⟩
 rw [g0]
 refine ⟨_, rfl, S k, rfl, by rw [aD]; omega, fun H1 s1 => ⟨_, rfl, ?_⟩⟩
 rw [hkb]
 refine bb ?_
 have rQ := s1 _ _ hL
 refine ⟨_, rfl, _, rfl, _, _, rfl, rfl, l, ps, p + 1, rfl, rQ, hz, rfl, _, rfl, ?_⟩
 have g1 : ps.getD (p + 1) [] = r0.getD 0 [] := by
  have z := hV (l := ps) (p := p) (i := 1)
  rw [ed] at z
  exact z.symm
 rw [g1]
 have full : ∀ (as' : List (List Nat)) (n' : Nat), r0.getD 0 [] = [40] → n = n' + 2 → as = as' → ((as' = [] ∧ n' = 1 ∧ ps.getD (p + 2) [] = [41]) ∨ (ps.getD (p + 2) [] ≠ [41] ∧ gW (ps.drop (p + 2)) = some (as', n'))) → True := fun _ _ _ _ _ _ => trivial
 by_cases RJ : r0.getD 0 [] = [40]
 ·rw [RJ]
  have z : decide (tx [40] = V.str (aab "(")) = true := by decide +kernel
  rw [z]
  refine bb ?_
  have key : ∃ n', n = n' + 2 ∧ ((as = [] ∧ n' = 1 ∧ ps.getD (p + 2) [] = [41]) ∨ (ps.getD (p + 2) [] ≠ [41] ∧ gW (ps.drop (p + 2)) = some (as, n'))) := by
   have g2 : ∀ r1, ps.drop p = k :: [40] :: r1 → ps.getD (p + 2) [] = r1.getD 0 [] ∧ ps.drop (p + 2) = r1 := fun r1 e => by
    refine ⟨?_, ?_⟩
    ·have z := hV (l := ps) (p := p) (i := 2)
     rw [e] at z
     exact z.symm
    ·rw [← acN, e]
     rfl
   rw [ed] at hF g2
   cases hF with
   | bare hk' h => exact absurd RJ h
   | @empty _ r hk' =>
    obtain ⟨a1, a2⟩ := g2 _ rfl
    exact ⟨1, rfl, .inl ⟨rfl, rfl, a1⟩⟩
   | @args _ r _ n' hk' h0 h =>
    obtain ⟨a1, a2⟩ := g2 _ rfl
    exact ⟨n', rfl, .inr ⟨by rw [a1]; exact h0, by rw [a2]; exact h⟩⟩
  obtain ⟨n', en, alt⟩ := key
  refine ⟨_, rfl, _, rfl, _, _, rfl, rfl, l, ps, p + 2, n', as, rfl, rQ, hz, alt, fun t t2 H2 s2 ht uX => ?_⟩
  refine ⟨_, rfl, _, rfl, t, _, 0, .ref t2, rfl, rfl, cK.of ht, rfl, (by show 2 ≤ aai; decide), fun t1 AG => ?_⟩
  have Pf := aj AG (.tup [tx k, .ref t2])
  refine ⟨_, rfl, t, _, 1, _, rfl, rfl, cK.of (Pf _ _ ht), rfl, (by show 2 ≤ aai; decide), fun t0 MC => ?_⟩
  have RK : t1 ≠ t0 := fun z => by rw [← z, ae] at MC; cases MC
  refine q t0 t1 t2 _ (ah.trans s1 (ah.trans s2 (ah.trans Pf (aj MC _)))) ?_ ?_ ((aj MC _) _ _ (Pf _ _ uX))
  ·rw [ae, en, show p + 2 + n' = p + (n' + 2) by omega]
  ·rw [aA RK]
   exact ae
 ·have z : decide (tx (r0.getD 0 []) = V.str (aab "(")) = false := JH (b := [40]) RJ
  rw [z]
  have key : as = [] ∧ n = 1 := by
   rw [ed] at hF
   cases hF with
   | bare hk' h => exact ⟨rfl, rfl⟩
   | empty hk' => exact absurd rfl RJ
   | args hk' h0 h => exact absurd rfl RJ
  obtain ⟨rfl, rfl⟩ := key
  refine dq ⟨_, rfl, (by show 0 ≤ aai; decide), fun t2 uX => ?_⟩
  refine ⟨(by show 2 ≤ aai; decide), fun t1 AG => ?_⟩
  refine ⟨_, rfl, _, _, rfl, rfl, (by show 2 ≤ aai; decide), fun t0 MC => ?_⟩
  have RK : t1 ≠ t0 := fun z => by rw [← z, ae] at MC; cases MC
  refine q t0 t1 t2 _ (ah.trans s1 (ah.trans (aj uX _) (ah.trans (aj AG _) (aj MC _)))) ae ?_ ((aj MC _) _ _ ((aj AG _) _ _ ae))
  rw [aA RK]
  exact ae
theorem cH : ax ["found", "facts", "place", "reading"] ["found"] (ao ip) := ⟨rfl, rfl, rfl, by decide +kernel, rfl, by decide +kernel, by decide +kernel⟩
theorem uu (F : bw K "row_of_facts" "row_of_facts" ip f fd) (su : br P w K mg base "fact_at" 4 ["found", "place"] vC) (aX : mg "len" = none) : a4 P w K mg base da 5 f fd ["found"] (JI K) := by
 refine F.ok cH (fun vs H Q E h => ?_) (fun cb A outer s H vs Q E hr h => ?_)
 ·obtain ⟨l, ps, fs, rfl, _⟩ := h
  rfl
 obtain ⟨l, ps, fs, rfl, hL, hz, hR, q⟩ := h
 refine ⟨_, (ag (aw (i := 1) cH.nd rfl (aaM rfl) (a7 ab))
 (ag (aw (i := 2) cH.nd rfl (aaM rfl) af)
 (ai (qm aaP (cR c7)
 (ag (aw (i := 3) cH.nd rfl (aaM rfl) (ak su (hr.mono (by decide)) rfl (aa (pv 0) (aa (pv 2) ab))))
 (ag (bf (bo aaD aaE aaG bh (pv 1) (aa (aq aI (pv 3) af (fun _ _ => rfl)) ab)))
 (ag (aw (i := 2) cH.nd rfl (aaM rfl) (aq aI (pv 3) af (fun _ _ => rfl)))
 (ag (aV (ay cS (pv 2) (aM aF rfl aX aaI (aa (pv 0) ab)) (aL _))
 (ai (aC (pv 1)))
 aE)
 (ag (aV (ay fJ (aq aG (pv 0) (pv 2) (fun _ _ => rfl)) ar (aL _))
 bg
 aE)
 (ai (zT (i := 2) cH.nd rfl (aaM rfl) af zU))))))))))), ?_⟩
 refine ⟨(by show 0 ≤ aai; decide), fun lf UI => ?_⟩
 have hne : l ≠ lf := aN hL UI
 refine ⟨Ru K l lf ps fs H, ⟨_, 0, [], fs, [], none, rfl, rfl, aj UI _, by rw [aA hne]; exact hL, ae, .nil, by rw [acM]; exact hR, rfl, by rw [acM]; simpa using hz⟩, ?_⟩
 rintro m σ H' ⟨p, done, rest, us, o3, rfl, rfl, sm, hL', hf', pr, hr', ed, hdl⟩
 obtain ⟨f1, n, fs', rfl, hF, alt⟩ := hr'.head
 refine ⟨_, rfl, dq ⟨fun σ' H2 => ∃ m', m' < (ps.drop p).length ∧ Ru K l lf ps fs H m' σ' H2, fun σ' H2 z => z, ?_⟩⟩
 refine ⟨_, rfl, _, rfl, l, ps, p, n, f1.k, f1.as, rfl, hL', hz, hF, fun t t1 t2 H2 s2 ht AG uX => ?_⟩
 have UJ := s2 _ _ hf'
 have wj := s2 _ _ hL'
 have hlen : us.length ≤ 20000 := by
  have z := pr.length
  omega
 refine ⟨_, rfl, .inl ⟨rfl, _, aH.of UJ⟩, _, rfl, t, _, 0, _, rfl, rfl, cK.of ht, rfl, lf, _, _, rfl, rfl, UJ, kl (by omega), ?_⟩
 have htn : t ≠ lf := CQ ht UJ (by intro z; cases z)
 have kp : Kp (upd H lf (.lst [])) H2 (upd H2 lf (.lst (us ++ [V.ref t1]))) := Kp.upd ae UJ (by intro xs z; cases z) (by intro o u z; cases z)
 have Zd : Paired (Fact K (upd H2 lf (.lst (us ++ [V.ref t1])))) (done ++ [f1]) (us ++ [V.ref t1]) := by
  refine (L2.Paired.d8 pr fun a b z => Fact.keep kp (Fact.keep (H0 := H) (Kp.same s2) z)).snoc ?_
  exact Fact.keep kp ⟨t1, t2, rfl, cK.of AG, cK.of uX⟩
 have Nl : upd H2 lf (.lst (us ++ [V.ref t1])) l = some (.lst (ps.map tx)) := by rw [aA hne]; exact wj
 have RI : ah H (upd H2 lf (.lst (us ++ [V.ref t1]))) := ah.aQ (ah.trans sm s2) UI _
 refine ⟨_, rfl, t, _, 1, _, rfl, rfl, cK.of (by rw [aA htn]; exact ht), rfl, ?_⟩
 refine ⟨_, rfl, _, rfl, l, _, rfl, .inl (aH.of Nl), rfl, _, rfl, ?_⟩
 rw [Lm9]
 have hdr : (ps.drop p).length = ps.length - p := abf ..
 rcases alt with ⟨en, rfl⟩ | ⟨hn, UB, hR'⟩
 ·have z : decide (V.int ((p + n : Nat) : Int) = V.int (ps.length : Int)) = true := by
   refine decide_eq_true ?_
   have : 1 ≤ (ps.drop p).length := hr'.pos
   rw [show p + n = ps.length by omega]
  rw [z]
  refine dq ⟨_, rfl, q _ _ RI ⟨lf, _, rfl, UI, ae, ?_⟩⟩
  rw [← ed]
  exact Zd
 ·have z : decide (V.int ((p + n : Nat) : Int) = V.int (ps.length : Int)) = false := by
   refine decide_eq_false fun z => ?_
   have z' : ((p + n : Nat) : Int) = (ps.length : Int) := by injection z
   omega
  rw [z]
  refine bb ?_
  have g : ps.getD (p + n) [] = [44] := by
   have z := hV (l := ps) (p := p) (i := n)
   rw [← z]
   exact UB
  refine ⟨_, rfl, _, rfl, l, _, _, tx [44], rfl, rfl, aH.of Nl, ?_, rfl, _, rfl, ?_⟩
  ·refine bU ?_
   rw [aa2, Ge9 (by omega)]
   rw [Gd9, Ge9 (by omega)] at g
   exact congrArg (fun z => some (tx z)) g
  ·have z2 : decide (tx [44] = V.str (aab ",")) = true := by decide +kernel
   rw [z2]
   refine bb ⟨_, rfl, _, _, rfl, rfl, (ps.drop (p + n + 1)).length, ?_, p + n + 1, done ++ [f1], fs', _, _, rfl, rfl, RI, Nl, ae, Zd, ?_, by rw [aaQ]; exact ed, ?_⟩
   ·rw [abf, abf]; omega
   ·rw [show p + n + 1 = p + (n + 1) by omega, ← acN]; exact hR'
   ·rw [aac, abf]; simp only [aag, aa6]; omega
end
end iS
namespace iS
open PySem L2 cM Bk
set_option maxHeartbeats 4000000
section
variable {P : aaL} {w : aa9} {K : aaa} {mg : Str → Option aad} {base : Heap} {f : aaC} {fd : abd} {c : Cl}
theorem wm : ax ["line", "bare"] ["line"] (ao so) := ⟨rfl, rfl, rfl, by decide +kernel, rfl, by decide +kernel, by decide +kernel⟩
theorem FI (F : bw K "is_told" "is_told" so f fd) : a4 P w K mg base da 1 f fd ["line"] E9 := by
 refine F.ok wm (fun vs H Q E h => ?_) (fun cb A outer s H vs Q E hr h => ?_)
 ·obtain ⟨p, rfl, _⟩ := h
  rfl
 obtain ⟨p, rfl, hx, q⟩ := h
 refine ⟨_, (ag (aw (i := 1) wm.nd rfl (aaM rfl) (bo aaw PySem.F.slot_str_strip PySem.F.type_str_strip Jw (pv 0) (aa ar ab)))
 (ai (aC (rF (dF fJ (pv 1) ar (aL _)) (rE (dF fJ (aq fN (pv 1) af (fun _ _ => rfl)) ar (aL _))))))), ?_⟩
 obtain ⟨b, eb, hb, eh⟩ := JK p
 refine ⟨_, rfl, rfl, _, _, rfl, rfl, (by rw [aD]; exact sz (by omega)), ?_⟩
 rw [eb]
 unfold told at q
 refine ⟨_, rfl, rfl, _, rfl, ?_⟩
 have e0 : (aab "") = S [] := by decide +kernel
 rw [e0]
 cases hd : p.dropWhile (· == 32) with
 | nil =>
  rw [hd] at eh q
  have hb0 : b = [] := by
   cases b with
   | nil => rfl
   | cons x r => cases eh
  subst hb0
  rw [decide_eq_true rfl]
  exact bb q
 | cons x r =>
  rw [hd] at eh q
  obtain ⟨b', rfl⟩ : ∃ b', b = x :: b' := by
   cases b with
   | nil => cases eh
   | cons y r' => exact ⟨r', by rw [aa4 eh]⟩
  have e1 : decide (V.str (S (x :: b')) = V.str (S [])) = false := JH (a := x :: b') (b := []) (by simp)
  rw [e1]
  refine dq ⟨_, rfl, S (x :: b'), 0, x, rfl, rfl, (by rw [aD]; exact sz (by omega)), ?_, rfl, ?_⟩
  ·rw [bq]
   exact bU (j := 0) rfl
  ·have e2 : decide (V.str ⟨#[x]⟩ = V.str (aab "#")) = (x == 35) := by
    have e3 : (aab "#") = S [35] := by decide +kernel
    rw [e3]
    have e4 := Ab [x] [35]
    show decide (tx [x] = tx [35]) = _
    rw [e4]
    simp [adQ]
   rw [e2]
   exact q
theorem xF : ax ["text"] ["text"] (ao kE) := ⟨rfl, rfl, rfl, by decide +kernel, rfl, by decide +kernel, by decide +kernel⟩
theorem xG (F : bw K "told_lines" "told_lines" kE f fd) (sv : br P w K mg base "is_told" 1 ["line"] E9) : a4 P w K mg base da 2 f fd ["text"] Ag := by
 refine F.ok xF (fun vs H Q E h => ?_) (fun cb A outer s H vs Q E hr h => ?_)
 ·obtain ⟨ls, rfl, _⟩ := h
  rfl
 obtain ⟨ls, rfl, h0, hN, hx, q⟩ := h
 refine ⟨_, (ai (aC (bA [] rfl (by kernel_rfl) (aW (bo aaw ab8 PySem.F.type_str_split Jv (pv 0) (aa ar ab))) (fun _ _ _ _ _ => (qx (cR (ak sv (hr.mono (by decide)) rfl (aa (pv 0) ab))))) (fun _ _ _ _ _ => (pv 0))))), ?_⟩
 have RL := zc ls
 refine ⟨_, rfl, rfl, _, _, rfl, rfl, rfl, (by rw [aD]; exact sz (by omega)), ?_⟩
 rw [Dh h0 hN]
 refine ⟨(by rw [Lm9]; exact sz (by omega)), fun l hl => ⟨l, rfl, ⟨_, aH.of ae⟩, fun D hD => ?_⟩⟩
 have hDn : H D = none := (aj hl _).free hD
 refine LX (K := K) (xs := (ls.map S).map V.str) (by rw [Lm9, Lm9]; exact kl (by omega)) hD (aH.of ae) (fun v => match v with | .str x => told x.cps.toList | _ => false) id (fun x H' R hm sm hR => ?_) (fun x H' R hm hk sm hR => ?_) (fun H' sm hL => ?_)
 ·obtain ⟨z, hz, rfl⟩ := aat.mp hm
  obtain ⟨y, hy, rfl⟩ := aat.mp hz
  refine ⟨_, rfl, y, rfl, by have := rT ls y hy; omega, _, rfl, ?_⟩
  have z : R (told (S y).cps.toList) H' := hR H' (ah.refl H')
  rw [bq] at z
  exact z
 ·exact ⟨_, rfl, hR H' (ah.refl H')⟩
 ·refine q _ _ (ah.trans (aj hl _) sm) ⟨D, rfl, hDn, ?_⟩
  rw [hL, acs, abA]
  congr 2
  rw [List.filter_map]
  have e : ((fun v => match v with | V.str x => told x.cps.toList | _ => false) ∘ (V.str ∘ S)) = told := by
   funext y
   show told (S y).cps.toList = told y
   rw [bq]
  rw [e]
  rfl
theorem wo : ax ["line"] ["line"] (ao jc) := ⟨rfl, rfl, rfl, by decide +kernel, rfl, by decide +kernel, by decide +kernel⟩
theorem wq {u1 : aad} (F : bw K "line_pieces" "line_pieces" jc f fd) (wt : br P w K mg base "pieces" 3 ["text", "marks"] vB) (AH : mg "LINE_MARKS" = some u1) (AI : RelV (.str cw) u1) : a4 P w K mg base da 4 f fd ["line"] Fb := by
 refine F.ok wo (fun vs H Q E h => ?_) (fun cb A outer s H vs Q E hr h => ?_)
 ·obtain ⟨p, rfl, _⟩ := h
  rfl
 obtain ⟨p, rfl, hx, hok, q⟩ := h
 refine ⟨_, (ai (aC (ak wt (hr.mono (by decide)) rfl (aa (pv 0) (aa (de rfl AH AI) ab))))), ?_⟩
 refine ⟨_, rfl, _, _, rfl, by rw [aD]; exact hx, by decide +kernel, by rw [bq]; exact hok, fun l H' sm hl hL => ?_⟩
 rw [bq] at hL
 exact q _ _ sm ⟨l, rfl, hl, hL⟩
theorem AJ : ax ["found"] ["found"] (ao nG) := ⟨rfl, rfl, rfl, by decide +kernel, rfl, by decide +kernel, by decide +kernel⟩
theorem AK {RM RN : aaC} (F : bw K "read_kind" "read_kind" nG f fd) (bC : br P w K mg base "is_small_word" 3 ["text"] (xy i7)) (aX : mg "len" = none) (Kt : mg "int" = none)
  (AL : mg "KIND_WORDS" = some (.ref RM)) (AM : ∀ H, cK K H RM [tx a5, tx a6]) (Ku : mg "COUNTS" = some (.ref RN)) (Kv : ∀ H, cK K H RN [tx [48], tx [49], tx [50], tx [51], tx [52]]) :
  a4 P w K mg base da 4 f fd ["found"] (Fd K) := by
 have AO : RelV (.ref RM) (.ref RM) := rfl
 have Kw : RelV (.ref RN) (.ref RN) := rfl
 refine F.ok AJ (fun vs H Q E h => ?_) (fun cb A outer s H vs Q E hr h => ?_)
 ·obtain ⟨l, k, rfl, _⟩ := h
  rfl
 obtain ⟨l, ⟨n, c, b⟩, rfl, hL, hn, hc, q⟩ := h
 have hn : a8 n = true := hn
 have hc : c ≤ 4 := hc
 have hL' : H l = some (.lst [tx (if b = true then a6 else a5), tx n, tx [48 + c]]) := hL
 refine ⟨_, (ag (aV (PW.pt (iT (ay fJ (aM aF rfl aX aaI (aa (pv 0) ab)) af (aL _)) (j8 (ay dZ (aq aG (pv 0) af (fun _ _ => rfl)) (de rfl AL AO) (by with_unfolding_all rfl)))))
 bg
 aE)
 (ag (aV (iZ (cR (ak bC (hr.mono (by decide)) rfl (aa (aq aG (pv 0) af (fun _ _ => rfl)) ab))))
 bg
 aE)
 (ag (aV (ay dZ (aq aG (pv 0) af (fun _ _ => rfl)) (de rfl Ku Kw) (by with_unfolding_all rfl))
 bg
 aE)
 (ai (aC (cT (aa (aq aG (pv 0) af (fun _ _ => rfl)) (aa (dY xu rfl Kt PyProof.Rows.Boot.«int» (aa (aq aG (pv 0) af (fun _ _ => rfl)) ab)) (aa (dF cS (aq aG (pv 0) af (fun _ _ => rfl)) ar (aL _)) ab))))))))), ?_⟩
 refine ⟨_, rfl, l, _, rfl, .inl (aH.of hL'), rfl, _, rfl, bb ?_⟩
 refine ⟨_, rfl, l, _, 0, _, rfl, rfl, aH.of hL', rfl, RM, _, rfl, .inr (AM _), rfl, rfl, _, rfl, ?_⟩
 have e1 : Lr (tx (if b = true then a6 else a5)) [tx a5, tx a6] = true := by cases b <;> decide +kernel
 rw [e1]
 refine bb ?_
 refine ⟨_, rfl, l, _, 1, _, rfl, rfl, aH.of hL', rfl, S n, rfl, by have := eQ hn; rw [aD]; omega, fun H1 s1 => ⟨_, rfl, ?_⟩⟩
 rw [Dc, hn]
 refine bb ?_
 have rQ := s1 _ _ hL'
 refine ⟨_, rfl, l, _, 2, _, rfl, rfl, aH.of rQ, rfl, RN, _, rfl, .inr (Kv _), rfl, rfl, _, rfl, ?_⟩
 have e2 : Lr (tx [48 + c]) [tx [48], tx [49], tx [50], tx [51], tx [52]] = true := by
  rcases (by omega : c = 0 ∨ c = 1 ∨ c = 2 ∨ c = 3 ∨ c = 4) with e | e | e | e | e <;> subst e <;> decide +kernel
 rw [e2]
 refine bb ?_
 have e3 : PySem.intText? (S [48 + c]) = some (c : Int) := by
  rcases (by omega : c = 0 ∨ c = 1 ∨ c = 2 ∨ c = 3 ∨ c = 4) with e | e | e | e | e <;> subst e <;> decide +kernel
 refine ⟨_, rfl, l, _, 1, _, rfl, rfl, aH.of rQ, rfl, _, rfl, l, _, 2, _, rfl, rfl, aH.of rQ, rfl, _, _, rfl, e3, (by rw [aD]; show 1 ≤ 640; decide), ?_⟩
 refine ⟨_, rfl, l, _, 0, _, rfl, rfl, aH.of rQ, rfl, rfl, (by show 3 ≤ aai; decide), fun t ht => ?_⟩
 have e4 : decide (tx (if b = true then a6 else a5) = V.str (aab "lasting")) = b := by cases b <;> decide +kernel
 rw [e4]
 exact q _ _ (ah.trans s1 (aj ht _)) ⟨t, rfl, cK.of ae⟩
end
end iS
namespace iS
open PySem L2 cM Bk
set_option maxHeartbeats 4000000
section
variable {P : aaL} {w : aa9} {K : aaa} {mg : Str → Option aad} {base : Heap} {f : aaC} {fd : abd} {c : Cl}
theorem MD {xs : List V} {v : V} : qq (xs ++ [v]) (-1) = some v := by
 unfold qq
 have e : LQ (xs ++ [v]).length (-1) = some xs.length := by
  unfold LQ
  rw [aac, abH, if_neg (by decide)]
  simp
  omega
 rw [e]
 simp
theorem sx : ax ["found", "mark", "rows", "piece"] ["found", "mark"] (ao wg) := ⟨rfl, rfl, rfl, by decide +kernel, rfl, by decide +kernel, by decide +kernel⟩
theorem Ih (F : bw K "parted" "parted" wg f fd) : a4 P w K mg base da 1 f fd ["found", "mark"] m7 := by
 refine F.ok sx (fun vs H Q E h => ?_) (fun cb A outer s H vs Q E hr h => ?_)
 ·obtain ⟨l, ps, m, rfl, _⟩ := h
  rfl
 obtain ⟨l, ps, m, rfl, hL, hz, q⟩ := h
 refine ⟨_, (ag (aw (i := 2) sx.nd rfl (aaM rfl) (a7 (aa (a7 ab) ab)))
 (ag (cL aaP rfl (aW (pv 0)) (bN (i := 3) sx.nd rfl (aaM rfl))
 (ai (aV (ay cS (pv 3) (pv 1) (aL _))
 (ai (bf (bo aaD aaE aaG bh (pv 2) (aa (a7 ab) ab))))
 (ai (bf (bo aaD aaE aaG bh (aq aG (pv 2) (QR Of af) (fun _ _ => rfl)) (aa (pv 3) ab)))))))
 (ai (aC (pv 2))))), ?_⟩
 refine ⟨(by show 0 ≤ aai; decide), fun b0 hb0 => ⟨(by show 1 ≤ aai; decide), fun lr tN => ?_⟩⟩
 have Ze : b0 ≠ lr := fun z => by rw [← z, ae] at tN; cases tN
 have RO : H lr = none := (aj hb0 _).free tN
 have s0 : ah H (upd (upd H b0 (.lst [])) lr (.lst [V.ref b0])) := ah.trans (aj hb0 _) (aj tN _)
 refine ⟨_, rfl, l, rfl, ⟨_, aH.of (s0 _ _ hL)⟩, cI (K := K) (a := l) (xs := ps.map tx) (fun i σ H' => ∃ (bs : List aaC) (o : Option V), σ = [some (.ref l), some (tx m), some (.ref lr), o] ∧ ah H H' ∧ H' lr = some (.lst (bs.map V.ref)) ∧
   Paired (fun row b => H b = none ∧ b ≠ lr ∧ H' b = some (.lst (row.map tx))) (cn m (ps.take i) [[]]) bs ∧ bs.Nodup)
  ⟨[b0], none, rfl, s0, ae, .cons ⟨hb0, Ze, by rw [aA Ze]; exact ae⟩ .nil, by simp⟩ (fun i σ H' _ ⟨_, _, _, sm, _⟩ => aH.of (sm _ _ hL)) ?_ ?_⟩
 ·rintro i y σ H' hi ⟨bs, o, rfl, sm, hr', pr, nd⟩
  have Zf : i < ps.length := by
   have := (aaj.mp hi).1
   simpa using this
  obtain rfl : y = tx ps[i] := by
   rw [aa2, Ge9 Zf] at hi
   exact (aa4 hi).symm
  have Zg : cn m (ps.take (i + 1)) [[]] = jS m ps[i] (cn m (ps.take i) [[]]) := by
   rw [aap Zf, qI]
  have hbl : bs.length ≤ 20002 := by
   have z := aam pr
   have z2 := tR m (ps.take i) [[]]
   rw [aaH] at z2
   simp only [aag, aa6] at z2
   omega
  refine ⟨_, rfl, _, rfl, rfl, _, rfl, ?_⟩
  rw [Ab]
  refine mL (fun e => ?_) (fun e => ?_)
  ·have e' : ps[i] = m := of_decide_eq_true e
   refine ⟨_, rfl, .inl ⟨rfl, _, aH.of hr'⟩, (by show 0 ≤ aai; decide), fun b hb => ?_⟩
   have Wc : b ≠ lr := fun z => by rw [z, hr'] at hb; cases hb
   have Zh : H b = none := sm.free hb
   have Ig : upd H' b (.lst []) lr = some (.lst (bs.map V.ref)) := by rw [aA (acp Wc)]; exact hr'
   refine ⟨lr, _, _, rfl, rfl, Ig, (by rw [Lm9]; exact kl (by omega)), bs ++ [b], _, rfl, ah.aQ (ah.aQ sm Zh _) RO _, ?_, ?_, ?_⟩
   ·rw [ae, aan]
    rfl
   ·rw [Zg]
    unfold jS
    rw [if_pos e']
    have p2 : Paired (fun row x => H x = none ∧ x ≠ lr ∧ upd (upd H' b (.lst [])) lr (.lst (bs.map V.ref ++ [V.ref b])) x = some (.lst (row.map tx))) (cn m (ps.take i) [[]]) bs := L2.Paired.d8 pr fun row x z => ⟨z.1, z.2.1, by
     rw [aA z.2.1, aA (aN z.2.2 hb)]
     exact z.2.2⟩
    exact p2.snoc ⟨Zh, Wc, by rw [aA Wc]; exact ae⟩
   ·rw [acj]
    refine ⟨nd, by simp, ?_⟩
    intro x hx y hy
    rw [aak.mp hy]
    intro z
    subst z
    obtain ⟨row, _, hrw⟩ := pU pr hx
    rw [hrw.2.2] at hb
    cases hb
  ·have e' : ps[i] ≠ m := fun z => by rw [decide_eq_true z] at e; exact e rfl
   obtain ⟨a1, row, b1, b, e1, e2, p1, hb⟩ := tP pr (vD m _ _ (by simp))
   have qa : row.length ≤ 20000 := by
    have z := vE m (ps.take i) [[]] 0 (by intro r hr; rw [aak.mp hr]; exact aar _) row (by rw [e1]; simp)
    rw [aaH] at z
    omega
   have RP : H' lr = some (.lst (b1.map V.ref ++ [V.ref b])) := by
    rw [hr', e2, aan]
    rfl
   refine ⟨_, rfl, _, rfl, lr, _, _, V.ref b, rfl, rfl, aH.of RP, MD, .inl ⟨rfl, _, aH.of hb.2.2⟩, _, rfl, b, _, _, rfl, rfl, hb.2.2, (by rw [Lm9]; exact kl (by omega)), ?_⟩
   refine ⟨bs, _, rfl, ah.aQ sm hb.1 _, by rw [aA (acp hb.2.1)]; exact hr', ?_, nd⟩
   rw [Zg]
   unfold jS
   rw [if_neg e', e1, adX, show (a1 ++ [row]).getLastD [] = row by simp, e2]
   rw [e2, acj] at nd
   refine aeF ?_ ⟨hb.1, hb.2.1, ?_⟩
   ·refine aR p1 fun r x hx z => ⟨z.1, z.2.1, ?_⟩
    rw [aA (nd.2.2 x hx b (by simp))]
    exact z.2.2
   ·rw [ae, aan]
    rfl
 ·rintro σ H' ⟨bs, o, rfl, sm, hr', pr, nd⟩
  rw [Lm9, abb] at pr
  refine ⟨_, rfl, q _ _ sm ⟨lr, _, rfl, RO, hr', ?_⟩⟩
  exact tQ (L2.Paired.d8 pr fun row b z => (⟨b, rfl, z.1, z.2.2⟩ : Nc H H' row (V.ref b)))
end
end iS
namespace iS
open PySem L2 cM Bk
set_option maxHeartbeats 4000000
section
variable {P : aaL} {w : aa9} {K : aaa} {mg : Str → Option aad} {base : Heap} {f : aaC} {fd : abd} {c : Cl}
theorem qb : ax ["found"] ["found"] (ao eY) := ⟨rfl, rfl, rfl, by decide +kernel, rfl, by decide +kernel, by decide +kernel⟩
theorem qc (F : bw K "check_two_names" "check_two_names" eY f fd) (dA : br P w K mg base "is_name" 2 ["text"] (xy gn)) (aX : mg "len" = none) : a4 P w K mg base da 3 f fd ["found"] GV := by
 refine F.ok qb (fun vs H Q E h => ?_) (fun cb A outer s H vs Q E hr h => ?_)
 ·obtain ⟨l, a, m, b, rfl, _⟩ := h
  rfl
 obtain ⟨l, a, m, b, rfl, hL, ha, hb, q⟩ := h
 refine ⟨_, (ai (aV (PW.pt (iT (ay fJ (aM aF rfl aX aaI (aa (pv 0) ab)) af (aL _)) (iT (iZ (cR (ak dA (hr.mono (by decide)) rfl (aa (aq aG (pv 0) af (fun _ _ => rfl)) ab)))) (j8 (iZ (cR (ak dA (hr.mono (by decide)) rfl (aa (aq aG (pv 0) af (fun _ _ => rfl)) ab))))))))
 bg
 aE)), ?_⟩
 refine ⟨_, rfl, l, _, rfl, .inl (aH.of hL), rfl, _, rfl, bb ?_⟩
 refine ⟨_, rfl, l, _, 0, _, rfl, rfl, aH.of hL, rfl, S a, rfl, by have := fO ha; rw [aD]; omega, fun H1 s1 => ⟨_, rfl, ?_⟩⟩
 rw [qG, ha]
 refine bb ⟨_, rfl, l, _, 2, _, rfl, rfl, aH.of (s1 _ _ hL), rfl, S b, rfl, by have := fO hb; rw [aD]; omega, fun H2 s2 => ⟨_, rfl, ?_⟩⟩
 rw [qG, hb]
 exact bb (q _ (ah.trans s1 s2))
theorem AQ : ax ["self", "left", "right"] ["self", "left", "right"] (ao nE) := ⟨rfl, rfl, rfl, by decide +kernel, rfl, by decide +kernel, by decide +kernel⟩
theorem AR (F : bw K "__init__" "Look.__init__" nE f fd) : a4 P w K mg base da 1 f fd ["self", "left", "right"] (km K) := by
 refine F.ok AQ (fun vs H Q E h => ?_) (fun cb A outer s H vs Q E hr h => ?_)
 ·obtain ⟨C, p, dx, l, r, rfl, _⟩ := h
  rfl
 obtain ⟨C, p, dx, l, r, rfl, T, hp, q⟩ := h
 refine ⟨_, (ag (ps_fld (pv 0) (pv 1) rfl)
 (ai (ps_fld (pv 0) (pv 2) rfl))), ?_⟩
 refine ⟨_, rfl, _, rfl, p, C, dx, [], rfl, hp, T.cl, T.nL, (by show 0 < 1000; decide), _, rfl, _, rfl, p, C, dx, _, rfl, ae, T.cl, T.nR, (by show 1 < 1000; decide), ?_⟩
 refine q _ _ ae ?_ ?_ ?_ ?_ fun b o e hb => ?_
 ·rw [aU, if_neg (by decide +kernel), aU, if_pos rfl]
 ·rw [aU, if_pos rfl]
 ·rw [aU, if_neg (by decide +kernel), aU, if_neg (by decide +kernel)]
  rfl
 ·rw [aU, if_neg (by decide +kernel), aU, if_neg (by decide +kernel)]
  rfl
 ·rw [aA hb, aA hb]
  exact e
theorem zJ {H : Hp} {C : aaC} {a b : V} {Q : VK} (T : uh K C) (q : ∀ x dx fs H', ah H H' → H x = none → H' x = some (.ins C dx fs) → fs.lookup ("left" : Str) = some a → fs.lookup ("right" : Str) = some b → fs.lookup ("holds" : Str) = none → fs.lookup ("word" : Str) = none → Q (.ref x) H') :
  ∀ x dx, H x = none → H dx = none → dx ≠ x → km K (.ref x :: ([a, b] ++ [])) (upd (upd H dx (.own x)) x (.ins C dx [])) (fun v H2 => v = .bY ∧ Q (.ref x) H2) E0 := fun x dx hx RQ Wd => by
 refine ⟨C, x, dx, a, b, rfl, T, ae, fun H' fs h1 h2 h3 h4 h5 kp => ⟨rfl, q x dx fs H' (fun b o e => kp b o ?_ (aN e hx)) hx h1 h2 h3 h4 h5⟩⟩
 rw [aA (aN e hx), aA (aN e RQ)]
 exact e
theorem AS : ax ["found"] ["found"] (ao nJ) := ⟨rfl, rfl, rfl, by decide +kernel, rfl, by decide +kernel, by decide +kernel⟩
theorem AU (F : bw K "read_look" "read_look" nJ f fd) (b8 : br P w K mg base "check_two_names" 3 ["found"] GV) (Ts : uh K c.same) (Tu : uh K c.unlike)
  (FJ : LW P w K mg base "Same" c.same 1 ["self", "left", "right"] (km K)) (wu : LW P w K mg base "Unlike" c.unlike 1 ["self", "left", "right"] (km K)) : a4 P w K mg base da 4 f fd ["found"] (Fe c) := by
 refine F.ok AS (fun vs H Q E h => ?_) (fun cb A outer s H vs Q E hr h => ?_)
 ·obtain ⟨l, k, rfl, _⟩ := h
  rfl
 obtain ⟨l, ⟨sm, a, b⟩, rfl, hL, ha, hb, q⟩ := h
 have hL' : H l = some (.lst [tx a, tx (if sm = true then ig else dM), tx b]) := hL
 refine ⟨_, (ag (bf (ak b8 (hr.mono (by decide)) rfl (aa (pv 0) ab)))
 (ag (aV (ay cS (aq aG (pv 0) af (fun _ _ => rfl)) ar (aL _))
 (ai (aC (qy FJ (hr.mono (by decide)) rfl (aa (aq aG (pv 0) af (fun _ _ => rfl)) (aa (aq aG (pv 0) af (fun _ _ => rfl)) ab)))))
 aE)
 (ag (aV (ay cS (aq aG (pv 0) af (fun _ _ => rfl)) ar (aL _))
 (ai (aC (qy wu (hr.mono (by decide)) rfl (aa (aq aG (pv 0) af (fun _ _ => rfl)) (aa (aq aG (pv 0) af (fun _ _ => rfl)) ab)))))
 aE)
 (ai IX)))), ?_⟩
 refine ⟨_, rfl, l, a, _, b, rfl, hL', ha, hb, fun H1 s1 => ?_⟩
 have rQ := s1 _ _ hL'
 refine ⟨_, rfl, l, _, 1, _, rfl, rfl, aH.of rQ, rfl, rfl, _, rfl, ?_⟩
 cases sm with
 | true =>
  have e : decide (tx (if true = true then ig else dM) = V.str (aab "same")) = true := by decide +kernel
  rw [e]
  refine dq ⟨_, rfl, l, _, 0, _, rfl, rfl, aH.of rQ, rfl, _, rfl, l, _, 2, _, rfl, rfl, aH.of rQ, rfl, zJ Ts fun x dx fs H' s' hx h1 h2 h3 h4 h5 => ?_⟩
  exact q _ _ (ah.trans s1 s') ⟨x, dx, fs, rfl, s1.free hx, h1, h2, h3, h4, h5⟩
 | false =>
  have e : decide (tx (if false = true then ig else dM) = V.str (aab "same")) = false := by decide +kernel
  have e2 : decide (tx (if false = true then ig else dM) = V.str (aab "unlike")) = true := by decide +kernel
  rw [e]
  refine bb ⟨_, rfl, l, _, 1, _, rfl, rfl, aH.of rQ, rfl, rfl, _, rfl, ?_⟩
  rw [e2]
  refine dq ⟨_, rfl, l, _, 0, _, rfl, rfl, aH.of rQ, rfl, _, rfl, l, _, 2, _, rfl, rfl, aH.of rQ, rfl, zJ Tu fun x dx fs H' s' hx h1 h2 h3 h4 h5 => ?_⟩
  exact q _ _ (ah.trans s1 s') ⟨x, dx, fs, rfl, s1.free hx, h1, h2, h3, h4, h5⟩
theorem AV : ax ["found"] ["found"] (ao nK) := ⟨rfl, rfl, rfl, by decide +kernel, rfl, by decide +kernel, by decide +kernel⟩
theorem AW (F : bw K "read_pair" "read_pair" nK f fd) (b8 : br P w K mg base "check_two_names" 3 ["found"] GV) : a4 P w K mg base da 4 f fd ["found"] (Ff K) := by
 refine F.ok AV (fun vs H Q E h => ?_) (fun cb A outer s H vs Q E hr h => ?_)
 ·obtain ⟨l, k, rfl, _⟩ := h
  rfl
 obtain ⟨l, ⟨a, b⟩, rfl, hL, ha, hb, q⟩ := h
 have hL' : H l = some (.lst [tx a, tx [61], tx b]) := hL
 refine ⟨_, (ag (bf (ak b8 (hr.mono (by decide)) rfl (aa (pv 0) ab)))
 (ag (aV (ay fJ (aq aG (pv 0) af (fun _ _ => rfl)) ar (aL _))
 bg
 aE)
 (ai (aC (cT (aa (aq aG (pv 0) af (fun _ _ => rfl)) (aa (aq aG (pv 0) af (fun _ _ => rfl)) ab))))))), ?_⟩
 refine ⟨_, rfl, l, a, _, b, rfl, hL', ha, hb, fun H1 s1 => ?_⟩
 have rQ := s1 _ _ hL'
 refine ⟨_, rfl, l, _, 1, _, rfl, rfl, aH.of rQ, rfl, rfl, _, rfl, ?_⟩
 have e : decide (tx [61] = V.str (aab "=")) = true := by decide +kernel
 rw [e]
 refine bb ⟨_, rfl, l, _, 0, _, rfl, rfl, aH.of rQ, rfl, _, rfl, l, _, 2, _, rfl, rfl, aH.of rQ, rfl, (by show 2 ≤ aai; decide), fun t ht => ?_⟩
 exact q _ _ (ah.trans s1 (aj ht _)) ⟨t, rfl, cK.of ae⟩
theorem Ii {ks : List Lk} (h : ∀ k ∈ ks, aB k.l = true ∧ aB k.r = true) : ∀ q ∈ ks.map jT, ([44] : Cs) ∉ q := by
 intro q hq hm
 obtain ⟨k, hk, rfl⟩ := aat.mp hq
 have hn := h k hk
 unfold jT at hm
 rcases aaF.mp hm with e | hm
 ·exact pq hn.1 e.symm
 rcases aaF.mp hm with e | hm
 ·revert e; cases k.same <;> decide
 ·exact pq hn.2 (aak.mp hm).symm
theorem Ij {ks : List (Cs × Cs)} (h : ∀ k ∈ ks, aB k.1 = true ∧ aB k.2 = true) : ∀ q ∈ ks.map jU, ([44] : Cs) ∉ q := by
 intro q hq hm
 obtain ⟨k, hk, rfl⟩ := aat.mp hq
 have hn := h k hk
 unfold jU at hm
 rcases aaF.mp hm with e | hm
 ·exact pq hn.1 e.symm
 rcases aaF.mp hm with e | hm
 ·revert e; decide
 ·exact pq hn.2 (aak.mp hm).symm
theorem G8 : (aab ",") = S [44] := by decide +kernel
theorem Pg : (aab ";") = S [59] := by decide +kernel
theorem xH : ax ["found"] ["found"] (ao kI) := ⟨rfl, rfl, rfl, by decide +kernel, rfl, by decide +kernel, by decide +kernel⟩
theorem xI (F : bw K "read_looks" "read_looks" kI f fd) (eZ : br P w K mg base "parted" 1 ["found", "mark"] m7) (nZ : br P w K mg base "read_look" 4 ["found"] (Fe c)) : a4 P w K mg base da 5 f fd ["found"] (Ah c) := by
 refine F.ok xH (fun vs H Q E h => ?_) (fun cb A outer s H vs Q E hr h => ?_)
 ·obtain ⟨l, k, rfl, _⟩ := h
  rfl
 obtain ⟨l, ks, rfl, hL, h0, hz, hn, q⟩ := h
 refine ⟨_, (ai (aC (bA [] rfl (by kernel_rfl) (aW (ak eZ (hr.mono (by decide)) rfl (aa (pv 0) (aa ar ab)))) (fun _ _ _ _ _ => bj) (fun _ _ _ _ _ => (ak nZ (hr.mono (by decide)) rfl (aa (pv 0) ab)))))), ?_⟩
 refine ⟨_, rfl, l, _, [44], by rw [G8]; rfl, hL, ?_, fun v H1 s1 R => ?_⟩
 ·have z := vF (m := [44]) (ks.map jT) 3 (by intro q hq; obtain ⟨k, _, rfl⟩ := aat.mp hq; exact aar _)
  rw [Lm9] at z
  omega
 have e := gY (m := [44]) (ks.map jT) [] (by simpa using h0) (Ii hn)
 rw [abr] at e
 rw [e, abr] at R
 obtain ⟨lr, vs, rfl, tN, hR, pr⟩ := R
 have hlen := aam pr
 rw [Lm9] at hlen
 refine ⟨lr, rfl, ⟨_, aH.of hR⟩, fun D hD => ?_⟩
 refine cA (K := K) (xs := vs) ks (fun H0 H b y => qD c H0 H b y) (fun _ _ _ _ _ k h => h.keep k) (fun _ _ _ _ _ d h => h.cg d) (kl (by omega)) hD (aH.of hR) hlen (fun i x k H' R hx hk sm hQ => ?_) (fun H' ys sm hL' po => ?_)
 ·have hi : i < vs.length := (aaj.mp hx).1
  have Nn : i < ks.length := (aaj.mp hk).1
  have ex : vs[i] = x := (aaj.mp hx).2
  have ek : ks[i] = k := (aaj.mp hk).2
  obtain ⟨b, eb, hb, qa⟩ := paired_at pr i (by rw [Lm9]; exact Nn) hi
  rw [aas, ek] at qa
  rw [ex] at eb
  subst eb
  have hm := hn k (by rw [← ek]; exact aaq Nn)
  exact ⟨_, rfl, b, k, rfl, sm _ _ qa, hm.1, hm.2, fun v qA s2 ho => hQ v qA s2 ho⟩
 ·refine q _ _ (ah.trans s1 sm) ⟨D, ys, rfl, s1.free hD, hL', L2.Paired.d8 po fun b y z => z.cg fun _ h => s1.free h⟩
theorem xJ : ax ["found"] ["found"] (ao kJ) := ⟨rfl, rfl, rfl, by decide +kernel, rfl, by decide +kernel, by decide +kernel⟩
theorem xK (F : bw K "read_pairs" "read_pairs" kJ f fd) (eZ : br P w K mg base "parted" 1 ["found", "mark"] m7) (n0 : br P w K mg base "read_pair" 4 ["found"] (Ff K)) : a4 P w K mg base da 5 f fd ["found"] (Ai K) := by
 refine F.ok xJ (fun vs H Q E h => ?_) (fun cb A outer s H vs Q E hr h => ?_)
 ·obtain ⟨l, k, rfl, _⟩ := h
  rfl
 obtain ⟨l, ks, rfl, hL, h0, hz, hn, q⟩ := h
 refine ⟨_, (ai (aC (bA [] rfl (by kernel_rfl) (aW (ak eZ (hr.mono (by decide)) rfl (aa (pv 0) (aa ar ab)))) (fun _ _ _ _ _ => bj) (fun _ _ _ _ _ => (ak n0 (hr.mono (by decide)) rfl (aa (pv 0) ab)))))), ?_⟩
 refine ⟨_, rfl, l, _, [44], by rw [G8]; rfl, hL, ?_, fun v H1 s1 R => ?_⟩
 ·have z := vF (m := [44]) (ks.map jU) 3 (by intro q hq; obtain ⟨k, _, rfl⟩ := aat.mp hq; exact aar _)
  rw [Lm9] at z
  omega
 have e := gY (m := [44]) (ks.map jU) [] (by simpa using h0) (Ij hn)
 rw [abr] at e
 rw [e, abr] at R
 obtain ⟨lr, vs, rfl, tN, hR, pr⟩ := R
 have hlen := aam pr
 rw [Lm9] at hlen
 refine ⟨lr, rfl, ⟨_, aH.of hR⟩, fun D hD => ?_⟩
 refine cA (K := K) (xs := vs) ks (fun _ H b y => Pair K H b y) (fun _ _ _ _ _ k h => h.keep k) (fun _ _ _ _ _ _ h => h) (kl (by omega)) hD (aH.of hR) hlen (fun i x k H' R hx hk sm hQ => ?_) (fun H' ys sm hL' po => ?_)
 ·have hi : i < vs.length := (aaj.mp hx).1
  have Nn : i < ks.length := (aaj.mp hk).1
  have ex : vs[i] = x := (aaj.mp hx).2
  have ek : ks[i] = k := (aaj.mp hk).2
  obtain ⟨b, eb, hb, qa⟩ := paired_at pr i (by rw [Lm9]; exact Nn) hi
  rw [aas, ek] at qa
  rw [ex] at eb
  subst eb
  have hm := hn k (by rw [← ek]; exact aaq Nn)
  exact ⟨_, rfl, b, k, rfl, sm _ _ qa, hm.1, hm.2, fun v qA s2 ho => hQ v qA s2 ho⟩
 ·exact q _ _ (ah.trans s1 sm) ⟨D, ys, rfl, s1.free hD, hL', po⟩
theorem AX : ax ["word", "found"] ["word", "found"] (ao nI) := ⟨rfl, rfl, rfl, by decide +kernel, rfl, by decide +kernel, by decide +kernel⟩
theorem AY (F : bw K "read_part" "read_part" nI f fd) (lD : br P w K mg base "read_looks" 5 ["found"] (Ah c)) (lE : br P w K mg base "read_pairs" 5 ["found"] (Ai K)) (ix : br P w K mg base "row_of_facts" 5 ["found"] (JI K)) :
  a4 P w K mg base da 6 f fd ["word", "found"] (Fg K c) := by
 refine F.ok AX (fun vs H Q E h => ?_) (fun cb A outer s H vs Q E hr h => ?_)
 ·obtain ⟨l, n, ps, p, rfl, _⟩ := h
  rfl
 obtain ⟨l, n, ps, p, rfl, hL, hz, hP, q⟩ := h
 refine ⟨_, (ag (aV (ay cS (pv 0) ar (aL _))
 (ai (aC (ak lD (hr.mono (by decide)) rfl (aa (pv 1) ab))))
 aE)
 (ag (aV (ay cS (pv 0) ar (aL _))
 (ai (aC (ak lE (hr.mono (by decide)) rfl (aa (pv 1) ab))))
 aE)
 (ai (aC (ak ix (hr.mono (by decide)) rfl (aa (pv 1) ab)))))), ?_⟩
 refine ⟨_, rfl, rfl, _, rfl, ?_⟩
 cases hP with
 | lk h0 hl h =>
  have e : decide (tx (wordAt 2) = V.str (aab "look")) = true := by decide +kernel
  rw [e]
  exact dq ⟨_, rfl, l, _, rfl, hL, h0, hl, h, fun v H' s' ho => q v H' s' ho⟩
 | pr h0 hl h =>
  have e : decide (tx (wordAt 4) = V.str (aab "look")) = false := by decide +kernel
  have e2 : decide (tx (wordAt 4) = V.str (aab "tell")) = true := by decide +kernel
  rw [e]
  refine bb ⟨_, rfl, rfl, _, rfl, ?_⟩
  rw [e2]
  exact dq ⟨_, rfl, l, _, rfl, hL, h0, hl, h, fun v H' s' ho => q v H' s' ho⟩
 | fs hn h =>
  have e : decide (tx (wordAt n) = V.str (aab "look")) = false := by rcases hn with e | e | e <;> subst e <;> decide +kernel
  have e2 : decide (tx (wordAt n) = V.str (aab "tell")) = false := by rcases hn with e | e | e <;> subst e <;> decide +kernel
  rw [e]
  refine bb ⟨_, rfl, rfl, _, rfl, ?_⟩
  rw [e2]
  exact bb ⟨_, rfl, l, _, _, rfl, hL, hz, h, fun v H' s' ho => q v H' s' ho⟩
end
end iS
namespace iS
open PySem L2 cM Bk
set_option maxHeartbeats 4000000
section
variable {P : aaL} {w : aa9} {K : aaa} {mg : Str → Option aad} {base : Heap} {f : aaC} {fd : abd} {c : Cl}
abbrev iy : List V := [tx bz, tx bH, tx bB, tx cU, tx bR]
theorem Kx {n : Nat} (hn : n ≤ 5) : kb iy (some (n : Int)) none = iy.drop n := by
 rcases (by omega : n = 0 ∨ n = 1 ∨ n = 2 ∨ n = 3 ∨ n = 4 ∨ n = 5) with e | e | e | e | e | e <;> subst e <;> rfl
theorem ME {m n : Nat} (h : m ≤ n) (hn : n < 5) : Lr (tx (wordAt n)) (iy.drop m) = true := by
 rcases (by omega : n = 0 ∨ n = 1 ∨ n = 2 ∨ n = 3 ∨ n = 4) with e | e | e | e | e <;> subst e <;>
 rcases (by omega : m = 0 ∨ m = 1 ∨ m = 2 ∨ m = 3 ∨ m = 4) with e | e | e | e | e <;> subst e <;> first | omega | decide +kernel
theorem wx (m : Nat) : (iy.drop m).all jO = true := by
 rw [aaS]
 intro x hx
 have hx' := acT hx
 rcases aaF.mp hx' with e | hx'
 ·rw [e]; rfl
 rcases aaF.mp hx' with e | hx'
 ·rw [e]; rfl
 rcases aaF.mp hx' with e | hx'
 ·rw [e]; rfl
 rcases aaF.mp hx' with e | hx'
 ·rw [e]; rfl
 ·rw [aak.mp hx']; rfl
theorem FL {n : Nat} (hn : n < 5) : (∃ z, iy[n]? = some z ∧ II z (tx (wordAt n)) = true) ∧ ∀ m z, m < n → iy[m]? = some z → II z (tx (wordAt n)) = false := by
 rcases (by omega : n = 0 ∨ n = 1 ∨ n = 2 ∨ n = 3 ∨ n = 4) with e | e | e | e | e <;> subst e <;> refine ⟨⟨_, rfl, by decide +kernel⟩, fun m z hm hz => ?_⟩
 ·omega
 all_goals
  rcases (by omega : m = 0 ∨ m = 1 ∨ m = 2 ∨ m = 3) with e | e | e | e <;> subst e <;> first | omega | (cases hz; decide +kernel)
theorem dj : ax ["found", "title", "parts", "earliest", "piece", "word"] ["found"] (ao nH) := ⟨rfl, rfl, rfl, by decide +kernel, rfl, by decide +kernel, by decide +kernel⟩
theorem AZ {Ph : aaC} {u1 : aad} (F : bw K "read_rule" "read_rule" nH f fd) (bI : br P w K mg base "piece_at" 1 ["found", "place"] qH) (bC : br P w K mg base "is_small_word" 3 ["text"] (xy i7)) (eZ : br P w K mg base "parted" 1 ["found", "mark"] m7)
  (oa : br P w K mg base "read_part" 6 ["word", "found"] (Fg K c)) (og : mg "RULE_WORD" = some u1) (oh : RelV (tx cF) u1) (qX : mg "PART_WORDS" = some (.ref Ph)) (qY : ∀ H, cK K H Ph iy) (A0 : ∃ o, K.lookup Ph = some o ∧ o.cls = .type "tuple" ∧ o.dict = none) :
  a4 P w K mg base da 7 f fd ["found"] (Fh K c) := by
 have qZ : RelV (.ref Ph) (.ref Ph) := rfl
 refine F.ok dj (fun vs H Q E h => ?_) (fun cb A outer s H vs Q E hr h => ?_)
 ·obtain ⟨l, title, L, rfl, _⟩ := h
  rfl
 obtain ⟨l, title, L, rfl, hL, hz, R, q⟩ := h
 have hu := GJ hr
 refine ⟨_, (ag (aw (i := 1) dj.nd rfl (aaM rfl) (ak bI (hr.mono (by decide)) rfl (aa (pv 0) (aa af ab))))
 (ag (aV (PW.pt (iT (ay fJ (ak bI (hr.mono (by decide)) rfl (aa (pv 0) (aa af ab))) (de rfl og oh) (aL _)) (iT (iZ (cR (ak bC (hr.mono (by decide)) rfl (aa (pv 1) ab)))) (j8 (ay fJ (ak bI (hr.mono (by decide)) rfl (aa (pv 0) (aa af ab))) ar (aL _))))))
 bg
 aE)
 (ag (aw (i := 2) dj.nd rfl (aaM rfl) C8)
 (ag (aw (i := 3) dj.nd rfl (aaM rfl) af)
 (ag (cL aaP rfl (aW (ak eZ (hr.mono (by decide)) rfl (aa (cf o9 (pv 0) (b7 af) eO) (aa ar ab)))) (bN (i := 4) dj.nd rfl (aaM rfl))
 (ag (aw (i := 5) dj.nd rfl (aaM rfl) (ak bI (hr.mono (by decide)) rfl (aa (pv 4) (aa af ab))))
 (ag (aV (ay dZ (pv 5) (cf LY (de rfl qX qZ) (b7 (pv 3)) eO) (by with_unfolding_all rfl))
 bg
 aE)
 (ag (aw (i := 3) dj.nd rfl (aaM rfl) (av cj (bo PySem.F.plainAttrs_tuple adt PySem.F.type_tuple_index JC (de rfl qX qZ) (aa (pv 5) ab)) af))
 (ai (GN hu (pv 2) (pv 5) (ak oa (hr.mono (by decide)) rfl (aa (pv 5) (aa (cf o9 (pv 4) (b7 af) eO) ab))) rfl))))))
 (ag (aV (PW.pt (zS (EJ (rP hu ar (pv 2))) (uJ (EJ (rP hu ar (pv 2))))))
 bg
 aE)
 (ai (aC (cT (aa (pv 1) (aa (pv 2) ab))))))))))), ?_⟩
 refine ⟨_, rfl, l, _, 1, rfl, hL, hz, ?_⟩
 have Pj := eQ R.tt
 refine ⟨_, rfl, l, _, 0, rfl, hL, hz, rfl, _, rfl, ?_⟩
 have e0 : decide (tx ((gI title L).getD 0 []) = tx cF) = true := decide_eq_true rfl
 rw [e0]
 refine bb ⟨_, rfl, S title, rfl, by rw [aD]; omega, fun H1 s1 => ⟨_, rfl, ?_⟩⟩
 rw [Dc, R.tt]
 have rQ := s1 _ _ hL
 refine bb ⟨_, rfl, l, _, 2, rfl, rQ, hz, rfl, _, rfl, ?_⟩
 have e2 : decide (tx ((gI title L).getD 2 []) = V.str (aab ":")) = true := by
  show decide (tx [58] = V.str (aab ":")) = true
  decide +kernel
 rw [e2]
 refine bb ?_
 intro d hd
 have UK : H d = none := s1.free hd
 have s2 : ah H (upd H1 d (.dK [])) := ah.aQ s1 UK _
 refine ⟨_, rfl, _, rfl, l, _, rfl, .inl (.inl (s2 _ _ hL)), fun l2 tL => ?_⟩
 have We : kb ((gI title L).map tx) (some (3 : Int)) none = (glue [59] (L.map fun x => wordAt x.n :: x.ps)).map tx := vj (k := 3) (by rw [Lm9]; show 3 ≤ (glue [59] (L.map fun x => wordAt x.n :: x.ps)).length + 3; omega)
 rw [We]
 have RR : (glue [59] (L.map fun x => wordAt x.n :: x.ps)).length ≤ 20000 := by
  have z : (gI title L).length = (glue [59] (L.map fun x => wordAt x.n :: x.ps)).length + 3 := rfl
  omega
 have Pk : H l2 = none := s2.free tL
 have s3 : ah H (upd (upd H1 d (.dK [])) l2 (.lst ((glue [59] (L.map fun x => wordAt x.n :: x.ps)).map tx))) := ah.aQ s2 Pk _
 have nd2 : d ≠ l2 := fun z => by rw [← z, ae] at tL; cases tL
 refine ⟨l2, _, [59], by rw [Pg]; rfl, ae, RR, fun v H2 s4 RW => ?_⟩
 have Wf : ∀ q ∈ L.map (fun x => wordAt x.n :: x.ps), ([59] : Cs) ∉ q := by
  intro q hq hm
  obtain ⟨x, hx, rfl⟩ := aat.mp hq
  rcases aaF.mp hm with e | hm
  ·have UL := (rV R.inc x hx).2
   revert e
   rcases (by omega : x.n = 0 ∨ x.n = 1 ∨ x.n = 2 ∨ x.n = 3 ∨ x.n = 4) with e | e | e | e | e <;> rw [e] <;> decide
  ·exact R.no x hx hm
 have eP := gY (m := [59]) (L.map fun x => wordAt x.n :: x.ps) [] (by simpa using R.ne) Wf
 rw [abr] at eP
 rw [eP, abr] at RW
 obtain ⟨lr, rows, rfl, tN, hR, pr⟩ := RW
 have Qh := aam pr
 rw [Lm9] at Qh
 have hd2 : H2 d = some (.dK []) := s4 _ _ (by rw [aA nd2]; exact ae)
 have IK : ah H H2 := ah.trans s3 s4
 have Zi : L.length ≤ 5 := GX R.inc (by omega)
 refine ⟨lr, rfl, ⟨_, aH.of hR⟩, cI (K := K) (a := lr) (xs := rows) (fun i σ H' => ∃ (kvs : List (Key × V)) (m : Nat) (o4 o5 : Option V), σ = [some (.ref l), some (tx title), some (.ref d), some (.int m), o4, o5] ∧ m ≤ 5 ∧ (∀ x ∈ L.drop i, m ≤ x.n) ∧
   (∀ b o, b ≠ d → H2 b = some o → H' b = some o) ∧ (∀ b, H' b = none → H2 b = none) ∧ H' d = some (.dK kvs) ∧ dh K c (upd H1 d (.dK [])) H' (L.take i) kvs)
  ⟨[], 0, none, none, rfl, by omega, fun _ _ => abm _, fun _ _ _ h => h, fun _ h => h, hd2, .nil⟩ (fun i σ H' _ ⟨_, _, _, _, _, _, _, k1, _⟩ => aH.of (k1 _ _ (CQ hR hd2 (by intro z; cases z)) hR)) ?_ ?_⟩
 ·rintro i y σ H' hi ⟨kvs, m, o4, o5, rfl, Zj, Zk, k1, k2, IL, pa⟩
  have hir : i < rows.length := (aaj.mp hi).1
  have FO : i < L.length := by omega
  have ey : rows[i] = y := (aaj.mp hi).2
  obtain ⟨b, eb, hb0, UM⟩ := paired_at pr i (by rw [Lm9]; exact FO) hir
  rw [aas] at UM
  rw [ey] at eb
  subst eb
  have Qi : L[i] ∈ L := aaq FO
  generalize hx : L[i] = x at UM Qi
  have UL := (rV R.inc x Qi).2
  have hmn : m ≤ x.n := Zk x (by rw [← hx]; exact abn (by rw [List.getElem?_drop, Nat.add_zero]; exact Ge9 FO))
  have hbd : b ≠ d := CQ UM hd2 (by intro z; cases z)
  have hb' := k1 _ _ hbd UM
  have Zl : (wordAt x.n :: x.ps).length ≤ 20000 := by
   have z := Di (m := [59]) (L.map fun x => wordAt x.n :: x.ps) (wordAt x.n :: x.ps) (aat.mpr ⟨x, Qi, rfl⟩)
   omega
  refine ⟨_, rfl, b, _, 0, rfl, hb', Zl, ?_⟩
  refine ⟨_, rfl, _, rfl, _, rfl, Ph, _, rfl, qY _, fun p H3 Qj hp => ?_⟩
  rw [Kx Zj] at hp
  refine ⟨p, _, rfl, .inr hp, rfl, wx m, _, rfl, ?_⟩
  have ein : (if true = true then !Lr (tx ((wordAt x.n :: x.ps).getD 0 [])) (iy.drop m) else Lr (tx ((wordAt x.n :: x.ps).getD 0 [])) (iy.drop m)) = false := by
   rw [if_pos rfl]
   show (!Lr (tx (wordAt x.n)) (iy.drop m)) = false
   rw [ME hmn UL]
   rfl
  rw [ein]
  refine bb ?_
  obtain ⟨wp1, wp2⟩ := FL UL
  refine ⟨.inr (.inl ⟨rfl, A0⟩), _, rfl, Ph, iy, _, x.n, rfl, rfl, qY _, rfl, wx 0, wp1, wp2, _, _, rfl, rfl, ?_⟩
  have hb3 := Qj _ _ hb'
  refine ⟨_, rfl, _, rfl, _, rfl, b, _, rfl, .inl (.inl hb3), fun l3 Qk => ?_⟩
  have ec : kb ((wordAt x.n :: x.ps).map tx) (some (1 : Int)) none = x.ps.map tx := vj (k := 1) (by rw [Lm9, aag]; omega)
  rw [ec]
  have UN : H3 d = some (.dK kvs) := Qj _ _ IL
  have nd3 : d ≠ l3 := aN UN Qk
  refine ⟨l3, x.n, x.ps, x.p, rfl, ae, by rw [aag] at Zl; omega, R.ok x Qi, fun v H5 s5 UO => ?_⟩
  have UP : ah H3 H5 := ah.trans (aj Qk _) s5
  have Zm : H5 d = some (.dK kvs) := UP _ _ UN
  have Nm : kvs.length ≤ 5 := by
   have z := aam pa
   rw [aaH] at z
   omega
  have JA : bQ kvs (aaX (S (wordAt x.n)) : Key) = none := zj fun kv Pl e => by
   obtain ⟨z, hz, Zn⟩ := pU pa Pl
   rw [Zn.1] at e
   have e2 : wordAt z.n = wordAt x.n := y9 (adv e)
   have ia := JM R.inc i FO
   rw [hx] at ia
   have rB := ia.1 z hz
   have := vG (by omega) UL e2
   omega
  have kp : Kp (upd H1 d (.dK [])) H5 (upd H5 d (.dK (kvs ++ [(aaX (S (wordAt x.n)), v)]))) := Kp.upd ae Zm (by intro xs z; cases z) (by intro o u z; cases z)
  have k25 : ∀ b, H5 b = none → H2 b = none := fun b h => k2 b (ah.free (ah.trans Qj UP) h)
  refine ⟨_, rfl, _, rfl, d, _, rfl, HF.k (k := (aaX (S (wordAt x.n)) : Key)) Zm (kl (by omega)), ?_⟩
  rw [C6 _ JA]
  refine ⟨kvs ++ [(aaX (S (wordAt x.n)), v)], x.n + 1, _, _, rfl, by omega, fun z hz => ?_, fun b' o hb hH => ?_, fun b' h => k25 b' (kp.vz b' h), ae, ?_⟩
  ·have z2 := zm R.inc i FO z hz
   rw [hx] at z2
   omega
  ·rw [aA hb]
   exact UP _ _ (Qj _ _ (k1 _ _ hb hH))
  ·rw [aap FO, hx]
   refine ((dh.keep (Kp.same (ah.trans Qj UP)) pa).keep kp).snoc ⟨rfl, ?_⟩
   refine dg.keep kp (dg.cg (fun b h => ?_) UO)
   have h3 : H3 b = none := (aj Qk _).free h
   exact (ah.trans (aj tL _) s4).free (k2 b (Qj.free h3))
 ·rintro σ H' ⟨kvs, m, o4, o5, rfl, Zj, Zk, k1, k2, IL, pa⟩
  have RP : rows.length = L.length := Qh.symm
  rw [RP, abb] at pa
  have sH : ah H H' := fun b o e => k1 b o (aN e UK) (IK b o e)
  have fin : ∀ t, H' t = none → Q (.ref t) (upd H' t (.tup [tx title, .ref d])) := fun t ht => by
   have ntd : d ≠ t := aN IL ht
   refine q t d kvs _ (ah.trans sH (aj ht _)) ae UK (by rw [aA ntd]; exact IL) ?_
   exact L2.Paired.d8 pa fun x kv z => ⟨z.1, dg.cg (fun b h => ah.free (ah.aQ s1 UK _) h) (z.2.keep (Kp.same (aj ht _)))⟩
  refine ⟨_, rfl, d, _, rfl, kj.k (k := (aaX (aab "take") : Key)) IL, _, rfl, ?_⟩
  obtain ⟨x, Qi, Wg⟩ := R.hd
  have Ik := zo pa Qi
  rcases Wg with e | e
  ·rw [e] at Ik
   have e2 : (S (wordAt 0)) = aab "take" := by decide +kernel
   rw [e2] at Ik
   rw [Ik]
   exact bb ⟨_, rfl, _, rfl, (by show 2 ≤ aai; decide), fin⟩
  ·rw [e] at Ik
   have e2 : (S (wordAt 1)) = aab "keep" := by decide +kernel
   rw [e2] at Ik
   have two : ∀ b : Bool, (if b = true then (∃ a o, V.ref d = .ref a ∧ kj H' a (.str (aab "keep")) o ∧ False) else True) → True := fun _ _ => trivial
   refine mL (fun _ => ⟨_, rfl, d, _, rfl, kj.k (k := (aaX (aab "keep") : Key)) IL, _, rfl, ?_⟩) (fun _ => bb ⟨_, rfl, _, rfl, (by show 2 ≤ aai; decide), fin⟩)
   rw [Ik]
   exact bb ⟨_, rfl, _, rfl, (by show 2 ≤ aai; decide), fin⟩
end
end iS
namespace iS
open PySem L2 cM Bk
set_option maxHeartbeats 4000000
section
variable {P : aaL} {w : aa9} {K : aaa} {mg : Str → Option aad} {base : Heap} {f : aaC} {fd : abd} {c : Cl}
theorem DN : ax ["name"] ["name"] (ao pW) := ⟨rfl, rfl, rfl, by decide +kernel, rfl, by decide +kernel, by decide +kernel⟩
theorem DO {u1 : aad} (F : bw K "is_great" "is_great" pW f fd) (AD : mg "GREAT" = some u1) (AE : RelV (.str d7) u1) : a4 P w K mg base da 1 f fd ["name"] uN := by
 refine F.ok DN (fun vs H Q E h => ?_) (fun cb A outer s H vs Q E hr h => ?_)
 ·obtain ⟨p, rfl, _⟩ := h
  rfl
 obtain ⟨p, rfl, h1, hx, q⟩ := h
 refine ⟨_, (ai (aC (dF eS (aq fN (pv 0) af (fun _ _ => rfl)) (de rfl AD AE) (by with_unfolding_all rfl)))), ?_⟩
 have hl : 1 ≤ (S p).length := by
  rw [aD]
  cases p with
  | nil => exact absurd rfl h1
  | cons a r => simp
 refine ⟨_, rfl, S p, 0, _, rfl, rfl, (by rw [aD]; exact sz (by omega)), Ac hl, _, _, rfl, rfl, ?_⟩
 rw [abE, bq]
 exact q
theorem f9 : ax ["facts", "found", "fact", "name"] ["facts"] (ao kO) := ⟨rfl, rfl, rfl, by decide +kernel, rfl, by decide +kernel, by decide +kernel⟩
theorem xM (F : bw K "open_names" "open_names" kO f fd) (fV : br P w K mg base "is_great" 1 ["name"] uN) (qd : mg "list" = none) : a4 P w K mg base da 2 f fd ["facts"] (Aj K) := by
 refine F.ok f9 (fun vs H Q E h => ?_) (fun cb A outer s H vs Q E hr h => ?_)
 ·obtain ⟨l, us, fs, rfl, _⟩ := h
  rfl
 obtain ⟨l, us, fs, rfl, hL, hP, hz, hok, MF, q⟩ := h
 have hu := GJ hr
 refine ⟨_, (ag (aw (i := 1) f9.nd rfl (aaM rfl) C8)
 (ag (cL aaP rfl (aW (pv 0)) (bN (i := 2) f9.nd rfl (aaM rfl))
 (ai (cL aaP rfl (EM (aq aI (pv 2) af (fun _ _ => rfl))) (bN (i := 3) f9.nd rfl (aaM rfl))
 (ai (aV (cR (ak fV (hr.mono (by decide)) rfl (aa (pv 3) ab)))
 (ai (GN hu (pv 1) (pv 3) c7 rfl))
 aE)))))
 (ai (aC (dY (vv rfl) rfl qd PyProof.Rows.Boot.«list» (aa (pv 1) ab)))))), ?_⟩
 intro d hd
 have hPl := aam hP
 refine ⟨_, rfl, l, rfl, ⟨_, aH.of ((aj hd _) _ _ hL)⟩, cI (K := K) (a := l) (xs := us) (fun i σ H' => ∃ o2 o3, σ = [some (.ref l), some (.ref d), o2, o3] ∧ ah H H' ∧ H' d = some (.dK ((eU ((fs.take i).flatMap (·.as)) []).map xA)) ∧ (eU ((fs.take i).flatMap (·.as)) []).length ≤ ((fs.take i).flatMap (·.as)).length)
  ⟨none, none, rfl, aj hd _, ae, aar _⟩ (fun i σ H' _ ⟨_, _, _, sm, _⟩ => aH.of (sm _ _ hL)) ?_ ?_⟩
 ·rintro i y σ H' hi ⟨o2, o3, rfl, sm, IL, JB⟩
  have DP : i < us.length := (aaj.mp hi).1
  have A1 : i < fs.length := by omega
  have ey : us[i] = y := (aaj.mp hi).2
  obtain ⟨t, t2, et, h1, h2⟩ := paired_at hP i A1 DP
  rw [ey] at et
  subst et
  have h1' : cK K H' t [tx fs[i].k, .ref t2] := h1.same sm
  have fok := hok fs[i] (aaq A1)
  generalize Np : eU ((fs.take i).flatMap (·.as)) [] = DQ at IL JB
  have Zo : ∀ j, eU (((fs.take i).flatMap (·.as)) ++ (fs[i].as.take j)) [] = eU (fs[i].as.take j) DQ := fun j => by rw [rW, Np]
  have Zp : ((fs.take i).flatMap (·.as)).length + fs[i].as.length ≤ 20000 := by
   have e : fs.flatMap (·.as) = (fs.take i).flatMap (·.as) ++ (fs[i].as ++ (fs.drop (i + 1)).flatMap (·.as)) := by
    rw [← abZ, ← abv, ← abt A1, acQ]
   have z := congrArg ac0 e
   rw [aac, aac] at z
   omega
  refine ⟨_, rfl, t, _, 1, _, rfl, rfl, h1', rfl, t2, rfl, ⟨_, h2.same sm⟩, Gv (K := K) (a := t2) (xs := fs[i].as.map tx) (fun j σ H2 => ∃ o3, σ = [some (.ref l), some (.ref d), some (.ref t), o3] ∧ ah H H2 ∧ H2 d = some (.dK ((eU (fs[i].as.take j) DQ).map xA)) ∧ (eU (fs[i].as.take j) DQ).length ≤ DQ.length + j)
   ⟨_, rfl, sm, IL, aar _⟩ (fun j σ H2 _ ⟨_, _, xE, _⟩ => h2.same xE) ?_ ?_⟩
  ·rintro j y σ H2 hj ⟨o3', rfl, xE, Ky, tL⟩
   have Wh : j < fs[i].as.length := by
    have := (aaj.mp hj).1
    simpa using this
   obtain rfl : y = tx fs[i].as[j] := by
    rw [aa2, Ge9 Wh] at hj
    exact (aa4 hj).symm
   have qW := fO (fok.2.2 _ (aaq Wh))
   have st : eU (fs[i].as.take (j + 1)) DQ = mJ fs[i].as[j] (eU (fs[i].as.take j) DQ) := by
    rw [aap Wh, rW]
    rfl
   have Qk := HK fs[i].as[j] (eU (fs[i].as.take j) DQ)
   refine ⟨_, rfl, fs[i].as[j], rfl, (fun z => by rw [z] at qW; simp at qW), by omega, _, rfl, ?_⟩
   refine mL (fun g => ?_) (fun g => ?_)
   ·refine ⟨_, rfl, _, rfl, d, _, rfl, HF.k (k := (aaX (S fs[i].as[j]) : Key)) Ky (by rw [Lm9]; exact kl (by omega)), ?_⟩
    rw [JP]
    refine ⟨_, rfl, ah.aQ xE hd _, ?_, ?_⟩
    ·rw [ae, st]
     unfold mJ
     rw [if_pos g]
    ·rw [st]; omega
   ·refine ⟨_, rfl, xE, ?_, ?_⟩
    ·rw [st]
     unfold mJ
     rw [if_neg g]
     exact Ky
    ·rw [st]; omega
  ·rintro σ H2 ⟨o3', rfl, xE, Ky, tL⟩
   rw [Lm9, abb] at Ky tL
   have e : eU ((fs.take (i + 1)).flatMap (·.as)) [] = eU fs[i].as DQ := by
    rw [aap A1, abv, rW, Np]
    simp
   refine ⟨_, _, rfl, xE, by rw [e]; exact Ky, ?_⟩
   rw [e, aap A1, abv, aac, show ([fs[i]].flatMap (·.as)) = fs[i].as by simp]
   omega
 ·rintro σ H' ⟨o2, o3, rfl, sm, IL, JB⟩
  rw [← hPl, abb] at IL
  refine ⟨_, rfl, d, _, rfl, IL, fun l2 tL => ?_⟩
  refine q _ _ (ah.trans sm (aj tL _)) ⟨l2, rfl, sm.free tL, ?_⟩
  rw [ae, JO, abA]
  rfl
theorem A2 : ax ["self", "title", "parts"] ["self", "title", "parts"] (ao nM) := ⟨rfl, rfl, rfl, by decide +kernel, rfl, by decide +kernel, by decide +kernel⟩
theorem A3 (F : bw K "__init__" "Rule.__init__" nM f fd) (T : xC K c.rule) (lF : br P w K mg base "open_names" 2 ["facts"] (Aj K)) : a4 P w K mg base da 3 f fd ["self", "title", "parts"] (uO K c) := by
 refine F.ok A2 (fun vs H Q E h => ?_) (fun cb A outer s H vs Q E hr h => ?_)
 ·obtain ⟨H0, p, dx, d, title, L, kvs, u0, rfl, _⟩ := h
  rfl
 obtain ⟨H0, p, dx, d, title, L, kvs, u0, rfl, hp, Wi, vz, hd, pa, h5, hok, RS, q⟩ := h
 have hu := GJ hr
 refine ⟨_, (ag (ps_fld (pv 0) (pv 1) rfl)
 (ag (ps_fld (pv 0) (mV hu (pv 2) ar (a7 ab) ⟨rfl, rfl, rfl, rfl⟩) rfl)
 (ag (ps_fld (pv 0) (mV hu (pv 2) ar (a7 ab) ⟨rfl, rfl, rfl, rfl⟩) rfl)
 (ag (ps_fld (pv 0) (mV hu (pv 2) ar (a7 ab) ⟨rfl, rfl, rfl, rfl⟩) rfl)
 (ag (ps_fld (pv 0) (mV hu (pv 2) ar (a7 ab) ⟨rfl, rfl, rfl, rfl⟩) rfl)
 (ag (ps_fld (pv 0) (mV hu (pv 2) ar (a7 ab) ⟨rfl, rfl, rfl, rfl⟩) rfl)
 (ai (ps_fld (pv 0) (ak lF (hr.mono (by decide)) rfl (aa (av gH (pe_fld (pv 0) rfl) (pe_fld (pv 0) rfl)) ab)) rfl)))))))), ?_⟩
 have Zq : p ≠ d := CQ hp hd (by intro z; cases z)
 have Ql : ∀ (o : HO), (∃ fs, o = .ins c.rule dx fs) → (∀ xs, o ≠ .tup xs) ∧ ∀ ob u, o ≠ .uY ob u := fun o ⟨fs, e⟩ => ⟨(by intro xs z; rw [e] at z; cases z), (by intro ob u z; rw [e] at z; cases z)⟩
 refine ⟨_, rfl, _, rfl, p, c.rule, dx, [], rfl, hp, T.cl, T.n1, (by show 0 < 1000; decide), ?_⟩
 have key : ∀ (H1 : Hp) (Lu : List (Str × V)) (n : Str), H1 p = some (.ins c.rule dx Lu) → H1 d = some (.dK kvs) → dh K c H0 H1 L kvs → (∀ b, H1 b = none → H0 b = none) → (∀ b o, H b = some o → b ≠ p → H1 b = some o) →
   ∀ l, H1 l = none → ∀ y : V, (upd (upd H1 l (.lst [])) p (.ins c.rule dx (bL n y Lu))) p = some (.ins c.rule dx (bL n y Lu)) ∧ (upd (upd H1 l (.lst [])) p (.ins c.rule dx (bL n y Lu))) d = some (.dK kvs) ∧
    Kp H0 H1 (upd (upd H1 l (.lst [])) p (.ins c.rule dx (bL n y Lu))) ∧ H0 l = none ∧ upd H1 l (.lst []) l = some (.lst []) ∧ upd H1 l (.lst []) d = some (.dK kvs) ∧ upd H1 l (.lst []) p = some (.ins c.rule dx Lu) ∧ dh K c H0 (upd H1 l (.lst [])) L kvs ∧
    (∀ b o, H b = some o → b ≠ p → (upd (upd H1 l (.lst [])) p (.ins c.rule dx (bL n y Lu))) b = some o) ∧ Kp H0 (upd H1 l (.lst [])) (upd (upd H1 l (.lst [])) p (.ins c.rule dx (bL n y Lu))) := by
  intro H1 Lu n h1p Zr Wj RT Zs l hl y
  have s1 := aj hl (.lst [])
  have Zt := s1 _ _ h1p
  have M9 : Kp H0 (upd H1 l (.lst [])) (upd (upd H1 l (.lst [])) p (.ins c.rule dx (bL n y Lu))) := Kp.upd Wi Zt (Ql _ ⟨_, rfl⟩).1 (Ql _ ⟨_, rfl⟩).2
  refine ⟨ae, by rw [aA (acp Zq)]; exact s1 _ _ Zr, (Kp.same s1).trans M9, RT l hl, ae, s1 _ _ Zr, Zt, Wj.keep (Kp.same s1), fun b o e hb => ?_, M9⟩
  rw [aA hb]
  exact s1 _ _ (Zs b o e hb)
 have Qf : Kp H0 H (upd H p (.ins c.rule dx (bL "title" (tx title) []))) := Kp.upd Wi hp (Ql _ ⟨_, rfl⟩).1 (Ql _ ⟨_, rfl⟩).2
 have Zu : (upd H p (.ins c.rule dx (bL "title" (tx title) []))) p = some (.ins c.rule dx (bL "title" (tx title) [])) := ae
 have Wk : (upd H p (.ins c.rule dx (bL "title" (tx title) []))) d = some (.dK kvs) := by rw [aA (acp Zq)]; exact hd
 have Zv : ∀ b o, H b = some o → b ≠ p → (upd H p (.ins c.rule dx (bL "title" (tx title) []))) b = some o := fun b o e hb => by rw [aA hb]; exact e
 have Pm := pa.keep Qf
 have Kz : ∀ b, (upd H p (.ins c.rule dx (bL "title" (tx title) []))) b = none → H0 b = none := fun b h => vz b (Qf.vz b h)
 generalize upd H p (.ins c.rule dx (bL "title" (tx title) [])) = H1 at Qf Zu Wk Zv Pm Kz ⊢
 refine ⟨_, rfl, d, rfl, .inl ⟨_, .inl Wk⟩, (by show 0 ≤ aai; decide), fun l1 Rk => ?_⟩
 obtain ⟨RU, RV, Pn, Wl, Wm, Wn, Wo, Wq, RX, Nq⟩ := key H1 _ "taken" Zu Wk Pm Kz Zv l1 Rk ((bQ kvs (aaX (aab "take") : Key)).getD (.ref l1))
 refine ⟨_, kj.k (k := (aaX (aab "take") : Key)) Wn, _, rfl, p, c.rule, dx, _, rfl, Wo, T.cl, T.n2, (by show 1 < 1000; decide), ?_⟩
 have v1 := (Fi Wq h5 hok (n := 0) (by decide) Wl Wm).keep Nq
 rw [show S (wordAt 0) = aab "take" by decide +kernel] at v1
 have Po := Pm.keep Pn
 have KA : ∀ b, _ = none → H0 b = none := fun b h => Kz b (Pn.vz b h)
 generalize hH2 : upd (upd H1 l1 (.lst [])) p (.ins c.rule dx (bL "taken" ((bQ kvs (aaX (aab "take") : Key)).getD (.ref l1)) (bL "title" (tx title) []))) = H2 at RU RV Pn RX Nq Po KA v1  ⊢
 have g2p := RU
 have Zw := RV
 have g2k := RX
 refine ⟨_, rfl, d, rfl, .inl ⟨_, .inl Zw⟩, (by show 0 ≤ aai; decide), fun l2 tL => ?_⟩
 obtain ⟨RY, RZ, MG, Wr, Ws, Wt, Wu, Wv, R0, Nr⟩ := key H2 _ "kept" g2p Zw Po KA g2k l2 tL ((bQ kvs (aaX (aab "keep") : Key)).getD (.ref l2))
 refine ⟨_, kj.k (k := (aaX (aab "keep") : Key)) Wt, _, rfl, p, c.rule, dx, _, rfl, Wu, T.cl, T.n3, (by show 2 < 1000; decide), ?_⟩
 have v2 := (Fi Wv h5 hok (n := 1) (by decide) Wr Ws).keep Nr
 rw [show S (wordAt 1) = aab "keep" by decide +kernel] at v2
 have Pp := Po.keep MG
 have KC : ∀ b, _ = none → H0 b = none := fun b h => KA b (MG.vz b h)
 have v1 := v1.keep MG
 generalize hH3 : upd (upd H2 l2 (.lst [])) p (.ins c.rule dx (bL "kept" ((bQ kvs (aaX (aab "keep") : Key)).getD (.ref l2)) (bL "taken" ((bQ kvs (aaX (aab "take") : Key)).getD (.ref l1)) (bL "title" (tx title) [])))) = H3 at RY RZ MG R0 Nr Pp KC v2 v1 ⊢
 have g3p := RY
 have Zx := RZ
 have g3k := R0
 refine ⟨_, rfl, d, rfl, .inl ⟨_, .inl Zx⟩, (by show 0 ≤ aai; decide), fun l3 Qk => ?_⟩
 obtain ⟨R1, R4, KD, Ww, Wx, Wy, Wz, WA, R5, Nt⟩ := key H3 _ "looks" g3p Zx Pp KC g3k l3 Qk ((bQ kvs (aaX (aab "look") : Key)).getD (.ref l3))
 refine ⟨_, kj.k (k := (aaX (aab "look") : Key)) Wy, _, rfl, p, c.rule, dx, _, rfl, Wz, T.cl, T.n4, (by show 3 < 1000; decide), ?_⟩
 have v3 := (OO WA h5 hok Ww Wx).keep Nt
 rw [show S (wordAt 2) = aab "look" by decide +kernel] at v3
 have Pq := Pp.keep KD
 have KH : ∀ b, _ = none → H0 b = none := fun b h => KC b (KD.vz b h)
 have v1 := v1.keep KD
 have v2 := v2.keep KD
 generalize hH4 : upd (upd H3 l3 (.lst [])) p (.ins c.rule dx (bL "looks" ((bQ kvs (aaX (aab "look") : Key)).getD (.ref l3)) (bL "kept" ((bQ kvs (aaX (aab "keep") : Key)).getD (.ref l2)) (bL "taken" ((bQ kvs (aaX (aab "take") : Key)).getD (.ref l1)) (bL "title" (tx title) []))))) = H4 at R1 R4 KD R5 Nt Pq KH v3 v1 v2 ⊢
 have g4p := R1
 have Zy := R4
 have g4k := R5
 refine ⟨_, rfl, d, rfl, .inl ⟨_, .inl Zy⟩, (by show 0 ≤ aai; decide), fun l4 hl4 => ?_⟩
 obtain ⟨R6, R7, Il, WB, WC, WD, WE, WG, R8, Nu⟩ := key H4 _ "given" g4p Zy Pq KH g4k l4 hl4 ((bQ kvs (aaX (aab "put") : Key)).getD (.ref l4))
 refine ⟨_, kj.k (k := (aaX (aab "put") : Key)) WD, _, rfl, p, c.rule, dx, _, rfl, WE, T.cl, T.n5, (by show 4 < 1000; decide), ?_⟩
 have v4 := (Fi WG h5 hok (n := 3) (by decide) WB WC).keep Nu
 rw [show S (wordAt 3) = aab "put" by decide +kernel] at v4
 have Pu := Pq.keep Il
 have KI : ∀ b, _ = none → H0 b = none := fun b h => KH b (Il.vz b h)
 have v1 := v1.keep Il
 have v2 := v2.keep Il
 have v3 := v3.keep Il
 generalize hH5 : upd (upd H4 l4 (.lst [])) p (.ins c.rule dx (bL "given" ((bQ kvs (aaX (aab "put") : Key)).getD (.ref l4)) (bL "looks" ((bQ kvs (aaX (aab "look") : Key)).getD (.ref l3)) (bL "kept" ((bQ kvs (aaX (aab "keep") : Key)).getD (.ref l2)) (bL "taken" ((bQ kvs (aaX (aab "take") : Key)).getD (.ref l1)) (bL "title" (tx title) [])))))) = H5 at R6 R7 Il R8 Nu Pu KI v4 v1 v2 v3 ⊢
 have g5p := R6
 have Zz := R7
 have g5k := R8
 refine ⟨_, rfl, d, rfl, .inl ⟨_, .inl Zz⟩, (by show 0 ≤ aai; decide), fun l5 ZA => ?_⟩
 obtain ⟨R9, Sa, FP, WH, WI, WJ, WK, WL, Sb, Nv⟩ := key H5 _ "told" g5p Zz Pu KI g5k l5 ZA ((bQ kvs (aaX (aab "tell") : Key)).getD (.ref l5))
 refine ⟨_, kj.k (k := (aaX (aab "tell") : Key)) WJ, _, rfl, p, c.rule, dx, _, rfl, WK, T.cl, T.n6, (by show 5 < 1000; decide), ?_⟩
 have v5 := (OP WL h5 hok WH WI).keep Nv
 rw [show S (wordAt 4) = aab "tell" by decide +kernel] at v5
 have WM := Pu.keep FP
 have KJ : ∀ b, _ = none → H0 b = none := fun b h => KI b (FP.vz b h)
 have v1 := v1.keep FP
 have v2 := v2.keep FP
 have v3 := v3.keep FP
 have v4 := v4.keep FP
 generalize hH6 : upd (upd H5 l5 (.lst [])) p (.ins c.rule dx (bL "told" ((bQ kvs (aaX (aab "tell") : Key)).getD (.ref l5)) (bL "given" ((bQ kvs (aaX (aab "put") : Key)).getD (.ref l4)) (bL "looks" ((bQ kvs (aaX (aab "look") : Key)).getD (.ref l3)) (bL "kept" ((bQ kvs (aaX (aab "keep") : Key)).getD (.ref l2)) (bL "taken" ((bQ kvs (aaX (aab "take") : Key)).getD (.ref l1)) (bL "title" (tx title) []))))))) = H6 at R9 Sa FP Sb Nv WM KJ v5 v1 v2 v3 v4 ⊢
 have UQ := R9
 have g6d := Sa
 have g6k := Sb
 generalize Ox : (bL "told" ((bQ kvs (aaX (aab "tell") : Key)).getD (.ref l5)) (bL "given" ((bQ kvs (aaX (aab "put") : Key)).getD (.ref l4)) (bL "looks" ((bQ kvs (aaX (aab "look") : Key)).getD (.ref l3)) (bL "kept" ((bQ kvs (aaX (aab "keep") : Key)).getD (.ref l2)) (bL "taken" ((bQ kvs (aaX (aab "take") : Key)).getD (.ref l1)) (bL "title" (tx title) [])))))) = IM at UQ ⊢
 have lk : ∀ n : Str, IM.lookup n = if n = "told" then some ((bQ kvs (aaX (aab "tell") : Key)).getD (.ref l5)) else if n = "given" then some ((bQ kvs (aaX (aab "put") : Key)).getD (.ref l4)) else if n = "looks" then some ((bQ kvs (aaX (aab "look") : Key)).getD (.ref l3)) else if n = "kept" then some ((bQ kvs (aaX (aab "keep") : Key)).getD (.ref l2)) else if n = "taken" then some ((bQ kvs (aaX (aab "take") : Key)).getD (.ref l1)) else if n = "title" then some (tx title) else none := fun n => by
  rw [← Ox, aU, aU, aU, aU, aU, aU]
  rfl
 obtain ⟨lt, ut, et, nt, ht, pt⟩ := id v1
 obtain ⟨WN, uk, ek, nk, hk, pk⟩ := id v2
 have ZC : IM.lookup ("taken" : Str) = some (.ref lt) := by
  rw [lk, if_neg (by decide +kernel), if_neg (by decide +kernel), if_neg (by decide +kernel), if_neg (by decide +kernel), if_pos rfl, et]
 have ZD : IM.lookup ("kept" : Str) = some (.ref WN) := by
  rw [lk, if_neg (by decide +kernel), if_neg (by decide +kernel), if_neg (by decide +kernel), if_pos rfl, ek]
 have WQ : IM.length < 1000 := by
  rw [← Ox]
  show 6 < 1000
  decide
 have zl1 := aam pt
 have zl2 := aam pk
 have hfew := RS.few
 have WR : (rY title L).take ++ (rY title L).keep = xB 0 L ++ xB 1 L := rfl
 rw [WR, aac] at hfew
 refine ⟨_, rfl, p, c.rule, dx, IM, _, rfl, UQ, T.cl, T.n2, ZC, _, rfl, p, c.rule, dx, IM, _, rfl, UQ, T.cl, T.n3, ZD, lt, WN, _, _, rfl, rfl, ht, hk, sz (by omega), fun l6 hl6 => ?_⟩
 have s6 := aj hl6 (.lst (ut ++ uk))
 refine ⟨l6, _, xB 0 L ++ xB 1 L, rfl, ae, cB (L2.Paired.d8 pt fun _ _ z => z.keep (H0 := H0) (Kp.same s6)) (L2.Paired.d8 pk fun _ _ z => z.keep (H0 := H0) (Kp.same s6)), by rw [aac]; omega, RS.heads, RS.VS, fun v7 H7 s7 T7 => ?_⟩
 have WS := ah.trans s6 s7
 have ZE := WS _ _ UQ
 refine ⟨_, rfl, p, c.rule, dx, IM, rfl, ZE, T.cl, T.n7, WQ, ?_⟩
 have ZF : Kp H0 H7 (upd H7 p (.ins c.rule dx (bL "names" v7 IM))) := Kp.upd Wi ZE (Ql _ ⟨_, rfl⟩).1 (Ql _ ⟨_, rfl⟩).2
 have Im : Kp H0 H6 (upd H7 p (.ins c.rule dx (bL "names" v7 IM))) := (Kp.same WS).trans ZF
 have Pw : ∀ n : Str, n ≠ "names" → (bL "names" v7 IM).lookup n = IM.lookup n := fun n hn => by rw [aU, if_neg hn]
 refine q _ (bL "names" v7 IM) ae ⟨?_, ⟨_, ?_, v1.keep Im⟩, ⟨_, ?_, v2.keep Im⟩, ⟨_, ?_, v3.keep Im⟩, ⟨_, ?_, v4.keep Im⟩, ⟨_, ?_, v5.keep Im⟩, ⟨v7, ?_, ?_⟩, ?_⟩ (fun b o e hb => ?_)
 ·rw [Pw _ (by decide +kernel), lk, if_neg (by decide +kernel), if_neg (by decide +kernel), if_neg (by decide +kernel), if_neg (by decide +kernel), if_neg (by decide +kernel), if_pos rfl]
  rfl
 ·rw [Pw _ (by decide +kernel), ZC, et]
 ·rw [Pw _ (by decide +kernel), ZD, ek]
 ·rw [Pw _ (by decide +kernel), lk, if_neg (by decide +kernel), if_neg (by decide +kernel), if_pos rfl]
 ·rw [Pw _ (by decide +kernel), lk, if_neg (by decide +kernel), if_pos rfl]
 ·rw [Pw _ (by decide +kernel), lk, if_pos rfl]
 ·rw [aU, if_pos rfl]
 ·obtain ⟨ln, en, nn, hn⟩ := T7
  have Nk : H6 ln = none := s6.free nn
  exact ⟨ln, en, KJ ln Nk, ZF.new _ _ (KJ ln Nk) hn⟩
 ·rw [Pw _ (by decide +kernel), lk, if_neg (by decide +kernel), if_neg (by decide +kernel), if_neg (by decide +kernel), if_neg (by decide +kernel), if_neg (by decide +kernel), if_neg (by decide +kernel)]
 ·rw [aA hb]
  exact WS _ _ (g6k b o e hb)
theorem xN : ax ["self"] ["self"] (ao kL) := ⟨rfl, rfl, rfl, by decide +kernel, rfl, by decide +kernel, by decide +kernel⟩
theorem xO (F : bw K "calls" "Rule.calls" kL f fd) (T : xC K c.rule) (aX : mg "len" = none) : a4 P w K mg base da 1 f fd ["self"] (uQ K c) := by
 refine F.ok xN (fun vs H Q E h => ?_) (fun cb A outer s H vs Q E hr h => ?_)
 ·obtain ⟨H0, v, r, rfl, _⟩ := h
  rfl
 obtain ⟨H0, v, r, rfl, hR, q⟩ := h
 obtain ⟨a, dx, fs, rfl, n, h1, RF⟩ := hR
 obtain ⟨vt, ev, lt, us, rfl, nt, ht, pt⟩ := RF.taken
 have zl := aam pt
 refine ⟨_, (ai (aC (dF cS (aM aF rfl aX aaI (aa (pe_fld (pv 0) rfl) ab)) af (aL _)))), ?_⟩
 refine ⟨_, rfl, a, c.rule, dx, fs, _, rfl, h1, T.cl, T.n2, ev, lt, _, rfl, .inl (aH.of ht), rfl, ?_⟩
 have e : decide (V.int (us.length : Int) = V.int 0) = decide (r.take = []) := by
  rw [decide_eq_decide]
  constructor
  ·intro z
   have z' : (us.length : Int) = 0 := by injection z
   exact aaV (by omega)
  ·intro z
   rw [z] at zl
   rw [← zl]
   rfl
 rw [e]
 exact q
theorem A4 : ax ["self", "kinds", "rules"] ["self", "kinds", "rules"] (ao nN) := ⟨rfl, rfl, rfl, by decide +kernel, rfl, by decide +kernel, by decide +kernel⟩
theorem A5 (F : bw K "__init__" "Book.__init__" nN f fd) (T : Ma K c.book) : a4 P w K mg base da 1 f fd ["self", "kinds", "rules"] (uP K c) := by
 refine F.ok A4 (fun vs H Q E h => ?_) (fun cb A outer s H vs Q E hr h => ?_)
 ·obtain ⟨p, dx, l, r, rfl, _⟩ := h
  rfl
 obtain ⟨p, dx, l, r, rfl, hp, q⟩ := h
 refine ⟨_, (ag (ps_fld (pv 0) (pv 1) rfl)
 (ai (ps_fld (pv 0) (pv 2) rfl))), ?_⟩
 refine ⟨_, rfl, _, rfl, p, c.book, dx, [], rfl, hp, T.cl, T.n1, (by show 0 < 1000; decide), _, rfl, _, rfl, p, c.book, dx, _, rfl, ae, T.cl, T.n2, (by show 1 < 1000; decide), ?_⟩
 refine q _ _ ae ?_ ?_ fun b o e hb => ?_
 ·rw [aU, if_neg (by decide +kernel), aU, if_pos rfl]
 ·rw [aU, if_pos rfl]
 ·rw [aA hb, aA hb]
  exact e
end
end iS
namespace iS
open PySem L2 cM Bk
set_option maxHeartbeats 4000000
section
variable {P : aaL} {w : aa9} {K : aaa} {mg : Str → Option aad} {base : Heap} {f : aaC} {fd : abd} {c : Cl}
theorem aP {α : Type} {l : List α} {i : Nat} {x : α} (h : l[i]? = some x) : ∃ hi : i < l.length, l[i] = x := aaj.mp h
theorem g5 : ax ["kinds", "rules", "line", "found", "reading", "kind"] ["kinds", "rules", "line"] (ao nP) := ⟨rfl, rfl, rfl, by decide +kernel, rfl, by decide +kernel, by decide +kernel⟩
theorem A6 {u1 : aad} (F : bw K "hear_line" "hear_line" nP f fd) (T : xC K c.rule) (jj : br P w K mg base "line_pieces" 4 ["line"] Fb) (oi : br P w K mg base "read_rule" 7 ["found"] (Fh K c)) (oj : br P w K mg base "read_kind" 4 ["found"] (Fd K))
  (FQ : LW P w K mg base "Rule" c.rule 3 ["self", "title", "parts"] (uO K c)) (og : mg "RULE_WORD" = some u1) (oh : RelV (tx cF) u1) : a4 P w K mg base da 8 f fd ["kinds", "rules", "line"] (Fj K c) := by
 refine F.ok g5 (fun vs H Q E h => ?_) (fun cb A outer s H vs Q E hr h => ?_)
 ·obtain ⟨H0, lk, lr, ks, rs, kvs, rC, p, rfl, _⟩ := h
  rfl
 obtain ⟨H0, lk, lr, ks, rs, kvs, rC, p, rfl, I, fk1, fr1, hz, hok, alt⟩ := h
 refine ⟨_, (ag (aw (i := 3) g5.nd rfl (aaM rfl) (ak jj (hr.mono (by decide)) rfl (aa (pv 2) ab)))
 (ai (aV (ay cS (aq aG (pv 3) af (fun _ _ => rfl)) (de rfl og oh) (aL _))
 (ag (aw (i := 4) g5.nd rfl (aaM rfl) (ak oi (hr.mono (by decide)) rfl (aa (pv 3) ab)))
 (ag (aV (ay rM (aq aI (pv 4) af (fun _ _ => rfl)) (bA [] rfl (by kernel_rfl) (aW (pv 1)) (fun _ _ _ _ _ => bj) (fun _ _ _ _ _ => (z8 (K := K) rfl (pv 0) rfl))) (by with_unfolding_all rfl))
 bg
 aE)
 (ai (bf (bo aaD aaE aaG bh (pv 1) (aa (qy FQ (hr.mono (by decide)) rfl (aa (aq aI (pv 4) af (fun _ _ => rfl)) (aa (aq aI (pv 4) af (fun _ _ => rfl)) ab))) ab))))))
 (ag (aw (i := 5) g5.nd rfl (aaM rfl) (ak oj (hr.mono (by decide)) rfl (aa (pv 3) ab)))
 (ag (aV (ay rM (aq aI (pv 5) af (fun _ _ => rfl)) (bA [] rfl (by kernel_rfl) (aW (pv 0)) (fun _ _ _ _ _ => bj) (fun _ _ _ _ _ => (aq (r := ub K) aI (pv 0) af (fun _ _ => rfl)))) (by with_unfolding_all rfl))
 bg
 aE)
 (ai (bf (bo aaD aaE aaG bh (pv 0) (aa (pv 5) ab))))))))), ?_⟩
 refine ⟨_, rfl, p, rfl, hz, hok, fun v H1 s1 T1 => ?_⟩
 obtain ⟨l, rfl, Ks, hl⟩ := T1
 have Pj : (toks p).length ≤ 20000 := aa8 (Dd p) hz
 rcases alt with ⟨k, WT, ZG, WU, q⟩ | ⟨title, L, WT, R, RS, WV, q⟩
 ·rw [WT] at hl
  have hl' : H1 l = some (.lst [tx (if k.l = true then a6 else a5), tx k.n, tx [48 + k.c]]) := hl
  refine ⟨_, rfl, l, _, 0, _, rfl, rfl, aH.of hl', rfl, rfl, _, rfl, ?_⟩
  have e0 : decide (tx (if k.l = true then a6 else a5) = tx cF) = false := by cases k.l <;> decide +kernel
  rw [e0]
  refine bb ⟨_, rfl, l, k, rfl, hl, ZG.1, ZG.2, fun v H2 s2 hK => ?_⟩
  have DR := ah.trans s1 s2
  obtain ⟨t, rfl, ht⟩ := hK
  refine ⟨_, rfl, t, _, 0, _, rfl, rfl, ht, rfl, _, rfl, lk, rfl, ⟨_, aH.of (DR _ _ I.hk)⟩, fun D hD => ?_⟩
  have zl := aam I.pk
  refine cA (K := K) (xs := kvs) (ks.map (·.n)) (fun _ _ b y => y = tx b) (fun _ _ _ _ _ _ h => h) (fun _ _ _ _ _ _ h => h) (kl (by have := I.fk; omega)) hD (aH.of (DR _ _ I.hk)) (by rw [Lm9]; exact zl) (fun i x b H' R hx hb sm hQ => ?_) (fun H3 ys sm hL po => ?_)
  ·obtain ⟨hi, ex⟩ := aP hx
   obtain ⟨dH, eb⟩ := aP hb
   rw [Lm9] at dH
   rw [aas] at eb
   obtain ⟨tk, Sd, hk⟩ := paired_at I.pk i dH hi
   rw [ex] at Sd
   subst Sd
   refine ⟨_, rfl, tk, _, 0, _, rfl, rfl, hk.same (ah.trans DR sm), rfl, hQ _ _ (ah.refl _) ?_⟩
   rw [eb]
  ·rw [bT po] at hL
   refine ⟨D, _, rfl, .inl (aH.of hL), rfl, jV _, _, rfl, ?_⟩
   rw [pz, decide_eq_false WU]
   refine bb ?_
   have sA := ah.trans DR sm
   have WW := sA _ _ I.hk
   refine ⟨_, rfl, .inl ⟨rfl, _, aH.of WW⟩, _, rfl, lk, _, _, rfl, rfl, WW, kl (by have := I.fk; omega), ?_⟩
   obtain ⟨u0, hu0⟩ := I.ok
   have kp : Kp H0 H3 (upd H3 lk (.lst (kvs ++ [V.ref t]))) := Kp.upd hu0 WW (by intro xs z; cases z) (by intro o u z; cases z)
   have Im : Kp H0 H (upd H3 lk (.lst (kvs ++ [V.ref t]))) := (Kp.same sA).trans kp
   refine q (.ref t) _ (fun b o hb e => by rw [aA hb]; exact sA _ _ e) ⟨ae, ?_, ?_, L2.Paired.d8 I.pr fun _ _ z => z.keep Im, I.ne, I.ok, I.or, fun b h => I.vz b (Im.vz b h), ?_, I.fr⟩
   ·exact (L2.Paired.d8 I.pk fun _ _ z => z.keep Im).snoc (Kind.keep kp ⟨t, rfl, ht.same sm⟩)
   ·rw [aA (acp I.ne)]
    exact sA _ _ I.hr
   ·rw [aac, abH]
    omega
 ·rw [WT] at hl Pj
  refine ⟨_, rfl, l, _, 0, tx cF, rfl, rfl, aH.of hl, bU (j := 0) rfl, rfl, _, rfl, ?_⟩
  rw [decide_eq_true rfl]
  refine dq ⟨_, rfl, l, title, L, rfl, hl, Pj, R, fun t d kd H2 s2 ht hd0 hd pa => ?_⟩
  have DR := ah.trans s1 s2
  refine ⟨_, rfl, t, _, 0, _, rfl, rfl, cK.of ht, rfl, _, rfl, lr, rfl, ⟨_, aH.of (DR _ _ I.hr)⟩, fun D hD => ?_⟩
  have zl := aam I.pr
  refine cA (K := K) (xs := rC) (rs.map (·.title)) (fun _ _ b y => y = tx b) (fun _ _ _ _ _ _ h => h) (fun _ _ _ _ _ _ h => h) (kl (by have := I.fr; omega)) hD (aH.of (DR _ _ I.hr)) (by rw [Lm9]; exact zl) (fun i x b H' R hx hb sm hQ => ?_) (fun H3 ys sm hL po => ?_)
  ·obtain ⟨hi, ex⟩ := aP hx
   obtain ⟨dH, eb⟩ := aP hb
   rw [Lm9] at dH
   rw [aas] at eb
   obtain ⟨a, dx, fs, ea, na, ha, RF⟩ := paired_at I.pr i dH hi
   rw [ex] at ea
   subst ea
   refine ⟨_, rfl, a, c.rule, dx, fs, _, rfl, (ah.trans DR sm) _ _ ha, T.cl, T.n1, RF.title, hQ _ _ (ah.refl _) ?_⟩
   rw [eb]
  ·rw [bT po] at hL
   refine ⟨D, _, rfl, .inl (aH.of hL), rfl, jV _, _, rfl, ?_⟩
   rw [pz, decide_eq_false WV]
   refine bb ?_
   have sA := ah.trans DR sm
   have Qm := sA _ _ I.hr
   have UR := sm _ _ ht
   have UN := sm _ _ hd
   refine ⟨_, rfl, .inl ⟨rfl, _, aH.of Qm⟩, _, rfl, t, _, 0, _, rfl, rfl, cK.of UR, rfl, _, rfl, t, _, 1, _, rfl, rfl, cK.of UR, rfl, fun x dx hx RQ Wd => ?_⟩
   have ZH : H x = none := sA.free hx
   have ZI : H0 x = none := I.vz x ZH
   have sM : ah H3 (upd (upd H3 dx (.own x)) x (.ins c.rule dx [])) := ah.trans (aj RQ _) (ah.aQ (ah.refl _) (by rw [aA (acp Wd)]; exact hx) _)
   have pa3 : dh K c (upd H0 x (.own x)) (upd (upd H3 dx (.own x)) x (.ins c.rule dx [])) L kd := by
    refine L2.Paired.d8 pa fun y kv z => ⟨z.1, ?_⟩
    have z1 := dg.cg (H0 := H0) (fun b h => I.vz b (s1.free h)) z.2
    exact dg.keep (Kp.same sM) (dg.apart hx (dg.keep (Kp.same sm) z1))
   obtain ⟨ur, ZJ⟩ := I.or
   have ZK : lr ≠ x := aN Qm hx
   refine ⟨upd H0 x (.own x), x, dx, d, title, L, kd, _, rfl, ae, ae, fun b h => ?_, sM _ _ UN, pa3, fun y hy => (rV R.inc y hy).2, R.ok, RS, fun H4 fs h4 RF kp4 => ⟨rfl, ?_⟩⟩
   ·have WX : b ≠ x := fun z => by rw [z, ae] at h; cases h
    rw [aA WX]
    exact I.vz b (ah.free (ah.trans sA sM) h)
   have s4 : ah H H4 := fun b o e => kp4 b o ((ah.trans sA sM) b o e) (aN e ZH)
   have Px := s4 _ _ I.hr
   refine ⟨lr, _, _, rfl, rfl, Px, kl (by have := I.fr; omega), ?_⟩
   have kp : Kp H0 H4 (upd H4 lr (.lst (rC ++ [V.ref x]))) := Kp.upd ZJ Px (by intro xs z; cases z) (by intro o u z; cases z)
   have kpX : Kp (upd H0 x (.own x)) H4 (upd H4 lr (.lst (rC ++ [V.ref x]))) := Kp.upd (by rw [aA ZK]; exact ZJ) Px (by intro xs z; cases z) (by intro o u z; cases z)
   have Im : Kp H0 H (upd H4 lr (.lst (rC ++ [V.ref x]))) := (Kp.same s4).trans kp
   refine q (.ref x) _ (fun b o hb e => by rw [aA hb]; exact s4 _ _ e) ⟨?_, L2.Paired.d8 I.pk fun _ _ z => z.keep Im, ae, ?_, I.ne, I.ok, I.or, fun b h => I.vz b (Im.vz b h), I.fk, ?_⟩
   ·rw [aA I.ne]
    exact s4 _ _ I.hk
   ·refine (L2.Paired.d8 I.pr fun _ _ z => z.keep Im).snoc ⟨x, dx, fs, rfl, ZI, by rw [aA (acp ZK)]; exact h4, ?_⟩
    refine qE.cg (fun b h => ?_) (RF.keep kpX)
    have WX : b ≠ x := fun z => by rw [z, ae] at h; cases h
    rw [aA WX] at h
    exact h
   ·rw [aac, abH]
    omega
end
end iS
namespace iS
open PySem L2 cM Bk
set_option maxHeartbeats 4000000
section
variable {P : aaL} {w : aa9} {K : aaa} {mg : Str → Option aad} {base : Heap} {f : aaC} {fd : abd} {c : Cl}
theorem iz : ax ["kinds", "facts", "counts", "fact"] ["kinds", "facts"] (ao i9) := ⟨rfl, rfl, rfl, by decide +kernel, rfl, by decide +kernel, by decide +kernel⟩
theorem wy (F : bw K "check_facts" "check_facts" i9 f fd) (Py : mg "dict" = none) (aX : mg "len" = none) : a4 P w K mg base da 1 f fd ["kinds", "facts"] (vI K) := by
 refine F.ok iz (fun vs H Q E h => ?_) (fun cb A outer s H vs Q E hr h => ?_)
 ·obtain ⟨lk, lf, kvs, EI, ks, fs, rfl, _⟩ := h
  rfl
 obtain ⟨lk, lf, kvs, EI, ks, fs, rfl, hk, pk, nd, fk, hf, pf, hfit, q⟩ := h
 have hu := GJ hr
 refine ⟨_, (ag (aw (i := 2) iz.nd rfl (aaM rfl) (dY (ue rfl) rfl Py PyProof.Rows.Boot.«dict» (aa (bA [] rfl (by kernel_rfl) (aW (pv 0)) (fun _ _ _ _ _ => bj) (fun _ _ _ _ _ => (cT (aa (aq (r := ub K) aI (pv 0) af (fun _ _ => rfl)) (aa (aq (r := ub K) aI (pv 0) af (fun _ _ => rfl)) ab))))) ab)))
 (ai (cL aaP rfl (aW (pv 1)) (bN (i := 3) iz.nd rfl (aaM rfl))
 (ag (aV (EJ (rP hu (aq aI (pv 3) af (fun _ _ => rfl)) (pv 2)))
 bg
 aE)
 (ai (aV (ay fJ (aM aF rfl aX aaI (aa (aq aI (pv 3) af (fun _ _ => rfl)) ab)) (L3 hu (pv 2) (aq aI (pv 3) af (fun _ _ => rfl)) (fun _ _ => rfl)) (aL _))
 bg
 aE)))))), ?_⟩
 have zl := aam pk
 have zf := aam pf
 refine ⟨_, rfl, lk, rfl, ⟨_, aH.of hk⟩, fun D hD => ?_⟩
 refine cA (K := K) (xs := kvs) ks (fun _ H k y => ∃ t, y = .ref t ∧ cK K H t [tx k.n, .int k.c]) (fun _ _ _ _ _ k ⟨t, e, h⟩ => ⟨t, e, cK.keep k h⟩) (fun _ _ _ _ _ _ h => h) (kl (by omega)) hD (aH.of hk) zl (fun i x b H' R hx hb sm hQ => ?_) (fun H1 ys s1 hL po => ?_)
 ·obtain ⟨hi, ex⟩ := aP hx
  obtain ⟨dH, eb⟩ := aP hb
  obtain ⟨t, et, ht⟩ := paired_at pk i dH hi
  rw [ex] at et
  rw [eb] at ht
  subst et
  have ht' := ht.same sm
  exact ⟨_, rfl, t, _, 0, _, rfl, rfl, ht', rfl, _, rfl, t, _, 1, _, rfl, rfl, ht', rfl, (by show 2 ≤ aai; decide), fun t2 uX => hQ _ _ (aj uX _) ⟨t2, rfl, cK.of ae⟩⟩
 refine ⟨D, ys, ks.map tS, rfl, hL, tT po, (by rw [Lm9]; omega), fun d hd => ?_⟩
 rw [qK _ _ (tU nd), abr]
 have s2 : ah H (upd H1 d (.dK (ks.map tS))) := ah.trans s1 (aj hd _)
 have WY := ae (H := H1) (a := d) (o := .dK (ks.map tS))
 generalize upd H1 d (.dK (ks.map tS)) = H2 at s2 WY ⊢
 refine ⟨_, rfl, lf, rfl, ⟨_, aH.of (s2 _ _ hf)⟩, cI (K := K) (a := lf) (xs := EI) (fun i σ H' => H' = H2 ∧ ∃ o, σ = [some (.ref lk), some (.ref lf), some (.ref d), o]) ⟨rfl, none, rfl⟩ (fun i σ H' _ ⟨e, _⟩ => by rw [e]; exact aH.of (s2 _ _ hf)) ?_ ?_⟩
 ·rintro i y σ H' hi ⟨rfl, o, rfl⟩
  obtain ⟨A1, ey⟩ := aP hi
  have FT : i < fs.length := by omega
  obtain ⟨t, t2, et, h1, h2⟩ := paired_at pf i FT A1
  rw [ey] at et
  subst et
  obtain ⟨k, hkm, ekn, ekc⟩ := hfit fs[i] (aaq FT)
  have Se : bQ (ks.map tS) (aaX (S fs[i].k) : Key) = some (.int k.c) := by
   rw [← ekn]
   exact zp (tU nd) (aat.mpr ⟨k, hkm, rfl⟩)
  have h1' := h1.same s2
  have h2' := h2.same s2
  refine ⟨_, rfl, t, _, 0, _, rfl, rfl, h1', rfl, _, rfl, d, _, rfl, kj.k (k := (aaX (S fs[i].k) : Key)) WY, _, rfl, ?_⟩
  rw [Se]
  refine bb ?_
  refine ⟨_, rfl, t, _, 1, _, rfl, rfl, h1', rfl, t2, _, rfl, .inr h2', _, rfl, _, rfl, t, _, 0, _, rfl, rfl, h1', rfl, d, _, rfl, (by have z := kj.k (k := (aaX (S fs[i].k) : Key)) WY; rw [Se] at z; exact z), rfl, _, rfl, ?_⟩
  rw [Lm9, ekc, decide_eq_true rfl]
  exact bb ⟨rfl, _, rfl⟩
 ·rintro σ H' ⟨rfl, o, rfl⟩
  exact q _ s2
theorem om : ax ["lasts", "taken", "fact"] ["lasts", "taken"] (ao ja) := ⟨rfl, rfl, rfl, by decide +kernel, rfl, by decide +kernel, by decide +kernel⟩
theorem wz (F : bw K "check_taken" "check_taken" ja f fd) : a4 P w K mg base da 1 f fd ["lasts", "taken"] (vJ K) := by
 refine F.ok om (fun vs H Q E h => ?_) (fun cb A outer s H vs Q E hr h => ?_)
 ·obtain ⟨ll, lf, EI, ls, fs, rfl, _⟩ := h
  rfl
 obtain ⟨ll, lf, EI, ls, fs, rfl, hl, hf, pf, Lp, q⟩ := h
 refine ⟨_, (ai (cL aaP rfl (aW (pv 1)) (bN (i := 2) om.nd rfl (aaM rfl))
 (ai (aV (ay rM (aq aI (pv 2) af (fun _ _ => rfl)) (pv 0) (by with_unfolding_all rfl))
 bg
 aE)))), ?_⟩
 have zf := aam pf
 refine ⟨_, rfl, lf, rfl, ⟨_, aH.of hf⟩, cI (K := K) (a := lf) (xs := EI) (fun i σ H' => H' = H ∧ ∃ o, σ = [some (.ref ll), some (.ref lf), o]) ⟨rfl, none, rfl⟩ (fun i σ H' _ ⟨e, _⟩ => by rw [e]; exact aH.of hf) ?_ ?_⟩
 ·rintro i y σ H' hi ⟨rfl, o, rfl⟩
  obtain ⟨A1, ey⟩ := aP hi
  have FT : i < fs.length := by omega
  obtain ⟨t, t2, et, h1, h2⟩ := paired_at pf i FT A1
  rw [ey] at et
  subst et
  refine ⟨_, rfl, t, _, 0, _, rfl, rfl, h1, rfl, _, rfl, ll, _, rfl, .inl (aH.of hl), rfl, jV _, _, rfl, ?_⟩
  rw [pz, decide_eq_false (Lp _ (aaq FT))]
  exact bb ⟨rfl, _, rfl⟩
 ·rintro σ H' ⟨rfl, o, rfl⟩
  exact q
theorem pN : ax ["lasts", "rule", "fact"] ["lasts", "rule"] (ao kY) := ⟨rfl, rfl, rfl, by decide +kernel, rfl, by decide +kernel, by decide +kernel⟩
theorem xP (F : bw K "check_call" "check_call" kY f fd) (T : xC K c.rule) (ib : Met P w K mg base c.rule "calls" 1 ["self"] (uQ K c)) : a4 P w K mg base da 2 f fd ["lasts", "rule"] (vK K c) := by
 refine F.ok pN (fun vs H Q E h => ?_) (fun cb A outer s H vs Q E hr h => ?_)
 ·obtain ⟨H0, ll, v, ls, r, rfl, _⟩ := h
  rfl
 obtain ⟨H0, ll, v, ls, r, rfl, hl, hR, MH, q⟩ := h
 refine ⟨_, (ag (aV (iZ (cR (y1 (pv 1) ib (hr.mono (by decide)))))
 (ai LH)
 aE)
 (ai (cL aaP rfl (aW (pe_fld (pv 1) rfl)) (bN (i := 2) pN.nd rfl (aaM rfl))
 (ai (aV (ay dZ (aq aI (pv 2) af (fun _ _ => rfl)) (pv 0) (by with_unfolding_all rfl))
 bg
 aE))))), ?_⟩
 obtain ⟨a, dx, fs, rfl, na, ha, RF⟩ := id hR
 refine ⟨_, rfl, a, dx, fs, rfl, ha, RF.calls, H0, _, r, rfl, hR, _, rfl, ?_⟩
 by_cases e : r.take = []
 ·rw [decide_eq_true e]
  refine bb ?_
  obtain ⟨vg, ev, lg, us, rfl, ng, hg, pg⟩ := RF.given
  have zg := aam pg
  refine ⟨_, rfl, a, c.rule, dx, fs, _, rfl, ha, T.cl, T.n5, ev, lg, rfl, ⟨_, aH.of hg⟩, cI (K := K) (a := lg) (xs := us) (fun i σ H' => H' = H ∧ ∃ o, σ = [some (.ref ll), some (.ref a), o]) ⟨rfl, none, rfl⟩ (fun i σ H' _ ⟨e, _⟩ => by rw [e]; exact aH.of hg) ?_ ?_⟩
  ·rintro i y σ H' hi ⟨rfl, o, rfl⟩
   obtain ⟨A1, ey⟩ := aP hi
   have FT : i < r.put.length := by omega
   obtain ⟨t, t2, et, h1, h2⟩ := paired_at pg i FT A1
   rw [ey] at et
   subst et
   refine ⟨_, rfl, t, _, 0, _, rfl, rfl, h1, rfl, _, rfl, ll, _, rfl, .inl (aH.of hl), rfl, jV _, _, rfl, ?_⟩
   rw [pz, decide_eq_true (MH e _ (aaq FT))]
   exact bb ⟨rfl, _, rfl⟩
  ·rintro σ H' ⟨rfl, o, rfl⟩
   exact q
 ·rw [decide_eq_false e]
  exact dq q
theorem ef : ax ["rule", "said", "look", "fact", "pair"] ["rule"] (ao kZ) := ⟨rfl, rfl, rfl, by decide +kernel, rfl, by decide +kernel, by decide +kernel⟩
theorem xQ (F : bw K "said_names" "said_names" kZ f fd) (T : xC K c.rule) (Ts : uh K c.same) (Tu : uh K c.unlike) : a4 P w K mg base da 1 f fd ["rule"] (Fl K c) := by
 refine F.ok ef (fun vs H Q E h => ?_) (fun cb A outer s H vs Q E hr h => ?_)
 ·obtain ⟨H0, v, r, rfl, _⟩ := h
  rfl
 obtain ⟨H0, v, r, rfl, hR, hz, q⟩ := h
 refine ⟨_, (ag (aw (i := 1) ef.nd rfl (aaM rfl) (a7 ab))
 (ag (cL aaP rfl (aW (pe_fld (pv 0) rfl)) (bN (i := 2) ef.nd rfl (aaM rfl))
 (ai (bf (bo aaD abM acx Hy (pv 1) (aa (a7 (aa (pe_fld (pv 2) rfl) (aa (pe_fld (pv 2) rfl) ab))) ab)))))
 (ag (cL aaP rfl (aW (pe_fld (pv 0) rfl)) (bN (i := 3) ef.nd rfl (aaM rfl))
 (ai (bf (bo aaD abM acx vo (pv 1) (aa (aq aI (pv 3) af (fun _ _ => rfl)) ab)))))
 (ag (cL aaP rfl (aW (pe_fld (pv 0) rfl)) (bN (i := 4) ef.nd rfl (aaM rfl))
 (ai (bf (bo aaD abM acx vo (pv 1) (aa (pv 4) ab)))))
 (ai (aC (pv 1))))))), ?_⟩
 obtain ⟨a, dx, fs, rfl, na, ha, RF⟩ := id hR
 obtain ⟨vl, el, ll, ul, rfl, nl, hl, pl⟩ := RF.aO
 obtain ⟨vg, eg, lg, ug, rfl, ng, hg, pg⟩ := RF.given
 obtain ⟨vt, et, lt, ut, rfl, nt, ht, pt⟩ := RF.told
 have hz' := hz
 unfold dN at hz'
 rw [aac, aac] at hz'
 refine ⟨(by show 0 ≤ aai; decide), fun ls Qn => ?_⟩
 have s0 := aj Qn (.lst [])
 have zl := aam pl
 have zg := aam pg
 have zt := aam pt
 have oo : ∀ b, CM K (c.look b) ∧ cz K (c.look b) "left" ∧ cz K (c.look b) "right" := fun b => by
  cases b with
  | true => exact ⟨Ts.cl, Ts.nL, Ts.nR⟩
  | false => exact ⟨Tu.cl, Tu.nL, Tu.nR⟩
 refine ⟨_, rfl, a, c.rule, dx, fs, _, rfl, s0 _ _ ha, T.cl, T.n4, el, ll, rfl, ⟨_, aH.of (s0 _ _ hl)⟩, cI (K := K) (a := ll) (xs := ul) (fun i σ H' => ah H H' ∧ H' ls = some (.lst (((r.aO.take i).flatMap fun k => [k.l, k.r]).map tx)) ∧ ((r.aO.take i).flatMap fun k => [k.l, k.r]).length ≤ (r.aO.flatMap fun k => [k.l, k.r]).length ∧ ∃ o2 o3 o4, σ = [some (.ref a), some (.ref ls), o2, o3, o4])
  ⟨s0, ae, abm _, none, none, none, rfl⟩ (fun i σ H' _ ⟨sm, _⟩ => aH.of (sm _ _ hl)) ?_ ?_⟩
 ·rintro i y σ H' hi ⟨sm, hs, hlen, o2, o3, o4, rfl⟩
  obtain ⟨DP, ey⟩ := aP hi
  have FO : i < r.aO.length := by omega
  obtain ⟨b, Lv, fb, eb, nb, hb, f1, f2, f3, f4⟩ := paired_at pl i FO DP
  rw [ey] at eb
  subst eb
  obtain ⟨C1, C2, C3⟩ := oo r.aO[i].same
  have hb' := sm _ _ hb
  refine ⟨_, rfl, .inl ⟨rfl, _, aH.of hs⟩, _, rfl, b, _, Lv, fb, _, rfl, hb', C1, C2, f1, _, rfl, b, _, Lv, fb, _, rfl, hb', C1, C3, f2, (by show 2 ≤ aai; decide), fun l2 tL => ?_⟩
  have n2 : ls ≠ l2 := aN hs tL
  have M3 : upd H' l2 (.lst [tx r.aO[i].l, tx r.aO[i].r]) ls = some (.lst (((r.aO.take i).flatMap fun k => [k.l, k.r]).map tx)) := by rw [aA n2]; exact hs
  have Pk : H l2 = none := sm.free tL
  have e1 : (r.aO.take (i + 1)).flatMap (fun k => [k.l, k.r]) = (r.aO.take i).flatMap (fun k => [k.l, k.r]) ++ [r.aO[i].l, r.aO[i].r] := by
   rw [aap FO, abv]
   simp
  have e2 := rZ (fun k : Lk => [k.l, k.r]) r.aO (i + 1)
  refine ⟨ls, l2, _, _, rfl, rfl, M3, ae, (by rw [Lm9]; exact sz (by simp only [aag, aa6]; omega)), ah.aQ (ah.aQ sm Pk _) Qn _, ?_, e2, _, _, _, rfl⟩
  rw [ae, e1, aan]
  rfl
 rintro σ H1 ⟨s1, WZ, -, o2, o3, o4, rfl⟩
 have zul : ul.length = r.aO.length := zl.symm
 rw [zul, abb] at WZ
 generalize hA : (r.aO.flatMap fun k => [k.l, k.r]) = LA at WZ hz'
 refine ⟨_, rfl, a, c.rule, dx, fs, _, rfl, s1 _ _ ha, T.cl, T.n5, eg, lg, rfl, ⟨_, aH.of (s1 _ _ hg)⟩, cI (K := K) (a := lg) (xs := ug) (fun i σ H' => ah H H' ∧ H' ls = some (.lst ((LA ++ ((r.put.take i).flatMap (·.as))).map tx)) ∧ ∃ o2 o3 o4, σ = [some (.ref a), some (.ref ls), o2, o3, o4])
  ⟨s1, by rw [ad1, List.flatMap_nil, aaU]; exact WZ, _, _, _, rfl⟩ (fun i σ H' _ ⟨sm, _⟩ => aH.of (sm _ _ hg)) ?_ ?_⟩
 ·rintro i y σ H' hi ⟨sm, hs, o2, o3, o4, rfl⟩
  obtain ⟨DP, ey⟩ := aP hi
  have FO : i < r.put.length := by omega
  obtain ⟨t, t2, e3, h1, h2⟩ := paired_at pg i FO DP
  rw [ey] at e3
  subst e3
  have e1 : (r.put.take (i + 1)).flatMap (·.as) = (r.put.take i).flatMap (·.as) ++ r.put[i].as := by
   rw [aap FO, abv]
   simp
  have e2 := rZ (fun f : Fc => f.as) r.put (i + 1)
  rw [e1, aac] at e2
  refine ⟨_, rfl, .inl ⟨rfl, _, aH.of hs⟩, _, rfl, t, _, 1, _, rfl, rfl, h1.same sm, rfl, ls, t2, _, _, rfl, rfl, hs, h2.same sm, (by rw [Lm9, Lm9, aac]; exact sz (by omega)), ah.aQ sm Qn _, ?_, _, _, _, rfl⟩
  rw [ae, e1, ← aaQ, aan (l₁ := LA ++ _)]
 rintro σ H2 ⟨s2, M3, o2, o3, o4, rfl⟩
 have zug : ug.length = r.put.length := zg.symm
 rw [zug, abb] at M3
 generalize hB : r.put.flatMap (·.as) = LB at M3 hz'
 refine ⟨_, rfl, a, c.rule, dx, fs, _, rfl, s2 _ _ ha, T.cl, T.n6, et, lt, rfl, ⟨_, aH.of (s2 _ _ ht)⟩, cI (K := K) (a := lt) (xs := ut) (fun i σ H' => ah H H' ∧ H' ls = some (.lst ((LA ++ (LB ++ ((r.tell.take i).flatMap fun p => [p.1, p.2]))).map tx)) ∧ ∃ o2 o3 o4, σ = [some (.ref a), some (.ref ls), o2, o3, o4])
  ⟨s2, by rw [ad1, List.flatMap_nil, aaU]; exact M3, _, _, _, rfl⟩ (fun i σ H' _ ⟨sm, _⟩ => aH.of (sm _ _ ht)) ?_ ?_⟩
 ·rintro i y σ H' hi ⟨sm, hs, o2, o3, o4, rfl⟩
  obtain ⟨DP, ey⟩ := aP hi
  have FO : i < r.tell.length := by omega
  obtain ⟨t, e3, h1⟩ := paired_at pt i FO DP
  rw [ey] at e3
  subst e3
  have e1 : (r.tell.take (i + 1)).flatMap (fun p => [p.1, p.2]) = (r.tell.take i).flatMap (fun p => [p.1, p.2]) ++ [r.tell[i].1, r.tell[i].2] := by
   rw [aap FO, abv]
   simp
  have e2 := rZ (fun p : Cs × Cs => [p.1, p.2]) r.tell (i + 1)
  rw [e1, aac] at e2
  refine ⟨_, rfl, .inl ⟨rfl, _, aH.of hs⟩, _, rfl, ls, t, _, _, rfl, rfl, hs, h1.same sm, (by rw [Lm9, aac, aac]; exact sz (by simp only [aag, aa6] at e2 ⊢; omega)), ah.aQ sm Qn _, ?_, _, _, _, rfl⟩
  rw [ae, e1, ← aaQ, ← aaQ, ← aaQ, aan (l₁ := LA ++ LB ++ _)]
  rfl
 rintro σ H3 ⟨s3, ZL, o2, o3, o4, rfl⟩
 have zut : ut.length = r.tell.length := zt.symm
 rw [zut, abb] at ZL
 refine ⟨_, rfl, q _ _ s3 ⟨ls, rfl, Qn, ?_⟩⟩
 unfold dN
 rw [hA, hB]
 exact ZL
theorem oq : ax ["rule", "name"] ["rule"] (ao jd) := ⟨rfl, rfl, rfl, by decide +kernel, rfl, by decide +kernel, by decide +kernel⟩
theorem wA (F : bw K "check_names" "check_names" jd f fd) (T : xC K c.rule) (lG : br P w K mg base "said_names" 1 ["rule"] (Fl K c)) (fV : br P w K mg base "is_great" 1 ["name"] uN) : a4 P w K mg base da 2 f fd ["rule"] (vL K c) := by
 refine F.ok oq (fun vs H Q E h => ?_) (fun cb A outer s H vs Q E hr h => ?_)
 ·obtain ⟨H0, v, r, rfl, _⟩ := h
  rfl
 obtain ⟨H0, v, r, rfl, hR, hz, qW, hgr, q⟩ := h
 refine ⟨_, (ai (cL aaP rfl (aW (ak lG (hr.mono (by decide)) rfl (aa (pv 0) ab))) (bN (i := 1) oq.nd rfl (aaM rfl))
 (ai (aV (PW.pt (zS (cR (ak fV (hr.mono (by decide)) rfl (aa (pv 1) ab))) (uJ (ay dZ (pv 1) (pe_fld (pv 0) rfl) (by with_unfolding_all rfl)))))
 bg
 aE)))), ?_⟩
 refine ⟨_, rfl, H0, v, r, rfl, hR, hz, fun u H1 s1 T1 => ?_⟩
 obtain ⟨l, rfl, Ks, hl⟩ := T1
 obtain ⟨a, dx, fs, rfl, na, ha, RF⟩ := id hR
 obtain ⟨vn, en, ln, rfl, nn, hn⟩ := RF.names
 refine ⟨l, rfl, ⟨_, aH.of hl⟩, cI (K := K) (a := l) (xs := (dN r).map tx) (fun i σ H' => H' = H1 ∧ ∃ o, σ = [some (.ref a), o]) ⟨rfl, none, rfl⟩ (fun i σ H' _ ⟨e, _⟩ => by rw [e]; exact aH.of hl) ?_ ?_⟩
 ·rintro i y σ H' hi ⟨rfl, o, rfl⟩
  obtain ⟨DP, ey⟩ := aP hi
  rw [Lm9] at DP
  rw [aas] at ey
  subst ey
  have hmem : (dN r)[i] ∈ dN r := aaq DP
  have hlen := fO (qW _ hmem)
  refine ⟨_, rfl, (dN r)[i], rfl, (fun z => by rw [z] at hlen; simp at hlen), by omega, _, rfl, ?_⟩
  refine mL (fun g => ?_) (fun g => bb ⟨rfl, _, rfl⟩)
  refine ⟨_, rfl, _, rfl, a, c.rule, dx, fs, _, rfl, s1 _ _ ha, T.cl, T.n7, en, ln, _, rfl, .inl (aH.of (s1 _ _ hn)), rfl, jV _, _, rfl, ?_⟩
  rw [pz, decide_eq_true (hgr _ hmem g)]
  exact bb ⟨rfl, _, rfl⟩
 ·rintro σ H' ⟨rfl, o, rfl⟩
  exact q _ s1
end
end iS
namespace iS
open PySem L2 cM Bk
set_option maxHeartbeats 4000000
section
variable {P : aaL} {w : aa9} {K : aaa} {mg : Str → Option aad} {base : Heap} {f : aaC} {fd : abd} {c : Cl}
theorem jk : ax ["kinds", "rules", "lasts", "rule"] ["kinds", "rules"] (ao kW) := ⟨rfl, rfl, rfl, by decide +kernel, rfl, by decide +kernel, by decide +kernel⟩
theorem xR (F : bw K "whole_book" "whole_book" kW f fd) (T : xC K c.rule) (jl : br P w K mg base "check_facts" 1 ["kinds", "facts"] (vI K)) (jm : br P w K mg base "check_taken" 1 ["lasts", "taken"] (vJ K)) (lH : br P w K mg base "check_call" 2 ["lasts", "rule"] (vK K c))
  (jn : br P w K mg base "check_names" 2 ["rule"] (vL K c)) (FU : LW P w K mg base "Book" c.book 1 ["self", "kinds", "rules"] (uP K c)) : a4 P w K mg base da 3 f fd ["kinds", "rules"] (Al K c) := by
 refine F.ok jk (fun vs H Q E h => ?_) (fun cb A outer s H vs Q E hr h => ?_)
 ·obtain ⟨H0, lk, lr, ks, rs, kvs, rC, rfl, _⟩ := h
  rfl
 obtain ⟨H0, lk, lr, ks, rs, kvs, rC, rfl, I, nd, good, q⟩ := h
 refine ⟨_, (ag (kg (i := 2) [] jk.nd rfl (aaM rfl) rfl (by kernel_rfl) (aW (pv 0)) (fun _ _ _ _ _ => (qx (cR (aq (r := ub K) aI (pv 0) af (fun _ _ => rfl))))) (fun _ _ _ _ _ => (aq (r := ub K) aI (pv 0) af (fun _ _ => rfl))))
 (ag (cL aaP rfl (aW (pv 1)) (bN (i := 3) jk.nd rfl (aaM rfl))
 (ag (bf (ak jl (hr.mono (by decide)) rfl (aa (pv 0) (aa (av gH (av gH (pe_fld (pv 3) rfl) (pe_fld (pv 3) rfl)) (pe_fld (pv 3) rfl)) ab))))
 (ag (bf (ak jm (hr.mono (by decide)) rfl (aa (pv 2) (aa (pe_fld (pv 3) rfl) ab))))
 (ag (bf (ak lH (hr.mono (by decide)) rfl (aa (pv 2) (aa (pv 3) ab))))
 (ai (bf (ak jn (hr.mono (by decide)) rfl (aa (pv 3) ab))))))))
 (ai (aC (qy FU (hr.mono (by decide)) rfl (aa (pv 0) (aa (pv 1) ab))))))), ?_⟩
 have zk := aam I.pk
 have zr := aam I.pr
 refine ⟨_, rfl, lk, rfl, ⟨_, aH.of I.hk⟩, fun D hD => ?_⟩
 refine pA (K := K) (xs := kvs) ks (·.l) (·.n) (fun _ _ b y => y = tx b) (fun _ _ _ _ _ _ h => h) (fun _ _ _ _ _ _ h => h) (kl (by have := I.fk; omega)) hD (aH.of I.hk) zk (fun i x b H' R hx hb sm hQ => ?_) (fun i x b H' R hx hb hk sm hQ => ?_) (fun H1 ys s1 hL po => ?_)
 ·obtain ⟨hi, ex⟩ := aP hx
  obtain ⟨dH, eb⟩ := aP hb
  obtain ⟨t, et, ht⟩ := paired_at I.pk i dH hi
  rw [ex] at et
  rw [eb] at ht
  subst et
  exact ⟨_, rfl, t, _, 2, _, rfl, rfl, ht.same sm, rfl, _, rfl, hQ _ (ah.refl _)⟩
 ·obtain ⟨hi, ex⟩ := aP hx
  obtain ⟨dH, eb⟩ := aP hb
  obtain ⟨t, et, ht⟩ := paired_at I.pk i dH hi
  rw [ex] at et
  rw [eb] at ht
  subst et
  exact ⟨_, rfl, t, _, 0, _, rfl, rfl, ht.same sm, rfl, hQ _ _ (ah.refl _) rfl⟩
 rw [bT po] at hL
 refine ⟨_, rfl, lr, rfl, ⟨_, aH.of (s1 _ _ I.hr)⟩, cI (K := K) (a := lr) (xs := rC) (fun i σ H' => ah H1 H' ∧ ∃ o, σ = [some (.ref lk), some (.ref lr), some (.ref D), o]) ⟨ah.refl _, none, rfl⟩ (fun i σ H' _ ⟨sm, _⟩ => aH.of (sm _ _ (s1 _ _ I.hr))) ?_ ?_⟩
 ·rintro i y σ H' hi ⟨sm, o, rfl⟩
  obtain ⟨DP, ey⟩ := aP hi
  have ZM : i < rs.length := by omega
  have sA := ah.trans s1 sm
  have W0 := paired_at I.pr i ZM DP
  rw [ey] at W0
  have g := good _ (aaq ZM)
  generalize rs[i] = r at W0 g
  have hR := W0.keep (Kp.same sA)
  obtain ⟨a, dx, fs, rfl, na, ha, RF⟩ := id hR
  obtain ⟨vt, ev, lt, ut, rfl, nt, ht, pt⟩ := RF.taken
  obtain ⟨vk, ek, lp, uk, rfl, nk, hk, pk⟩ := RF.kept
  obtain ⟨vg, eg, lg, ug, rfl, ng, hg, pg⟩ := RF.given
  have zt := aam pt
  have zk2 := aam pk
  have zg := aam pg
  have hfew := g.VU
  rw [aac, aac] at hfew
  refine ⟨_, rfl, _, rfl, a, c.rule, dx, fs, _, rfl, ha, T.cl, T.n2, ev, _, rfl, a, c.rule, dx, fs, _, rfl, ha, T.cl, T.n3, ek, lt, lp, _, _, rfl, rfl, ht, hk, sz (by omega), fun p1 US => ?_⟩
  have W2 := aj US (.lst (ut ++ uk))
  refine ⟨_, rfl, a, c.rule, dx, fs, _, rfl, W2 _ _ ha, T.cl, T.n5, eg, p1, lg, _, _, rfl, rfl, ae, W2 _ _ hg, sz (by rw [aac]; omega), fun p2 Qe => ?_⟩
  have Sf := ah.trans W2 (aj Qe (.lst ((ut ++ uk) ++ ug)))
  have sB := ah.trans sA Sf
  refine ⟨lk, p2, kvs, _, ks, r.take ++ r.keep ++ r.put, rfl, sB _ _ I.hk, L2.Paired.d8 I.pk fun _ _ z => z.keep (H0 := H0) (Kp.same sB), nd, I.fk, ae, ?_, g.fits, fun H2 s2 => ?_⟩
  ·exact cB (cB (L2.Paired.d8 pt fun _ _ z => z.keep (H0 := H0) (Kp.same Sf)) (L2.Paired.d8 pk fun _ _ z => z.keep (H0 := H0) (Kp.same Sf))) (L2.Paired.d8 pg fun _ _ z => z.keep (H0 := H0) (Kp.same Sf))
  have sC := ah.trans Sf s2
  have ZN := hR.keep (Kp.same sC)
  have pJ := sC _ _ (sm _ _ hL)
  refine ⟨_, rfl, _, rfl, a, c.rule, dx, fs, _, rfl, sC _ _ ha, T.cl, T.n2, ev, D, lt, _, _, r.take, rfl, pJ, sC _ _ ht, L2.Paired.d8 pt fun _ _ z => z.keep (H0 := H0) (Kp.same sC), g.takes, ?_⟩
  refine ⟨_, rfl, _, rfl, H0, D, _, _, r, rfl, pJ, ZN, g.calls, ?_⟩
  exact ⟨_, rfl, H0, _, r, rfl, ZN, g.few, g.names, g.VT, fun H3 s3 => ⟨ah.trans sm (ah.trans sC s3), _, rfl⟩⟩
 ·rintro σ H' ⟨sm, o, rfl⟩
  have sA := ah.trans s1 sm
  refine ⟨_, rfl, _, rfl, fun x dx hx RQ Wd => ?_⟩
  refine ⟨x, dx, _, _, rfl, ae, fun H2 fs h1 h2 h3 kp => ⟨rfl, q x dx fs H2 (fun b o e => kp b o ?_ (aN (sA _ _ e) hx)) (sA.free hx) h1 h2 h3⟩⟩
  rw [aA (aN (sA _ _ e) hx), aA (aN (sA _ _ e) RQ)]
  exact sA _ _ e
theorem g6 : ax ["text", "kinds", "rules", "line"] ["text"] (ao nO) := ⟨rfl, rfl, rfl, by decide +kernel, rfl, by decide +kernel, by decide +kernel⟩
theorem A7 (F : bw K "read_book" "read_book" nO f fd) (lI : br P w K mg base "told_lines" 2 ["text"] Ag) (ou : br P w K mg base "hear_line" 8 ["kinds", "rules", "line"] (Fj K c)) (lJ : br P w K mg base "whole_book" 3 ["kinds", "rules"] (Al K c)) :
  a4 P w K mg base da 9 f fd ["text"] (Fm K c) := by
 refine F.ok g6 (fun vs H Q E h => ?_) (fun cb A outer s H vs Q E hr h => ?_)
 ·obtain ⟨ls, its, rfl, _⟩ := h
  rfl
 obtain ⟨ls, its, rfl, h0, hN, hx, B, q⟩ := h
 refine ⟨_, (ag (aw (i := 1) g6.nd rfl (aaM rfl) (a7 ab))
 (ag (aw (i := 2) g6.nd rfl (aaM rfl) (a7 ab))
 (ag (cL aaP rfl (aW (ak lI (hr.mono (by decide)) rfl (aa (pv 0) ab))) (bN (i := 3) g6.nd rfl (aaM rfl))
 (ai (bf (ak ou (hr.mono (by decide)) rfl (aa (pv 1) (aa (pv 2) (aa (pv 3) ab)))))))
 (ai (aC (ak lJ (hr.mono (by decide)) rfl (aa (pv 1) (aa (pv 2) ab)))))))), ?_⟩
 refine ⟨(by show 0 ≤ aai; decide), fun lk Sh => ⟨(by show 0 ≤ aai; decide), fun lr tN => ?_⟩⟩
 have ZO : lk ≠ lr := fun z => by rw [← z, ae] at tN; cases tN
 have Si : H lr = none := (aj Sh _).free tN
 have s0 : ah H (upd (upd H lk (.lst [])) lr (.lst [])) := ah.trans (aj Sh _) (aj tN _)
 have Nx : upd (upd H lk (.lst [])) lr (.lst []) lk = some (.lst []) := by rw [aA ZO]; exact ae
 have G9 : upd (upd H lk (.lst [])) lr (.lst []) lr = some (.lst []) := ae
 generalize upd (upd H lk (.lst [])) lr (.lst []) = B0 at s0 Nx G9
 refine ⟨_, rfl, ls, rfl, h0, hN, hx, fun v H1 s1 T1 => ?_⟩
 obtain ⟨l, rfl, Ks, hl⟩ := T1
 rw [B.lines] at hl
 have nlk : l ≠ lk := fun z => by rw [z, Nx] at Ks; cases Ks
 have nlr : l ≠ lr := fun z => by rw [z, G9] at Ks; cases Ks
 refine ⟨l, rfl, ⟨_, aH.of hl⟩, cI (K := K) (a := l) (xs := (its.map (·.1)).map tx) (fun i σ H' => ∃ (kvs rC : List V) (o : Option V), σ = [some (tx (bP ls)), some (.ref lk), some (.ref lr), o] ∧ (∀ b o, b ≠ lk → b ≠ lr → H1 b = some o → H' b = some o) ∧
   pV K c B0 H' lk lr (m9 ((its.take i).map (·.2))) (nh ((its.take i).map (·.2))) kvs rC)
  ⟨[], [], none, rfl, fun _ _ _ _ h => h, ⟨s1 _ _ Nx, .nil, s1 _ _ G9, .nil, ZO, ⟨_, Nx⟩, ⟨_, G9⟩, fun b h => s1.free h, abm _, abm _⟩⟩ (fun i σ H' _ ⟨_, _, _, _, k1, _⟩ => aH.of (k1 _ _ nlk nlr hl)) ?_ ?_⟩
 ·rintro i y σ H' hi ⟨kvs, rC, o, rfl, k1, I⟩
  obtain ⟨DP, ey⟩ := aP hi
  rw [Lm9, Lm9] at DP
  rw [aas, aas] at ey
  subst ey
  have hm := aaq DP
  have ZP := B.ok _ hm
  have Nm := vM ((its.take i).map (·.2))
  have Qh := vN ((its.take i).map (·.2))
  rw [Lm9, aaH] at Nm Qh
  have hfew := B.few
  have Sj : its[i].1.length ≤ 20000 := by
   have z : its[i].1 ∈ ls := by
    have z2 : its[i].1 ∈ ls.filter told := by rw [B.lines]; exact aat.mpr ⟨_, hm, rfl⟩
    exact (abh.mp z2).1
   have := rT ls _ z
   omega
  have KL : (its.take (i + 1)).map (·.2) = (its.take i).map (·.2) ++ [its[i].2] := by
   rw [aap DP, aan]
   rfl
  have W3 : its.map (·.2) = (its.take i).map (·.2) ++ ([its[i].2] ++ (its.drop (i + 1)).map (·.2)) := by
   rw [acP, ← aa3 (f := (·.2)) (a := its[i]) (l := its.drop (i + 1)), ← aan, ← abt DP, acQ]
  refine ⟨_, rfl, _, rfl, _, rfl, B0, lk, lr, _, _, kvs, rC, its[i].1, rfl, I, by omega, by omega, Sj, ZP.1, ?_⟩
  have Sk := B.nk
  have Sl := B.nr
  rw [W3] at Sk Sl
  rw [ni, ni] at Sk
  rw [nj, nj] at Sl
  rcases ZP with ⟨-, W4, UT⟩
  generalize its[i].2 = it at W4 UT KL Sk Sl
  cases it with
  | kind k =>
   refine .inl ⟨k, W4, UT, ?_, fun v H2 k2 I2 => ⟨kvs ++ [v], rC, _, rfl, fun b o b1 b2 e => k2 b o b1 (k1 b o b1 b2 e), ?_⟩⟩
   ·intro MH
    rw [aan, aan, acj] at Sk
    exact Sk.2.2 k.n MH k.n (aay _ (by simp [m9])) rfl
   ·rw [KL, ni, nj]
    show pV K c B0 H2 lk lr (_ ++ [k]) (_ ++ []) _ _
    rw [aaU]
    exact I2
  | rule t L =>
   refine .inr ⟨t, L, W4, UT.1, UT.2, ?_, fun v H2 k2 I2 => ⟨kvs, rC ++ [v], _, rfl, fun b o b1 b2 e => k2 b o b2 (k1 b o b1 b2 e), ?_⟩⟩
   ·intro MH
    rw [aan, aan, acj] at Sl
    exact Sl.2.2 t MH t (aay _ (by simp [nh, rY])) rfl
   ·rw [KL, ni, nj]
    show pV K c B0 H2 lk lr (_ ++ []) (_ ++ [rY t L]) _ _
    rw [aaU]
    exact I2
 ·rintro σ H' ⟨kvs, rC, o, rfl, k1, I⟩
  rw [Lm9, Lm9, abb] at I
  refine ⟨_, rfl, _, rfl, B0, lk, lr, _, _, kvs, rC, rfl, I, B.nk, B.good, fun x dx fs H2 s2 hx h1 h2 h3 => ?_⟩
  have sH : ah H H2 := fun b o e => s2 b o (k1 b o (aN e Sh) (aN e Si) (s1 _ _ (s0 _ _ e)))
  have Sm : ∀ b, B0 b = none → H b = none := fun b h => s0.free h
  refine q _ _ sH ⟨x, dx, fs, rfl, Sm x (I.vz x hx), h1, ⟨_, h2, lk, kvs, rfl, Sh, s2 _ _ I.hk, L2.Paired.d8 I.pk fun _ _ z => z.keep (H0 := H) (Kp.same s2)⟩, ⟨_, h3, lr, rC, rfl, Si, s2 _ _ I.hr, L2.Paired.d8 I.pr fun _ _ z => ie.cg Sm (z.keep (Kp.same s2))⟩⟩
end
end iS
namespace iS
open PySem L2 cM Bk
set_option maxHeartbeats 4000000
section
variable {P : aaL} {w : aa9} {K : aaa} {mg : Str → Option aad} {base : Heap} {f : aaC} {fd : abd}
theorem uw : ax ["_law_script", "_law_k"] ["_law_script", "_law_k"] (ao iu) := ⟨rfl, rfl, rfl, by decide +kernel, rfl, by decide +kernel, by decide +kernel⟩
theorem ux (F : bw K "_law_cell_at" "_law_cell_at" iu f fd) (aX : mg "len" = none) : a4 P w K mg base da 1 f fd ["_law_script", "_law_k"] (Fn K) := by
 refine F.ok uw (fun vs H Q E h => ?_) (fun cb A outer s H vs Q E hr h => ?_)
 ·obtain ⟨a, ns, k, rfl, _⟩ := h
  rfl
 obtain ⟨a, ns, k, rfl, hS, h0, q⟩ := h
 refine ⟨_, (ag (aV (ay Gz (pv 1) (aM aF rfl aX aaI (aa (pv 0) ab)) (aL _))
 (ai (aC (aq aG (pv 0) (pv 1) (fun _ _ => rfl))))
 aE)
 (ai (aC af))), ?_⟩
 refine ⟨_, rfl, _, rfl, a, _, rfl, .inl hS, _, _, rfl, rfl, _, rfl, ?_⟩
 refine mL (fun c => ?_) (fun c => ?_)
 ·have c' : k < (((ns.map V.int).length : Nat) : Int) := of_decide_eq_true c
  have hk : k.toNat < ns.length := by rw [Lm9] at c'; omega
  have e : qq (ns.map V.int) k = some (.int ns[k.toNat]) := by
   have z := bU (xs := ns.map V.int) (j := k.toNat) (v := .int ns[k.toNat]) (by simp [hk])
   rw [show ((k.toNat : Nat) : Int) = k by omega] at z
   exact z
  exact ⟨_, rfl, _, rfl, a, _, k, _, rfl, rfl, hS, e, q _⟩
 ·exact q 0
theorem tW : ax ["_law_cell", "_law_k", "_law_factor"] ["_law_cell", "_law_k"] (ao pZ) := ⟨rfl, rfl, rfl, by decide +kernel, rfl, by decide +kernel, by decide +kernel⟩
theorem DS (F : bw K "_law_mix" "_law_mix" pZ f fd) : a4 P w K mg base da 1 f fd ["_law_cell", "_law_k"] qM := by
 refine F.ok tW (fun vs H Q E h => ?_) (fun cb A outer s H vs Q E hr h => ?_)
 ·obtain ⟨c, k, rfl, _⟩ := h
  rfl
 obtain ⟨c, k, rfl, h0, h1, q⟩ := h
 refine ⟨_, (@ag _ _ _ _ _ (@aw _ _ (2) _ _ _ _ tW.nd rfl (aaM rfl) (@aq _ _ _ _ _ _ _ (@aG _) (@a7 _ _ _ _ (@aa _ _ _ _ _ (@af _ _ _ _) (@aa _ _ _ _ _ (@af _ _ _ _) (@aa _ _ _ _ _ (@af _ _ _ _) (@aa _ _ _ _ _ (@af _ _ _ _) (@aa _ _ _ _ _ (@af _ _ _ _) (@aa _ _ _ _ _ (@af _ _ _ _) (@aa _ _ _ _ _ (@af _ _ _ _) (@ab _) (by rfl)) (by rfl)) (by rfl)) (by rfl)) (by rfl)) (by rfl)) (by rfl))) (@av _ _ _ _ _ _ _ _ (@bF _) (pv 1) (@af _ _ _ _)) (fun _ _ => rfl)) (by rfl) (by first | exact .inl rfl | exact .inr rfl | assumption)) (@ai _ _ _ (@aC _ _ _ _ (@av _ _ _ _ _ _ _ _ (@bF _) (@av _ _ _ _ _ _ _ _ (@mN _) (@av _ _ _ _ _ _ _ _ (@cj _) (@av _ _ _ _ _ _ _ _ (@bF _) (pv 0) (@af _ _ _ _)) (@av _ _ _ _ _ _ _ _ (@mN _) (@af _ _ _ _) (pv 1))) (pv 2)) (@af _ _ _ _))))), ?_⟩
 refine ⟨(by show 7 ≤ aai; decide), fun p hp => ?_⟩
 have hm := mid (a := k) (b := 7) (by decide)
 have hx : ∃ v : Int, qq [V.int 48271, .int 69621, .int 16807, .int 40692, .int 30269, .int 62089, .int 45991] (k % 7) = some (.int v) ∧ -(2 ^ 64) < v ∧ v < 2 ^ 64 := by
  rcases (by omega : k % 7 = 0 ∨ k % 7 = 1 ∨ k % 7 = 2 ∨ k % 7 = 3 ∨ k % 7 = 4 ∨ k % 7 = 5 ∨ k % 7 = 6) with e | e | e | e | e | e | e <;> rw [e]
  ·exact ⟨48271, rfl, by decide, by decide⟩
  ·exact ⟨69621, rfl, by decide, by decide⟩
  ·exact ⟨16807, rfl, by decide, by decide⟩
  ·exact ⟨40692, rfl, by decide, by decide⟩
  ·exact ⟨30269, rfl, by decide, by decide⟩
  ·exact ⟨62089, rfl, by decide, by decide⟩
  ·exact ⟨45991, rfl, by decide, by decide⟩
 obtain ⟨v, hv, v0, v1⟩ := hx
 refine ⟨_, rfl, _, _, rfl, rfl, (by show (0 : Int) < 7; decide), p, _, _, _, rfl, rfl, .inl (.inl ae), hv, ?_⟩
 refine ⟨_, rfl, _, _, rfl, rfl, (by show (0 : Int) < 1000003; decide), _, rfl, _, _, rfl, rfl, .inl ⟨by decide, by decide⟩, _, _, rfl, rfl, _, rfl, _, _, rfl, rfl, .inr ⟨v0, v1⟩, _, _, rfl, rfl, (by show (0 : Int) < 999983; decide), ?_⟩
 exact q _ _ (aj hp _) (ac5 _ (by decide))
theorem bW : ax ["_law_cell", "_law_many", "_law_firsts", "_law_rest", "_law_number", "_law_start", "_law_tail", "_law_size", "_law_at"] ["_law_cell", "_law_many", "_law_firsts"] (ao lj) := ⟨rfl, rfl, rfl, by decide +kernel, rfl, by decide +kernel, by decide +kernel⟩
theorem xS (F : bw K "_law_names" "_law_names" lj f fd) (aY : br P w K mg base "_law_mix" 1 ["_law_cell", "_law_k"] qM) (aX : mg "len" = none) (bK : mg "range" = none) :
  a4 P w K mg base da 2 f fd ["_law_cell", "_law_many", "_law_firsts"] qN := by
 refine F.ok bW (fun vs H Q E h => ?_) (fun cb A outer s H vs Q E hr h => ?_)
 ·obtain ⟨c, n, fs, rfl, _⟩ := h
  rfl
 obtain ⟨c, n, fs, rfl, hn, hf0, hf1, Ny, hnd, q⟩ := h
 have MF : (S fs).length = fs.length := aD fs
 refine ⟨_, (ag (aw (i := 3) bW.nd rfl (acn rfl) ar)
 (ag (aw (i := 4) bW.nd rfl (acn rfl) (ak aY (hr.mono (by decide)) rfl (aa (pv 0) (aa af ab))))
 (ag (aw (i := 5) bW.nd rfl (acn rfl) (av bF (av cC (pv 4) af) (aM d3 rfl aX aaI (aa (pv 2) ab))))
 (ag (aw (i := 6) bW.nd rfl (acn rfl) (bo aaw aaJ aaK bV ar (aa (bA [3, 4] rfl (by kernel_rfl) (bS rfl bK (aa af ab)) (fun _ _ _ _ _ => bj) (fun _ _ _ _ _ => (aq fN (pv 1) (av bF (av cj (av cC (pv 2) (av cj (pv 0) af)) (av mN (pv 0) (pv 0))) af) (fun _ _ => rfl)))) ab)))
 (ag (aV (ay cS (av bF (pv 4) af) af (aL _))
 (ai (aC (bA [2, 5, 6] rfl (by kernel_rfl) (bS rfl bK (aa (pv 1) ab)) (fun _ _ _ _ _ => bj) (fun _ _ _ _ _ => (av aJ (aq fN (pv 1) (pv 2) (fun _ _ => rfl)) (cf kh (pv 3) eO (b7 (pv 0))))))))
 aE)
 (ag (aV (ay cS (av bF (pv 4) af) af (aL _))
 (ag (aw (i := 7) bW.nd rfl (acn rfl) (av bF (av cC (pv 4) af) af))
 (ai (aC (bA [2, 5, 6, 7] rfl (by kernel_rfl) (bS rfl bK (aa (pv 1) ab)) (fun _ _ _ _ _ => bj) (fun _ _ _ _ _ => (av aJ (aq fN (pv 1) (av bF (av cj (pv 2) (pv 0)) (aM d3 rfl aX aaI (aa (pv 1) ab))) (fun _ _ => rfl)) (cf kh (pv 3) eO (b7 (pv 4)))))))))
 aE)
 (ag (aw (i := 7) bW.nd rfl (acn rfl) (av bF (av cC (pv 4) af) af))
 (ag (aw (i := 8) bW.nd rfl (acn rfl) (av bF (av cC (pv 4) af) (av cj (pv 7) af)))
 (ag (aw (i := 3) bW.nd rfl (acn rfl) (bA [3, 4] rfl (by kernel_rfl) (bS rfl bK (aa (pv 1) ab)) (fun _ _ _ _ _ => bj) (fun _ _ _ _ _ => (aq fN (pv 1) (av bF (av cj (av cC (pv 2) af) (pv 0)) af) (fun _ _ => rfl)))))
 (ai (aC (bA [2, 5, 6, 8, 7] rfl (by kernel_rfl) (aW (pv 3)) (fun _ _ _ _ _ => bj) (fun _ _ _ _ _ => (av aJ (av aJ (av aJ (aq fN (pv 1) (pv 2) (fun _ _ => rfl)) (cf kh (pv 3) eO (b7 (pv 4)))) (pv 0)) (cf kh (pv 3) (b7 (pv 4)) (b7 (pv 5))))))))))))))))), ?_⟩
 refine ⟨_, rfl, c, 0, rfl, by decide, by decide, fun v H1 s1 v0 => ?_⟩
 have Qo : (0 : Int) < ((S fs).length : Int) := by rw [MF]; omega
 refine ⟨_, rfl, _, _, rfl, rfl, ⟨by decide, by decide⟩, _, rfl, S fs, rfl, (by rw [MF]; exact sz (by omega)), _, _, rfl, rfl, Qo, ?_⟩
 have md := mid (a := v / 5) Qo
 obtain ⟨cs, CY, W5⟩ := sign_of (x := S fs) md.1 md.2
 rw [bq] at W5
 refine ⟨rfl, 11, rfl, by decide, by decide, fun D hD => ?_⟩
 have xt : H D = none := s1.free hD
 refine df (lo := 0) (n := (11 : Int).toNat) (kl (by decide)) (fun i ys H' => ah H1 H' ∧ H' D = some (.lst ys) ∧ ∃ T : List Nat, ys = (T.map fun c => S [c]).map V.str ∧ T.length = i ∧ T.all aZ = true)
  ⟨aj hD _, ae, [], rfl, rfl, rfl⟩ (fun i ys H' pr => ⟨pr.2.1, ?_⟩) (fun i ys H' hi pr => ?_) (fun ys H' pr => ?_)
 ·obtain ⟨T, rfl, hl, _⟩ := pr.2.2
  rw [Lm9, Lm9]
  omega
 ·obtain ⟨T, rfl, hl, hT⟩ := pr.2.2
  have hi' : i < 11 := hi
  refine ⟨_, rfl, _, rfl, _, rfl, _, _, rfl, rfl, _, _, rfl, rfl, ⟨by omega, by omega⟩, _, rfl, _, rfl, _, _, rfl, rfl, .inl ⟨by omega, by omega⟩, _, _, rfl, rfl, _, _, rfl, rfl, (by show (0 : Int) < 62; decide), ?_⟩
  have Sn := mid (a := v / (0 + (i : Int) + 1) + (0 + (i : Int)) * (0 + (i : Int))) (b := 62) (by decide)
  obtain ⟨d, hd, UU⟩ := sign_of (x := ui) Sn.1 (by rw [qL]; exact Sn.2)
  refine ⟨_, _, d, rfl, rfl, (by decide +kernel), hd, pr.2.1, ?_⟩
  refine ⟨ah.aQ pr.1 hD _, ae, T ++ [d], by simp, by simp [hl], ?_⟩
  have z := JR
  rw [aaS] at z
  rw [aaY, hT, abc, z d UU]
  rfl
 obtain ⟨T, rfl, hTl, Pz⟩ := pr.2.2
 have sm := pr.1
 have So : T.length = 11 := hTl
 refine ⟨_, D, T.map fun c => S [c], rfl, rfl, .inl (.inl (.inl pr.2.1)), ?_, ?_⟩
 ·have z : ((T.map fun c => S [c]).map (·.length)).sum ≤ 11 := by
   have z2 := cP (as := T.map fun c => [c]) (B := 1) (by simp)
   rw [Lm9, So] at z2
   have e : (T.map fun c => S [c]) = (T.map fun c => [c]).map S := by rw [abA]; rfl
   rw [e]
   exact z2
  have z3 : (T.map fun c => S [c]).length = 11 := by rw [Lm9]; exact So
  rw [z3, show (aab "").length = 0 by decide]
  omega
 rw [OU]
 refine ⟨_, rfl, _, _, rfl, rfl, (by show (0 : Int) < 3; decide), rfl, _, rfl, ?_⟩
 have Nz : ∀ l : List Nat, l.length ≤ 100 → (S l).length ≤ aai := fun l h => by rw [aD]; exact sz (by omega)
 have M6 : qq (S fs).cps.toList (v / 5 % ((S fs).length : Int)) = some cs := CY
 have ZQ : (⟨#[cs]⟩ : Str) = S [cs] := rfl
 refine mL (fun c1 => ?_) (fun c1 => ?_)
 ·
  refine ⟨_, rfl, n, rfl, by omega, by omega, fun D2 pJ => ?_⟩
  refine df (lo := 0) (n := ((n : Nat) : Int).toNat) (kl (by omega)) (fun i ys H2 => ah H H2 ∧ H2 D2 = some (.lst ys) ∧ ∃ zs : List (List Nat), ys = zs.map tx ∧ zs.length = i ∧ (∀ z ∈ zs, Good fs z) ∧ zs = (abj i).map fun k : Nat => [cs] ++ T.take k)
   ⟨ah.aQ (ah.trans s1 sm) ((ah.trans s1 sm).free pJ) _, ae, [], rfl, rfl, (fun _ z => nomatch z), rfl⟩ (fun i ys H2 ow => ⟨ow.2.1, ?_⟩) (fun i ys H2 hi ow => ?_) (fun ys H2 ow => ?_)
  ·obtain ⟨zs, rfl, hl, _, _⟩ := ow.2.2
   rw [Lm9]
   omega
  ·obtain ⟨zs, rfl, hl, hg, Ha⟩ := ow.2.2
   have hi' : i < n := by omega
   refine ⟨_, rfl, _, rfl, S fs, _, cs, rfl, rfl, Nz fs (by omega), M6, _, rfl, _, rfl, _, rfl, S T, rfl, Nz T (by omega), ?_⟩
   rw [show (0 : Int) + (i : Int) = ((i : Nat) : Int) by omega, ij (by omega), ZQ]
   refine ⟨_, _, rfl, rfl, (by rw [aD, aD, aaH]; exact sz (by simp; omega)), ?_⟩
   rw [cx]
   refine ⟨ow.2.1, ah.aQ ow.1 ((ah.trans s1 sm).free pJ) _, ae, zs ++ [[cs] ++ T.take i], by simp, by simp [hl], fun z hz => ?_, by rw [acg, aan, Ha]; rfl⟩
   rcases aax.mp hz with hz | hz
   ·exact hg z hz
   ·rw [aak.mp hz]
    refine Am W5 Ny ?_ (by rw [aaH]; omega)
    rw [aaS] at Pz ⊢
    exact fun y hy => Pz y (abD hy)
  ·obtain ⟨zs, rfl, hl, hg, Ha⟩ := ow.2.2
   refine q D2 zs H2 ow.1 ((ah.trans s1 sm).free pJ) ow.2.1 (by omega) hg ?_
   rw [Ha]
   refine gJ fun a b ha hb e => ?_
   have e2 := congrArg ac0 e
   rw [aac, aac, aaH, aaH] at e2
   omega
 refine ⟨_, rfl, _, _, rfl, rfl, (by show (0 : Int) < 3; decide), rfl, _, rfl, ?_⟩
 refine mL (fun c2 => ?_) (fun c2 => ?_)
 ·refine ⟨_, rfl, _, _, rfl, rfl, ⟨by decide, by decide⟩, _, _, rfl, rfl, (by show (0 : Int) < 12; decide), ?_⟩
  have mds := mid (a := v / 3) (b := 12) (by decide)
  refine ⟨_, rfl, n, rfl, by omega, by omega, fun D2 pJ => ?_⟩
  refine df (lo := 0) (n := ((n : Nat) : Int).toNat) (kl (by omega)) (fun i ys H2 => ah H H2 ∧ H2 D2 = some (.lst ys) ∧ ∃ zs : List (List Nat), ys = zs.map tx ∧ zs.length = i ∧ (∀ z ∈ zs, Good fs z) ∧ zs = (abj i).map fun k : Nat => [fs.getD ((v / 5 % ((S fs).length : Int) + (0 + (k : Int))) % ((S fs).length : Int)).toNat 0] ++ T.take (v / 3 % 12).toNat)
   ⟨ah.aQ (ah.trans s1 sm) ((ah.trans s1 sm).free pJ) _, ae, [], rfl, rfl, (fun _ z => nomatch z), rfl⟩ (fun i ys H2 ow => ⟨ow.2.1, ?_⟩) (fun i ys H2 hi ow => ?_) (fun ys H2 ow => ?_)
  ·obtain ⟨zs, rfl, hl, _, _⟩ := ow.2.2
   rw [Lm9]
   omega
  ·obtain ⟨zs, rfl, hl, hg, Ha⟩ := ow.2.2
   have hi' : i < n := by omega
   have ZR := mid (a := v / 5 % ((S fs).length : Int) + (0 + (i : Int))) Qo
   have W6 := vA (x := S fs) ZR.1 ZR.2
   have Sq : fs.getD ((v / 5 % ((S fs).length : Int) + (0 + (i : Int))) % ((S fs).length : Int)).toNat 0 ∈ fs := abn (getD_get (by rw [← MF]; omega))
   rw [bq fs] at W6
   generalize W7 : fs.getD ((v / 5 % ((S fs).length : Int) + (0 + (i : Int))) % ((S fs).length : Int)).toNat 0 = ck at W6 Sq
   refine ⟨_, rfl, _, rfl, _, rfl, _, _, rfl, rfl, _, rfl, S fs, rfl, Nz fs (by omega), _, _, rfl, rfl, Qo, S fs, _, ck, rfl, rfl, Nz fs (by omega), (by rw [bq]; exact W6), _, rfl, _, rfl, _, rfl, S T, rfl, Nz T (by omega), ?_⟩
   have hsz : v / 3 % 12 = (((v / 3 % 12).toNat : Nat) : Int) := by omega
   rw [hsz, ij (by omega)]
   refine ⟨_, _, rfl, rfl, (by rw [aD, aD, aaH]; exact sz (by simp; omega)), ?_⟩
   rw [show (⟨#[ck]⟩ : Str) = S [ck] from rfl, cx]
   refine ⟨ow.2.1, ah.aQ ow.1 ((ah.trans s1 sm).free pJ) _, ae, zs ++ [[ck] ++ T.take (v / 3 % 12).toNat], by simp, by simp [hl], fun z hz => ?_, by rw [acg, aan, Ha, ← W7]; rfl⟩
   rcases aax.mp hz with hz | hz
   ·exact hg z hz
   ·rw [aak.mp hz]
    refine Am Sq Ny ?_ (by rw [aaH]; omega)
    rw [aaS] at Pz ⊢
    exact fun y hy => Pz y (abD hy)
  ·obtain ⟨zs, rfl, hl, hg, Ha⟩ := ow.2.2
   refine q D2 zs H2 ow.1 ((ah.trans s1 sm).free pJ) ow.2.1 (by omega) hg ?_
   rw [Ha]
   refine gJ fun a b ha hb e => ?_
   have e2 : fs.getD ((v / 5 % ((S fs).length : Int) + (0 + (a : Int))) % ((S fs).length : Int)).toNat 0 = fs.getD ((v / 5 % ((S fs).length : Int) + (0 + (b : Int))) % ((S fs).length : Int)).toNat 0 := (List.cons.inj e).1
   have e3 := vO hnd (by have := mid (a := v / 5 % ((S fs).length : Int) + (0 + (a : Int))) Qo; omega) (by have := mid (a := v / 5 % ((S fs).length : Int) + (0 + (b : Int))) Qo; omega) e2
   exact GZ (by omega) (by omega) e3
 refine ⟨_, rfl, _, _, rfl, rfl, ⟨by decide, by decide⟩, _, _, rfl, rfl, (by show (0 : Int) < 11; decide), ?_⟩
 have mds := mid (a := v / 3) (b := 11) (by decide)
 refine ⟨_, rfl, _, _, rfl, rfl, ⟨by decide, by decide⟩, _, rfl, _, _, rfl, rfl, _, _, rfl, rfl, (by show (0 : Int) < _; omega), ?_⟩
 have mda := mid (a := v / 33) (b := v / 3 % 11 + 1) (by omega)
 refine ⟨_, rfl, n, rfl, by omega, by omega, fun D2 pJ => ?_⟩
 refine df (lo := 0) (n := ((n : Nat) : Int).toNat) (kl (by omega)) (fun i ys H2 => ah H H2 ∧ H2 D2 = some (.lst ys) ∧ ∃ cs : List Nat, ys = (cs.map fun c => [c]).map tx ∧ cs.length = i ∧ (∀ c ∈ cs, aZ c = true) ∧ cs = (abj i).map fun k : Nat => ui.cps.toList.getD ((v / 7 + (0 + (k : Int))) % ((62 : Nat) : Int)).toNat 0)
  ⟨ah.aQ (ah.trans s1 sm) ((ah.trans s1 sm).free pJ) _, ae, [], rfl, rfl, (fun _ z => nomatch z), rfl⟩ (fun i ys H2 ow => ⟨ow.2.1, ?_⟩) (fun i ys H2 hi ow => ?_) (fun ys H2 ow => ?_)
 ·obtain ⟨cs, rfl, hl, _, _⟩ := ow.2.2
  rw [Lm9, Lm9]
  omega
 ·obtain ⟨zs, rfl, hl, hg, Ha⟩ := ow.2.2
  have Sn := mid (a := v / 7 + (0 + (i : Int))) (b := 62) (by decide)
  have hd := vA (x := ui) Sn.1 (by rw [qL]; exact Sn.2)
  have UU : ui.cps.toList.getD ((v / 7 + (0 + (i : Int))) % 62).toNat 0 ∈ ui.cps.toList := abn (getD_get (by rw [mX, qL]; omega))
  generalize hde : ui.cps.toList.getD ((v / 7 + (0 + (i : Int))) % 62).toNat 0 = d at hd UU
  refine ⟨_, rfl, _, rfl, _, _, rfl, rfl, ⟨by decide, by decide⟩, _, rfl, _, _, rfl, rfl, _, _, rfl, rfl, (by show (0 : Int) < 62; decide), _, _, d, rfl, rfl, (by decide +kernel), hd, ow.2.1, ?_⟩
  refine ⟨ah.aQ ow.1 ((ah.trans s1 sm).free pJ) _, ae, zs ++ [d], by simp, by simp [hl], fun z hz => ?_, by rw [acg, aan, Ha, ← hde]; rfl⟩
  rcases aax.mp hz with hz | hz
  ·exact hg z hz
  ·rw [aak.mp hz]
   have z := JR
   rw [aaS] at z
   exact z d UU
 obtain ⟨ks, rfl, Nm, hka, Nx⟩ := ow.2.2
 have xE := ow.1
 have MI := ow.2.1
 refine ⟨_, rfl, D2, rfl, ⟨_, aH.of MI⟩, fun D3 Qp => ?_⟩
 obtain ⟨pa, UO⟩ : ∃ pa : Nat, v / 33 % (v / 3 % 11 + 1) = (pa : Int) := ⟨_, (ac6 mda.1).symm⟩
 obtain ⟨pb, hpb⟩ : ∃ pb : Nat, v / 3 % 11 = ((pa + pb : Nat) : Int) := ⟨(v / 3 % 11 - pa).toNat, by omega⟩
 have ZS : D2 ≠ D3 := fun z => by rw [z, Qp] at MI; cases MI
 refine jQ (K := K) (a := D2) (xs := (ks.map fun c => [c]).map tx) (by rw [Lm9, Lm9]; exact kl (by omega))
  (fun i ys H3 => ah H H3 ∧ H3 D3 = some (.lst ys) ∧ H3 D2 = some (.lst ((ks.map fun c => [c]).map tx)) ∧ ∃ zs : List (List Nat), ys = zs.map tx ∧ zs.length = i ∧ (∀ z ∈ zs, Good fs z) ∧ zs = (abj i).map fun k : Nat => (([cs] ++ T.take pa) ++ [ks.getD k 0]) ++ (T.drop pa).take pb)
  ⟨ah.aQ xE (xE.free Qp) _, ae, by rw [aA ZS]; exact MI, [], rfl, rfl, (fun _ z => nomatch z), rfl⟩ (fun i ys H3 Io => aH.of Io.2.2.1) (fun i ys H3 Io => ⟨Io.2.1, ?_⟩) (fun i ys H3 hi Io => ?_) (fun ys H3 Io => ?_)
 ·obtain ⟨zs, rfl, hl, _, _⟩ := Io.2.2.2
  rw [Lm9]
  omega
 ·obtain ⟨zs, rfl, hl, hg, Ha⟩ := Io.2.2.2
  have hi' : i < ks.length := by simpa using hi
  have eg : ((ks.map fun c => [c]).map tx).getD i .bY = tx [ks[i]] := by
   rw [Gd9, aa2, aa2, Ge9 hi']
   rfl
  rw [eg]
  refine ⟨_, rfl, _, rfl, S fs, _, cs, rfl, rfl, Nz fs (by omega), M6, _, rfl, _, rfl, _, rfl, S T, rfl, Nz T (by omega), ?_⟩
  rw [UO, ij (by omega), ZQ]
  refine ⟨_, _, rfl, rfl, (by rw [aD, aD, aaH]; exact sz (by simp; omega)), ?_⟩
  rw [cx]
  refine ⟨_, rfl, _, _, rfl, rfl, (by rw [aD, aD, aac, aaH]; exact sz (by simp; omega)), ?_⟩
  rw [cx]
  refine ⟨_, rfl, _, rfl, _, rfl, _, rfl, _, rfl, S T, rfl, Nz T (by omega), ?_⟩
  have e2 := Af (x := S T) (p := pa) (n := pb) (by rw [aD]; omega)
  rw [bq] at e2
  rw [UO, hpb, e2]
  refine ⟨_, _, rfl, rfl, (by rw [aD, aD, aac, aac, aaH, aaH, abf]; exact sz (by simp; omega)), ?_⟩
  rw [cx]
  refine ⟨Io.2.1, ah.aQ Io.1 (xE.free Qp) _, ae, by rw [aA ZS]; exact Io.2.2.1, zs ++ [(([cs] ++ T.take pa) ++ [ks[i]]) ++ (T.drop pa).take pb], by simp, by simp [hl], fun z hz => ?_, by rw [acg, aan, Ha]; simp only [aa3, ab0]; rw [Gd9 (i := i), Ge9 hi']; rfl⟩
  rcases aax.mp hz with hz | hz
  ·exact hg z hz
  ·rw [aak.mp hz]
   rw [aaQ, aaQ]
   refine Am W5 Ny ?_ ?_
   ·rw [aaS] at Pz ⊢
    intro y hy
    rcases aax.mp hy with hy | hy
    ·exact Pz y (abD hy)
    ·rcases aax.mp hy with hy | hy
     ·rw [aak.mp hy]
      exact hka _ (aaq hi')
     ·exact Pz y (acT (abD hy))
   ·rw [aac, aac, aaH, aaH, abf]
    simp
    omega
 ·obtain ⟨zs, rfl, hl, hg, Ha⟩ := Io.2.2.2
  have acH : ks.length = n := by omega
  rw [Lm9, Lm9] at Ha hl
  refine q D3 zs H3 Io.1 (xE.free Qp) Io.2.1 (by omega) hg ?_
  rw [Ha]
  refine gJ fun a b ha hb e => ?_
  have e3 : [ks.getD a 0] = [ks.getD b 0] := by
   have z := List.append_inj_left' e rfl
   exact List.append_inj_right z rfl
  have e4 : ks.getD a 0 = ks.getD b 0 := (List.cons.inj e3).1
  have gk : ∀ k, k < n → ks.getD k 0 = ui.cps.toList.getD ((v / 7 + (0 + (k : Int))) % ((62 : Nat) : Int)).toNat 0 := fun k hk => by
   rw [Nx, Gd9, aa2, List.getElem?_range (by omega)]
   rfl
  rw [gk a (by omega), gk b (by omega)] at e4
  have e5 := vO (by decide +kernel) (by rw [mX, qL]; have := mid (a := v / 7 + (0 + (a : Int))) (b := 62) (by decide); omega) (by rw [mX, qL]; have := mid (a := v / 7 + (0 + (b : Int))) (b := 62) (by decide); omega) e4
  exact GZ (by omega) (by omega) e5
theorem wB : ax ["_law_cell", "_law_many"] ["_law_cell", "_law_many"] (ao je) := ⟨rfl, rfl, rfl, by decide +kernel, rfl, by decide +kernel, by decide +kernel⟩
theorem wC (F : bw K "_law_titles" "_law_titles" je f fd) (cu : br P w K mg base "_law_names" 2 ["_law_cell", "_law_many", "_law_firsts"] qN) : a4 P w K mg base da 3 f fd ["_law_cell", "_law_many"] (i8 dI.cps.toList) := by
 refine F.ok wB (fun vs H Q E h => ?_) (fun cb A outer s H vs Q E hr h => ?_)
 ·obtain ⟨c, n, rfl, _⟩ := h
  rfl
 obtain ⟨c, n, rfl, hn, q⟩ := h
 refine ⟨_, (ai (aC (ak cu (hr.mono (by decide)) rfl (aa (pv 0) (aa (pv 1) (aa ar ab)))))), ?_⟩
 exact ⟨_, rfl, _, rfl, c, n, dI.cps.toList, (by show [V.int c, V.int n, V.str dI] = [V.int c, V.int n, V.str (S dI.cps.toList)]; rw [uf]), hn, by decide +kernel, by decide +kernel, by decide +kernel, by decide +kernel, q⟩
theorem xT : ax ["_law_cell", "_law_many"] ["_law_cell", "_law_many"] (ao lq) := ⟨rfl, rfl, rfl, by decide +kernel, rfl, by decide +kernel, by decide +kernel⟩
theorem xU (F : bw K "_law_opens" "_law_opens" lq f fd) (cu : br P w K mg base "_law_names" 2 ["_law_cell", "_law_many", "_law_firsts"] qN) : a4 P w K mg base da 3 f fd ["_law_cell", "_law_many"] (i8 d7.cps.toList) := by
 refine F.ok xT (fun vs H Q E h => ?_) (fun cb A outer s H vs Q E hr h => ?_)
 ·obtain ⟨c, n, rfl, _⟩ := h
  rfl
 obtain ⟨c, n, rfl, hn, q⟩ := h
 refine ⟨_, (ai (aC (ak cu (hr.mono (by decide)) rfl (aa (pv 0) (aa (pv 1) (aa ar ab)))))), ?_⟩
 exact ⟨_, rfl, _, rfl, c, n, d7.cps.toList, (by show [V.int c, V.int n, V.str d7] = [V.int c, V.int n, V.str (S d7.cps.toList)]; rw [uf]), hn, by decide +kernel, by decide +kernel, by decide +kernel, by decide +kernel, q⟩
theorem xV : ax ["_law_cell", "_law_many"] ["_law_cell", "_law_many"] (ao lu) := ⟨rfl, rfl, rfl, by decide +kernel, rfl, by decide +kernel, by decide +kernel⟩
theorem xW (F : bw K "_law_words" "_law_words" lu f fd) (cu : br P w K mg base "_law_names" 2 ["_law_cell", "_law_many", "_law_firsts"] qN) : a4 P w K mg base da 3 f fd ["_law_cell", "_law_many"] (i8 OT.cps.toList) := by
 refine F.ok xV (fun vs H Q E h => ?_) (fun cb A outer s H vs Q E hr h => ?_)
 ·obtain ⟨c, n, rfl, _⟩ := h
  rfl
 obtain ⟨c, n, rfl, hn, q⟩ := h
 refine ⟨_, (ai (aC (ak cu (hr.mono (by decide)) rfl (aa (pv 0) (aa (pv 1) (aa ar ab)))))), ?_⟩
 exact ⟨_, rfl, _, rfl, c, n, OT.cps.toList, (by show [V.int c, V.int n, V.str OT] = [V.int c, V.int n, V.str (S OT.cps.toList)]; rw [uf]), hn, by decide +kernel, by decide +kernel, by decide +kernel, by decide +kernel, q⟩
end
end iS
namespace iS
open PySem L2 cM Bk
set_option maxHeartbeats 4000000
section
variable {P : aaL} {w : aa9} {K : aaa} {mg : Str → Option aad} {base : Heap} {f : aaC} {fd : abd}
theorem fact_words {g : Fc} (h : FN g) : ((g.as.map S).map (·.length)).sum + (g.as.map S).length * (aab ",").length ≤ 16777216 := by
 have z := cP h.Md
 have z2 := h.n
 have e : (aab ",").length = 1 := by decide +kernel
 rw [Lm9, e]
 have : g.as.length * 12 ≤ 4 * 12 := ack _ z2
 omega
theorem A8 : aab "," = (⟨#[44]⟩ : Str) := by decide +kernel
theorem DT (k : Cs) (as : List Cs) : S k ++ aab "(" ++ adh (aab ",") (as.map S) ++ aab ")" = S (((k ++ [40]) ++ gp 44 as) ++ [41]) := by
 have e1 : aab "(" = S [40] := by decide +kernel
 have e2 : aab ")" = S [41] := by decide +kernel
 rw [e1, e2, A8, kq, cx, cx, cx]
theorem A9 : ax ["fact"] ["fact"] (ao nD) := ⟨rfl, rfl, rfl, by decide +kernel, rfl, by decide +kernel, by decide +kernel⟩
theorem Ba (F : bw K "fact_text" "fact_text" nD f fd) (aX : mg "len" = none) : a4 P w K mg base da 1 f fd ["fact"] (zE K) := by
 refine F.ok A9 (fun vs H Q E h => ?_) (fun cb A outer s H vs Q E hr h => ?_)
 ·obtain ⟨v, g, rfl, _⟩ := h
  rfl
 obtain ⟨v, g, rfl, ⟨t, t2, rfl, h1, h2⟩, hg, q⟩ := h
 refine ⟨_, (ag (aV (ay cS (aM aF rfl aX aaI (aa (aq aI (pv 0) af (fun _ _ => rfl)) ab)) af (aL _))
 (ai (aC (aq aI (pv 0) af (fun _ _ => rfl))))
 aE)
 (ai (aC (av aJ (av aJ (av aJ (aq aI (pv 0) af (fun _ _ => rfl)) ar) (bo aaw aaJ aaK bV ar (aa (aq aI (pv 0) af (fun _ _ => rfl)) ab))) ar)))), ?_⟩
 have hk := hg.OX
 have hj := qR g.as hg.Md
 have hn := hg.n
 refine ⟨_, rfl, t, _, 1, _, rfl, rfl, h1, rfl, t2, _, rfl, .inr h2, rfl, _, rfl, ?_⟩
 rw [Lm9]
 unfold au at q
 by_cases e : g.as = []
 ·rw [if_pos e] at q
  rw [e]
  exact dq ⟨_, rfl, t, _, 0, _, rfl, rfl, h1, rfl, q⟩
 ·rw [if_neg e] at q
  have z : decide (V.int (g.as.length : Int) = V.int 0) = false := by
   refine decide_eq_false fun z => e ?_
   have z' : (g.as.length : Int) = 0 := by injection z
   exact aaV (by omega)
  rw [z]
  have hjs : (adh (aab ",") (g.as.map S)).length ≤ 100 := by rw [A8, kq, aD]; omega
  refine bb ⟨_, rfl, t, _, 0, _, rfl, rfl, h1, rfl, _, _, rfl, rfl, ?_, ?_⟩
  ·rw [aD, aaA]; have : (aab "(").length = 1 := by decide +kernel
   omega
  refine ⟨rfl, _, rfl, t, _, 1, _, rfl, rfl, h1, rfl, _, t2, g.as.map S, rfl, rfl, .inr (by rw [← dE]; exact h2), fact_words hg, _, _, rfl, rfl, ?_, _, _, rfl, rfl, ?_, ?_⟩
  ·rw [strLen_append, aD, aaA]
   have : (aab "(").length = 1 := by decide +kernel
   omega
  ·rw [strLen_append, strLen_append, aD, aaA]
   have : (aab "(").length = 1 := by decide +kernel
   have : (aab ")").length = 1 := by decide +kernel
   omega
  ·rw [DT]
   exact q
theorem q0 : ax ["_law_fact_here"] ["_law_fact_here"] (ao fQ) := ⟨rfl, rfl, rfl, by decide +kernel, rfl, by decide +kernel, by decide +kernel⟩
theorem q5 (F : bw K "_law_fact_text" "_law_fact_text" fQ f fd) (aX : mg "len" = none) : a4 P w K mg base da 1 f fd ["_law_fact_here"] (zE K) := by
 refine F.ok q0 (fun vs H Q E h => ?_) (fun cb A outer s H vs Q E hr h => ?_)
 ·obtain ⟨v, g, rfl, _⟩ := h
  rfl
 obtain ⟨v, g, rfl, ⟨t, t2, rfl, h1, h2⟩, hg, q⟩ := h
 refine ⟨_, (ag (aV (ay cS (aM aF rfl aX aaI (aa (aq aI (pv 0) af (fun _ _ => rfl)) ab)) af (aL _))
 (ai (aC (aq aI (pv 0) af (fun _ _ => rfl))))
 aE)
 (ai (aC (av aJ (av aJ (av aJ (aq aI (pv 0) af (fun _ _ => rfl)) ar) (bo aaw aaJ aaK bV ar (aa (aq aI (pv 0) af (fun _ _ => rfl)) ab))) ar)))), ?_⟩
 have hk := hg.OX
 have hj := qR g.as hg.Md
 have hn := hg.n
 refine ⟨_, rfl, t, _, 1, _, rfl, rfl, h1, rfl, t2, _, rfl, .inr h2, rfl, _, rfl, ?_⟩
 rw [Lm9]
 unfold au at q
 by_cases e : g.as = []
 ·rw [if_pos e] at q
  rw [e]
  exact dq ⟨_, rfl, t, _, 0, _, rfl, rfl, h1, rfl, q⟩
 ·rw [if_neg e] at q
  have z : decide (V.int (g.as.length : Int) = V.int 0) = false := by
   refine decide_eq_false fun z => e ?_
   have z' : (g.as.length : Int) = 0 := by injection z
   exact aaV (by omega)
  rw [z]
  have hjs : (adh (aab ",") (g.as.map S)).length ≤ 100 := by rw [A8, kq, aD]; omega
  refine bb ⟨_, rfl, t, _, 0, _, rfl, rfl, h1, rfl, _, _, rfl, rfl, ?_, ?_⟩
  ·rw [aD, aaA]; have : (aab "(").length = 1 := by decide +kernel
   omega
  refine ⟨rfl, _, rfl, t, _, 1, _, rfl, rfl, h1, rfl, _, t2, g.as.map S, rfl, rfl, .inr (by rw [← dE]; exact h2), fact_words hg, _, _, rfl, rfl, ?_, _, _, rfl, rfl, ?_, ?_⟩
  ·rw [strLen_append, aD, aaA]
   have : (aab "(").length = 1 := by decide +kernel
   omega
  ·rw [strLen_append, strLen_append, aD, aaA]
   have : (aab "(").length = 1 := by decide +kernel
   have : (aab ")").length = 1 := by decide +kernel
   omega
  ·rw [DT]
   exact q
theorem xX : ax ["facts"] ["facts"] (ao kC) := ⟨rfl, rfl, rfl, by decide +kernel, rfl, by decide +kernel, by decide +kernel⟩
theorem xY (F : bw K "facts_text" "facts_text" kC f fd) (iW : br P w K mg base "fact_text" 1 ["fact"] (zE K)) : a4 P w K mg base da 2 f fd ["facts"] (Fs K) := by
 refine F.ok xX (fun vs H Q E h => ?_) (fun cb A outer s H vs Q E hr h => ?_)
 ·obtain ⟨a, xs, fs, rfl, _⟩ := h
  rfl
 obtain ⟨a, xs, fs, rfl, hx, pf, hg, hn, q⟩ := h
 have zl := aam pf
 have RR : ((fs.map au).map tx).length = xs.length := by simpa using zl
 have KN : (((fs.map au).map S).map (·.length)).sum + ((fs.map au).map S).length * (aab ", ").length ≤ 16777216 := by
  have z := cP (as := fs.map au) (B := 70) fun l hl => by
   obtain ⟨g, hg', rfl⟩ := aat.mp hl
   exact sd (hg g hg')
  have e : (aab ", ").length = 2 := by decide +kernel
  rw [Lm9, Lm9, e]
  rw [Lm9] at z
  omega
 rcases hx with hx | hx
 ·refine ⟨_, (ai (aC (bo aaw aaJ aaK bV ar (aa (bA [] rfl (by kernel_rfl) (aW (pv 0)) (fun _ _ _ _ _ => bj) (fun _ _ _ _ _ => (ak iW (hr.mono (by decide)) rfl (aa (pv 0) ab)))) ab)))), ?_⟩
  refine ⟨rfl, _, rfl, a, rfl, ⟨_, hx⟩, fun D hD => ?_⟩
  refine J0 (K := K) (xs := xs) (gs := (fs.map au).map tx) RR (kl (by omega)) hD hx (fun i x g H' R hxi W8 sm hQ => ?_) (fun H2 s2 hL => ?_)
  ·obtain ⟨hi, ex⟩ := aP hxi
   have A1 : i < fs.length := by omega
   have hF := Fact.sm sm (paired_at pf i A1 hi)
   rw [ex] at hF
   obtain ⟨Rp, eg⟩ := aP W8
   have eg : tx (au fs[i]) = g := by rw [← eg, aas, aas]
   exact ⟨_, rfl, x, fs[i], rfl, hF, hg _ (aaq A1), by rw [eg]; exact hQ _ (ah.refl _)⟩
  ·refine ⟨_, D, (fs.map au).map S, rfl, rfl, .inl (aH.of (by rw [← dE]; exact hL)), KN, ?_⟩
   rw [ku]
   exact q _ s2
 ·refine ⟨_, (ai (aC (bo aaw aaJ aaK bV ar (aa (bA [] rfl (by kernel_rfl) (EM (pv 0)) (fun _ _ _ _ _ => bj) (fun _ _ _ _ _ => (ak iW (hr.mono (by decide)) rfl (aa (pv 0) ab)))) ab)))), ?_⟩
  refine ⟨rfl, _, rfl, a, rfl, ⟨_, hx⟩, fun D hD => ?_⟩
  refine J1 (K := K) (xs := xs) (gs := (fs.map au).map tx) RR (kl (by omega)) hD hx (fun i x g H' R hxi W8 sm hQ => ?_) (fun H2 s2 hL => ?_)
  ·obtain ⟨hi, ex⟩ := aP hxi
   have A1 : i < fs.length := by omega
   have hF := Fact.sm sm (paired_at pf i A1 hi)
   rw [ex] at hF
   obtain ⟨Rp, eg⟩ := aP W8
   have eg : tx (au fs[i]) = g := by rw [← eg, aas, aas]
   exact ⟨_, rfl, x, fs[i], rfl, hF, hg _ (aaq A1), by rw [eg]; exact hQ _ (ah.refl _)⟩
  ·refine ⟨_, D, (fs.map au).map S, rfl, rfl, .inl (aH.of (by rw [← dE]; exact hL)), KN, ?_⟩
   rw [ku]
   exact q _ s2
end
end iS
namespace iS
open PySem L2 cM Bk
set_option maxHeartbeats 4000000
section
variable {P : aaL} {w : aa9} {K : aaa} {mg : Str → Option aad} {base : Heap} {f : aaC} {fd : abd} {c : Cl}
theorem Bb : ax ["word", "members"] ["word", "members"] (ao nU) := ⟨rfl, rfl, rfl, by decide +kernel, rfl, by decide +kernel, by decide +kernel⟩
theorem Bc (F : bw K "part_text" "part_text" nU f fd) : a4 P w K mg base da 1 f fd ["word", "members"] As := by
 refine F.ok Bb (fun vs H Q E h => ?_) (fun cb A outer s H vs Q E hr h => ?_)
 ·obtain ⟨wd, m, rfl, _⟩ := h
  rfl
 obtain ⟨wd, m, rfl, hw, hm, q⟩ := h
 refine ⟨_, (ag (aV (ay cS (pv 1) ar (aL _))
 (ai (aC ar))
 aE)
 (ai (aC (av aJ (av aJ (pv 0) ar) (pv 1))))), ?_⟩
 refine ⟨_, rfl, rfl, _, rfl, ?_⟩
 have ed : decide (tx m = V.str (aab "")) = decide (m = []) := by
  have e : V.str (aab "") = tx [] := by decide +kernel
  rw [e, Ab]
 rw [ed]
 by_cases h0 : m = []
 ·rw [decide_eq_true h0]
  rw [if_pos h0] at q
  exact dq q
 ·rw [decide_eq_false h0]
  rw [if_neg h0] at q
  refine bb ?_
  have e1 : (aab " ") = S [32] := by decide +kernel
  have e2 : (aab " ").length = 1 := by decide +kernel
  refine ⟨_, rfl, _, _, rfl, rfl, (by rw [aD, e2, aaA]; omega), _, rfl, _, _, rfl, rfl, (by simp only [strLen_append, aD, e2]; rw [aaA]; omega), ?_⟩
  rw [e1, cx, cx, aaQ]
  exact q
theorem Bd : ax ["self"] ["self"] (ao nF) := ⟨rfl, rfl, rfl, by decide +kernel, rfl, by decide +kernel, by decide +kernel⟩
theorem Be (F : bw K "word" "Same.word" nF f fd) : a4 P w K mg base da 2 f fd ["self"] (ky true) := by
 refine F.ok Bd (fun vs H Q E h => ?_) (fun cb A outer s H vs Q E hr h => ?_)
 ·obtain ⟨p, rfl, _⟩ := h
  rfl
 obtain ⟨p, rfl, q⟩ := h
 exact ⟨_, (ai (aC ar)), q⟩
theorem wD : ax ["self"] ["self"] (ao jb) := ⟨rfl, rfl, rfl, by decide +kernel, rfl, by decide +kernel, by decide +kernel⟩
theorem wF (F : bw K "word" "Unlike.word" jb f fd) : a4 P w K mg base da 2 f fd ["self"] (ky false) := by
 refine F.ok wD (fun vs H Q E h => ?_) (fun cb A outer s H vs Q E hr h => ?_)
 ·obtain ⟨p, rfl, _⟩ := h
  rfl
 obtain ⟨p, rfl, q⟩ := h
 exact ⟨_, (ai (aC ar)), q⟩
theorem g7 : ax ["rule", "looks", "pairs", "parts"] ["rule"] (ao nT) := ⟨rfl, rfl, rfl, by decide +kernel, rfl, by decide +kernel, by decide +kernel⟩
theorem Bf (F : bw K "rule_text" "rule_text" nT f fd) (T : xC K c.rule) (Ts : uh K c.same) (Tu : uh K c.unlike) (dP : br P w K mg base "part_text" 1 ["word", "members"] As) (fc : br P w K mg base "facts_text" 2 ["facts"] (Fs K)) (Qq : ∀ b, Met P w K mg base (c.look b) "word" 2 ["self"] (ky b)) : a4 P w K mg base da 3 f fd ["rule"] (Au K c) := by
 refine F.ok g7 (fun vs H Q E h => ?_) (fun cb A outer s H vs Q E hr h => ?_)
 ·obtain ⟨v, H0, r, rfl, _⟩ := h
  rfl
 obtain ⟨v, H0, r, rfl, hR, hT, q⟩ := h
 refine ⟨_, (@ag _ _ _ _ _ (@kg _ (1) _ _ _ _ _ _ _ _ _ _ _ _ _ [] g7.nd rfl (aaM rfl) rfl (by kernel_rfl) (@aW _ _ _ _ (@pe_fld _ _ _ _ _ (pv 0) rfl)) (fun _ _ _ _ _ => (@bj _)) (fun _ _ _ _ _ => (id (α := PE _ _ (Q3 K "str" (rJoin K) _ _)) (bo aaw aaJ aaK bV ar (aa (a7 (aa (z8 (K := K) rfl (pv 0) rfl) (aa (HU (P := P) (w := w) (K := K) (mg := mg) (base := base) rfl rfl rfl rfl rfl (pv 0) (k := 2) (hr.mono (by decide))) (aa (z8 (K := K) rfl (pv 0) rfl) ab)))) ab)))) (by rfl) (by intro _; rfl) (by first | exact .inl rfl | exact .inr rfl | assumption)) (@ag _ _ _ _ _ (@kg _ (2) _ _ _ _ _ _ _ _ _ _ _ _ _ [] g7.nd rfl (aaM rfl) rfl (by kernel_rfl) (@aW _ _ _ _ (@pe_fld _ _ _ _ _ (pv 0) rfl)) (fun _ _ _ _ _ => (@bj _)) (fun _ _ _ _ _ => (id (α := PE _ _ (Q3 K "str" (rJoin K) _ _)) (bo aaw aaJ aaK bV ar (aa (pv 0) ab)))) (by rfl) (by intro _; rfl) (by first | exact .inl rfl | exact .inr rfl | assumption)) (@ag _ _ _ _ _ (@aw _ _ (3) _ _ _ _ g7.nd rfl (aaM rfl) (@a7 _ _ _ _ (@aa _ _ _ _ _ (@ak _ _ _ _ _ _ _ _ _ _ dP (hr.mono (by decide)) rfl (@aa _ _ _ _ _ (@ar _ _ _ _) (@aa _ _ _ _ _ (@ak _ _ _ _ _ _ _ _ _ _ fc (hr.mono (by decide)) rfl (@aa _ _ _ _ _ (@pe_fld _ _ _ _ _ (pv 0) rfl) (@ab _) (by rfl)) (by decide) (by rfl) (by rfl)) (@ab _) (by rfl)) (by rfl)) (by decide) (by rfl) (by rfl)) (@aa _ _ _ _ _ (@ak _ _ _ _ _ _ _ _ _ _ dP (hr.mono (by decide)) rfl (@aa _ _ _ _ _ (@ar _ _ _ _) (@aa _ _ _ _ _ (@ak _ _ _ _ _ _ _ _ _ _ fc (hr.mono (by decide)) rfl (@aa _ _ _ _ _ (@pe_fld _ _ _ _ _ (pv 0) rfl) (@ab _) (by rfl)) (by decide) (by rfl) (by rfl)) (@ab _) (by rfl)) (by rfl)) (by decide) (by rfl) (by rfl)) (@aa _ _ _ _ _ (@ak _ _ _ _ _ _ _ _ _ _ dP (hr.mono (by decide)) rfl (@aa _ _ _ _ _ (@ar _ _ _ _) (@aa _ _ _ _ _ (@bo _ _ _ _ _ _ _ _ _ _ _ _ aaw aaJ aaK (@bV _) (@ar _ _ _ _) (@aa _ _ _ _ _ (pv 1) (@ab _) (by rfl)) (by rfl) (by rfl) (by rfl) (by rfl) (by rfl)) (@ab _) (by rfl)) (by rfl)) (by decide) (by rfl) (by rfl)) (@aa _ _ _ _ _ (@ak _ _ _ _ _ _ _ _ _ _ dP (hr.mono (by decide)) rfl (@aa _ _ _ _ _ (@ar _ _ _ _) (@aa _ _ _ _ _ (@ak _ _ _ _ _ _ _ _ _ _ fc (hr.mono (by decide)) rfl (@aa _ _ _ _ _ (@pe_fld _ _ _ _ _ (pv 0) rfl) (@ab _) (by rfl)) (by decide) (by rfl) (by rfl)) (@ab _) (by rfl)) (by rfl)) (by decide) (by rfl) (by rfl)) (@aa _ _ _ _ _ (@ak _ _ _ _ _ _ _ _ _ _ dP (hr.mono (by decide)) rfl (@aa _ _ _ _ _ (@ar _ _ _ _) (@aa _ _ _ _ _ (@bo _ _ _ _ _ _ _ _ _ _ _ _ aaw aaJ aaK (@bV _) (@ar _ _ _ _) (@aa _ _ _ _ _ (pv 2) (@ab _) (by rfl)) (by rfl) (by rfl) (by rfl) (by rfl) (by rfl)) (@ab _) (by rfl)) (by rfl)) (by decide) (by rfl) (by rfl)) (@ab _) (by rfl)) (by rfl)) (by rfl)) (by rfl)) (by rfl))) (by rfl) (by first | exact .inl rfl | exact .inr rfl | assumption)) (@ai _ _ _ (@aC _ _ _ _ (@av _ _ _ _ _ _ _ _ (@aJ _) (@av _ _ _ _ _ _ _ _ (@aJ _) (@av _ _ _ _ _ _ _ _ (@aJ _) (@ar _ _ _ _) (@pe_fld _ _ _ _ _ (pv 0) rfl)) (@ar _ _ _ _)) (@bo _ _ _ _ _ _ _ _ _ _ _ _ aaw aaJ aaK (@bV _) (@ar _ _ _ _) (@aa _ _ _ _ _ (@bA _ _ _ _ _ _ _ _ _ _ _ [] rfl (by kernel_rfl) (@aW _ _ _ _ (pv 3)) (fun _ _ _ _ _ => (@qx _ _ _ (@ay _ _ _ _ _ _ _ _ (@fJ _) (pv 0) (@ar _ _ _ _) (aL _)))) (fun _ _ _ _ _ => (pv 0)) (by intro _; rfl)) (@ab _) (by rfl)) (by rfl) (by rfl) (by rfl) (by rfl) (by rfl)))))))), ?_⟩
 obtain ⟨a, dx, fs, rfl, na, ha, RF⟩ := id hR
 obtain ⟨vl, el, ll, ul, rfl, nl, hl, pl⟩ := RF.aO
 obtain ⟨vg, eg, lg, ug, rfl, ng, hg, pg⟩ := RF.given
 obtain ⟨vt, et, lt, ut, rfl, nt, ht, pt⟩ := RF.told
 obtain ⟨va, ea, la, ua, rfl, nta, W9, Xa⟩ := RF.taken
 obtain ⟨vk, ek, lk, uk, rfl, nk, hk, pk⟩ := RF.kept
 have Xb := RF.title
 have few := hT.few
 have zl := aam pl
 have zt := aam pt
 have oo : ∀ b, CM K (c.look b) ∧ cz K (c.look b) "left" ∧ cz K (c.look b) "right" := fun b => by
  cases b with
  | true => exact ⟨Ts.cl, Ts.nL, Ts.nR⟩
  | false => exact ⟨Tu.cl, Tu.nL, Tu.nR⟩
 refine ⟨_, rfl, a, c.rule, dx, fs, _, rfl, ha, T.cl, T.n4, el, ll, rfl, ⟨_, aH.of hl⟩, fun D hD => ?_⟩
 refine cA (K := K) (xs := ul) (r.aO.map bt) (fun _ _ b y => y = tx b) (fun _ _ _ _ _ _ h => h) (fun _ _ _ _ _ _ h => h) (kl (by omega)) hD (aH.of hl) (by rw [Lm9]; exact zl) (fun i y b H' R hy hb sm hQ => ?_) (fun H1 ys s1 hL po => ?_)
 ·obtain ⟨hi, ey⟩ := aP hy
  obtain ⟨dH, eb⟩ := aP hb
  rw [Lm9] at dH
  rw [aas] at eb
  obtain ⟨b', Lv, fb, e', nb, hb', f1, f2, f3, f4⟩ := paired_at pl i dH hi
  rw [ey] at e'
  subst e'
  have qW := hT.l _ (aaq dH)
  obtain ⟨C1, C2, C3⟩ := oo r.aO[i].same
  have Lw := sm _ _ hb'
  generalize r.aO[i] = kk at Lw C1 C2 C3 f1 f2 eb qW
  refine ⟨rfl, _, rfl, b', _, Lv, fb, _, rfl, Lw, C1, C2, f1, _, rfl, b', _, Lv, fb, _, _, rfl, Lw, f4, Qq _, b', rfl, _, rfl, b', _, Lv, fb, _, rfl, Lw, C1, C3, f2, (by show 3 ≤ aai; decide), fun l2 tL => ?_⟩
  have e1 : (aab " ").length = 1 := by decide +kernel
  have e0 : (aab " ") = S [32] := by decide +kernel
  have h1 := cQ qW.1
  have h2 := cQ qW.2
  have h3 : (fK kk.same).length ≤ 6 := by cases kk.same <;> decide
  refine ⟨_, l2, [kk.l, fK kk.same, kk.r].map S, rfl, rfl, .inl (aH.of ae), ?_, ?_⟩
  ·simp only [aa3, ab0, acU, adR, aag, aa6, aD, e1]
   omega
  ·rw [e0, qT]
   refine hQ _ _ (aj tL _) ?_
   rw [← eb]
   rfl
 rw [bT po] at hL
 have AG := s1 _ _ ht
 refine ⟨_, rfl, a, c.rule, dx, fs, _, rfl, s1 _ _ ha, T.cl, T.n6, et, lt, rfl, ⟨_, aH.of AG⟩, fun D2 pJ => ?_⟩
 refine cA (K := K) (xs := ut) (r.tell.map bD) (fun _ _ b y => y = tx b) (fun _ _ _ _ _ _ h => h) (fun _ _ _ _ _ _ h => h) (kl (by omega)) pJ (aH.of AG) (by rw [Lm9]; exact zt) (fun i y b H' R hy hb sm hQ => ?_) (fun H2 ys2 s2 wj Xc => ?_)
 ·obtain ⟨hi, ey⟩ := aP hy
  obtain ⟨dH, eb⟩ := aP hb
  rw [Lm9] at dH
  rw [aas] at eb
  obtain ⟨t, e', MJ⟩ := paired_at pt i dH hi
  rw [ey] at e'
  subst e'
  have qW := hT.p _ (aaq dH)
  have MJ := MJ.same (ah.trans s1 sm)
  generalize r.tell[i] = kk at MJ eb qW
  have e1 : (aab " = ").length = 3 := by decide +kernel
  have e0 : (aab " = ") = S [32, 61, 32] := by decide +kernel
  have h1 := cQ qW.1
  have h2 := cQ qW.2
  refine ⟨rfl, _, rfl, _, t, [kk.1, kk.2].map S, rfl, rfl, .inr MJ, ?_, ?_⟩
  ·simp only [aa3, ab0, acU, adR, aag, aa6, aD, e1]
   omega
  ·rw [e0, qT]
   refine hQ _ _ (ah.refl _) ?_
   rw [← eb]
   rfl
 rw [bT Xc] at wj
 have DR := ah.trans s1 s2
 have fF : ∀ g ∈ r.take ++ (r.keep ++ r.put), FN g := fun g hg => (hT.f g hg).fn
 have qa := hT.Fx
 have w1 : V.str (aab "take") = tx bz := by decide +kernel
 have w2 : V.str (aab "keep") = tx bH := by decide +kernel
 have w3 : V.str (aab "look") = tx bB := by decide +kernel
 have w4 : V.str (aab "put") = tx cU := by decide +kernel
 have w5 : V.str (aab "tell") = tx bR := by decide +kernel
 refine ⟨_, rfl, a, c.rule, dx, fs, _, rfl, DR _ _ ha, T.cl, T.n2, ea, la, ua, r.take, rfl, .inl (aH.of (DR _ _ W9)), aR Xa (fun _ _ _ => Fact.sm DR), (fun g hg => fF g (aay _ hg)), (by omega), fun H3 s3 => ?_⟩
 have bd : ∀ x ∈ dO r, x.2.length ≤ 2100 := fun x hx => (qa x hx).2
 have b1 : (bp (r.take.map au)).length ≤ 2100 := bd (bz, bp (r.take.map au)) (by unfold dO; simp)
 have b2 : (bp (r.keep.map au)).length ≤ 2100 := bd (bH, bp (r.keep.map au)) (by unfold dO; simp)
 have b3 : (bp (r.aO.map bt)).length ≤ 2100 := bd (bB, bp (r.aO.map bt)) (by unfold dO; simp)
 have b4 : (bp (r.put.map au)).length ≤ 2100 := bd (cU, bp (r.put.map au)) (by unfold dO; simp)
 have b5 : (bp (r.tell.map bD)).length ≤ 2100 := bd (bR, bp (r.tell.map bD)) (by unfold dO; simp)
 have ec : (aab ", ").length = 2 := by decide +kernel
 refine ⟨bz, bp (r.take.map au), (by rw [w1]; rfl), by decide, (by omega), ?_⟩
 have KO := ah.trans DR s3
 refine ⟨_, rfl, a, c.rule, dx, fs, _, rfl, KO _ _ ha, T.cl, T.n3, ek, lk, uk, r.keep, rfl, .inl (aH.of (KO _ _ hk)), aR pk (fun _ _ _ => Fact.sm KO), (fun g hg => fF g (aae _ (aay _ hg))), (by omega), fun H4 s4 => ?_⟩
 refine ⟨bH, bp (r.keep.map au), (by rw [w2]; rfl), by decide, (by omega), ?_⟩
 have MK := ah.trans KO s4
 have IK := ah.trans s3 s4
 have l1 := cP (as := r.aO.map bt) (B := 32) (fun x hx => by
  obtain ⟨k, hk, rfl⟩ := aat.mp hx
  exact uT (hT.l k hk))
 have l2 := cP (as := r.tell.map bD) (B := 32) (fun x hx => by
  obtain ⟨k, hk, rfl⟩ := aat.mp hx
  exact uU (hT.p k hk))
 rw [Lm9] at l1 l2
 refine ⟨rfl, _, rfl, _, D, (r.aO.map bt).map S, rfl, rfl, .inl (aH.of (by rw [← dE]; exact IK _ _ (s2 _ _ hL))), (by rw [Lm9, Lm9, ec]; omega), ?_⟩
 rw [ku]
 refine ⟨bB, bp (r.aO.map bt), (by rw [w3]; rfl), by decide, (by omega), ?_⟩
 refine ⟨_, rfl, a, c.rule, dx, fs, _, rfl, MK _ _ ha, T.cl, T.n5, eg, lg, ug, r.put, rfl, .inl (aH.of (MK _ _ hg)), aR pg (fun _ _ _ => Fact.sm MK), (fun g hg => fF g (aae _ (aae _ hg))), (by omega), fun H5 s5 => ?_⟩
 refine ⟨cU, bp (r.put.map au), (by rw [w4]; rfl), by decide, (by omega), ?_⟩
 have Qr := ah.trans MK s5
 have s25 := ah.trans IK s5
 refine ⟨rfl, _, rfl, _, D2, (r.tell.map bD).map S, rfl, rfl, .inl (aH.of (by rw [← dE]; exact s25 _ _ wj)), (by rw [Lm9, Lm9, ec]; omega), ?_⟩
 rw [ku]
 refine ⟨bR, bp (r.tell.map bD), (by rw [w5]; rfl), by decide, (by omega), ?_⟩
 refine ⟨(by show 5 ≤ aai; decide), fun lp Hb => ?_⟩
 have s6 := aj Hb (.lst (((dO r).map pL).map tx))
 have ML := ae (H := H5) (a := lp) (o := .lst (((dO r).map pL).map tx))
 have NA := ah.trans Qr s6
 have er := hT.rows
 have el5 : ((dO r).map pL).length = 5 := rfl
 have Xd : ∀ x ∈ (dO r).map pL, x.length ≤ 2200 := fun x hx => by
  obtain ⟨z, hz, rfl⟩ := aat.mp hx
  have := qa z hz
  unfold pL
  split
  ·simp
  ·simp only [aac, aag]
   omega
 show tI 3 (V.ref lp) _ (upd H5 lp (.lst (((dO r).map pL).map tx))) _
 generalize upd H5 lp (.lst (((dO r).map pL).map tx)) = H6 at s6 ML NA ⊢
 generalize (dO r).map pL = ws at ML er el5 Xd
 have f1 : (aab "rule ") = S (cF ++ [32]) := by decide +kernel
 have f2 : (aab ": ") = S [58, 32] := by decide +kernel
 have f3 : (aab "; ") = S [59, 32] := by decide +kernel
 have f4 : (aab "; ").length = 2 := by decide +kernel
 have MJ := cQ (di hT.t)
 refine ⟨_, rfl, a, c.rule, dx, fs, _, rfl, NA _ _ ha, T.cl, T.n1, Xb, _, _, rfl, rfl, (by rw [f1, aD, aD, aaA]; show (cF ++ [32]).length + _ ≤ _; have : (cF ++ [32]).length = 5 := rfl; omega), ?_⟩
 refine ⟨_, _, rfl, rfl, (by rw [f1, f2, cx, aD, aD, aaA, aac]; have : (cF ++ [32]).length = 5 := rfl; show _ + 2 ≤ _; omega), ?_⟩
 rw [f1, f2, cx, cx]
 refine ⟨rfl, _, rfl, lp, rfl, ⟨_, aH.of ML⟩, fun D3 Qp => ?_⟩
 refine pA (K := K) (xs := ws.map tx) ws (fun x => !decide (x = [])) id (fun _ _ b y => y = tx b) (fun _ _ _ _ _ _ h => h) (fun _ _ _ _ _ _ h => h) (kl (by rw [Lm9]; omega)) Qp (aH.of ML) (by rw [Lm9]) (fun i x b H' R hx hb sm hQ => ?_) (fun i x b H' R hx hb ZT sm hQ => ?_) (fun H7 ys7 s7 Xe ZU => ?_)
 ·obtain ⟨hi, ex⟩ := aP hx
  obtain ⟨dH, eb⟩ := aP hb
  rw [aas, eb] at ex
  subst ex
  refine ⟨_, rfl, rfl, ?_⟩
  have ed : (!decide (tx b = V.str (aab ""))) = !decide (b = []) := by
   have e : V.str (aab "") = tx [] := by decide +kernel
   rw [e, Ab]
  rw [ed]
  exact ⟨_, rfl, hQ _ (ah.refl _)⟩
 ·obtain ⟨hi, ex⟩ := aP hx
  obtain ⟨dH, eb⟩ := aP hb
  rw [aas, eb] at ex
  subst ex
  exact ⟨_, rfl, hQ _ _ (ah.refl _) rfl⟩
 rw [acs] at ZU
 rw [bT ZU] at Xe
 have hpl : (ws.filter fun x => !decide (x = [])).length ≤ 5 := aa8 (acf _ _) (by omega)
 have KN := cP (as := ws.filter fun x => !decide (x = [])) (B := 2200) (fun x hx => Xd x (abh.mp hx).1)
 have Q7 := jY (ws.filter fun x => !decide (x = [])) (fun x hx => Xd x (abh.mp hx).1)
 rw [er] at Xe hpl KN Q7
 refine ⟨_, D3, (cq r).map S, rfl, rfl, .inl (aH.of (by rw [← dE]; exact Xe)), (by rw [Lm9, f4]; omega), ?_⟩
 rw [f3, qT]
 refine ⟨_, _, rfl, rfl, ?_, ?_⟩
 ·rw [aD, aD, aaA, aac, aac]
  have : (cF ++ [32]).length = 5 := rfl
  have e2 : ([58, 32] : Cs).length = 2 := rfl
  omega
 ·rw [cx]
  have q := q _ (ah.trans NA s7)
  have e : ((cF ++ [32] ++ r.title) ++ [58, 32]) ++ cE [59, 32] (cq r) = bE r := by
   unfold bE
   simp
  rw [e]
  exact q
end
end iS
namespace iS
open PySem L2 cM Bk
set_option maxHeartbeats 4000000
section
variable {P : aaL} {w : aa9} {K : aaa} {mg : Str → Option aad} {base : Heap} {f : aaC} {fd : abd} {c : Cl}
theorem rf : ax ["kind", "word"] ["kind"] (ao nS) := ⟨rfl, rfl, rfl, by decide +kernel, rfl, by decide +kernel, by decide +kernel⟩
theorem Bg (F : bw K "kind_text" "kind_text" nS f fd) (KP : mg "str" = none) : a4 P w K mg base da 1 f fd ["kind"] (pB K) := by
 refine F.ok rf (fun vs H Q E h => ?_) (fun cb A outer s H vs Q E hr h => ?_)
 ·obtain ⟨v, k, rfl, _⟩ := h
  rfl
 obtain ⟨v, ⟨n, ct, b⟩, rfl, ⟨t, rfl, ht⟩, hn, hc, q⟩ := h
 have hc : ct ≤ 4 := hc
 have hn : n.length ≤ 12 := hn
 have ht : cK K H t [tx n, .int ct, .bl b] := ht
 refine ⟨_, (ag (aw (i := 1) rf.nd rfl (aaM rfl) (IU (cR (aq aI (pv 0) af (fun _ _ => rfl))) ar ar))
 (ai (aC (bo aaw aaJ aaK bV ar (aa (a7 (aa (pv 1) (aa (aq aI (pv 0) af (fun _ _ => rfl)) (aa (dY qo rfl KP PyProof.Rows.Boot.«str» (aa (aq aI (pv 0) af (fun _ _ => rfl)) ab)) ab)))) ab))))), ?_⟩
 have go : ∀ (W : Cs), W = (if b = true then a6 else a5) → ∀ l, H l = none → Q (V.str (adh (aab " ") [S W, S n, aab (toString (ct : Int))])) (upd H l (.lst [tx W, tx n, V.str (aab (toString (ct : Int)))])) := by
  intro W eW l hl
  have e0 : (aab " ") = ⟨#[32]⟩ := by decide +kernel
  rw [An hc, e0]
  have e := kq 32 [W, n, [48 + ct]]
  have e2 : gp 32 [W, n, [48 + ct]] = az ⟨n, ct, b⟩ := by rw [eW]; rfl
  rw [e2] at e
  have e3 : ([W, n, [48 + ct]] : List Cs).map S = [S W, S n, S [48 + ct]] := rfl
  rw [e3] at e
  rw [e]
  exact q _ (aj hl _)
 have ZV : ∀ (W : Cs), W.length = 7 → (([S W, S n, aab (toString (ct : Int))] : List Str).map (·.length)).sum + ([S W, S n, aab (toString (ct : Int))] : List Str).length * (aab " ").length ≤ 16777216 := by
  intro W hW
  rw [An hc]
  have e1 : (aab " ").length = 1 := by decide +kernel
  simp only [aa3, ab0, acU, adR, aD, aag, aa6, hW, e1]
  omega
 refine ⟨_, rfl, t, _, 2, _, rfl, rfl, ht, rfl, _, rfl, ?_⟩
 cases b with
 | true =>
  refine dq ?_
  refine ⟨rfl, _, rfl, _, rfl, t, _, 0, _, rfl, rfl, ht, rfl, _, rfl, t, _, 1, _, rfl, rfl, ht, rfl, _, rfl, Ao hc, (by show 3 ≤ aai; decide), fun l hl => ?_⟩
  refine ⟨_, l, [S a6, S n, aab (toString (ct : Int))], rfl, rfl, .inl (aH.of ?_), ZV a6 rfl, go a6 rfl l hl⟩
  have e : (aab "lasting") = S a6 := by decide +kernel
  rw [e]
  exact ae
 | false =>
  refine bb ?_
  refine ⟨rfl, _, rfl, _, rfl, t, _, 0, _, rfl, rfl, ht, rfl, _, rfl, t, _, 1, _, rfl, rfl, ht, rfl, _, rfl, Ao hc, (by show 3 ≤ aai; decide), fun l hl => ?_⟩
  refine ⟨_, l, [S a5, S n, aab (toString (ct : Int))], rfl, rfl, .inl (aH.of ?_), ZV a5 rfl, go a5 rfl l hl⟩
  have e : (aab "passing") = S a5 := by decide +kernel
  rw [e]
  exact ae
theorem rg : ax ["book", "lines"] ["book"] (ao nQ) := ⟨rfl, rfl, rfl, by decide +kernel, rfl, by decide +kernel, by decide +kernel⟩
theorem Bh (F : bw K "book_text" "book_text" nQ f fd) (T : Ma K c.book) (oy : br P w K mg base "kind_text" 1 ["kind"] (pB K)) (oz : br P w K mg base "rule_text" 3 ["rule"] (Au K c)) : a4 P w K mg base da 4 f fd ["book"] (vV K c) := by
 refine F.ok rg (fun vs H Q E h => ?_) (fun cb A outer s H vs Q E hr h => ?_)
 ·obtain ⟨v, H0, ks, rs, rfl, _⟩ := h
  rfl
 obtain ⟨v, H0, ks, rs, rfl, ⟨x, dx, fs, rfl, ZI, hx, ⟨v1, e1, lk, kvs, rfl, Nx, hk, pk⟩, ⟨v2, e2, lr, rC, rfl, G9, NB, pr⟩⟩, hok, hfew, ZW, hrf, q⟩ := h
 refine ⟨_, (@ag _ _ _ _ _ (@kg _ (1) _ _ _ _ _ _ _ _ _ _ _ _ _ [] rg.nd rfl (aaM rfl) rfl (by kernel_rfl) (@aW _ _ _ _ (@pe_fld _ _ _ _ _ (pv 0) rfl)) (fun _ _ _ _ _ => (@bj _)) (fun _ _ _ _ _ => (@ak _ _ _ _ _ _ _ _ _ _ oy (hr.mono (by decide)) rfl (@aa _ _ _ _ _ (pv 0) (@ab _) (by rfl)) (by decide) (by rfl) (by rfl))) (by rfl) (by intro _; rfl) (by first | exact .inl rfl | exact .inr rfl | assumption)) (@ai _ _ _ (@aC _ _ _ _ (@bo _ _ _ _ _ _ _ _ _ _ _ _ aaw aaJ aaK (@bV _) (@ar _ _ _ _) (@aa _ _ _ _ _ (@av _ _ _ _ _ _ _ _ (@gH _) (pv 1) (@bA _ _ _ _ _ _ _ _ _ _ _ [] rfl (by kernel_rfl) (@aW _ _ _ _ (@pe_fld _ _ _ _ _ (pv 0) rfl)) (fun _ _ _ _ _ => (@bj _)) (fun _ _ _ _ _ => (@ak _ _ _ _ _ _ _ _ _ _ oz (hr.mono (by decide)) rfl (@aa _ _ _ _ _ (pv 0) (@ab _) (by rfl)) (by decide) (by rfl) (by rfl))) (by intro _; rfl))) (@ab _) (by rfl)) (by rfl) (by rfl) (by rfl) (by rfl) (by rfl))))), ?_⟩
 have zk := aam pk
 have zr := aam pr
 refine ⟨_, rfl, x, c.book, dx, fs, _, rfl, hx, T.cl, T.n1, e1, lk, rfl, ⟨_, aH.of hk⟩, fun D hD => ?_⟩
 refine cA (K := K) (xs := kvs) (ks.map az) (fun _ _ b y => y = tx b) (fun _ _ _ _ _ _ h => h) (fun _ _ _ _ _ _ h => h) (kl (by omega)) hD (aH.of hk) (by rw [Lm9]; exact zk) (fun i y b H' R hy hb sm hQ => ?_) (fun H1 ys s1 hL po => ?_)
 ·obtain ⟨hi, ey⟩ := aP hy
  obtain ⟨dH, eb⟩ := aP hb
  rw [Lm9] at dH
  rw [aas] at eb
  have hK := paired_at pk i dH hi
  rw [ey] at hK
  have h2 := hok _ (aaq dH)
  exact ⟨_, rfl, y, _, rfl, hK.keep (H0 := H0) (Kp.same sm), h2.1, h2.2, fun H2 s2 => hQ _ _ s2 (by rw [← eb])⟩
 rw [bT po] at hL
 refine ⟨rfl, _, rfl, _, rfl, x, c.book, dx, fs, _, rfl, s1 _ _ hx, T.cl, T.n2, e2, lr, rfl, ⟨_, aH.of (s1 _ _ NB)⟩, fun D2 pJ => ?_⟩
 refine cA (K := K) (xs := rC) (rs.map bE) (fun _ _ b y => y = tx b) (fun _ _ _ _ _ _ h => h) (fun _ _ _ _ _ _ h => h) (kl (by omega)) pJ (aH.of (s1 _ _ NB)) (by rw [Lm9]; exact zr) (fun i y b H' R hy hb sm hQ => ?_) (fun H2 ys2 s2 wj Xc => ?_)
 ·obtain ⟨hi, ey⟩ := aP hy
  obtain ⟨dH, eb⟩ := aP hb
  rw [Lm9] at dH
  rw [aas] at eb
  have hK := paired_at pr i dH hi
  rw [ey] at hK
  exact ⟨_, rfl, y, H0, _, rfl, hK.keep (Kp.same (ah.trans s1 sm)), ZW _ (aaq dH), fun H3 s3 => hQ _ _ s3 (by rw [← eb])⟩
 rw [bT Xc] at wj
 refine ⟨D, D2, _, _, rfl, rfl, s2 _ _ hL, wj, (by rw [Lm9, Lm9, Lm9, Lm9]; exact sz (by omega)), fun p hp => ?_⟩
 rw [← aan]
 have hle : ∀ a ∈ ks.map az ++ rs.map bE, a.length ≤ 11100 := fun a ha => by
  rcases aax.mp ha with ha | ha
  ·obtain ⟨k, hk, rfl⟩ := aat.mp ha
   have := kr (hok k hk).1
   omega
  ·obtain ⟨r, hr, rfl⟩ := aat.mp ha
   exact (ZW r hr).len
 have hz : (ks.map az ++ rs.map bE).length ≤ 200 := by
  rw [aac, Lm9, Lm9]
  omega
 have z := cP (as := ks.map az ++ rs.map bE) (B := 11100) hle
 generalize ks.map az ++ rs.map bE = ls at z hz q
 refine ⟨_, p, ls.map S, rfl, rfl, .inl (aH.of ?_), ?_, ?_⟩
 ·rw [ae]
  simp only [abA, acK]
 ·have e1 : (aab "\n").length = 1 := by decide +kernel
  rw [e1, Lm9]
  omega
 ·have e0 : (aab "\n") = ⟨#[10]⟩ := by decide +kernel
  rw [e0, kq, uR]
  exact q _ (ah.trans s1 (ah.trans s2 (aj hp _)))
end
end iS
namespace iS
open PySem L2 cM Bk
set_option maxHeartbeats 4000000
section
variable {P : aaL} {w : aa9} {K : aaa} {mg : Str → Option aad} {base : Heap} {f : aaC} {fd : abd} {C1 C2 : aaC}
theorem gN {α : Type} {xs : List α} {v : Int} (h : 1 ≤ xs.length) : ∃ (j : Nat) (hj : j < xs.length), qq xs (v % (xs.length : Int)) = some xs[j] := by
 have hp : (0 : Int) < (xs.length : Int) := by omega
 have md := mid (a := v) hp
 refine ⟨(v % (xs.length : Int)).toNat, by omega, ?_⟩
 have z := bU (xs := xs) (j := (v % (xs.length : Int)).toNat) (v := xs[(v % (xs.length : Int)).toNat]'(by omega)) (by rw [Ge9])
 rw [show (((v % (xs.length : Int)).toNat : Nat) : Int) = v % (xs.length : Int) by omega] at z
 exact z
theorem dk : ax ["_law_kinds_here", "_law_names_here", "_law_cell", "_law_number", "_law_kind", "_law_args", "_law_k"] ["_law_kinds_here", "_law_names_here", "_law_cell"] (ao nV) := ⟨rfl, rfl, rfl, by decide +kernel, rfl, by decide +kernel, by decide +kernel⟩
theorem Bi (F : bw K "_law_fact" "_law_fact" nV f fd) (aY : br P w K mg base "_law_mix" 1 ["_law_cell", "_law_k"] qM) (aX : mg "len" = none) (bK : mg "range" = none) (AF : mg "tuple" = none) : a4 P w K mg base da 2 f fd ["_law_kinds_here", "_law_names_here", "_law_cell"] (Aw K) := by
 refine F.ok dk (fun vs H Q E h => ?_) (fun cb A outer s H vs Q E hr h => ?_)
 ·obtain ⟨lk, ln, c, ks, ns, rfl, _⟩ := h
  rfl
 obtain ⟨lk, ln, c, ks, ns, rfl, ⟨kvs, hk, pk⟩, Zs, Xf, Xg, NC, rD, zV, q⟩ := h
 have zk := aam pk
 refine ⟨_, (ag (aw (i := 3) dk.nd rfl (aaM rfl) (ak aY (hr.mono (by decide)) rfl (aa (pv 2) (aa af ab))))
 (ag (aw (i := 4) dk.nd rfl (aaM rfl) (aq aG (pv 0) (av bF (pv 3) (aM aF rfl aX aaI (aa (pv 0) ab))) (fun _ _ => rfl)))
 (ag (aw (i := 3) dk.nd rfl (aaM rfl) (av cC (pv 3) af))
 (ag (aw (i := 5) dk.nd rfl (aaM rfl) (a7 ab))
 (ag (cL aaP rfl (bS rfl bK (aa (aq aI (pv 4) af (fun _ _ => rfl)) ab)) (bN (i := 6) dk.nd rfl (aaM rfl))
 (ag (bf (bo aaD aaE aaG bh (pv 5) (aa (aq aG (pv 1) (av bF (pv 3) (aM aF rfl aX aaI (aa (pv 1) ab))) (fun _ _ => rfl)) ab)))
 (ai (aw (i := 3) dk.nd rfl (aaM rfl) (av cj (av cC (pv 3) (aM aF rfl aX aaI (aa (pv 1) ab))) (av mN af (pv 6)))))))
 (ai (aC (cT (aa (aq aI (pv 4) af (fun _ _ => rfl)) (aa (dY pI rfl AF PyProof.Rows.Boot.«tuple» (aa (pv 5) ab)) ab)))))))))), ?_⟩
 refine ⟨_, rfl, c, 2, rfl, by decide, by decide, fun v H1 s1 v0 => ?_⟩
 obtain ⟨j, hj, ej⟩ := gN (xs := kvs) (v := v) (by omega)
 refine ⟨_, rfl, _, rfl, _, rfl, lk, _, rfl, .inl (aH.of (s1 _ _ hk)), _, _, rfl, rfl, (by show (0 : Int) < (kvs.length : Int); omega), lk, _, _, _, rfl, rfl, aH.of (s1 _ _ hk), ej, ?_⟩
 have Xh : j < ks.length := by omega
 obtain ⟨tk, et, ht⟩ := paired_at pk j Xh hj
 rw [et]
 have AG := ht.same s1
 have hkj := Xg _ (aaq Xh)
 refine ⟨_, rfl, _, _, rfl, rfl, ⟨by decide, by decide⟩, ?_⟩
 refine ⟨(by show 0 ≤ aai; decide), fun l hl => ?_⟩
 have s2 : ah H1 (upd H1 l (.lst [])) := aj hl _
 have sA := ah.trans s1 s2
 have ZX : H l = none := s1.free hl
 have hL0 := ae (H := H1) (a := l) (o := .lst [])
 refine ⟨_, rfl, tk, _, 1, _, rfl, rfl, AG.same s2, rfl, ?_⟩
 have hc4 := hkj
 refine ⟨(ks[j].c : Int), rfl, by omega, by omega, ?_⟩
 have en : ((ks[j].c : Nat) : Int).toNat = ks[j].c := abO _
 rw [en]
 have Sr : upd H1 l (.lst []) ln = some (.lst (ns.map tx)) := sA _ _ NC
 refine g9 (lo := 0) (n := ks[j].c) (fun i σ H' => ah H H' ∧ ∃ (as : List Cs) (nn : Int) (o6 : Option V), as.length = i ∧ (∀ a ∈ as, a ∈ ns) ∧ H' l = some (.lst (as.map tx)) ∧ σ = [some (.ref lk), some (.ref ln), some (.int c), some (.int nn), some (.ref tk), some (.ref l), o6]) ⟨sA, [], v / 5, none, rfl, (fun a ha => nomatch ha), hL0, rfl⟩ ?_ ?_
 ·rintro i σ H' hi ⟨sm, as, nn, o6, HM, KQ, hL, rfl⟩
  obtain ⟨j2, Ss, UW⟩ := gN (xs := ns.map tx) (v := nn) (by rw [Lm9]; omega)
  have Xi : ln ≠ l := fun e => by rw [e, ZX] at NC; cases NC
  have KR : H' ln = some (.lst (ns.map tx)) := sm _ _ NC
  have Hb : (0 : Int) < ((ns.map tx).length : Int) := by rw [Lm9]; omega
  have UX : ((ns.map tx).length : Int) < 2 ^ 30 := by rw [Lm9]; omega
  refine ⟨_, rfl, .inl ⟨rfl, _, aH.of hL⟩, _, rfl, _, rfl, _, rfl, ln, _, rfl, .inl (aH.of KR), _, _, rfl, rfl, Hb, ln, _, _, _, rfl, rfl, aH.of KR, UW, l, _, _, rfl, rfl, hL, (by rw [Lm9, aaA]; omega), ?_⟩
  have KS : j2 < ns.length := by simpa using Ss
  refine ⟨_, rfl, _, rfl, ln, _, rfl, .inl (aH.of (by rw [aA Xi]; exact KR)), _, _, rfl, rfl, ⟨by omega, by omega⟩, _, rfl, _, _, rfl, rfl, .inl ⟨by decide, by decide⟩, _, _, rfl, rfl, ?_⟩
  refine ⟨ah.aQ sm ZX _, as ++ [ns[j2]], _, _, by simp [HM], (fun a ha => ?_), (by rw [ae, aan]; simp), rfl⟩
  rcases aax.mp ha with z | z
  ·exact KQ a z
  ·rw [aak.mp z]; exact aaq KS
 ·rintro σ H' ⟨sm, as, nn, o6, HM, KQ, hL, rfl⟩
  have LK : cK K H' tk [tx ks[j].n, .int ks[j].c, .bl ks[j].l] := ht.same sm
  refine ⟨_, rfl, tk, _, 0, _, rfl, rfl, LK, rfl, _, rfl, l, _, rfl, .inl ⟨aH.of hL, fun p hp => ⟨(by show 2 ≤ aai; decide), fun p2 Qe => ?_⟩⟩⟩
  refine q _ ⟨ks[j].n, as⟩ _ (ah.trans sm (ah.trans (aj hp _) (aj Qe _))) ⟨p2, p, rfl, cK.of ae, cK.of ?_⟩ ⟨⟨_, aaq Xh, rfl, HM⟩, KQ⟩
  rw [aA (aN ae Qe)]
  exact ae
theorem dB : ax ["_law_cell", "_law_sizes", "_law_titles_here", "_law_number", "_law_rows", "_law_flags"] ["_law_cell", "_law_sizes"] (ao ly) := ⟨rfl, rfl, rfl, by decide +kernel, rfl, by decide +kernel, by decide +kernel⟩
theorem xZ (F : bw K "_law_kinds" "_law_kinds" ly f fd) (aY : br P w K mg base "_law_mix" 1 ["_law_cell", "_law_k"] qM) (dC : br P w K mg base "_law_titles" 3 ["_law_cell", "_law_many"] (i8 dI.cps.toList)) (aX : mg "len" = none) (bK : mg "range" = none) : a4 P w K mg base da 4 f fd ["_law_cell", "_law_sizes"] (vW K) := by
 refine F.ok dB (fun vs H Q E h => ?_) (fun cb A outer s H vs Q E hr h => ?_)
 ·obtain ⟨c, l, ns, rfl, _⟩ := h
  rfl
 obtain ⟨c, l, ns, rfl, hl, rD, zV, Qb, q⟩ := h
 refine ⟨_, (ag (aw (i := 2) dB.nd rfl (acn rfl) (ak dC (hr.mono (by decide)) rfl (aa (pv 0) (aa af ab))))
 (ag (aw (i := 3) dB.nd rfl (acn rfl) (ak aY (hr.mono (by decide)) rfl (aa (pv 0) (aa af ab))))
 (ag (aw (i := 4) dB.nd rfl (aaM rfl) (a7 (aa (a7 (aa c7 (aa c7 (aa c7 (aa c7 ab))))) (aa (a7 (aa c7 (aa c7 (aa c7 (aa c7 ab))))) ab))))
 (ag (aw (i := 4) dB.nd rfl (aaM rfl) (av gH (pv 4) (a7 (aa (a7 (aa c7 (aa c7 (aa c7 (aa c7 ab))))) (aa (a7 (aa c7 (aa c7 (aa c7 (aa c7 ab))))) ab)))))
 (ag (aw (i := 5) dB.nd rfl (acn rfl) (aq aG (pv 4) (av bF (pv 3) af) (fun _ _ => rfl)))
 (ai (aC (bA [2, 1, 3, 5] rfl (by kernel_rfl) (bS rfl bK (aa af ab)) (fun _ _ _ _ _ => bj) (fun _ _ _ _ _ => (cT (aa (aq (r := zX K) aG (pv 1) (pv 0) (fun _ _ => rfl)) (aa (aq (r := zX K) aG (pv 2) (av bF (av cC (pv 3) (av cj (av mN af (pv 0)) af)) (aM (vp (K := K) rfl) rfl aX aaI (aa (pv 2) ab))) (fun _ _ => rfl)) (aa (aq (r := zX K) aG (pv 4) (pv 0) (fun _ _ => rfl)) ab))))))))))))), ?_⟩
 refine ⟨_, rfl, c, 4, rfl, by decide, fun lt zs H1 s1 rB rQ hz1 Xj MM => ?_⟩
 refine ⟨_, rfl, c, 1, rfl, by decide, by decide, fun v H2 s2 v0 => ?_⟩
 have z4 : 4 ≤ aai := by decide
 have z2 : 2 ≤ aai := by decide
 refine ⟨z4, fun r1 h1 => ⟨z4, fun r2 h2 => ⟨z2, fun rr RP => ?_⟩⟩⟩
 have e1 := aj h1 (.lst [.bl false, .bl true, .bl false, .bl true])
 have e2 := aj h2 (.lst [.bl true, .bl false, .bl false, .bl true])
 have e3 := aj RP (.lst [.ref r1, .ref r2])
 refine ⟨_, rfl, z4, fun r3 h3 => ⟨z4, fun r4 h4 => ⟨z2, fun rb hrb => ?_⟩⟩⟩
 have e4 := aj h3 (.lst [.bl false, .bl false, .bl true, .bl true])
 have e5 := aj h4 (.lst [.bl true, .bl false, .bl true, .bl false])
 have e6 := aj hrb (.lst [.ref r3, .ref r4])
 have Xk := e6 _ _ (e5 _ _ (e4 _ _ (ae (H := upd (upd H2 r1 (.lst [.bl false, .bl true, .bl false, .bl true])) r2 (.lst [.bl true, .bl false, .bl false, .bl true])) (a := rr) (o := .lst [.ref r1, .ref r2]))))
 refine ⟨rr, rb, _, _, rfl, rfl, Xk, ae, z4, fun rc hrc => ?_⟩
 have e7 := aj hrc (.lst ([.ref r1, .ref r2] ++ [.ref r3, .ref r4]))
 have g1 := e7 _ _ (e6 _ _ (e5 _ _ (e4 _ _ (e3 _ _ (e2 _ _ (ae (H := H2) (a := r1) (o := .lst [.bl false, .bl true, .bl false, .bl true])))))))
 have g2 := e7 _ _ (e6 _ _ (e5 _ _ (e4 _ _ (e3 _ _ (ae (H := upd H2 r1 (.lst [.bl false, .bl true, .bl false, .bl true])) (a := r2) (o := .lst [.bl true, .bl false, .bl false, .bl true]))))))
 have g3 := e7 _ _ (e6 _ _ (e5 _ _ (ae (a := r3) (o := .lst [.bl false, .bl false, .bl true, .bl true]))))
 have g4 := e7 _ _ (e6 _ _ (ae (a := r4) (o := .lst [.bl true, .bl false, .bl true, .bl false])))
 have sC := ah.trans e1 (ah.trans e2 (ah.trans e3 (ah.trans e4 (ah.trans e5 (ah.trans e6 e7)))))
 have MN := ae (H := upd (upd (upd (upd (upd (upd H2 r1 (.lst [.bl false, .bl true, .bl false, .bl true])) r2 (.lst [.bl true, .bl false, .bl false, .bl true])) rr (.lst [.ref r1, .ref r2])) r3 (.lst [.bl false, .bl false, .bl true, .bl true])) r4 (.lst [.bl true, .bl false, .bl true, .bl false])) rb (.lst [.ref r3, .ref r4])) (a := rc) (o := .lst ([.ref r1, .ref r2] ++ [.ref r3, .ref r4]))
 generalize upd (upd (upd (upd (upd (upd (upd H2 r1 (.lst [.bl false, .bl true, .bl false, .bl true])) r2 (.lst [.bl true, .bl false, .bl false, .bl true])) rr (.lst [.ref r1, .ref r2])) r3 (.lst [.bl false, .bl false, .bl true, .bl true])) r4 (.lst [.bl true, .bl false, .bl true, .bl false])) rb (.lst [.ref r3, .ref r4])) rc (.lst ([.ref r1, .ref r2] ++ [.ref r3, .ref r4])) = H9 at g1 g2 g3 g4 sC MN ⊢
 have MN : H9 rc = some (.lst [.ref r1, .ref r2, .ref r3, .ref r4]) := MN
 obtain ⟨j, hj, ej⟩ := gN (xs := [V.ref r1, .ref r2, .ref r3, .ref r4]) (v := v) (show 1 ≤ 4 by decide)
 have ej : qq [V.ref r1, .ref r2, .ref r3, .ref r4] (v % 4) = _ := ej
 have MF : ∃ (r : aaC) (bs : List Bool), [V.ref r1, .ref r2, .ref r3, .ref r4][j] = .ref r ∧ H9 r = some (.lst (bs.map V.bl)) ∧ bs.length = 4 ∧ true ∈ bs ∧ false ∈ bs := by
  match j, hj with
  | 0, _ => exact ⟨r1, [false, true, false, true], rfl, g1, rfl, by decide, by decide⟩
  | 1, _ => exact ⟨r2, [true, false, false, true], rfl, g2, rfl, by decide, by decide⟩
  | 2, _ => exact ⟨r3, [false, false, true, true], rfl, g3, rfl, by decide, by decide⟩
  | 3, _ => exact ⟨r4, [true, false, true, false], rfl, g4, rfl, by decide, by decide⟩
 obtain ⟨rj, bs, erj, hrj, hbs, ZY, ZZ⟩ := MF
 rw [erj] at ej
 refine ⟨_, rfl, _, rfl, _, _, rfl, rfl, (by show (0 : Int) < 4; decide), rc, _, _, _, rfl, rfl, aH.of MN, ej, ?_⟩
 have sD := ah.trans s1 (ah.trans s2 sC)
 have Xl := sC _ _ (s2 _ _ rQ)
 have UY : aH K H9 l (ns.map V.int) := sD.seq hl
 refine ⟨4, rfl, by decide, by decide, fun D hD => ?_⟩
 refine df (n := 4) (lo := 0) (by decide) (fun i ys H' => ah H9 H' ∧ H' D = some (.lst ys) ∧ ∃ CN : List Kd, Paired (Kind K H') CN ys ∧ CN.length = i ∧ CN.map (·.n) = zs.take i ∧ CN.map (·.l) = bs.take i ∧ ∀ k ∈ CN, k.c ≤ 4) ⟨aj hD _, ae, [], .nil, rfl, rfl, rfl, fun k hk => nomatch hk⟩ (fun i ys H' p => ⟨p.2.1, ?_⟩) (fun i ys H' hi p => ?_) (fun ys H' p => ?_)
 ·obtain ⟨_, _, CN, pk, hlen, _⟩ := p
  have := aam pk
  omega
 ·obtain ⟨sm, ud, CN, pk, hlen, qW, Xm, CY⟩ := p
  unfold vf
  simp only [if_true]
  have Su : i < zs.length := by omega
  have a1 : qq (zs.map tx) (0 + (i : Int)) = some (tx zs[i]) := by rw [ab2]; exact bU (by rw [aa2, Ge9 Su]; rfl)
  have dH : i < bs.length := by omega
  have a3 : qq (bs.map V.bl) (0 + (i : Int)) = some (V.bl bs[i]) := by rw [ab2]; exact bU (by rw [aa2, Ge9 dH]; rfl)
  obtain ⟨j2, Ss, a2⟩ := gN (xs := ns.map V.int) (v := v / (3 * (0 + (i : Int)) + 5)) (by rw [Lm9]; exact rD)
  have KS : j2 < ns.length := by simpa using Ss
  have Xn := Qb _ (aaq KS)
  have e8 : (ns.map V.int)[j2] = V.int ((ns[j2].toNat : Nat) : Int) := by rw [aas, ac6 Xn.1]
  rw [e8] at a2
  have Hb : (0 : Int) < ((ns.map V.int).length : Int) := by rw [Lm9]; omega
  refine ⟨_, rfl, _, rfl, lt, _, _, _, rfl, rfl, aH.of (sm _ _ Xl), a1, _, rfl, _, rfl, _, rfl, _, _, rfl, rfl, .inl ⟨by decide, by decide⟩, _, _, rfl, rfl, _, _, rfl, rfl, ⟨by omega, by omega⟩, _, rfl, l, _, rfl, .inl (sm.seq UY), _, _, rfl, rfl, Hb, l, _, _, _, rfl, rfl, sm.seq UY, a2, _, rfl, _, rfl, rj, _, _, _, rfl, rfl, aH.of (sm _ _ hrj), a3, (by show 3 ≤ aai; decide), fun p hp => ?_⟩
  have s8 : ah H' (upd H' p (.tup [tx zs[i], .int ((ns[j2].toNat : Nat) : Int), .bl bs[i]])) := aj hp _
  refine ⟨s8 _ _ ud, ?_, ae, CN ++ [⟨zs[i], ns[j2].toNat, bs[i]⟩], ?_, by simp [hlen], ?_, ?_, fun k hk => ?_⟩
  ·exact ah.aQ (ah.trans sm s8) hD _
  ·refine cB (aR pk fun k b _ hk => ?_) (.cons ⟨p, rfl, dt (s8 _ _ ud) (cK.of ae)⟩ .nil)
   obtain ⟨t, e, h⟩ := Kind.sm s8 hk
   exact ⟨t, e, dt (s8 _ _ ud) h⟩
  ·rw [aan, qW, aap Su]
   rfl
  ·rw [aan, Xm, aap dH]
   rfl
  ·rcases aax.mp hk with z | z
   ·exact CY k z
   ·rw [aak.mp z]
    show ns[j2].toNat ≤ 4
    omega
 ·obtain ⟨sm, ud, CN, pk, hlen, qW, Xm, CY⟩ := p
  have hnm' : CN.map (·.n) = zs := by rw [qW, ← hz1, abb]
  have Sv : CN.map (·.l) = bs := by rw [Xm, ← hbs, abb]
  refine q D CN H' (ah.trans sD sm) (sD.free hD) ⟨ys, ud, pk⟩ ⟨hlen, by rw [hnm']; exact MM, fun k hk => ⟨?_, CY k hk⟩, ?_, ?_⟩
  ·have hz := Xj k.n (by rw [← hnm']; exact ab4 hk)
   unfold a8
   rw [hz.1, decide_eq_true hz.2]
   rfl
  ·rw [← Sv] at ZY
   obtain ⟨k, hk, e⟩ := aat.mp ZY
   exact ⟨k, hk, e⟩
  ·rw [← Sv] at ZZ
   obtain ⟨k, hk, e⟩ := aat.mp ZZ
   exact ⟨k, hk, e⟩
end
end iS
namespace iS
open PySem L2 cM Bk
set_option maxHeartbeats 4000000
theorem KU : ∀ c ∈ ui.cps.toList, aed ⟨#[c]⟩ = decide (c ∈ d7.cps.toList) := by decide +kernel
theorem PB {c : Nat} (h : aZ c = true) : c ∈ ui.cps.toList := by
 have key : ∀ c ∈ dI.cps.toList ++ (d7.cps.toList ++ HI.cps.toList), c ∈ ui.cps.toList := by decide +kernel
 refine key c ?_
 unfold aZ at h
 rw [acC, acC] at h
 rcases h with h | h | h
 ·exact aay _ (of_decide_eq_true h)
 ·exact aae _ (aay _ (of_decide_eq_true h))
 ·exact aae _ (aae _ (of_decide_eq_true h))
theorem FV {n : Cs} (h : aB n = true) : aed ⟨#[n.headD 0]⟩ = great n := by
 unfold aB at h
 rw [aaN, aaN] at h
 cases n with
 | nil => have := of_decide_eq_true h.1; simp at this
 | cons c r =>
  have z := aaS.mp h.2.2 c (aao ..)
  exact KU c (PB z)
section
variable {P : aaL} {w : aa9} {K : aaa} {mg : Str → Option aad} {base : Heap} {f : aaC} {fd : abd} {c : Cl}
theorem r6 {H : Hp} {D : aaC} {xs ys : List V} {g : Fc} {v : V} (hD : H D = some (.lst xs)) (h : Fact K H g v) : Fact K (upd H D (.lst ys)) g v := by
 obtain ⟨t, t2, e, h1, h2⟩ := h
 exact ⟨t, t2, e, dt hD h1, dt hD h2⟩
theorem cW : ax ["_law_cell", "_law_menu", "_law_number", "_law_many", "_law_row", "_law_k"] ["_law_cell", "_law_menu"] (ao jf) := ⟨rfl, rfl, rfl, by decide +kernel, rfl, by decide +kernel, by decide +kernel⟩
theorem wG (F : bw K "_law_counts" "_law_counts" jf f fd) (aY : br P w K mg base "_law_mix" 1 ["_law_cell", "_law_k"] qM) (aX : mg "len" = none) (bK : mg "range" = none) : a4 P w K mg base da 2 f fd ["_law_cell", "_law_menu"] (vX K) := by
 refine F.ok cW (fun vs H Q E h => ?_) (fun cb A outer s H vs Q E hr h => ?_)
 ·obtain ⟨c, l, ns, m, rfl, _⟩ := h
  rfl
 obtain ⟨c, l, ns, m, rfl, hl, rD, zV, ND, Xo, Qb, q⟩ := h
 refine ⟨_, (ag (aw (i := 2) cW.nd rfl (aaM rfl) (ak aY (hr.mono (by decide)) rfl (aa (pv 0) (aa af ab))))
 (ag (aw (i := 3) cW.nd rfl (aaM rfl) (aM aF rfl aX aaI (aa (pv 1) ab)))
 (ag (aw (i := 4) cW.nd rfl (aaM rfl) (a7 ab))
 (ag (cL aaP rfl (bS rfl bK (aa af ab)) (bN (i := 5) cW.nd rfl (aaM rfl))
 (ag (bf (bo aaD aaE aaG bh (pv 4) (aa (aq aG (pv 1) (av bF (pv 2) (pv 3)) (fun _ _ => rfl)) ab)))
 (ai (aw (i := 2) cW.nd rfl (aaM rfl) (av cC (pv 2) (pv 3))))))
 (ag (aV (ay cS (av cj (aq aG (pv 4) af (fun _ _ => rfl)) (aq aG (pv 4) af (fun _ _ => rfl))) af (aL _))
 (ai (Oa af (N9 (pv 4) af set_list)))
 aE)
 (ai (aC (pv 4)))))))), ?_⟩
 refine ⟨_, rfl, c, 3, rfl, by decide, by decide, fun v H1 s1 v0 => ?_⟩
 refine ⟨_, rfl, l, _, rfl, .inl (s1.seq hl), ?_⟩
 refine ⟨(by show 0 ≤ aai; decide), fun r G9 => ?_⟩
 have s2 := aj G9 (.lst [])
 have sA := ah.trans s1 s2
 have UZ : H r = none := s1.free G9
 have Hb : (0 : Int) < ((ns.map V.int).length : Int) := by rw [Lm9]; omega
 have UX : ((ns.map V.int).length : Int) < 2 ^ 30 := by rw [Lm9]; omega
 refine ⟨5, rfl, by decide, by decide, ?_⟩
 refine g9 (lo := 0) (n := 5) (fun i σ H' => ah H H' ∧ ∃ (as : List Nat) (nn : Int) (o : Option V), as.length = i ∧ (∀ a ∈ as, a ≤ m) ∧ H' r = some (.lst (as.map fun n : Nat => V.int (n : Int))) ∧ σ = [some (.int c), some (.ref l), some (.int nn), some (.int ((ns.map V.int).length : Int)), some (.ref r), o]) ⟨sA, [], v, none, rfl, (fun a ha => nomatch ha), ae, rfl⟩ ?_ ?_
 ·rintro i σ H' hi ⟨sm, as, nn, o, HM, KQ, hL, rfl⟩
  obtain ⟨j, hj, ej⟩ := gN (xs := ns.map V.int) (v := nn) (by rw [Lm9]; exact rD)
  have hj' : j < ns.length := by simpa using hj
  have Xn := Qb _ (aaq hj')
  have e8 : (ns.map V.int)[j] = V.int ((ns[j].toNat : Nat) : Int) := by rw [aas, ac6 Xn.1]
  rw [e8] at ej
  have hl' : aH K H' l (ns.map V.int) := sm.seq hl
  refine ⟨_, rfl, .inl ⟨rfl, _, aH.of hL⟩, _, rfl, _, rfl, _, rfl, _, _, rfl, rfl, Hb, l, _, _, _, rfl, rfl, hl', ej, r, _, _, rfl, rfl, hL, (by rw [Lm9, aaA]; omega), ?_⟩
  refine ⟨_, rfl, _, rfl, _, _, rfl, rfl, ⟨by omega, by omega⟩, ?_⟩
  refine ⟨ah.aQ sm UZ _, as ++ [ns[j].toNat], _, _, by simp [HM], (fun a ha => ?_), (by rw [ae, aan]; simp), rfl⟩
  rcases aax.mp ha with z | z
  ·exact KQ a z
  ·rw [aak.mp z]
   omega
 ·rintro σ H' ⟨sm, as, nn, o, HM, KQ, hL, rfl⟩
  obtain ⟨a, b, c2, d, e, rfl⟩ : ∃ a b c d e, as = [a, b, c, d, e] := by
   match as, HM with
   | [a, b, c, d, e], _ => exact ⟨a, b, c, d, e, rfl⟩
  have hL : H' r = some (.lst [.int a, .int b, .int c2, .int d, .int e]) := hL
  have b1 := KQ a (by simp)
  have b2 := KQ b (by simp)
  have b3 := KQ c2 (by simp)
  have b4 := KQ d (by simp)
  have b5 := KQ e (by simp)
  refine ⟨_, rfl, r, _, 0, _, rfl, rfl, aH.of hL, rfl, _, rfl, r, _, 1, _, rfl, rfl, aH.of hL, rfl, _, _, rfl, rfl, rfl, _, rfl, ?_⟩
  show (if decide (V.int ((a : Int) + (b : Int)) = V.int 0) = true then _ else _)
  by_cases h0 : a + b = 0
  ·have ha : a = 0 := by omega
   have hb : b = 0 := by omega
   subst ha hb
   rw [decide_eq_true (by rfl)]
   refine dq ?_
   refine ⟨_, rfl, r, _, 1, 1, rfl, rfl, hL, rfl, ?_⟩
   exact ⟨_, rfl, q r 0 1 c2 d e _ (ah.aQ sm UZ _) UZ ae ⟨b1, ND, b3, b4, b5⟩ (by decide)⟩
  ·rw [decide_eq_false (fun z => h0 (by have := V.int.inj z; omega))]
   refine bb ?_
   exact ⟨_, rfl, q r a b c2 d e H' sm UZ hL ⟨b1, b2, b3, b4, b5⟩ (by omega)⟩
theorem x2 : ax ["_law_kinds_here", "_law_names_here", "_law_cells", "_law_first", "_law_many"] ["_law_kinds_here", "_law_names_here", "_law_cells", "_law_first", "_law_many"] (ao lA) := ⟨rfl, rfl, rfl, by decide +kernel, rfl, by decide +kernel, by decide +kernel⟩
theorem x3 (F : bw K "_law_facts" "_law_facts" lA f fd) (aY : br P w K mg base "_law_mix" 1 ["_law_cell", "_law_k"] qM) (oA : br P w K mg base "_law_fact" 2 ["_law_kinds_here", "_law_names_here", "_law_cell"] (Aw K)) (aX : mg "len" = none) (bK : mg "range" = none) : a4 P w K mg base da 3 f fd ["_law_kinds_here", "_law_names_here", "_law_cells", "_law_first", "_law_many"] (vY K) := by
 refine F.ok x2 (fun vs H Q E h => ?_) (fun cb A outer s H vs Q E hr h => ?_)
 ·obtain ⟨lk, ln, lc, ks, ns, cs, first, many, rfl, _⟩ := h
  rfl
 obtain ⟨lk, ln, lc, ks, ns, cs, first, many, rfl, Ls, VX, Qs, Z0, NC, rD, zV, CY, OV, Sw, hf, hm, q⟩ := h
 refine ⟨_, (ai (aC (bA [0, 1, 2, 3] rfl (by kernel_rfl) (bS rfl bK (aa (pv 4) ab)) (fun _ _ _ _ _ => bj) (fun _ _ _ _ _ => (ak oA (hr.mono (by decide)) rfl (aa (pv 1) (aa (pv 2) (aa (ak aY (hr.mono (by decide)) rfl (aa (aq (r := zX K) aG (pv 3) (av bF (av cj (pv 4) (pv 0)) (aM (vp (K := K) rfl) rfl aX aaI (aa (pv 3) ab))) (fun _ _ => rfl)) (aa (av cj (pv 4) (pv 0)) ab))) ab)))))))), ?_⟩
 refine ⟨_, rfl, (many : Int), rfl, by omega, by omega, fun D hD => ?_⟩
 rw [show ((many : Nat) : Int).toNat = many from abO _]
 refine df (n := many) (lo := 0) (kl (by omega)) (fun i ys H' => ah H H' ∧ H' D = some (.lst ys) ∧ ∃ fs : List Fc, Paired (Fact K H') fs ys ∧ fs.length = i ∧ ∀ f ∈ fs, Kf ks ns f) ⟨aj hD _, ae, [], .nil, rfl, fun k hk => nomatch hk⟩ (fun i ys H' p => ⟨p.2.1, ?_⟩) (fun i ys H' hi p => ?_) (fun ys H' p => ?_)
 ·obtain ⟨_, _, fs, pk, hlen, _⟩ := p
  have := aam pk
  omega
 ·obtain ⟨sm, ud, fs, pk, hlen, Xp⟩ := p
  unfold vf
  simp only [if_true]
  obtain ⟨j, hj, ej⟩ := gN (xs := cs.map V.int) (v := (first : Int) + (0 + (i : Int))) (by rw [Lm9]; exact OV)
  have hj' : j < cs.length := by simpa using hj
  rw [aas] at ej
  have Hb : (0 : Int) < ((cs.map V.int).length : Int) := by rw [Lm9]; omega
  have Sx : aH K H' lc (cs.map V.int) := sm.seq CY
  refine ⟨_, rfl, _, rfl, _, rfl, _, rfl, _, rfl, _, _, rfl, rfl, _, rfl, lc, _, rfl, .inl Sx, _, _, rfl, rfl, Hb, lc, _, _, _, rfl, rfl, Sx, ej, _, rfl, _, rfl, _, _, rfl, rfl, ?_⟩
  refine ⟨_, _, rfl, by omega, by omega, fun v H1 s1 v0 => ?_⟩
  refine ⟨lk, ln, v, ks, ns, rfl, Ls.sm (ah.trans sm s1), VX, Qs, Z0, s1 _ _ (sm _ _ NC), rD, zV, fun v' f H2 s2 hF Xq => ?_⟩
  have s8 := ah.trans s1 s2
  refine ⟨s8 _ _ ud, ah.aQ (ah.trans sm s8) hD _, ae, fs ++ [f], ?_, by simp [hlen], fun g hg => ?_⟩
  ·exact cB (aR pk fun g b _ hg => r6 (s8 _ _ ud) (Fact.sm s8 hg)) (.cons (r6 (s8 _ _ ud) hF) .nil)
  ·rcases aax.mp hg with z | z
   ·exact Xp g z
   ·rw [aak.mp z]
    exact Xq
 ·obtain ⟨sm, ud, fs, pk, hlen, Xp⟩ := p
  exact q D fs H' sm hD ⟨ys, ud, pk⟩ hlen Xp
theorem Sy {fs : List Fc} (h : ∀ g ∈ fs, g.as.length ≤ 4) : (fs.flatMap (·.as)).length ≤ 4 * fs.length := by
 induction fs with
 | nil => simp
 | cons a r ih =>
  have h1 := h a (aao ..)
  have ih := ih fun g hg => h g (aal _ hg)
  rw [abZ, aac, aag]
  omega
theorem wH (fs : List Fc) : kn [] (fs.flatMap (·.as)) = opens fs := by
 unfold opens
 rw [iV]
 unfold eU kn
 have e : (fun acc x => mJ x acc) = G0 := by
  funext acc x
  unfold mJ G0
  rfl
 rw [e]
theorem gc : ax ["_law_facts_here", "_law_known", "_law_fact_here", "_law_name"] ["_law_facts_here"] (ao lB) := ⟨rfl, rfl, rfl, by decide +kernel, rfl, by decide +kernel, by decide +kernel⟩
theorem x4 (F : bw K "_law_heads" "_law_heads" lB f fd) : a4 P w K mg base da 1 f fd ["_law_facts_here"] (uW K) := by
 refine F.ok gc (fun vs H Q E h => ?_) (fun cb A outer s H vs Q E hr h => ?_)
 ·obtain ⟨lf, fs, rfl, _⟩ := h
  rfl
 obtain ⟨lf, fs, rfl, ⟨EI, hf, pf⟩, Xf, Ox, q⟩ := h
 refine ⟨_, (ag (aw (i := 1) gc.nd rfl (aaM rfl) (a7 ab))
 (ag (cL aaP rfl (aW (pv 0)) (bN (i := 2) gc.nd rfl (aaM rfl))
 (ai (cL aaP rfl (EM (aq aI (pv 2) af (fun _ _ => rfl))) (bN (i := 3) gc.nd rfl (aaM rfl))
 (ai (aV (PW.pt (zS (cR (Ot aaw PySem.F.slot_str_isupper PySem.F.type_str_isupper E5 (aq fN (pv 3) af (fun _ _ => rfl)))) (uJ (ay dZ (pv 3) (pv 1) (by with_unfolding_all rfl)))))
 (ai (bf (bo aaD aaE aaG bh (pv 1) (aa (pv 3) ab))))
 aE)))))
 (ai (aC (pv 1))))), ?_⟩
 have zf := aam pf
 refine ⟨(by show 0 ≤ aai; decide), fun l hl => ?_⟩
 have s1 := aj hl (.lst [])
 refine ⟨_, rfl, lf, rfl, ⟨_, aH.of (s1 _ _ hf)⟩, cI (K := K) (a := lf) (xs := EI) (fun i σ H' => ah H H' ∧ H' l = some (.lst ((kn [] ((fs.take i).flatMap (·.as))).map tx)) ∧ ∃ o o2, σ = [some (.ref lf), some (.ref l), o, o2]) ⟨s1, ae, none, none, rfl⟩ (fun i σ H' _ ⟨sm, _⟩ => aH.of (sm _ _ hf)) ?_ ?_⟩
 ·rintro i y σ H' hi ⟨sm, hL, o, o2, rfl⟩
  obtain ⟨A1, ey⟩ := aP hi
  have FT : i < fs.length := by omega
  have hFa := paired_at pf i FT A1
  rw [ey] at hFa
  obtain ⟨t, t2, et, g1, g2⟩ := hFa
  subst et
  have hF := Ox _ (aaq FT)
  have e0 : kn [] ((fs.take (i + 1)).flatMap (·.as)) = kn (kn [] ((fs.take i).flatMap (·.as))) fs[i].as := by rw [HP FT, OW]
  have hz := Ap ((fs.take i).flatMap (·.as)) []
  have Zn : ((fs.take i).flatMap (·.as)).length ≤ 4 * i := by
   have z := Sy (fs := fs.take i) fun g hg => (Ox g (abD hg)).1
   rw [aaH] at z
   omega
  simp only [aa6] at hz
  rw [e0]
  generalize kn [] ((fs.take i).flatMap (·.as)) = acc at hL hz ⊢
  generalize fs[i].as = ns at g2 hF ⊢
  refine ⟨_, rfl, t, _, 1, _, rfl, rfl, g1.same sm, rfl, t2, rfl, ⟨_, g2.same sm⟩, Gv (K := K) (a := t2) (xs := ns.map tx) (fun j σ H2 => ah H H2 ∧ H2 l = some (.lst ((kn acc (ns.take j)).map tx)) ∧ ∃ o2, σ = [some (.ref lf), some (.ref l), some (.ref t), o2]) ⟨sm, hL, _, rfl⟩ (fun i σ H' _ ⟨sm, _⟩ => g2.same sm) ?_ ?_⟩
  ·rintro j y σ H2 hi2 ⟨xE, wj, o, rfl⟩
   obtain ⟨hjf, Xr⟩ := aP hi2
   have Z1 : j < ns.length := by simpa using hjf
   have Xr : tx ns[j] = y := by rw [← Xr]; simp
   subst Xr
   have Lp := hF.2 _ (aaq Z1)
   have hco := JY Lp
   have e1 : kn acc (ns.take (j + 1)) = G0 (kn acc (ns.take j)) ns[j] := by
    rw [aap Z1]
    unfold kn
    rw [acG]
    rfl
   have hlen := Ap (ns.take j) acc
   rw [aaH] at hlen
   have h4 := hF.1
   generalize kn acc (ns.take j) = ac at e1 hlen wj ⊢
   have Rk : 1 ≤ (S ns[j]).length := by
    rw [aD]
    cases hh : ns[j] with
    | nil => exact absurd hh hco.1
    | cons a r => simp
   refine ⟨_, rfl, S ns[j], 0, _, rfl, rfl, (by rw [aD]; exact sz (by have := hco.2.1; omega)), Ac Rk, rfl, _, rfl, rfl, _, rfl, ?_⟩
   rw [bq, FV Lp]
   by_cases hg : great ns[j] = true
   ·rw [hg]
    refine dq ?_
    refine ⟨_, rfl, _, rfl, l, _, rfl, .inl (aH.of wj), rfl, jV _, _, rfl, ?_⟩
    rw [if_pos rfl, pz]
    by_cases hm : ns[j] ∈ ac
    ·rw [decide_eq_true hm]
     refine bb ⟨xE, ?_, _, rfl⟩
     rw [wj, e1]
     unfold G0
     rw [if_pos hg, if_pos hm]
    ·rw [decide_eq_false hm]
     refine dq ⟨_, rfl, .inl ⟨rfl, _, aH.of wj⟩, _, rfl, l, _, _, rfl, rfl, wj, (by rw [Lm9, aaA]; omega), ?_⟩
     refine ⟨ah.aQ xE hl _, ?_, _, rfl⟩
     rw [ae, e1]
     unfold G0
     rw [if_pos hg, if_neg hm, aan]
     rfl
   ·have hg' : great ns[j] = false := by simpa using hg
    rw [hg']
    refine bb (bb ⟨xE, ?_, _, rfl⟩)
    rw [wj, e1]
    unfold G0
    rw [if_neg hg]
  ·rintro σ H2 ⟨xE, wj, o, rfl⟩
   rw [Lm9, abb] at wj
   exact ⟨xE, wj, _, _, rfl⟩
 ·rintro σ H' ⟨sm, hL, o, o2, rfl⟩
  rw [← zf, abb, wH] at hL
  exact ⟨_, rfl, q l H' sm hl hL⟩
end
end iS
namespace iS
open PySem L2 cM Bk
set_option maxHeartbeats 4000000
section
variable {P : aaL} {w : aa9} {K : aaa} {mg : Str → Option aad} {base : Heap} {f : aaC} {fd : abd} {c : Cl}
theorem tX : ax ["_law_names_here", "_law_cells", "_law_first", "_law_k", "_law_number"] ["_law_names_here", "_law_cells", "_law_first", "_law_k"] (ao p6) := ⟨rfl, rfl, rfl, by decide +kernel, rfl, by decide +kernel, by decide +kernel⟩
theorem DU (F : bw K "_law_two" "_law_two" p6 f fd) (aY : br P w K mg base "_law_mix" 1 ["_law_cell", "_law_k"] qM) (aX : mg "len" = none) : a4 P w K mg base da 2 f fd ["_law_names_here", "_law_cells", "_law_first", "_law_k"] (Fy K) := by
 refine F.ok tX (fun vs H Q E h => ?_) (fun cb A outer s H vs Q E hr h => ?_)
 ·obtain ⟨ln, lc, ns, cs, first, k, rfl, _⟩ := h
  rfl
 obtain ⟨ln, lc, ns, cs, first, k, rfl, NC, rD, zV, CY, OV, Sw, hf, hk, q⟩ := h
 refine ⟨_, (ag (aw (i := 4) tX.nd rfl (aaM rfl) (ak aY (hr.mono (by decide)) rfl (aa (aq aG (pv 1) (av bF (av cj (pv 2) (av mN af (pv 3))) (aM aF rfl aX aaI (aa (pv 1) ab))) (fun _ _ => rfl)) (aa (av cj (pv 2) (pv 3)) ab))))
 (ai (aC (cT (aa (aq aG (pv 0) (av bF (pv 4) (aM aF rfl aX aaI (aa (pv 0) ab))) (fun _ _ => rfl)) (aa (aq aG (pv 0) (av bF (av cC (pv 4) af) (aM aF rfl aX aaI (aa (pv 0) ab))) (fun _ _ => rfl)) (aa (av bF (av cC (pv 4) af) af) ab))))))), ?_⟩
 obtain ⟨j, hj, ej⟩ := gN (xs := cs.map V.int) (v := (first : Int) + 3 * (k : Int)) (by rw [Lm9]; exact OV)
 rw [aas] at ej
 have Hb : (0 : Int) < ((cs.map V.int).length : Int) := by rw [Lm9]; omega
 refine ⟨_, rfl, _, rfl, _, rfl, _, _, rfl, rfl, .inl ⟨by decide, by decide⟩, _, _, rfl, rfl, _, rfl, lc, _, rfl, .inl CY, _, _, rfl, rfl, Hb, lc, _, _, _, rfl, rfl, CY, ej, _, rfl, _, rfl, _, _, rfl, rfl, ?_⟩
 refine ⟨_, _, rfl, by omega, by omega, fun v H1 s1 v0 => ?_⟩
 have Ip := s1 _ _ NC
 obtain ⟨j1, hj1, Z2⟩ := gN (xs := ns.map tx) (v := v) (by rw [Lm9]; exact rD)
 obtain ⟨j2, Ss, UW⟩ := gN (xs := ns.map tx) (v := v / 8) (by rw [Lm9]; exact rD)
 rw [aas] at Z2 UW
 have hj1' : j1 < ns.length := by simpa using hj1
 have KS : j2 < ns.length := by simpa using Ss
 have UX : (0 : Int) < ((ns.map tx).length : Int) := by rw [Lm9]; omega
 refine ⟨_, rfl, _, rfl, _, rfl, ln, _, rfl, .inl (aH.of Ip), _, _, rfl, rfl, UX, ln, _, _, _, rfl, rfl, aH.of Ip, Z2, ?_⟩
 refine ⟨_, rfl, _, rfl, _, _, rfl, rfl, ⟨by decide, by decide⟩, _, rfl, ln, _, rfl, .inl (aH.of Ip), _, _, rfl, rfl, UX, ln, _, _, _, rfl, rfl, aH.of Ip, UW, ?_⟩
 refine ⟨_, rfl, _, _, rfl, rfl, ⟨by decide, by decide⟩, _, _, rfl, rfl, (by show (0 : Int) < 2; decide), ?_⟩
 refine ⟨(by show 3 ≤ aai; decide), fun t ht => ?_⟩
 have md := mid (a := v / 64) (b := 2) (by decide)
 have e2 : v / 64 % 2 = (((v / 64 % 2).toNat : Nat) : Int) := by omega
 have s2 := aj ht (.tup [tx ns[j1], tx ns[j2], .int (v / 64 % 2)])
 refine q t _ _ (v / 64 % 2).toNat _ (ah.trans s1 s2) (aaq hj1') (aaq KS) (by omega) (cK.of ?_)
 rw [← e2]
 exact ae
theorem MO {n : Nat} (h : n < 2) : qq [V.str (aab "same"), V.str (aab "unlike")] (n : Int) = some (tx (fK (decide (n = 0)))) := by
 have e1 : V.str (aab "same") = tx ig := by decide +kernel
 have e2 : V.str (aab "unlike") = tx dM := by decide +kernel
 rw [e1, e2]
 rcases (by omega : n = 0 ∨ n = 1) with rfl | rfl
 ·exact bU (j := 0) rfl
 ·exact bU (j := 1) rfl
theorem ba : ax ["_law_kinds_here", "_law_opens_here", "_law_words_here", "_law_cells", "_law_menu", "_law_row", "_law_taken", "_law_kept", "_law_names_here", "_law_some", "_law_given", "_law_looks_here", "_law_k", "_law_two_here", "_law_told"] ["_law_kinds_here", "_law_opens_here", "_law_words_here", "_law_cells", "_law_menu"] (ao nW) := ⟨rfl, rfl, rfl, by decide +kernel, rfl, by decide +kernel, by decide +kernel⟩
theorem Bj (F : bw K "_law_rule" "_law_rule" nW f fd) (jo : br P w K mg base "_law_counts" 2 ["_law_cell", "_law_menu"] (vX K)) (fe : br P w K mg base "_law_facts" 3 ["_law_kinds_here", "_law_names_here", "_law_cells", "_law_first", "_law_many"] (vY K)) (d5 : br P w K mg base "_law_heads" 1 ["_law_facts_here"] (uW K)) (lK : br P w K mg base "_law_two" 2 ["_law_names_here", "_law_cells", "_law_first", "_law_k"] (Fy K)) (aX : mg "len" = none) (bK : mg "range" = none) : a4 P w K mg base da 4 f fd ["_law_kinds_here", "_law_opens_here", "_law_words_here", "_law_cells", "_law_menu"] (Ax K) := by
 refine F.ok ba (fun vs H Q E h => ?_) (fun cb A outer s H vs Q E hr h => ?_)
 ·obtain ⟨lk, lo, lw, lc, lm, ks, os, ws, cs, ms, m, rfl, _⟩ := h
  rfl
 obtain ⟨lk, lo, lw, lc, lm, ks, os, ws, cs, ms, m, rfl, Ls, hG, hlo, PD, ho, hw1, hw2, hN, Z3, Sw, Sz, Xs, ND, Xt, hM1, hM4, hms, q⟩ := h
 refine ⟨_, (ag (aw (i := 5) ba.nd rfl (aaM rfl) (ak jo (hr.mono (by decide)) rfl (aa (aq aG (pv 3) af (fun _ _ => rfl)) (aa (pv 4) ab))))
 (ag (aw (i := 3) ba.nd rfl (aaM rfl) (cf o9 (pv 3) (b7 af) eO))
 (ag (aw (i := 6) ba.nd rfl (aaM rfl) (ak fe (hr.mono (by decide)) rfl (aa (bA [] rfl (by kernel_rfl) (aW (pv 0)) (fun _ _ _ _ _ => (qx (iZ (cR (aq (r := ub K) aI (pv 0) af (fun _ _ => rfl)))))) (fun _ _ _ _ _ => (pv 0))) (aa (av gH (pv 1) (pv 2)) (aa (pv 3) (aa af (aa (aq aG (pv 5) af (fun _ _ => rfl)) ab)))))))
 (ag (aw (i := 7) ba.nd rfl (aaM rfl) (ak fe (hr.mono (by decide)) rfl (aa (pv 0) (aa (av gH (pv 1) (pv 2)) (aa (pv 3) (aa (aq aG (pv 5) af (fun _ _ => rfl)) (aa (aq aG (pv 5) af (fun _ _ => rfl)) ab)))))))
 (ag (aw (i := 8) ba.nd rfl (aaM rfl) (av gH (ak d5 (hr.mono (by decide)) rfl (aa (av gH (pv 6) (pv 7)) ab)) (pv 2)))
 (ag (aw (i := 9) ba.nd rfl (aaM rfl) (pv 0))
 (ag (aV (ay cS (aM aF rfl aX aaI (aa (pv 6) ab)) af (aL _))
 (ai (kg (i := 9) [] ba.nd rfl (aaM rfl) rfl (by kernel_rfl) (aW (pv 0)) (fun _ _ _ _ _ => (qx (cR (aq (r := ub K) aI (pv 0) af (fun _ _ => rfl))))) (fun _ _ _ _ _ => (pv 0))))
 aE)
 (ag (aw (i := 10) ba.nd rfl (aaM rfl) (ak fe (hr.mono (by decide)) rfl (aa (pv 9) (aa (pv 8) (aa (pv 3) (aa af (aa (aq aG (pv 5) af (fun _ _ => rfl)) ab)))))))
 (ag (aw (i := 11) ba.nd rfl (aaM rfl) (a7 ab))
 (ag (cL aaP rfl (bS rfl bK (aa (aq aG (pv 5) af (fun _ _ => rfl)) ab)) (bN (i := 12) ba.nd rfl (aaM rfl))
 (ag (aw (i := 13) ba.nd rfl (aaM rfl) (ak lK (hr.mono (by decide)) rfl (aa (pv 8) (aa (pv 3) (aa af (aa (pv 12) ab))))))
 (ai (bf (bo aaD aaE aaG bh (pv 11) (aa (cT (aa (aq aI (pv 13) af (fun _ _ => rfl)) (aa (aq aG (a7 (aa ar (aa ar ab))) (aq aI (pv 13) af (fun _ _ => rfl)) (fun _ _ => rfl)) (aa (aq aI (pv 13) af (fun _ _ => rfl)) ab)))) ab))))))
 (ag (aw (i := 14) ba.nd rfl (aaM rfl) (a7 ab))
 (ag (cL aaP rfl (bS rfl bK (aa (aq aG (pv 5) af (fun _ _ => rfl)) ab)) (bN (i := 12) ba.nd rfl (aaM rfl))
 (ag (aw (i := 13) ba.nd rfl (aaM rfl) (ak lK (hr.mono (by decide)) rfl (aa (pv 8) (aa (pv 3) (aa af (aa (pv 12) ab))))))
 (ai (bf (bo aaD aaE aaG bh (pv 14) (aa (cT (aa (aq aI (pv 13) af (fun _ _ => rfl)) (aa (aq aI (pv 13) af (fun _ _ => rfl)) ab))) ab))))))
 (ai (aC (cT (aa (pv 6) (aa (pv 7) (aa (pv 11) (aa (pv 10) (aa (pv 14) ab)))))))))))))))))))), ?_⟩
 obtain ⟨c0, c1, cr, rfl⟩ : ∃ c0 c1 cr, cs = c0 :: c1 :: cr := by
  match cs, Sw with
  | c0 :: c1 :: cr, _ => exact ⟨c0, c1, cr, rfl⟩
 have Qt : (c1 :: cr).length ≤ 100 := by simp only [aag] at Sz ⊢; omega
 have e0 : qq ((c0 :: c1 :: cr).map V.int) 0 = some (V.int c0) := bU (j := 0) rfl
 refine ⟨_, rfl, lc, _, 0, _, rfl, rfl, aH.of Z3, e0, _, rfl, c0, lm, ms, m, rfl, Xs, ND, Xt, hM1, hM4, hms, fun lr na nb nc nd ne H1 s1 tN U0 ⟨b1, b2, b3, b4, b5⟩ hab => ?_⟩
 refine ⟨_, rfl, _, rfl, lc, _, rfl, aH.of (s1 _ _ Z3), fun Lx Xu => ?_⟩
 have eC : kb ((c0 :: c1 :: cr).map V.int) (some 1) none = (c1 :: cr).map V.int := vj (k := 1) (by simp)
 rw [eC]
 have t1 := aj Xu (.lst ((c1 :: cr).map V.int))
 have hC := ae (H := H1) (a := Lx) (o := .lst ((c1 :: cr).map V.int))
 have SA := t1 _ _ U0
 have sA := ah.trans s1 t1
 generalize upd H1 Lx (.lst ((c1 :: cr).map V.int)) = H2 at t1 hC SA sA ⊢
 obtain ⟨kvs, hk, pk⟩ := Ls
 have zk := aam pk
 have Qs := sA _ _ hk
 have U1 : Paired (Kind K H2) ks kvs := aR pk fun _ _ _ => Kind.sm sA
 have Z0 := hG.len
 refine ⟨_, rfl, lk, rfl, ⟨_, aH.of Qs⟩, fun D hD => ?_⟩
 refine pA (K := K) (xs := kvs) ks Qg id (fun _ H f y => Kind K H f y) (fun _ _ _ _ _ k h => Kind.keep k h) (fun _ _ _ _ _ _ h => h) (kl (by omega)) hD (aH.of Qs) zk (fun i x b H' R hx hb sm hQ => ?_) (fun i x b H' R hx hb ZT sm hQ => ?_) (fun H3 ys3 s3 Nl Z4 => ?_)
 ·obtain ⟨hi, ex⟩ := aP hx
  obtain ⟨dH, eb⟩ := aP hb
  have KW := paired_at U1 i dH hi
  rw [ex, eb] at KW
  obtain ⟨t, rfl, ht⟩ := KW
  exact ⟨_, rfl, t, _, 2, _, rfl, rfl, ht.same sm, rfl, _, rfl, hQ _ (ah.refl _)⟩
 ·obtain ⟨hi, ex⟩ := aP hx
  obtain ⟨dH, eb⟩ := aP hb
  have KW := paired_at U1 i dH hi
  rw [ex, eb] at KW
  exact ⟨_, rfl, hQ _ _ (ah.refl _) (Kind.sm sm KW)⟩
 rw [acs] at Z4
 have sB := ah.trans sA s3
 have Xv := s3 _ _ SA
 have hC3 := s3 _ _ hC
 have Z5 : (os.map tx).length + (ws.map tx).length ≤ aai := by rw [Lm9, Lm9, aaA]; omega
 have Z6 : (os ++ ws).length ≤ 20 ∧ 1 ≤ (os ++ ws).length := by rw [aac]; omega
 have MF : ∀ p : Kd → Bool, (∃ k ∈ ks, p k = true) → 1 ≤ (ks.filter p).length ∧ (ks.filter p).length ≤ 100 ∧ ∀ k ∈ ks.filter p, k.c ≤ 4 := fun p ⟨k, hk, hp⟩ => by
  have z : k ∈ ks.filter p := abh.mpr ⟨hk, hp⟩
  have z1 : 1 ≤ (ks.filter p).length := by
   cases e : ks.filter p with
   | nil => rw [e] at z; cases z
   | cons a r => simp
  have z2 : (ks.filter p).length ≤ ks.length := acf _ _
  exact ⟨z1, by omega, fun k hk => (hG.ok k (abh.mp hk).1).2⟩
 have fP := MF Qg (by obtain ⟨k, hk, e⟩ := hG.no; exact ⟨k, hk, by unfold Qg; rw [e]; rfl⟩)
 have fL := MF (·.l) (by obtain ⟨k, hk, e⟩ := hG.yes; exact ⟨k, hk, e⟩)
 refine ⟨_, rfl, _, rfl, lo, lw, _, _, rfl, rfl, sB _ _ hlo, sB _ _ PD, Z5, fun Xw Ip => ?_⟩
 rw [← aan]
 have t4 := aj Ip (.lst ((os ++ ws).map tx))
 have UE := ae (H := H3) (a := Xw) (o := .lst ((os ++ ws).map tx))
 generalize upd H3 Xw (.lst ((os ++ ws).map tx)) = H4 at t4 UE ⊢
 have sC := ah.trans sB t4
 have SD := t4 _ _ Xv
 have Z7 := t4 _ _ hC3
 refine ⟨_, rfl, _, rfl, lr, _, 0, _, rfl, rfl, aH.of SD, rfl, ?_⟩
 refine ⟨D, Xw, Lx, ks.filter Qg, os ++ ws, c1 :: cr, 0, na, rfl, ⟨ys3, t4 _ _ Nl, aR Z4 fun _ _ _ => Kind.sm t4⟩, fP.1, fP.2.1, fP.2.2, UE, Z6.2, (by omega), aH.of Z7, (by simp), Qt, by decide, (by omega), fun la take H5 s5 hla hA HM Z8 => ?_⟩
 have sD := ah.trans sC s5
 have Xx := s5 _ _ SD
 have hC5 := s5 _ _ Z7
 refine ⟨_, rfl, _, rfl, _, rfl, lo, lw, _, _, rfl, rfl, sD _ _ hlo, sD _ _ PD, Z5, fun ln2 Sr => ?_⟩
 rw [← aan]
 have t6 := aj Sr (.lst ((os ++ ws).map tx))
 have Nk := ae (H := H5) (a := ln2) (o := .lst ((os ++ ws).map tx))
 generalize upd H5 ln2 (.lst ((os ++ ws).map tx)) = H6 at t6 Nk ⊢
 have sE := ah.trans sD t6
 have PF := t6 _ _ Xx
 have Z9 := t6 _ _ hC5
 refine ⟨_, rfl, _, rfl, lr, _, 0, _, rfl, rfl, aH.of PF, rfl, _, rfl, lr, _, 1, _, rfl, rfl, aH.of PF, rfl, ?_⟩
 refine ⟨lk, ln2, Lx, ks, os ++ ws, c1 :: cr, na, nb, rfl, ⟨kvs, sE _ _ hk, aR pk fun _ _ _ => Kind.sm sE⟩, (by omega), (by omega), (fun k hk => (hG.ok k hk).2), Nk, Z6.2, (by omega), aH.of Z9, (by simp), Qt, (by omega), (by omega), fun lb keep H7 s7 hlb hB hbl hBf => ?_⟩
 have sF := ah.trans sE s7
 have hA7 := hA.sm (ah.trans t6 s7)
 obtain ⟨Iq, ha7, pa7⟩ := id hA7
 obtain ⟨KY, hb7, pb7⟩ := id hB
 have za := aam pa7
 have zb := aam pb7
 refine ⟨_, rfl, _, rfl, la, lb, _, _, rfl, rfl, ha7, hb7, (by rw [aaA]; omega), fun MP PH => ?_⟩
 have t8 := aj PH (.lst (Iq ++ KY))
 have KZ := ae (H := H7) (a := MP) (o := .lst (Iq ++ KY))
 have SE : Paired (Fact K (upd H7 MP (.lst (Iq ++ KY)))) (take ++ keep) (Iq ++ KY) := aR (cB pa7 pb7) fun _ _ _ => Fact.sm t8
 generalize upd H7 MP (.lst (Iq ++ KY)) = H8 at t8 KZ SE ⊢
 have Xy : ∀ g ∈ take ++ keep, Kf ks (os ++ ws) g := fun g hg => by
  rcases aax.mp hg with z | z
  ·obtain ⟨⟨k, hk, e⟩, ha⟩ := Z8 g z
   exact ⟨⟨k, (abh.mp hk).1, e⟩, ha⟩
  ·exact hBf g z
 have hgs : ∀ g ∈ take ++ keep, g.as.length ≤ 4 ∧ ∀ a ∈ g.as, aB a = true := fun g hg => by
  obtain ⟨⟨k, hk, _, e2⟩, ha⟩ := Xy g hg
  exact ⟨by rw [e2]; exact (hG.ok k hk).2, fun a h => hN a (ha a h)⟩
 have Xz : (take ++ keep).length ≤ 8 := by rw [aac]; omega
 refine ⟨MP, take ++ keep, rfl, ⟨_, KZ, SE⟩, (by omega), hgs, fun lh H9 s9 hlh XA => ?_⟩
 have VP : (opens (take ++ keep)).length ≤ 32 := FA (fun g hg => (hgs g hg).1) Xz (wH _)
 have s79 := ah.trans t8 s9
 have sG := ah.trans sF s79
 refine ⟨_, rfl, lh, lw, _, _, rfl, rfl, XA, sG _ _ PD, (by rw [Lm9, Lm9, aaA]; omega), fun NF KR => ?_⟩
 rw [← aan]
 have XC := aj KR (.lst ((opens (take ++ keep) ++ ws).map tx))
 have PJ := ae (H := H9) (a := NF) (o := .lst ((opens (take ++ keep) ++ ws).map tx))
 generalize upd H9 NF (.lst ((opens (take ++ keep) ++ ws).map tx)) = U2 at XC PJ ⊢
 have MQ := ah.trans s79 XC
 have sH := ah.trans sG XC
 have SF := MQ _ _ (s7 _ _ Z9)
 have SG := MQ _ _ (s7 _ _ PF)
 have SH := hA7.sm MQ
 have XD := hB.sm MQ
 have SI : xD K U2 lk ks := ⟨kvs, sH _ _ hk, aR pk fun _ _ _ => Kind.sm sH⟩
 refine ⟨_, rfl, ?_⟩
 refine nv ?_
 dsimp only
 refine f7 (Good := fun σ' H' => ah U2 H' ∧ ∃ Qu, xD K H' Qu (if take = [] then ks.filter (·.l) else ks) ∧ σ' = [some (.ref lk), some (.ref lo), some (.ref lw), some (.ref Lx), some (.ref lm), some (.ref lr), some (.ref la), some (.ref lb), some (.ref NF), some (.ref Qu), none, none, none, none, none]) (fun fin => ?_) (fun σ' U3 hg => ?_)
 ·obtain ⟨NH, XE, XF⟩ := id SH
  have z10 := aam XF
  refine ⟨_, rfl, la, _, rfl, .inl (aH.of XE), rfl, ?_⟩
  refine ⟨_, rfl, ?_⟩
  by_cases h0 : take = []
  ·have e : NH.length = 0 := by rw [← z10, h0]; rfl
   rw [e, decide_eq_true (show V.int ((0 : Nat) : Int) = V.int 0 from rfl)]
   refine dq ?_
   obtain ⟨kv, Pl, Qv⟩ := id SI
   have zkv := aam Qv
   refine ⟨_, rfl, lk, rfl, ⟨_, aH.of Pl⟩, fun D2 pJ => ?_⟩
   refine pA (K := K) (xs := kv) ks (·.l) id (fun _ H f y => Kind K H f y) (fun _ _ _ _ _ k h => Kind.keep k h) (fun _ _ _ _ _ _ h => h) (kl (by omega)) pJ (aH.of Pl) zkv (fun i x b H' R hx hb sm hQ => ?_) (fun i x b H' R hx hb ZT sm hQ => ?_) (fun H' Qd s' hL' po' => ?_)
   ·obtain ⟨hi, ex⟩ := aP hx
    obtain ⟨dH, eb⟩ := aP hb
    have KW := paired_at Qv i dH hi
    rw [ex, eb] at KW
    obtain ⟨t, rfl, ht⟩ := KW
    exact ⟨_, rfl, t, _, 2, _, rfl, rfl, ht.same sm, rfl, _, rfl, hQ _ (ah.refl _)⟩
   ·obtain ⟨hi, ex⟩ := aP hx
    obtain ⟨dH, eb⟩ := aP hb
    have KW := paired_at Qv i dH hi
    rw [ex, eb] at KW
    exact ⟨_, rfl, hQ _ _ (ah.refl _) (Kind.sm sm KW)⟩
   ·rw [acs] at po'
    exact fin _ H' ⟨s', D2, by rw [if_pos h0]; exact ⟨Qd, hL', po'⟩, rfl⟩
  ·have e : NH.length ≠ 0 := fun e => h0 (aaV (by omega))
   rw [decide_eq_false (fun z => e (by have := V.int.inj z; omega))]
   exact bb (fin _ U2 ⟨ah.refl _, lk, by rw [if_neg h0]; exact SI, rfl⟩)
 obtain ⟨PK, Qu, hsm, rfl⟩ := hg
 have hsz : 1 ≤ (if take = [] then ks.filter (·.l) else ks).length ∧ (if take = [] then ks.filter (·.l) else ks).length ≤ 100 ∧ ∀ k ∈ (if take = [] then ks.filter (·.l) else ks), k.c ≤ 4 := by
  split
  ·exact fL
  ·exact ⟨by omega, by omega, fun k hk => (hG.ok k hk).2⟩
 have PL : (opens (take ++ keep) ++ ws).length ≤ 100 ∧ 1 ≤ (opens (take ++ keep) ++ ws).length := by rw [aac]; omega
 have NI := PK _ _ SG
 refine ⟨_, rfl, _, rfl, _, rfl, _, rfl, lr, _, 2, _, rfl, rfl, aH.of NI, rfl, ?_⟩
 refine ⟨Qu, NF, Lx, _, opens (take ++ keep) ++ ws, c1 :: cr, 2, nc, rfl, hsm, hsz.1, hsz.2.1, hsz.2.2, PK _ _ PJ, PL.2, PL.1, aH.of (PK _ _ SF), (by simp), Qt, by decide, (by omega), fun lg put SJ DR hlg hGv RR hGf => ?_⟩
 have K0 := ah.trans PK DR
 have NJ := DR _ _ NI
 have PM := K0 _ _ PJ
 have SK := K0 _ _ SF
 have XG := SH.sm K0
 have XH := XD.sm K0
 have sI := ah.trans sH K0
 refine ⟨(by show 0 ≤ aai; decide), fun ll RL => ?_⟩
 have t13 := aj RL (.lst [])
 have XI := ae (H := SJ) (a := ll) (o := .lst [])
 generalize XJ : opens (take ++ keep) ++ ws = NN at PM PL hGf
 refine ⟨_, rfl, lr, _, 3, _, rfl, rfl, aH.of (t13 _ _ NJ), rfl, ?_⟩
 refine ⟨(nd : Int), rfl, by omega, by omega, ?_⟩
 rw [show ((nd : Nat) : Int).toNat = nd from abO _]
 refine g9 (lo := 0) (n := nd) (fun i σ H' => ah SJ H' ∧ ∃ (Ly : List Lk) (vs : List V) (SM SN : Option V), H' ll = some (.lst vs) ∧ Paired (qU K H') Ly vs ∧ Ly.length = i ∧ (∀ k ∈ Ly, k.l ∈ NN ∧ k.r ∈ NN) ∧ σ = [some (.ref lk), some (.ref lo), some (.ref lw), some (.ref Lx), some (.ref lm), some (.ref lr), some (.ref la), some (.ref lb), some (.ref NF), some (.ref Qu), some (.ref lg), some (.ref ll), SM, SN, none]) ⟨t13, [], [], none, none, XI, .nil, rfl, (fun k hk => nomatch hk), rfl⟩ ?_ ?_
 ·rintro i σ H' hi ⟨sm, Ly, vs, SM, SN, hL, pl, hlen, MH, rfl⟩
  have zl := aam pl
  refine ⟨_, rfl, _, rfl, _, rfl, ?_⟩
  refine ⟨NF, Lx, NN, c1 :: cr, 1, i, (by rw [ab2]; rfl), sm _ _ PM, PL.2, PL.1, aH.of (sm _ _ SK), (by simp), Qt, by decide, (by omega), fun t a b n H2 s2 ha hb zV ht => ?_⟩
  have wj := s2 _ _ hL
  refine ⟨_, rfl, .inl ⟨rfl, _, aH.of wj⟩, _, rfl, t, _, 0, _, rfl, rfl, ht, rfl, (by show 2 ≤ aai; decide), fun l2 tL => ?_⟩
  have t3 := aj tL (.lst [V.str (aab "same"), V.str (aab "unlike")])
  have hl2' := ae (H := H2) (a := l2) (o := .lst [V.str (aab "same"), V.str (aab "unlike")])
  generalize upd H2 l2 (.lst [V.str (aab "same"), V.str (aab "unlike")]) = H3 at t3 hl2' ⊢
  have hwd : qq [V.str (aab "same"), V.str (aab "unlike")] (n : Int) = some (tx (fK (decide (n = 0)))) := MO zV
  refine ⟨_, rfl, t, _, 2, _, rfl, rfl, ht.same t3, rfl, l2, _, _, _, rfl, rfl, aH.of hl2', hwd, _, rfl, t, _, 1, _, rfl, rfl, ht.same t3, rfl, (by show 3 ≤ aai; decide), fun t2 uX => ?_⟩
  have t4 := aj uX (.tup [tx a, tx (fK (decide (n = 0))), tx b])
  have hu := ae (H := H3) (a := t2) (o := .tup [tx a, tx (fK (decide (n = 0))), tx b])
  generalize upd H3 t2 (.tup [tx a, tx (fK (decide (n = 0))), tx b]) = H4 at t4 hu ⊢
  have IK := ah.trans s2 (ah.trans t3 t4)
  have PN := IK _ _ hL
  refine ⟨ll, _, _, rfl, rfl, PN, (by rw [aaA]; omega), ?_⟩
  refine ⟨ah.aQ (ah.trans sm IK) RL _, Ly ++ [⟨decide (n = 0), a, b⟩], vs ++ [.ref t2], _, _, ae, ?_, by simp [hlen], fun k hk => ?_, rfl⟩
  ·refine cB (aR pl fun k b _ hk => ?_) (.cons ⟨t2, rfl, dt PN (cK.of hu)⟩ .nil)
   obtain ⟨t, e, h⟩ := qU.sm IK hk
   exact ⟨t, e, dt PN h⟩
  ·rcases aax.mp hk with z | z
   ·exact MH k z
   ·rw [aak.mp z]
    exact ⟨ha, hb⟩
 rintro σ SO ⟨KO, Ly, vs, SM, SN, XM, XN, XO, SQ, rfl⟩
 refine ⟨(by show 0 ≤ aai; decide), fun lp Hb => ?_⟩
 have t14 := aj Hb (.lst [])
 have XQ := ae (H := SO) (a := lp) (o := .lst [])
 have SR := KO _ _ NJ
 have XR := KO _ _ PM
 have XS := KO _ _ SK
 refine ⟨_, rfl, lr, _, 4, _, rfl, rfl, aH.of (t14 _ _ SR), rfl, ?_⟩
 refine ⟨(ne : Int), rfl, by omega, by omega, ?_⟩
 rw [show ((ne : Nat) : Int).toNat = ne from abO _]
 refine g9 (lo := 0) (n := ne) (fun i σ H' => ah SO H' ∧ ∃ (ps : List (Cs × Cs)) (vs : List V) (SM SN : Option V), H' lp = some (.lst vs) ∧ Paired (Pair K H') ps vs ∧ ps.length = i ∧ (∀ k ∈ ps, k.1 ∈ NN ∧ k.2 ∈ NN) ∧ σ = [some (.ref lk), some (.ref lo), some (.ref lw), some (.ref Lx), some (.ref lm), some (.ref lr), some (.ref la), some (.ref lb), some (.ref NF), some (.ref Qu), some (.ref lg), some (.ref ll), SM, SN, some (.ref lp)]) ⟨t14, [], [], _, _, XQ, .nil, rfl, (fun k hk => nomatch hk), rfl⟩ ?_ ?_
 ·rintro i σ H' hi ⟨sm, XT, vs', XU, XW, hL, pl, hlen, MH, rfl⟩
  have zl := aam pl
  refine ⟨_, rfl, _, rfl, _, rfl, ?_⟩
  refine ⟨NF, Lx, NN, c1 :: cr, 4, i, (by rw [ab2]; rfl), sm _ _ XR, PL.2, PL.1, aH.of (sm _ _ XS), (by simp), Qt, by decide, (by omega), fun t a b n H2 s2 ha hb zV ht => ?_⟩
  have wj := s2 _ _ hL
  refine ⟨_, rfl, .inl ⟨rfl, _, aH.of wj⟩, _, rfl, t, _, 0, _, rfl, rfl, ht, rfl, _, rfl, t, _, 1, _, rfl, rfl, ht, rfl, (by show 2 ≤ aai; decide), fun t2 uX => ?_⟩
  have t4 := aj uX (.tup [tx a, tx b])
  have hu := ae (H := H2) (a := t2) (o := .tup [tx a, tx b])
  generalize upd H2 t2 (.tup [tx a, tx b]) = H4 at t4 hu ⊢
  have IK := ah.trans s2 t4
  have PN := IK _ _ hL
  refine ⟨lp, _, _, rfl, rfl, PN, (by rw [aaA]; omega), ?_⟩
  refine ⟨ah.aQ (ah.trans sm IK) Hb _, XT ++ [(a, b)], vs' ++ [.ref t2], _, _, ae, ?_, by simp [hlen], fun k hk => ?_, rfl⟩
  ·refine cB (aR pl fun k b _ ⟨t, e, h⟩ => ⟨t, e, dt PN (h.same IK)⟩) (.cons ⟨t2, rfl, dt PN (cK.of hu)⟩ .nil)
  ·rcases aax.mp hk with z | z
   ·exact MH k z
   ·rw [aak.mp z]
    exact ⟨ha, hb⟩
 rintro σ U4 ⟨MK, ps, vs4, XU, XW, K1, XX, XY, SS, rfl⟩
 have SU := ah.trans KO MK
 refine ⟨_, rfl, _, rfl, _, rfl, _, rfl, _, rfl, (by show 5 ≤ aai; decide), fun t ht => ?_⟩
 have Qr := aj ht (.tup [.ref la, .ref lb, .ref ll, .ref lg, .ref lp])
 have NA := ah.trans SU Qr
 have NK := ah.trans MK Qr
 refine q t ⟨[], take, keep, Ly, put, ps⟩ _ (ah.trans sI NA) ⟨la, lb, ll, lg, lp, cK.of ae, XG.sm NA, XH.sm NA, ⟨vs, NK _ _ XM, aR XN fun _ _ _ => qU.sm NK⟩, hGv.sm NA, ⟨vs4, Qr _ _ K1, aR XX fun _ _ _ ⟨t, e, z⟩ => ⟨t, e, z.same Qr⟩⟩⟩ ⟨Z8, hBf, ?_, ?_, ?_, ?_, ?_⟩ ?_
 ·show ∀ f ∈ put, Kf (if take = [] then ks.filter (·.l) else ks) (opens (take ++ keep) ++ ws) f
  rw [XJ]
  exact hGf
 ·show ∀ k ∈ Ly, k.l ∈ opens (take ++ keep) ++ ws ∧ k.r ∈ opens (take ++ keep) ++ ws
  rw [XJ]
  exact SQ
 ·show ∀ k ∈ ps, k.1 ∈ opens (take ++ keep) ++ ws ∧ k.2 ∈ opens (take ++ keep) ++ ws
  rw [XJ]
  exact SS
 ·show 1 ≤ take.length + keep.length
  omega
 ·show take.length ≤ 4 ∧ keep.length ≤ 4 ∧ Ly.length ≤ 4 ∧ put.length ≤ 4 ∧ ps.length ≤ 4
  omega
 ·show take.length ≤ m ∧ keep.length ≤ m ∧ Ly.length ≤ m ∧ put.length ≤ m ∧ ps.length ≤ m
  omega
end
end iS
namespace iS
open PySem L2 cM Bk
set_option maxHeartbeats 4000000
section
variable {P : aaL} {w : aa9} {K : aaa} {mg : Str → Option aad} {base : Heap} {f : aaC} {fd : abd} {c : Cl}
theorem iY : ax ["_law_title", "_law_rule_here", "_law_rows"] ["_law_title", "_law_rule_here"] (ao fR) := ⟨rfl, rfl, rfl, by decide +kernel, rfl, by decide +kernel, by decide +kernel⟩
theorem rh (F : bw K "_law_rule_text" "_law_rule_text" fR f fd) (cX : br P w K mg base "_law_fact_text" 1 ["_law_fact_here"] (zE K)) (aX : mg "len" = none) (qd : mg "list" = none) : a4 P w K mg base da 2 f fd ["_law_title", "_law_rule_here"] (vZ K) := by
 refine F.ok iY (fun vs H Q E h => ?_) (fun cb A outer s H vs Q E hr h => ?_)
 ·obtain ⟨t, r, rfl, _⟩ := h
  rfl
 obtain ⟨t, r, rfl, ⟨a, b, l, g, p, ht, hA, hB, XZ, hG, X0⟩, hT, q⟩ := h
 refine ⟨_, (@ag _ _ _ _ _ (@aw _ _ (2) _ _ _ _ iY.nd rfl (aaM rfl) (@a7 _ _ _ _ (@ab _)) (by rfl) (by first | exact .inl rfl | exact .inr rfl | assumption)) (@ag _ _ _ _ _ (@aV _ _ _ _ _ _ _ _ (@ay _ _ _ _ _ _ _ _ (@yS _) (@aM _ _ _ _ _ _ _ _ _ (@aF _) rfl aX aaI (@aa _ _ _ _ _ (@aq _ _ _ _ _ _ _ (@aI _) (pv 1) (@af _ _ _ _) (fun _ _ => rfl)) (@ab _) (by rfl)) (by decide) (by decide) (by rfl) (by rfl)) (@af _ _ _ _) (aL _)) (@ai _ _ _ (@bf _ _ _ _ (@bo _ _ _ _ _ _ _ _ _ _ _ _ aaD aaE aaG (@bh _) (pv 2) (@aa _ _ _ _ _ (@av _ _ _ _ _ _ _ _ (@aJ _) (@ar _ _ _ _) (@bo _ _ _ _ _ _ _ _ _ _ _ _ aaw aaJ aaK (@bV _) (@ar _ _ _ _) (@aa _ _ _ _ _ (@bA _ _ _ _ _ _ _ _ _ _ _ [] rfl (by kernel_rfl) (@aW _ _ _ _ (@aq _ _ _ _ _ _ _ (@aI _) (pv 1) (@af _ _ _ _) (fun _ _ => rfl))) (fun _ _ _ _ _ => (@bj _)) (fun _ _ _ _ _ => (@ak _ _ _ _ _ _ _ _ _ _ cX (hr.mono (by decide)) rfl (@aa _ _ _ _ _ (pv 0) (@ab _) (by rfl)) (by decide) (by rfl) (by rfl))) (by intro _; rfl)) (@ab _) (by rfl)) (by rfl) (by rfl) (by rfl) (by rfl) (by rfl))) (@ab _) (by rfl)) (by rfl) (by rfl) (by rfl) (by rfl) (by rfl)) (by rfl))) (@aE _)) (@ag _ _ _ _ _ (@aV _ _ _ _ _ _ _ _ (@ay _ _ _ _ _ _ _ _ (@yS _) (@aM _ _ _ _ _ _ _ _ _ (@aF _) rfl aX aaI (@aa _ _ _ _ _ (@aq _ _ _ _ _ _ _ (@aI _) (pv 1) (@af _ _ _ _) (fun _ _ => rfl)) (@ab _) (by rfl)) (by decide) (by decide) (by rfl) (by rfl)) (@af _ _ _ _) (aL _)) (@ai _ _ _ (@bf _ _ _ _ (@bo _ _ _ _ _ _ _ _ _ _ _ _ aaD aaE aaG (@bh _) (pv 2) (@aa _ _ _ _ _ (@av _ _ _ _ _ _ _ _ (@aJ _) (@ar _ _ _ _) (@bo _ _ _ _ _ _ _ _ _ _ _ _ aaw aaJ aaK (@bV _) (@ar _ _ _ _) (@aa _ _ _ _ _ (@bA _ _ _ _ _ _ _ _ _ _ _ [] rfl (by kernel_rfl) (@aW _ _ _ _ (@aq _ _ _ _ _ _ _ (@aI _) (pv 1) (@af _ _ _ _) (fun _ _ => rfl))) (fun _ _ _ _ _ => (@bj _)) (fun _ _ _ _ _ => (@ak _ _ _ _ _ _ _ _ _ _ cX (hr.mono (by decide)) rfl (@aa _ _ _ _ _ (pv 0) (@ab _) (by rfl)) (by decide) (by rfl) (by rfl))) (by intro _; rfl)) (@ab _) (by rfl)) (by rfl) (by rfl) (by rfl) (by rfl) (by rfl))) (@ab _) (by rfl)) (by rfl) (by rfl) (by rfl) (by rfl) (by rfl)) (by rfl))) (@aE _)) (@ag _ _ _ _ _ (@aV _ _ _ _ _ _ _ _ (@ay _ _ _ _ _ _ _ _ (@yS _) (@aM _ _ _ _ _ _ _ _ _ (@aF _) rfl aX aaI (@aa _ _ _ _ _ (@aq _ _ _ _ _ _ _ (@aI _) (pv 1) (@af _ _ _ _) (fun _ _ => rfl)) (@ab _) (by rfl)) (by decide) (by decide) (by rfl) (by rfl)) (@af _ _ _ _) (aL _)) (@ai _ _ _ (@bf _ _ _ _ (@bo _ _ _ _ _ _ _ _ _ _ _ _ aaD aaE aaG (@bh _) (pv 2) (@aa _ _ _ _ _ (@av _ _ _ _ _ _ _ _ (@aJ _) (@ar _ _ _ _) (@bo _ _ _ _ _ _ _ _ _ _ _ _ aaw aaJ aaK (@bV _) (@ar _ _ _ _) (@aa _ _ _ _ _ (@bA _ _ _ _ _ _ _ _ _ _ _ [] rfl (by kernel_rfl) (@aW _ _ _ _ (@aq _ _ _ _ _ _ _ (@aI _) (pv 1) (@af _ _ _ _) (fun _ _ => rfl))) (fun _ _ _ _ _ => (@bj _)) (fun _ _ _ _ _ => (id (α := PE _ _ (Q3 K "str" (rJoin K) _ _)) (bo aaw aaJ aaK bV ar (aa (dY (Dp (K := K) rfl) rfl qd PyProof.Rows.Boot.«list» (aa (pv 0) ab)) ab)))) (by intro _; rfl)) (@ab _) (by rfl)) (by rfl) (by rfl) (by rfl) (by rfl) (by rfl))) (@ab _) (by rfl)) (by rfl) (by rfl) (by rfl) (by rfl) (by rfl)) (by rfl))) (@aE _)) (@ag _ _ _ _ _ (@aV _ _ _ _ _ _ _ _ (@ay _ _ _ _ _ _ _ _ (@yS _) (@aM _ _ _ _ _ _ _ _ _ (@aF _) rfl aX aaI (@aa _ _ _ _ _ (@aq _ _ _ _ _ _ _ (@aI _) (pv 1) (@af _ _ _ _) (fun _ _ => rfl)) (@ab _) (by rfl)) (by decide) (by decide) (by rfl) (by rfl)) (@af _ _ _ _) (aL _)) (@ai _ _ _ (@bf _ _ _ _ (@bo _ _ _ _ _ _ _ _ _ _ _ _ aaD aaE aaG (@bh _) (pv 2) (@aa _ _ _ _ _ (@av _ _ _ _ _ _ _ _ (@aJ _) (@ar _ _ _ _) (@bo _ _ _ _ _ _ _ _ _ _ _ _ aaw aaJ aaK (@bV _) (@ar _ _ _ _) (@aa _ _ _ _ _ (@bA _ _ _ _ _ _ _ _ _ _ _ [] rfl (by kernel_rfl) (@aW _ _ _ _ (@aq _ _ _ _ _ _ _ (@aI _) (pv 1) (@af _ _ _ _) (fun _ _ => rfl))) (fun _ _ _ _ _ => (@bj _)) (fun _ _ _ _ _ => (@ak _ _ _ _ _ _ _ _ _ _ cX (hr.mono (by decide)) rfl (@aa _ _ _ _ _ (pv 0) (@ab _) (by rfl)) (by decide) (by rfl) (by rfl))) (by intro _; rfl)) (@ab _) (by rfl)) (by rfl) (by rfl) (by rfl) (by rfl) (by rfl))) (@ab _) (by rfl)) (by rfl) (by rfl) (by rfl) (by rfl) (by rfl)) (by rfl))) (@aE _)) (@ag _ _ _ _ _ (@aV _ _ _ _ _ _ _ _ (@ay _ _ _ _ _ _ _ _ (@yS _) (@aM _ _ _ _ _ _ _ _ _ (@aF _) rfl aX aaI (@aa _ _ _ _ _ (@aq _ _ _ _ _ _ _ (@aI _) (pv 1) (@af _ _ _ _) (fun _ _ => rfl)) (@ab _) (by rfl)) (by decide) (by decide) (by rfl) (by rfl)) (@af _ _ _ _) (aL _)) (@ai _ _ _ (@bf _ _ _ _ (@bo _ _ _ _ _ _ _ _ _ _ _ _ aaD aaE aaG (@bh _) (pv 2) (@aa _ _ _ _ _ (@av _ _ _ _ _ _ _ _ (@aJ _) (@ar _ _ _ _) (@bo _ _ _ _ _ _ _ _ _ _ _ _ aaw aaJ aaK (@bV _) (@ar _ _ _ _) (@aa _ _ _ _ _ (@bA _ _ _ _ _ _ _ _ _ _ _ [] rfl (by kernel_rfl) (@aW _ _ _ _ (@aq _ _ _ _ _ _ _ (@aI _) (pv 1) (@af _ _ _ _) (fun _ _ => rfl))) (fun _ _ _ _ _ => (@bj _)) (fun _ _ _ _ _ => (@av _ _ _ _ _ _ _ _ (@aJ _) (@av _ _ _ _ _ _ _ _ (@aJ _) (@aq _ _ _ _ _ _ (ub K) (@aI _) (pv 0) (@af _ _ _ _) (fun _ _ => rfl)) (@ar _ _ _ _)) (@aq _ _ _ _ _ _ (ub K) (@aI _) (pv 0) (@af _ _ _ _) (fun _ _ => rfl)))) (by intro _; rfl)) (@ab _) (by rfl)) (by rfl) (by rfl) (by rfl) (by rfl) (by rfl))) (@ab _) (by rfl)) (by rfl) (by rfl) (by rfl) (by rfl) (by rfl)) (by rfl))) (@aE _)) (@ai _ _ _ (@aC _ _ _ _ (@av _ _ _ _ _ _ _ _ (@aJ _) (@av _ _ _ _ _ _ _ _ (@aJ _) (@av _ _ _ _ _ _ _ _ (@aJ _) (@ar _ _ _ _) (pv 0)) (@ar _ _ _ _)) (@bo _ _ _ _ _ _ _ _ _ _ _ _ aaw aaJ aaK (@bV _) (@ar _ _ _ _) (@aa _ _ _ _ _ (pv 2) (@ab _) (by rfl)) (by rfl) (by rfl) (by rfl) (by rfl) (by rfl))))))))))), ?_⟩
 refine ⟨(by show 0 ≤ aai; decide), fun lr tN => ?_⟩
 have s1 := aj tN (.lst [])
 have G9 := ae (H := H) (a := lr) (o := .lst [])
 generalize upd H lr (.lst []) = H1 at s1 G9 ⊢
 refine nv ?_
 dsimp only
 have ec : (aab ", ").length = 2 := by decide +kernel
 have es : (aab " ").length = 1 := by decide +kernel
 have es0 : (aab " ") = S [32] := by decide +kernel
 have ee : (aab " = ").length = 3 := by decide +kernel
 have ee0 : (aab " = ") = S [32, 61, 32] := by decide +kernel
 have qa := hT.Fx
 have few := hT.few
 have X1 : (aT bz (r.take.map au)).length ≤ 1 := by
  have p1 := aS bz (r.take.map au)
  have p2 := aS bH (r.keep.map au)
  have p3 := aS bB (r.aO.map bt)
  have p4 := aS cU (r.put.map au)
  have p5 := aS bR (r.tell.map bD)
  try simp only [aac]
  omega
 refine f7 (Good := fun σ' H' => ah H H' ∧ H' lr = some (.lst ((aT bz (r.take.map au)).map tx)) ∧ σ' = [some (tx r.title), some (.ref t), some (.ref lr)]) (fun fin => ?_) (fun σ' H2 hg => ?_)
 ·obtain ⟨xs, hx, px⟩ := hA.sm s1
  have zx := aam px
  have bd : (bp (r.take.map au)).length ≤ 2100 := (qa (bz, bp (r.take.map au)) (by unfold dO; simp)).2
  refine ⟨_, rfl, t, _, 0, _, rfl, rfl, ht.same s1, rfl, a, _, rfl, .inl (aH.of hx), _, _, rfl, rfl, _, rfl, ?_⟩
  by_cases h0 : r.take = []
  ·have e : xs.length = 0 := by rw [← zx, h0]; rfl
   rw [e, decide_eq_false (show ¬ (0 : Int) < ((0 : Nat) : Int) by decide)]
   refine bb (fin _ _ ⟨s1, ?_, rfl⟩)
   rw [G9, h0]
   simp [aT]
  ·have e : (0 : Int) < ((xs.length : Nat) : Int) := by
    have : r.take.length ≠ 0 := fun z => h0 (aaV z)
    omega
   rw [decide_eq_true e]
   refine dq ?_
   refine ⟨_, rfl, .inl ⟨rfl, _, aH.of G9⟩, rfl, _, rfl, t, _, 0, _, rfl, rfl, ht.same s1, rfl, a, rfl, ⟨_, aH.of hx⟩, fun D hD => ?_⟩
   refine cA (K := K) (xs := xs) (r.take.map au) (fun _ _ b y => y = tx b) (fun _ _ _ _ _ _ h => h) (fun _ _ _ _ _ _ h => h) (kl (by omega)) hD (aH.of hx) (by rw [Lm9]; exact zx) (fun i y b H' R hy hb sm hQ => ?_) (fun H9 ys s9 hL po => ?_)
   ·obtain ⟨hi, ey⟩ := aP hy
    obtain ⟨dH, eb⟩ := aP hb
    rw [Lm9] at dH
    rw [aas] at eb
    have hK := paired_at px i dH hi
    rw [ey] at hK
    have hF := (hT.f _ (aay _ (aaq dH))).fn
    exact ⟨_, rfl, y, _, rfl, Fact.sm sm hK, hF, hQ _ _ (ah.refl _) (by rw [← eb])⟩
   rw [bT po] at hL
   have l1 := cP (as := r.take.map au) (B := 100) (fun x hx => by
    obtain ⟨k, hk, rfl⟩ := aat.mp hx
    exact uV (hT.f _ (aay _ hk)))
   rw [Lm9] at l1
   refine ⟨_, D, (r.take.map au).map S, rfl, rfl, .inl (aH.of (by rw [← dE]; exact hL)), (by rw [Lm9, Lm9, ec]; omega), ?_⟩
   rw [ku]
   have ew : (aab "take ") = S (bz ++ [32]) := by decide +kernel
   have ek : (bz ++ [32]).length ≤ 5 := by decide
   refine ⟨_, _, rfl, rfl, (by rw [ew, aD, aD, aaA]; omega), ?_⟩
   rw [ew, cx]
   have hL9 := s9 _ _ G9
   refine ⟨lr, _, _, rfl, rfl, hL9, ?_, ?_⟩
   ·show 0 < aai; decide
   ·refine fin _ _ ⟨ah.aQ (ah.trans s1 s9) tN _, ?_, rfl⟩
    rw [ae]
    unfold aT
    rw [if_neg (show ¬ r.take.map au = [] by simpa using h0)]
    simp
 obtain ⟨s2, NB, rfl⟩ := hg
 have X2 : (aT bz (r.take.map au) ++ aT bH (r.keep.map au)).length ≤ 2 := by
  have p1 := aS bz (r.take.map au)
  have p2 := aS bH (r.keep.map au)
  have p3 := aS bB (r.aO.map bt)
  have p4 := aS cU (r.put.map au)
  have p5 := aS bR (r.tell.map bD)
  try simp only [aac]
  omega
 refine f7 (Good := fun σ' H' => ah H H' ∧ H' lr = some (.lst ((aT bz (r.take.map au) ++ aT bH (r.keep.map au)).map tx)) ∧ σ' = [some (tx r.title), some (.ref t), some (.ref lr)]) (fun fin => ?_) (fun σ' H3 hg => ?_)
 ·obtain ⟨xs, hx, px⟩ := hB.sm s2
  have zx := aam px
  have bd : (bp (r.keep.map au)).length ≤ 2100 := (qa (bH, bp (r.keep.map au)) (by unfold dO; simp)).2
  refine ⟨_, rfl, t, _, 1, _, rfl, rfl, ht.same s2, rfl, b, _, rfl, .inl (aH.of hx), _, _, rfl, rfl, _, rfl, ?_⟩
  by_cases h0 : r.keep = []
  ·have e : xs.length = 0 := by rw [← zx, h0]; rfl
   rw [e, decide_eq_false (show ¬ (0 : Int) < ((0 : Nat) : Int) by decide)]
   refine bb (fin _ _ ⟨s2, ?_, rfl⟩)
   rw [NB, h0]
   simp [aT]
  ·have e : (0 : Int) < ((xs.length : Nat) : Int) := by
    have : r.keep.length ≠ 0 := fun z => h0 (aaV z)
    omega
   rw [decide_eq_true e]
   refine dq ?_
   refine ⟨_, rfl, .inl ⟨rfl, _, aH.of NB⟩, rfl, _, rfl, t, _, 1, _, rfl, rfl, ht.same s2, rfl, b, rfl, ⟨_, aH.of hx⟩, fun D hD => ?_⟩
   refine cA (K := K) (xs := xs) (r.keep.map au) (fun _ _ b y => y = tx b) (fun _ _ _ _ _ _ h => h) (fun _ _ _ _ _ _ h => h) (kl (by omega)) hD (aH.of hx) (by rw [Lm9]; exact zx) (fun i y b H' R hy hb sm hQ => ?_) (fun H9 ys s9 hL po => ?_)
   ·obtain ⟨hi, ey⟩ := aP hy
    obtain ⟨dH, eb⟩ := aP hb
    rw [Lm9] at dH
    rw [aas] at eb
    have hK := paired_at px i dH hi
    rw [ey] at hK
    have hF := (hT.f _ (aae _ (aay _ (aaq dH)))).fn
    exact ⟨_, rfl, y, _, rfl, Fact.sm sm hK, hF, hQ _ _ (ah.refl _) (by rw [← eb])⟩
   rw [bT po] at hL
   have l1 := cP (as := r.keep.map au) (B := 100) (fun x hx => by
    obtain ⟨k, hk, rfl⟩ := aat.mp hx
    exact uV (hT.f _ (aae _ (aay _ hk))))
   rw [Lm9] at l1
   refine ⟨_, D, (r.keep.map au).map S, rfl, rfl, .inl (aH.of (by rw [← dE]; exact hL)), (by rw [Lm9, Lm9, ec]; omega), ?_⟩
   rw [ku]
   have ew : (aab "keep ") = S (bH ++ [32]) := by decide +kernel
   have ek : (bH ++ [32]).length ≤ 5 := by decide
   refine ⟨_, _, rfl, rfl, (by rw [ew, aD, aD, aaA]; omega), ?_⟩
   rw [ew, cx]
   have hL9 := s9 _ _ NB
   refine ⟨lr, _, _, rfl, rfl, hL9, ?_, ?_⟩
   ·rw [Lm9, aaA]; have := X1; omega
   ·refine fin _ _ ⟨ah.aQ (ah.trans s2 s9) tN _, ?_, rfl⟩
    rw [ae]
    unfold aT
    rw [if_neg (show ¬ r.keep.map au = [] by simpa using h0)]
    simp
 obtain ⟨s3, Ig, rfl⟩ := hg
 have X3 : (aT bz (r.take.map au) ++ aT bH (r.keep.map au) ++ aT bB (r.aO.map bt)).length ≤ 3 := by
  have p1 := aS bz (r.take.map au)
  have p2 := aS bH (r.keep.map au)
  have p3 := aS bB (r.aO.map bt)
  have p4 := aS cU (r.put.map au)
  have p5 := aS bR (r.tell.map bD)
  try simp only [aac]
  omega
 refine f7 (Good := fun σ' H' => ah H H' ∧ H' lr = some (.lst ((aT bz (r.take.map au) ++ aT bH (r.keep.map au) ++ aT bB (r.aO.map bt)).map tx)) ∧ σ' = [some (tx r.title), some (.ref t), some (.ref lr)]) (fun fin => ?_) (fun σ' H4 hg => ?_)
 ·obtain ⟨xs, hx, px⟩ := XZ.sm s3
  have zx := aam px
  have bd : (bp (r.aO.map bt)).length ≤ 2100 := (qa (bB, bp (r.aO.map bt)) (by unfold dO; simp)).2
  refine ⟨_, rfl, t, _, 2, _, rfl, rfl, ht.same s3, rfl, l, _, rfl, .inl (aH.of hx), _, _, rfl, rfl, _, rfl, ?_⟩
  by_cases h0 : r.aO = []
  ·have e : xs.length = 0 := by rw [← zx, h0]; rfl
   rw [e, decide_eq_false (show ¬ (0 : Int) < ((0 : Nat) : Int) by decide)]
   refine bb (fin _ _ ⟨s3, ?_, rfl⟩)
   rw [Ig, h0]
   simp [aT]
  ·have e : (0 : Int) < ((xs.length : Nat) : Int) := by
    have : r.aO.length ≠ 0 := fun z => h0 (aaV z)
    omega
   rw [decide_eq_true e]
   refine dq ?_
   refine ⟨_, rfl, .inl ⟨rfl, _, aH.of Ig⟩, rfl, _, rfl, t, _, 2, _, rfl, rfl, ht.same s3, rfl, l, rfl, ⟨_, aH.of hx⟩, fun D hD => ?_⟩
   refine cA (K := K) (xs := xs) (r.aO.map bt) (fun _ _ b y => y = tx b) (fun _ _ _ _ _ _ h => h) (fun _ _ _ _ _ _ h => h) (kl (by omega)) hD (aH.of hx) (by rw [Lm9]; exact zx) (fun i y b H' R hy hb sm hQ => ?_) (fun H9 ys s9 hL po => ?_)
   ·obtain ⟨hi, ey⟩ := aP hy
    obtain ⟨dH, eb⟩ := aP hb
    rw [Lm9] at dH
    rw [aas] at eb
    have hK := paired_at px i dH hi
    rw [ey] at hK
    have qW := hT.l _ (aaq dH)
    obtain ⟨t2, rfl, uX⟩ := qU.sm sm hK
    generalize r.aO[i] = kk at uX eb qW
    refine ⟨rfl, _, rfl, t2, _, rfl, .inr uX, fun l2 tL => ?_⟩
    have h1 := cQ qW.1
    have h2 := cQ qW.2
    have h3 : (fK kk.same).length ≤ 6 := by cases kk.same <;> decide
    refine ⟨_, l2, [kk.l, fK kk.same, kk.r].map S, rfl, rfl, .inl (aH.of ae), ?_, ?_⟩
    ·simp only [aa3, ab0, acU, adR, aag, aa6, aD, es]
     omega
    ·rw [es0, qT]
     refine hQ _ _ (aj tL _) ?_
     rw [← eb]
     rfl
   rw [bT po] at hL
   have l1 := cP (as := r.aO.map bt) (B := 100) (fun x hx => by
    obtain ⟨k, hk, rfl⟩ := aat.mp hx
    have := uT (hT.l k hk); omega)
   rw [Lm9] at l1
   refine ⟨_, D, (r.aO.map bt).map S, rfl, rfl, .inl (aH.of (by rw [← dE]; exact hL)), (by rw [Lm9, Lm9, ec]; omega), ?_⟩
   rw [ku]
   have ew : (aab "look ") = S (bB ++ [32]) := by decide +kernel
   have ek : (bB ++ [32]).length ≤ 5 := by decide
   refine ⟨_, _, rfl, rfl, (by rw [ew, aD, aD, aaA]; omega), ?_⟩
   rw [ew, cx]
   have hL9 := s9 _ _ Ig
   refine ⟨lr, _, _, rfl, rfl, hL9, ?_, ?_⟩
   ·rw [Lm9, aaA]; have := X2; omega
   ·refine fin _ _ ⟨ah.aQ (ah.trans s3 s9) tN _, ?_, rfl⟩
    rw [ae]
    unfold aT
    rw [if_neg (show ¬ r.aO.map bt = [] by simpa using h0)]
    simp
 obtain ⟨s4, Qm, rfl⟩ := hg
 have X4 : (aT bz (r.take.map au) ++ aT bH (r.keep.map au) ++ aT bB (r.aO.map bt) ++ aT cU (r.put.map au)).length ≤ 4 := by
  have p1 := aS bz (r.take.map au)
  have p2 := aS bH (r.keep.map au)
  have p3 := aS bB (r.aO.map bt)
  have p4 := aS cU (r.put.map au)
  have p5 := aS bR (r.tell.map bD)
  try simp only [aac]
  omega
 refine f7 (Good := fun σ' H' => ah H H' ∧ H' lr = some (.lst ((aT bz (r.take.map au) ++ aT bH (r.keep.map au) ++ aT bB (r.aO.map bt) ++ aT cU (r.put.map au)).map tx)) ∧ σ' = [some (tx r.title), some (.ref t), some (.ref lr)]) (fun fin => ?_) (fun σ' H5 hg => ?_)
 ·obtain ⟨xs, hx, px⟩ := hG.sm s4
  have zx := aam px
  have bd : (bp (r.put.map au)).length ≤ 2100 := (qa (cU, bp (r.put.map au)) (by unfold dO; simp)).2
  refine ⟨_, rfl, t, _, 3, _, rfl, rfl, ht.same s4, rfl, g, _, rfl, .inl (aH.of hx), _, _, rfl, rfl, _, rfl, ?_⟩
  by_cases h0 : r.put = []
  ·have e : xs.length = 0 := by rw [← zx, h0]; rfl
   rw [e, decide_eq_false (show ¬ (0 : Int) < ((0 : Nat) : Int) by decide)]
   refine bb (fin _ _ ⟨s4, ?_, rfl⟩)
   rw [Qm, h0]
   simp [aT]
  ·have e : (0 : Int) < ((xs.length : Nat) : Int) := by
    have : r.put.length ≠ 0 := fun z => h0 (aaV z)
    omega
   rw [decide_eq_true e]
   refine dq ?_
   refine ⟨_, rfl, .inl ⟨rfl, _, aH.of Qm⟩, rfl, _, rfl, t, _, 3, _, rfl, rfl, ht.same s4, rfl, g, rfl, ⟨_, aH.of hx⟩, fun D hD => ?_⟩
   refine cA (K := K) (xs := xs) (r.put.map au) (fun _ _ b y => y = tx b) (fun _ _ _ _ _ _ h => h) (fun _ _ _ _ _ _ h => h) (kl (by omega)) hD (aH.of hx) (by rw [Lm9]; exact zx) (fun i y b H' R hy hb sm hQ => ?_) (fun H9 ys s9 hL po => ?_)
   ·obtain ⟨hi, ey⟩ := aP hy
    obtain ⟨dH, eb⟩ := aP hb
    rw [Lm9] at dH
    rw [aas] at eb
    have hK := paired_at px i dH hi
    rw [ey] at hK
    have hF := (hT.f _ (aae _ (aae _ (aaq dH)))).fn
    exact ⟨_, rfl, y, _, rfl, Fact.sm sm hK, hF, hQ _ _ (ah.refl _) (by rw [← eb])⟩
   rw [bT po] at hL
   have l1 := cP (as := r.put.map au) (B := 100) (fun x hx => by
    obtain ⟨k, hk, rfl⟩ := aat.mp hx
    exact uV (hT.f _ (aae _ (aae _ hk))))
   rw [Lm9] at l1
   refine ⟨_, D, (r.put.map au).map S, rfl, rfl, .inl (aH.of (by rw [← dE]; exact hL)), (by rw [Lm9, Lm9, ec]; omega), ?_⟩
   rw [ku]
   have ew : (aab "put ") = S (cU ++ [32]) := by decide +kernel
   have ek : (cU ++ [32]).length ≤ 5 := by decide
   refine ⟨_, _, rfl, rfl, (by rw [ew, aD, aD, aaA]; omega), ?_⟩
   rw [ew, cx]
   have hL9 := s9 _ _ Qm
   refine ⟨lr, _, _, rfl, rfl, hL9, ?_, ?_⟩
   ·rw [Lm9, aaA]; have := X3; omega
   ·refine fin _ _ ⟨ah.aQ (ah.trans s4 s9) tN _, ?_, rfl⟩
    rw [ae]
    unfold aT
    rw [if_neg (show ¬ r.put.map au = [] by simpa using h0)]
    simp
 obtain ⟨s5, Px, rfl⟩ := hg
 have X5 : (aT bz (r.take.map au) ++ aT bH (r.keep.map au) ++ aT bB (r.aO.map bt) ++ aT cU (r.put.map au) ++ aT bR (r.tell.map bD)).length ≤ 5 := by
  have p1 := aS bz (r.take.map au)
  have p2 := aS bH (r.keep.map au)
  have p3 := aS bB (r.aO.map bt)
  have p4 := aS cU (r.put.map au)
  have p5 := aS bR (r.tell.map bD)
  try simp only [aac]
  omega
 refine f7 (Good := fun σ' H' => ah H H' ∧ H' lr = some (.lst ((aT bz (r.take.map au) ++ aT bH (r.keep.map au) ++ aT bB (r.aO.map bt) ++ aT cU (r.put.map au) ++ aT bR (r.tell.map bD)).map tx)) ∧ σ' = [some (tx r.title), some (.ref t), some (.ref lr)]) (fun fin => ?_) (fun σ' H6 hg => ?_)
 ·obtain ⟨xs, hx, px⟩ := X0.sm s5
  have zx := aam px
  have bd : (bp (r.tell.map bD)).length ≤ 2100 := (qa (bR, bp (r.tell.map bD)) (by unfold dO; simp)).2
  refine ⟨_, rfl, t, _, 4, _, rfl, rfl, ht.same s5, rfl, p, _, rfl, .inl (aH.of hx), _, _, rfl, rfl, _, rfl, ?_⟩
  by_cases h0 : r.tell = []
  ·have e : xs.length = 0 := by rw [← zx, h0]; rfl
   rw [e, decide_eq_false (show ¬ (0 : Int) < ((0 : Nat) : Int) by decide)]
   refine bb (fin _ _ ⟨s5, ?_, rfl⟩)
   rw [Px, h0]
   simp [aT]
  ·have e : (0 : Int) < ((xs.length : Nat) : Int) := by
    have : r.tell.length ≠ 0 := fun z => h0 (aaV z)
    omega
   rw [decide_eq_true e]
   refine dq ?_
   refine ⟨_, rfl, .inl ⟨rfl, _, aH.of Px⟩, rfl, _, rfl, t, _, 4, _, rfl, rfl, ht.same s5, rfl, p, rfl, ⟨_, aH.of hx⟩, fun D hD => ?_⟩
   refine cA (K := K) (xs := xs) (r.tell.map bD) (fun _ _ b y => y = tx b) (fun _ _ _ _ _ _ h => h) (fun _ _ _ _ _ _ h => h) (kl (by omega)) hD (aH.of hx) (by rw [Lm9]; exact zx) (fun i y b H' R hy hb sm hQ => ?_) (fun H9 ys s9 hL po => ?_)
   ·obtain ⟨hi, ey⟩ := aP hy
    obtain ⟨dH, eb⟩ := aP hb
    rw [Lm9] at dH
    rw [aas] at eb
    have hK := paired_at px i dH hi
    rw [ey] at hK
    have qW := hT.p _ (aaq dH)
    obtain ⟨t2, rfl, uX⟩ := hK
    have uX := uX.same sm
    generalize r.tell[i] = kk at uX eb qW
    have h1 := cQ qW.1
    have h2 := cQ qW.2
    refine ⟨_, rfl, t2, _, 0, _, rfl, rfl, uX, rfl, _, _, rfl, rfl, (by rw [aD, ee, aaA]; omega), _, rfl, t2, _, 1, _, rfl, rfl, uX, rfl, _, _, rfl, rfl, (by simp only [strLen_append, aD, ee]; rw [aaA]; omega), ?_⟩
    rw [ee0, cx, cx]
    refine hQ _ _ (ah.refl _) ?_
    rw [← eb]
    unfold bD
    simp
   rw [bT po] at hL
   have l1 := cP (as := r.tell.map bD) (B := 100) (fun x hx => by
    obtain ⟨k, hk, rfl⟩ := aat.mp hx
    have := uU (hT.p k hk); omega)
   rw [Lm9] at l1
   refine ⟨_, D, (r.tell.map bD).map S, rfl, rfl, .inl (aH.of (by rw [← dE]; exact hL)), (by rw [Lm9, Lm9, ec]; omega), ?_⟩
   rw [ku]
   have ew : (aab "tell ") = S (bR ++ [32]) := by decide +kernel
   have ek : (bR ++ [32]).length ≤ 5 := by decide
   refine ⟨_, _, rfl, rfl, (by rw [ew, aD, aD, aaA]; omega), ?_⟩
   rw [ew, cx]
   have hL9 := s9 _ _ Px
   refine ⟨lr, _, _, rfl, rfl, hL9, ?_, ?_⟩
   ·rw [Lm9, aaA]; have := X4; omega
   ·refine fin _ _ ⟨ah.aQ (ah.trans s5 s9) tN _, ?_, rfl⟩
    rw [ae]
    unfold aT
    rw [if_neg (show ¬ r.tell.map bD = [] by simpa using h0)]
    simp
 obtain ⟨s6, hr5, rfl⟩ := hg
 have eP : aT bz (r.take.map au) ++ aT bH (r.keep.map au) ++ aT bB (r.aO.map bt) ++ aT cU (r.put.map au) ++ aT bR (r.tell.map bD) = cq r := by
  unfold cq
  simp only [aaQ]
 rw [eP] at hr5 X5
 have f1 : (aab "rule ") = S (cF ++ [32]) := by decide +kernel
 have f2 : (aab ": ") = S [58, 32] := by decide +kernel
 have f3 : (aab "; ") = S [59, 32] := by decide +kernel
 have f4 : (aab "; ").length = 2 := by decide +kernel
 have MJ := cQ (di hT.t)
 have k5 : (cF ++ [32]).length = 5 := rfl
 have hpl := hT.G5
 have KN := cP (as := cq r) (B := 2200) hpl
 have Q7 := jY (cq r) hpl
 refine ⟨_, rfl, _, _, rfl, rfl, (by rw [f1, aD, aD, aaA]; omega), ?_⟩
 refine ⟨_, _, rfl, rfl, (by rw [f1, f2, cx, aD, aD, aaA, aac]; show _ + 2 ≤ _; omega), ?_⟩
 rw [f1, f2, cx, cx]
 refine ⟨rfl, _, rfl, _, lr, (cq r).map S, rfl, rfl, .inl (aH.of (by rw [← dE]; exact hr5)), (by rw [Lm9, f4]; omega), ?_⟩
 rw [f3, qT]
 refine ⟨_, _, rfl, rfl, ?_, ?_⟩
 ·rw [aD, aD, aaA, aac, aac]
  have e2 : ([58, 32] : Cs).length = 2 := rfl
  omega
 ·rw [cx]
  have e : ((cF ++ [32] ++ r.title) ++ [58, 32]) ++ cE [59, 32] (cq r) = bE r := by
   unfold bE
   simp
  rw [e]
  exact q _ s6
theorem rl : ax ["_law_kind"] ["_law_kind"] (ao fS) := ⟨rfl, rfl, rfl, by decide +kernel, rfl, by decide +kernel, by decide +kernel⟩
theorem rm (F : bw K "_law_kind_text" "_law_kind_text" fS f fd) (KP : mg "str" = none) (Kt : mg "int" = none) : a4 P w K mg base da 1 f fd ["_law_kind"] (pB K) := by
 refine F.ok rl (fun vs H Q E h => ?_) (fun cb A outer s H vs Q E hr h => ?_)
 ·obtain ⟨v, k, rfl, _⟩ := h
  rfl
 obtain ⟨v, ⟨n, ct, b⟩, rfl, ⟨t, rfl, ht⟩, hn, hc, q⟩ := h
 have hc : ct ≤ 4 := hc
 have hn : n.length ≤ 12 := hn
 have ht : cK K H t [tx n, .int ct, .bl b] := ht
 refine ⟨_, (@ai _ _ _ (@aC _ _ _ _ (@av _ _ _ _ _ _ _ _ (@aJ _) (@av _ _ _ _ _ _ _ _ (@aJ _) (@av _ _ _ _ _ _ _ _ (@aJ _) (@aq _ _ _ _ _ _ _ (@aG _) (@a7 _ _ _ _ (@aa _ _ _ _ _ (@ar _ _ _ _) (@aa _ _ _ _ _ (@ar _ _ _ _) (@ab _) (by rfl)) (by rfl))) (@dY _ _ _ _ _ _ _ _ _ (@Hs _) rfl Kt PyProof.Rows.Boot.«int» (@aa _ _ _ _ _ (@aq _ _ _ _ _ _ _ (@aI _) (pv 0) (@af _ _ _ _) (fun _ _ => rfl)) (@ab _) (by rfl)) (by decide) (by decide) (by rfl) (by rfl)) (fun _ _ => rfl)) (@aq _ _ _ _ _ _ _ (@aI _) (pv 0) (@af _ _ _ _) (fun _ _ => rfl))) (@ar _ _ _ _)) (@dY _ _ _ _ _ _ _ _ _ (@qo _) rfl KP PyProof.Rows.Boot.«str» (@aa _ _ _ _ _ (@aq _ _ _ _ _ _ _ (@aI _) (pv 0) (@af _ _ _ _) (fun _ _ => rfl)) (@ab _) (by rfl)) (by decide) (by decide) (by rfl) (by rfl))))), ?_⟩
 refine ⟨(by show 2 ≤ aai; decide), fun l hl => ?_⟩
 have s1 := aj hl (.lst [V.str (aab "passing "), V.str (aab "lasting ")])
 have hl' := ae (H := H) (a := l) (o := .lst [V.str (aab "passing "), V.str (aab "lasting ")])
 generalize upd H l (.lst [V.str (aab "passing "), V.str (aab "lasting ")]) = H1 at s1 hl' ⊢
 have AG := ht.same s1
 refine ⟨_, rfl, t, _, 2, _, rfl, rfl, AG, rfl, .inr ⟨b, rfl, ?_⟩⟩
 have Qw : qq [V.str (aab "passing "), V.str (aab "lasting ")] (if b = true then 1 else 0) = some (tx ((if b = true then a6 else a5) ++ [32])) := by
  have e1 : V.str (aab "passing ") = tx (a5 ++ [32]) := by decide +kernel
  have e2 : V.str (aab "lasting ") = tx (a6 ++ [32]) := by decide +kernel
  rw [e1, e2]
  cases b
  ·exact bU (j := 0) rfl
  ·exact bU (j := 1) rfl
 have Nm : ((if b = true then a6 else a5) ++ [32]).length = 8 := by cases b <;> rfl
 have e0 : (aab " ") = S [32] := by decide +kernel
 have e1 : (aab " ").length = 1 := by decide +kernel
 refine ⟨l, _, _, _, rfl, rfl, aH.of hl', Qw, _, rfl, t, _, 0, _, rfl, rfl, AG, rfl, _, _, rfl, rfl, (by rw [aD, aD, Nm, aaA]; omega), ?_⟩
 refine ⟨_, _, rfl, rfl, (by simp only [strLen_append, aD, e1, Nm]; rw [aaA]; omega), ?_⟩
 refine ⟨_, rfl, t, _, 1, _, rfl, rfl, AG, rfl, _, rfl, Ao hc, ?_⟩
 rw [An hc, e0, cx, cx]
 refine ⟨_, _, rfl, rfl, (by simp only [aD, aac, Nm, aag, aa6]; rw [aaA]; omega), ?_⟩
 rw [cx]
 have e : (((if b = true then a6 else a5) ++ [32]) ++ n ++ [32]) ++ [48 + ct] = az ⟨n, ct, b⟩ := by
  unfold az
  simp
 rw [e]
 exact q _ s1
end
end iS
namespace iS
open PySem L2 cM Bk
set_option maxHeartbeats 4000000
section
variable {P : aaL} {w : aa9} {K : aaa} {mg : Str → Option aad} {base : Heap} {f : aaC} {fd : abd} {c : Cl}
theorem j0 : ax ["_law_number", "_law_some"] ["_law_number"] (ao gM) := ⟨rfl, rfl, rfl, by decide +kernel, rfl, by decide +kernel, by decide +kernel⟩
theorem sy (F : bw K "_law_keywords" "_law_keywords" gM f fd) (bK : mg "range" = none) : a4 P w K mg base da 1 f fd ["_law_number"] FC := by
 refine F.ok j0 (fun vs H Q E h => ?_) (fun cb A outer s H vs Q E hr h => ?_)
 ·obtain ⟨n, rfl, _⟩ := h
  rfl
 obtain ⟨n, rfl, q⟩ := h
 refine ⟨_, (@ag _ _ _ _ _ (@aw _ _ (1) _ _ _ _ j0.nd rfl (acn rfl) (@a7 _ _ _ _ (@aa _ _ _ _ _ (@ar _ _ _ _) (@aa _ _ _ _ _ (@ar _ _ _ _) (@aa _ _ _ _ _ (@ar _ _ _ _) (@aa _ _ _ _ _ (@ar _ _ _ _) (@aa _ _ _ _ _ (@ar _ _ _ _) (@aa _ _ _ _ _ (@ar _ _ _ _) (@aa _ _ _ _ _ (@ar _ _ _ _) (@aa _ _ _ _ _ (@ar _ _ _ _) (@aa _ _ _ _ _ (@ar _ _ _ _) (@aa _ _ _ _ _ (@ar _ _ _ _) (@ab _) (by rfl)) (by rfl)) (by rfl)) (by rfl)) (by rfl)) (by rfl)) (by rfl)) (by rfl)) (by rfl)) (by rfl))) (by rfl) (by first | exact .inl rfl | exact .inr rfl | assumption)) (@ai _ _ _ (@aC _ _ _ _ (@bA _ _ _ _ _ _ _ _ _ _ _ [1, 0] rfl (by kernel_rfl) (@bS _ _ _ _ _ _ rfl bK (@aa _ _ _ _ _ (@af _ _ _ _) (@ab _) (by rfl)) (by rfl)) (fun _ _ _ _ _ => (@bj _)) (fun _ _ _ _ _ => (@aq _ _ _ _ _ _ (zX K) (@aG _) (pv 1) (@av _ _ _ _ _ _ _ _ (@bF _) (@av _ _ _ _ _ _ _ _ (@cj _) (pv 2) (@av _ _ _ _ _ _ _ _ (@mN _) (@af _ _ _ _) (pv 0))) (@af _ _ _ _)) (fun _ _ => rfl))) (by intro _; rfl))))), ?_⟩
 have ek : [V.str (aab "take"), V.str (aab "keep"), V.str (aab "look"), V.str (aab "put"), V.str (aab "tell"), V.str (aab "same"), V.str (aab "unlike"), V.str (aab "rule"), V.str (aab "passing"), V.str (aab "lasting")] = v8.map tx := by decide +kernel
 refine ⟨(by show 10 ≤ aai; decide), fun l hl => ?_⟩
 rw [ek]
 have s1 := aj hl (.lst (v8.map tx))
 have hl' := ae (H := H) (a := l) (o := .lst (v8.map tx))
 generalize upd H l (.lst (v8.map tx)) = H1 at s1 hl' ⊢
 refine ⟨8, rfl, by decide, by decide, fun D hD => ?_⟩
 refine df (n := 8) (lo := 0) (by decide) (fun i ys H' => ah H1 H' ∧ H' D = some (.lst ys) ∧ ys = ((abj i).map (kwAt n)).map tx) ⟨aj hD _, ae, rfl⟩ (fun i ys H' p => ⟨p.2.1, ?_⟩) (fun i ys H' hi p => ?_) (fun ys H' p => ?_)
 ·rw [p.2.2, Lm9, Lm9, List.length_range]
  exact aar _
 ·obtain ⟨sm, ud, rfl⟩ := p
  unfold vf
  simp only [if_true]
  have Qw : qq (v8.map tx) (((n : Int) + 3 * (0 + (i : Int))) % 10) = some (tx (kwAt n i)) := by
   have e : ((n : Int) + 3 * (0 + (i : Int))) % 10 = (((n + 3 * i) % 10 : Nat) : Int) := by omega
   rw [e]
   refine bU ?_
   have rB : (n + 3 * i) % 10 < v8.length := Nat.mod_lt _ (by decide)
   rw [aa2, Ge9 rB]
   unfold kwAt
   rw [Gd9, Ge9 rB]
   rfl
  refine ⟨_, rfl, _, rfl, _, rfl, _, _, rfl, rfl, .inl ⟨by decide, by decide⟩, _, _, rfl, rfl, _, _, rfl, rfl, (by show (0 : Int) < 10; decide), l, _, _, _, rfl, rfl, aH.of (sm _ _ hl'), Qw, ?_⟩
  refine ⟨ud, ah.aQ sm hD _, ae, ?_⟩
  rw [acg, aan, aan]
  rfl
 ·obtain ⟨sm, ud, rfl⟩ := p
  have z := Kg (n % 10) (Nat.mod_lt _ (by decide))
  rw [HV] at z
  exact q D (zH n) H' (ah.trans s1 sm) (s1.free hD) ud rfl z.1 z.2
theorem NL : ∀ (j : Nat) (h : j < [V.int 0, .int 1, .int 0, .int 1, .int 0, .int 0, .int 2].length), ∃ m : Nat, [V.int 0, .int 1, .int 0, .int 1, .int 0, .int 0, .int 2][j] = .int (m : Int) ∧ m ≤ 2
 | 0, _ => ⟨0, rfl, by decide⟩
 | 1, _ => ⟨1, rfl, by decide⟩
 | 2, _ => ⟨0, rfl, by decide⟩
 | 3, _ => ⟨1, rfl, by decide⟩
 | 4, _ => ⟨0, rfl, by decide⟩
 | 5, _ => ⟨0, rfl, by decide⟩
 | 6, _ => ⟨2, rfl, by decide⟩
theorem dQ : ax ["_law_line", "_law_seed", "_law_text", "_law_k"] ["_law_line", "_law_seed"] (ao jg) := ⟨rfl, rfl, rfl, by decide +kernel, rfl, by decide +kernel, by decide +kernel⟩
theorem wI (F : bw K "_law_spread" "_law_spread" jg f fd) (aX : mg "len" = none) (bK : mg "range" = none) : a4 P w K mg base da 1 f fd ["_law_line", "_law_seed"] v9 := by
 refine F.ok dQ (fun vs H Q E h => ?_) (fun cb A outer s H vs Q E hr h => ?_)
 ·obtain ⟨p, n, rfl, _⟩ := h
  rfl
 obtain ⟨p, n, rfl, hp, q⟩ := h
 refine ⟨_, (@ag _ _ _ _ _ (@aw _ _ (2) _ _ _ _ dQ.nd rfl (aaM rfl) (@cf _ _ _ _ _ _ _ _ _ _ (@kh _) (@ar _ _ _ _) (@eO _) (@b7 _ _ _ (@av _ _ _ _ _ _ _ _ (@bF _) (pv 1) (@af _ _ _ _)))) (by rfl) (by first | exact .inl rfl | exact .inr rfl | assumption)) (@ag _ _ _ _ _ (@cL _ _ _ _ _ _ _ _ aaP rfl (@bS _ _ _ _ _ _ rfl bK (@aa _ _ _ _ _ (@aM _ _ _ _ _ _ _ _ _ (@d3 _) rfl aX aaI (@aa _ _ _ _ _ (pv 0) (@ab _) (by rfl)) (by decide) (by decide) (by rfl) (by rfl)) (@ab _) (by rfl)) (by rfl)) (@bN _ _ (3) _ dQ.nd rfl (aaM rfl) (by first | exact .inl rfl | exact .inr rfl | assumption)) (@ag _ _ _ _ _ (@aw _ _ (2) _ _ _ _ dQ.nd rfl (aaM rfl) (@av _ _ _ _ _ _ _ _ (@aJ _) (pv 2) (@aq _ _ _ _ _ _ _ (@fN _) (pv 0) (pv 3) (fun _ _ => rfl))) (by rfl) (by first | exact .inl rfl | exact .inr rfl | assumption)) (@ai _ _ _ (@aV _ _ _ _ _ _ _ _ (PW.pt (iT (ay eS (aq fN (pv 0) (pv 3) (fun _ _ => rfl)) ar (by with_unfolding_all rfl)) (j8 (ay eS (cf kh (pv 0) (b7 (av cj (pv 3) af)) (b7 (av cj (pv 3) af))) ar (by with_unfolding_all rfl))))) (@ai _ _ _ (@aw _ _ (2) _ _ _ _ dQ.nd rfl (aaM rfl) (@av _ _ _ _ _ _ _ _ (@aJ _) (pv 2) (@cf _ _ _ _ _ _ _ _ _ _ (@kh _) (@ar _ _ _ _) (@eO _) (@b7 _ _ _ (@aq _ _ _ _ _ _ _ (@aG _) (@a7 _ _ _ _ (@aa _ _ _ _ _ (@af _ _ _ _) (@aa _ _ _ _ _ (@af _ _ _ _) (@aa _ _ _ _ _ (@af _ _ _ _) (@aa _ _ _ _ _ (@af _ _ _ _) (@aa _ _ _ _ _ (@af _ _ _ _) (@aa _ _ _ _ _ (@af _ _ _ _) (@aa _ _ _ _ _ (@af _ _ _ _) (@ab _) (by rfl)) (by rfl)) (by rfl)) (by rfl)) (by rfl)) (by rfl)) (by rfl))) (@av _ _ _ _ _ _ _ _ (@bF _) (@av _ _ _ _ _ _ _ _ (@cj _) (pv 1) (@av _ _ _ _ _ _ _ _ (@mN _) (pv 3) (pv 3))) (@af _ _ _ _)) (fun _ _ => rfl))))) (by rfl) (by first | exact .inl rfl | exact .inr rfl | assumption))) (@aE _)))) (by intro _; rfl)) (@ai _ _ _ (@aC _ _ _ _ (@av _ _ _ _ _ _ _ _ (@aJ _) (pv 2) (@cf _ _ _ _ _ _ _ _ _ _ (@kh _) (@ar _ _ _ _) (@eO _) (@b7 _ _ _ (@av _ _ _ _ _ _ _ _ (@bF _) (pv 1) (@af _ _ _ _))))))))), ?_⟩
 have b1 : (aab " ") = S [32] := by decide +kernel
 have b2 : (aab "  ") = S [32, 32] := by decide +kernel
 have b3 : (aab "   ") = S [32, 32, 32] := by decide +kernel
 obtain ⟨m1, e1, ND⟩ : ∃ m : Nat, (n : Int) % 2 = (m : Int) ∧ m ≤ 1 := ⟨n % 2, by omega, by omega⟩
 obtain ⟨m4, e4, Xo⟩ : ∃ m : Nat, (n : Int) % 4 = (m : Int) ∧ m ≤ 3 := ⟨n % 4, by omega, by omega⟩
 have tk : ∀ {T : Cs} {m : Nat}, (∀ c ∈ T, c = 32) → m ≤ T.length → T.take m = aaW m 32 := fun {T m} hT hm => by
  refine List.eq_replicate_iff.mpr ⟨by rw [aaH]; omega, fun c hc => hT c (abD hc)⟩
 refine ⟨_, rfl, _, _, rfl, rfl, (by show (0 : Int) < 2; decide), _, rfl, _, rfl, (by rw [b1, aD, aaA]; decide), ?_⟩
 rw [b1, e1, ij (T := [32]) (by show m1 ≤ 1; exact ND), tk (T := [32]) (by decide) (by show m1 ≤ 1; exact ND)]
 refine ⟨_, rfl, _, rfl, (by rw [aD, aaA]; omega), ?_⟩
 rw [aD]
 refine ⟨(p.length : Int), rfl, by omega, by omega, ?_⟩
 rw [show ((p.length : Nat) : Int).toNat = p.length from abO _]
 have X6 : m5 cw 32 = true := by decide +kernel
 have X7 : ∀ m, (aaW m 32).all (m5 cw) = true := fun m => qP X6 m
 refine g9 (lo := 0) (n := p.length) (fun i σ H' => ah H H' ∧ ∃ (t : Cs) (o : Option V), toks (t ++ p.drop i) = toks p ∧ (p.all (m5 cw) = true → t.all (m5 cw) = true) ∧ t.length ≤ 3 * i + 1 ∧ σ = [some (tx p), some (.int n), some (tx t), o]) ⟨ah.refl _, aaW m1 32, none, ?_, (fun _ => X7 m1), (by rw [abz]; omega), rfl⟩ ?_ ?_
 ·rw [acM, dc]
 ·rintro i σ H' hi ⟨sm, t, o, ht, hok, Pj, rfl⟩
  have Qw : qq (S p).cps.toList (0 + (i : Int)) = some p[i] := by
   rw [ab2, bq]
   exact bU (Ge9 hi)
  have eC : (⟨#[p[i]]⟩ : Str) = S [p[i]] := rfl
  refine ⟨_, rfl, _, rfl, _, rfl, S p, _, _, rfl, rfl, (by rw [aD, aaA]; omega), Qw, _, _, rfl, rfl, (by rw [eC, aD, aD, aaA]; show _ + 1 ≤ _; omega), ?_⟩
  rw [eC, cx]
  refine nv ?_
  dsimp only
  have X8 : p.all (m5 cw) = true → (t ++ [p[i]]).all (m5 cw) = true := fun h => by
   rw [aaY, hok h, abc]
   rw [aaS] at h
   rw [h _ (aaq hi)]
   rfl
  have fin : ∀ (m : Nat), m ≤ 2 → (m = 0 ∨ p[i] ∈ Ki ∨ (∀ c ∈ (p.drop (i + 1)).head?, c ∈ RA)) → ∀ H2, ah H H2 → ah H H2 ∧ ∃ (t' : Cs) (o : Option V), toks (t' ++ p.drop (i + 1)) = toks p ∧ (p.all (m5 cw) = true → t'.all (m5 cw) = true) ∧ t'.length ≤ 3 * (i + 1) + 1 ∧ [some (tx p), some (.int (n : Int)), some (tx ((t ++ [p[i]]) ++ aaW m 32)), some (.int (0 + (i : Int)))] = [some (tx p), some (.int (n : Int)), some (tx t'), o] := fun m hm hs H2 s2 => ⟨s2, (t ++ [p[i]]) ++ aaW m 32, _, Kj hi ht m hs, (fun h => by rw [aaY, X8 h, X7]; rfl), (by simp only [aac, abz, aag, aa6]; omega), rfl⟩
  refine ⟨_, rfl, _, rfl, S p, _, _, rfl, rfl, (by rw [aD, aaA]; omega), Qw, _, _, rfl, rfl, _, rfl, ?_⟩
  rw [abE]
  have cm : LI (0 + (i : Int)) (0 + (i : Int)) := by left; omega
  have e7 : (aab "(),;:= ").cps.toList = Ki := by decide +kernel
  have e6 : (aab "(),;:=").cps.toList = RA := by decide +kernel
  rw [e7]
  by_cases h1 : p[i] ∈ Ki
  ·rw [decide_eq_true h1]
   refine dq (dq ?_)
   refine ⟨_, rfl, (by show 7 ≤ aai; decide), fun l7 SV => ?_⟩
   have s7 := aj SV (.lst [V.int 0, .int 1, .int 0, .int 1, .int 0, .int 0, .int 2])
   obtain ⟨j, hj, ej⟩ := gN (xs := [V.int 0, .int 1, .int 0, .int 1, .int 0, .int 0, .int 2]) (v := (n : Int) + (0 + (i : Int)) * (0 + (i : Int))) (by decide)
   obtain ⟨m, em, hm⟩ := NL j hj
   rw [em] at ej
   refine ⟨_, rfl, _, rfl, _, rfl, _, _, rfl, rfl, cm, _, _, rfl, rfl, _, _, rfl, rfl, (by show (0 : Int) < 7; decide), l7, _, _, _, rfl, rfl, aH.of ae, ej, _, rfl, _, rfl, (by rw [b2, aD, aaA]; decide), ?_⟩
   rw [b2, ij (T := [32, 32]) (by show m ≤ 2; exact hm), tk (T := [32, 32]) (by decide) (by show m ≤ 2; exact hm)]
   refine ⟨_, _, rfl, rfl, (by rw [aD, aD, aaA, aac, abz]; show _ + 1 + _ ≤ _; omega), ?_⟩
   rw [cx]
   exact fin m hm (.inr (.inl h1)) _ (ah.trans sm s7)
  ·rw [decide_eq_false h1]
   refine bb ?_
   refine ⟨_, rfl, _, rfl, _, _, rfl, rfl, _, rfl, _, rfl, _, _, rfl, rfl, _, rfl, S p, rfl, (by rw [aD, aaA]; omega), _, _, rfl, rfl, _, rfl, ?_⟩
   have key : ∀ z, acz (S p) (some (0 + (i : Int) + 1)) (some (0 + (i : Int) + 2)) = z → (!(ab3 (aab "(),;:=") z 0 (aab "(),;:=").length 1).isEmpty) = true → ∀ c ∈ (p.drop (i + 1)).head?, c ∈ RA := by
    intro z hz hb c hc
    by_cases h : i + 1 < p.length
    ·have e := Af (x := S p) (p := i + 1) (n := 1) (by rw [aD]; omega)
     rw [bq, abt h, aee, ad1] at e
     rw [show (0 + (i : Int) + 1) = ((i + 1 : Nat) : Int) by omega, show (0 + (i : Int) + 2) = ((i + 1 + 1 : Nat) : Int) by omega, e] at hz
     rw [← hz, show S [p[i + 1]] = (⟨#[p[i + 1]]⟩ : Str) from rfl, abE, e6] at hb
     rw [abt h, List.head?_cons, Option.mem_some_iff] at hc
     rw [← hc]
     exact of_decide_eq_true hb
    ·rw [acF (by omega)] at hc
     cases hc
   have key := key _ rfl
   revert key
   generalize (!(ab3 (aab "(),;:=") (acz (S p) (some (0 + (i : Int) + 1)) (some (0 + (i : Int) + 2))) 0 (aab "(),;:=").length 1).isEmpty) = b
   intro key
   cases b with
   | true =>
    refine dq ?_
    refine ⟨_, rfl, (by show 7 ≤ aai; decide), fun l7 SV => ?_⟩
    have s7 := aj SV (.lst [V.int 0, .int 1, .int 0, .int 1, .int 0, .int 0, .int 2])
    obtain ⟨j, hj, ej⟩ := gN (xs := [V.int 0, .int 1, .int 0, .int 1, .int 0, .int 0, .int 2]) (v := (n : Int) + (0 + (i : Int)) * (0 + (i : Int))) (by decide)
    obtain ⟨m, em, hm⟩ := NL j hj
    rw [em] at ej
    refine ⟨_, rfl, _, rfl, _, rfl, _, _, rfl, rfl, cm, _, _, rfl, rfl, _, _, rfl, rfl, (by show (0 : Int) < 7; decide), l7, _, _, _, rfl, rfl, aH.of ae, ej, _, rfl, _, rfl, (by rw [b2, aD, aaA]; decide), ?_⟩
    rw [b2, ij (T := [32, 32]) (by show m ≤ 2; exact hm), tk (T := [32, 32]) (by decide) (by show m ≤ 2; exact hm)]
    refine ⟨_, _, rfl, rfl, (by rw [aD, aD, aaA, aac, abz]; show _ + 1 + _ ≤ _; omega), ?_⟩
    rw [cx]
    exact fin m hm (.inr (.inr (key rfl))) _ (ah.trans sm s7)
   | false =>
    refine bb ?_
    have z := fin 0 (by decide) (.inl rfl) H' sm
    rw [aef, aaU] at z
    exact z
 ·rintro σ H' ⟨sm, t, o, ht, hok, Pj, rfl⟩
  refine ⟨_, rfl, _, rfl, _, _, rfl, rfl, (by show (0 : Int) < 4; decide), _, rfl, _, rfl, (by rw [b3, aD, aaA]; decide), ?_⟩
  rw [b3, e4, ij (T := [32, 32, 32]) (by show m4 ≤ 3; exact Xo), tk (T := [32, 32, 32]) (by decide) (by show m4 ≤ 3; exact Xo)]
  refine ⟨_, _, rfl, rfl, (by rw [aD, aD, aaA, abz]; omega), ?_⟩
  rw [cx]
  rw [List.drop_length, aaU] at ht
  exact q _ _ sm ⟨by rw [vR]; exact ht, fun h => by rw [aaY, hok h, X7]; rfl, by rw [aac, abz]; omega⟩
end
end iS
namespace iS
open PySem L2 cM Bk
set_option maxHeartbeats 4000000
section
variable {P : aaL} {w : aa9} {K : aaa} {mg : Str → Option aad} {base : Heap} {f : aaC} {fd : abd} {c : Cl}
theorem jq : ax ["_law_found", "_law_due", "_law_k", "_law_one"] ["_law_found", "_law_due"] (ao lC) := ⟨rfl, rfl, rfl, by decide +kernel, rfl, by decide +kernel, by decide +kernel⟩
theorem x5 (F : bw K "_law_looks" "_law_looks" lC f fd) (Ts : uh K c.same) (Tu : uh K c.unlike) (Qq : ∀ b, Met P w K mg base (c.look b) "word" 2 ["self"] (ky b)) (kT : ∀ (b : Bool) {H : Hp} {a dx : aaC} {fs : List (Str × V)}, H a = some (.ins (c.look b) dx fs) → mO K H (.ref a) (.ref (c.look b))) (kS : ∀ b, abC K (.ref (c.look b)) (.ref c.same) = some b) (kU : ∀ b, abC K (.ref (c.look b)) (.ref c.unlike) = some (!b)) (PQ : mg "Same" = some (.ref c.same)) (K2 : mg "Unlike" = some (.ref c.unlike)) (dm : mg "isinstance" = none) (aX : mg "len" = none) (qd : mg "list" = none) (bK : mg "range" = none) : a4 P w K mg base da 3 f fd ["_law_found", "_law_due"] (wa K c) := by
 refine F.ok jq (fun vs H Q E h => ?_) (fun cb A outer s H vs Q E hr h => ?_)
 ·obtain ⟨v, ld, H0, ks, rfl, _⟩ := h
  rfl
 obtain ⟨v, ld, H0, ks, rfl, ⟨lf, fv, rfl, nf, hf, pf⟩, ⟨dv, hd, pd⟩, h20, hN, q⟩ := h
 refine ⟨_, (ag (aV (PW.pt (iT (iZ (cR (aM mQ rfl dm abB (aa (pv 0) (aa (zR rfl qd PyProof.Rows.Boot.«list» (v := .ty "list") rfl) ab))))) (j8 (ay fJ (aM aF rfl aX aaI (aa (pv 0) ab)) (aM aF rfl aX aaI (aa (pv 1) ab)) (aL _)))))
 (ai (aC c7))
 aE)
 (ag (cL aaP rfl (bS rfl bK (aa (aM aF rfl aX aaI (aa (pv 1) ab)) ab)) (bN (i := 2) jq.nd rfl (aaM rfl))
 (ag (aw (i := 3) jq.nd rfl (aaM rfl) (aq aG (pv 0) (pv 2) (fun _ _ => rfl)))
 (ag (aV (PW.pt (iT (ay fJ (aM qz rfl dm abB (aa (pv 3) (aa (de (v := .ref _) rfl PQ rfl) ab))) (dF cS (aq aI (aq aG (pv 1) (pv 2) (fun _ _ => rfl)) af (fun _ _ => rfl)) ar (aL _)) (aL _)) (j8 (ay fJ (aM qz rfl dm abB (aa (pv 3) (aa (de (v := .ref _) rfl K2 rfl) ab))) (dF cS (aq aI (aq aG (pv 1) (pv 2) (fun _ _ => rfl)) af (fun _ _ => rfl)) ar (aL _)) (aL _)))))
 (ai (aC c7))
 aE)
 (ai (aV (ay (OS hr.units) (cT (aa (pe_fld (pv 3) rfl) (aa (y2 (pv 3) (k := 2) (hr.mono (by decide))) (aa (pe_fld (pv 3) rfl) ab)))) (aq aG (pv 1) (pv 2) (fun _ _ => rfl)) (aL _))
 (ai (aC c7))
 aE)))))
 (ai (aC c7)))), ?_⟩
 have zf := aam pf
 have zd := aam pd
 have oo : ∀ b, CM K (c.look b) ∧ cz K (c.look b) "left" ∧ cz K (c.look b) "right" := fun b => by
  cases b with
  | true => exact ⟨Ts.cl, Ts.nL, Ts.nR⟩
  | false => exact ⟨Tu.cl, Tu.nL, Tu.nR⟩
 refine ⟨_, rfl, _, "list", _, true, rfl, .lst hf, nq, _, rfl, bb ?_⟩
 refine ⟨_, rfl, lf, _, rfl, .inl (aH.of hf), _, rfl, ld, _, rfl, .inl (aH.of hd), rfl, _, rfl, ?_⟩
 rw [show fv.length = dv.length by omega]
 have e0 : (!decide (V.int ((dv.length : Nat) : Int) = V.int ((dv.length : Nat) : Int))) = false := by simp
 rw [e0]
 refine bb ?_
 refine ⟨_, rfl, ld, _, rfl, .inl (aH.of hd), ?_⟩
 refine ⟨(dv.length : Int), rfl, by omega, by omega, ?_⟩
 rw [show ((dv.length : Nat) : Int).toNat = dv.length from abO _]
 refine g9 (lo := 0) (n := dv.length) (fun i σ H' => ah H H' ∧ ∃ (o1 o2 : Option V), σ = [some (.ref lf), some (.ref ld), o1, o2]) ⟨ah.refl _, none, none, rfl⟩ ?_ ?_
 ·rintro i σ H' hi ⟨sm, o1, o2, rfl⟩
  have FT : i < fv.length := by omega
  have hiK : i < ks.length := by omega
  have Ny : qq fv (0 + (i : Int)) = some fv[i] := by rw [ab2]; exact bU (Ge9 FT)
  have U5 : qq dv (0 + (i : Int)) = some dv[i] := by rw [ab2]; exact bU (Ge9 hi)
  obtain ⟨b', Lv, fb, e', nb, hb', f1, f2, f3, f4⟩ := paired_at pf i hiK FT
  obtain ⟨t, et, ht⟩ := paired_at pd i hiK hi
  rw [e'] at Ny
  rw [et] at U5
  have ht := ht.same sm
  have Lw := sm _ _ hb'
  generalize ks[i] = kk at ht Lw f1 f2
  refine ⟨_, rfl, _, rfl, lf, _, _, _, rfl, rfl, aH.of (sm _ _ hf), Ny, ?_⟩
  have ty : mO K H' (.ref b') (.ref (c.look kk.same)) := kT _ Lw
  have X9 := sm _ _ hd
  have e1 : ∀ b, (!decide (V.bl b = V.bl (decide (tx (fK b) = V.str (aab "same"))))) = false := by intro b; cases b <;> decide +kernel
  have e2 : ∀ b, (!decide (V.bl (!b) = V.bl (decide (tx (fK b) = V.str (aab "unlike"))))) = false := by intro b; cases b <;> decide +kernel
  refine ⟨_, rfl, _, c.same, _, _, rfl, ty, kS _, _, rfl, _, rfl, ld, _, _, _, rfl, rfl, aH.of X9, U5, t, _, 1, _, rfl, rfl, ht, rfl, rfl, rfl, _, rfl, ?_⟩
  rw [e1]
  refine bb ⟨_, rfl, _, c.unlike, _, _, rfl, ty, kU _, _, rfl, _, rfl, ld, _, _, _, rfl, rfl, aH.of X9, U5, t, _, 1, _, rfl, rfl, ht, rfl, rfl, rfl, _, rfl, ?_⟩
  rw [e2]
  refine bb ?_
  obtain ⟨C1, C2, C3⟩ := oo kk.same
  refine ⟨_, rfl, b', _, Lv, fb, _, rfl, Lw, C1, C2, f1, _, rfl, b', _, Lv, fb, _, _, rfl, Lw, f4, Qq _, b', rfl, _, rfl, b', _, Lv, fb, _, rfl, Lw, C1, C3, f2, (by show 3 ≤ aai; decide), fun t3 UR => ?_⟩
  have s3 := aj UR (.tup [tx kk.l, tx (fK kk.same), tx kk.r])
  have hu := ae (H := H') (a := t3) (o := .tup [tx kk.l, tx (fK kk.same), tx kk.r])
  generalize upd H' t3 (.tup [tx kk.l, tx (fK kk.same), tx kk.r]) = H3 at s3 hu ⊢
  have three : ∀ {a : aaC}, cK K H3 a [tx kk.l, tx (fK kk.same), tx kk.r] → tM K H3 (.tup [.str (S kk.l), .str (S (fK kk.same)), .str (S kk.r)]) (.ref a) := fun h => by
   refine .tup h rfl fun j j1 j2 => ?_
   match j, j1, j2 with
   | 0, _, _ => exact .str _
   | 1, _, _ => exact .str _
   | 2, _, _ => exact .str _
  refine ⟨_, rfl, _, rfl, ld, _, _, _, rfl, rfl, aH.of (s3 _ _ X9), U5, ?_⟩
  refine ⟨_, _, three (cK.of hu), three (ht.same s3), (by show 1 ≤ 20; decide), ⟨_, rfl⟩, ⟨_, rfl⟩, _, rfl, ?_⟩
  rw [vQ]
  exact bb ⟨ah.trans sm s3, _, _, rfl⟩
 ·rintro σ H' ⟨sm, o1, o2, rfl⟩
  exact q H' sm
theorem oB : ax ["_law_rule_here", "_law_title", "_law_due", "_law_told"] ["_law_rule_here", "_law_title", "_law_due"] (ao ji) := ⟨rfl, rfl, rfl, by decide +kernel, rfl, by decide +kernel, by decide +kernel⟩
theorem wJ (F : bw K "_law_fields" "_law_fields" ji f fd) (T : xC K c.rule) (ib : Met P w K mg base c.rule "calls" 1 ["self"] (uQ K c)) (d5 : br P w K mg base "_law_heads" 1 ["_law_facts_here"] (uW K)) (lL : br P w K mg base "_law_looks" 3 ["_law_found", "_law_due"] (wa K c)) (dm : mg "isinstance" = none) (PR : mg "bool" = none) (aX : mg "len" = none) : a4 P w K mg base da 4 f fd ["_law_rule_here", "_law_title", "_law_due"] (sg K c) := by
 refine F.ok oB (fun vs H Q E h => ?_) (fun cb A outer s H vs Q E hr h => ?_)
 ·obtain ⟨v, t, H0, r, rfl, _⟩ := h
  rfl
 obtain ⟨v, t, H0, r, rfl, hR, ⟨a, b, l, g, p, ht, hA, hB, XZ, hG, X0⟩, hT, h8, q⟩ := h
 refine ⟨_, (ag (aV (PW.pt (iT (ay fJ (pe_fld (pv 0) rfl) (pv 1) (aL _)) (iT (ay (r9 hr.units) (pe_fld (pv 0) rfl) (aq aI (pv 2) af (fun _ _ => rfl)) (aL _)) (iT (ay (r9 hr.units) (pe_fld (pv 0) rfl) (aq aI (pv 2) af (fun _ _ => rfl)) (aL _)) (j8 (ay (r9 hr.units) (pe_fld (pv 0) rfl) (aq aI (pv 2) af (fun _ _ => rfl)) (aL _)))))))
 (ai (aC c7))
 aE)
 (ag (aV (PW.pt (iT (ay (r9 hr.units) (pe_fld (pv 0) rfl) (aq aI (pv 2) af (fun _ _ => rfl)) (aL _)) (j8 (ay (r9 hr.units) (pe_fld (pv 0) rfl) (ak d5 (hr.mono (by decide)) rfl (aa (av gH (aq aI (pv 2) af (fun _ _ => rfl)) (aq aI (pv 2) af (fun _ _ => rfl))) ab)) (aL _)))))
 (ai (aC c7))
 aE)
 (ag (aw (i := 3) oB.nd rfl (aaM rfl) (y1 (pv 0) ib (hr.mono (by decide))))
 (ai (aC (rF (aM mQ rfl dm abB (aa (pv 3) (aa (zR rfl PR PyProof.Rows.boot_bool (v := .ty "bool") rfl) ab))) (rF (dF cS (pv 3) (dF cS (aM aF rfl aX aaI (aa (aq aI (pv 2) af (fun _ _ => rfl)) ab)) af (aL _)) (aL _)) (rE (ak lL (hr.mono (by decide)) rfl (aa (pe_fld (pv 0) rfl) (aa (aq aI (pv 2) af (fun _ _ => rfl)) ab))))))))))), ?_⟩
 obtain ⟨x, dx, fs, rfl, na, hx, RF⟩ := id hR
 obtain ⟨vl, el, PU⟩ := RF.aO
 obtain ⟨vg, eg, lg, ug, rfl, ng, hg, pg⟩ := RF.given
 obtain ⟨vt, et, lt, ut, rfl, nt, Pj, pt⟩ := RF.told
 obtain ⟨va, ea, la, ua, rfl, nta, W9, Xa⟩ := RF.taken
 obtain ⟨vk, ek, lk, uk, rfl, nk, hk, pk⟩ := RF.kept
 obtain ⟨vn, en, ln, rfl, nn, hn⟩ := RF.names
 have Xb := RF.title
 refine ⟨_, rfl, x, c.rule, dx, fs, _, rfl, hx, T.cl, T.n1, Xb, _, rfl, rfl, _, rfl, ?_⟩
 have e0 : (!decide (tx r.title = tx r.title)) = false := by simp
 rw [e0]
 refine bb ?_
 obtain ⟨Iq, Ya, Yb⟩ := id hA
 obtain ⟨KY, hbv, Yc⟩ := id hB
 obtain ⟨gvs, hgv, pgv⟩ := id hG
 obtain ⟨pvs, hpv, ppv⟩ := id X0
 have za := aam Yb
 have zb := aam Yc
 refine ⟨_, rfl, x, c.rule, dx, fs, _, rfl, hx, T.cl, T.n2, ea, _, rfl, t, _, 0, _, rfl, rfl, ht, rfl, nB (aH.of W9) (aH.of Ya) Xa Yb, _, rfl, bb ?_⟩
 refine ⟨_, rfl, x, c.rule, dx, fs, _, rfl, hx, T.cl, T.n3, ek, _, rfl, t, _, 1, _, rfl, rfl, ht, rfl, nB (aH.of hk) (aH.of hbv) pk Yc, _, rfl, bb ?_⟩
 refine ⟨_, rfl, x, c.rule, dx, fs, _, rfl, hx, T.cl, T.n5, eg, _, rfl, t, _, 3, _, rfl, rfl, ht, rfl, nB (aH.of hg) (aH.of hgv) pg pgv, _, rfl, bb ?_⟩
 refine ⟨_, rfl, x, c.rule, dx, fs, _, rfl, hx, T.cl, T.n6, et, _, rfl, t, _, 4, _, rfl, rfl, ht, rfl, DA (aH.of Pj) (aH.of hpv) pt ppv, _, rfl, bb ?_⟩
 refine ⟨_, rfl, x, c.rule, dx, fs, _, rfl, hx, T.cl, T.n7, en, _, rfl, t, _, 0, _, rfl, rfl, ht, rfl, _, rfl, t, _, 1, _, rfl, rfl, ht, rfl, ?_⟩
 refine ⟨a, b, _, _, rfl, rfl, Ya, hbv, (by rw [aaA]; omega), fun MP PH => ?_⟩
 have t8 := aj PH (.lst (Iq ++ KY))
 have KZ := ae (H := H) (a := MP) (o := .lst (Iq ++ KY))
 have SE : Paired (Fact K (upd H MP (.lst (Iq ++ KY)))) (r.take ++ r.keep) (Iq ++ KY) := aR (cB Yb Yc) fun _ _ _ => Fact.sm t8
 generalize upd H MP (.lst (Iq ++ KY)) = H8 at t8 KZ SE ⊢
 refine ⟨MP, r.take ++ r.keep, rfl, ⟨_, KZ, SE⟩, (by rw [aac]; omega), (fun g hg => ?_), fun lh H9 s9 hlh XA => ?_⟩
 ·have z := hT.f g (by
   rcases aax.mp hg with z | z
   ·exact aay _ z
   ·exact aae _ (aay _ z))
  exact ⟨z.n, z.as⟩
 have NM := ah.trans t8 s9
 refine ⟨Alike.texts (bs := (opens (r.take ++ r.keep)).map S) (aH.of (by rw [← dE]; exact NM _ _ hn)) (aH.of (by rw [← dE]; exact XA)), _, rfl, bb ?_⟩
 have SW := hR.keep (Kp.same NM)
 have hx9 := NM _ _ hx
 refine ⟨_, rfl, x, dx, fs, rfl, hx9, RF.calls, H0, _, r, rfl, SW, ?_⟩
 refine ⟨_, rfl, _, "bool", _, true, rfl, .bl _, nq, ?_⟩
 have Yd := NM _ _ Ya
 have ht9 := ht.same NM
 refine ⟨_, rfl, dq ?_⟩
 refine ⟨_, rfl, _, rfl, t, _, 0, _, rfl, rfl, ht9, rfl, a, _, rfl, .inl (aH.of Yd), rfl, rfl, _, rfl, ?_⟩
 have e9 : decide (V.bl (decide (r.take = [])) = V.bl (decide (V.int ((Iq.length : Nat) : Int) = V.int 0))) = true := by
  have e : decide (V.int ((Iq.length : Nat) : Int) = V.int 0) = decide (r.take = []) := by
   rw [decide_eq_decide, ← za]
   constructor
   ·intro z
    exact aaV (by have := V.int.inj z; omega)
   ·intro z
    rw [z]
    rfl
  rw [e]
  simp
 rw [e9]
 refine dq ?_
 refine ⟨_, rfl, x, c.rule, dx, fs, _, rfl, hx9, T.cl, T.n4, el, _, rfl, t, _, 2, _, rfl, rfl, ht9, rfl, ?_⟩
 exact ⟨vl, l, H0, r.aO, rfl, PU.keep (Kp.same NM), XZ.sm NM, hT.few.2.2.1, hT.l, fun H' s' => q H' (ah.trans NM s')⟩
end
end iS
namespace iS
open PySem L2 cM Bk
set_option maxHeartbeats 4000000
section
variable {P : aaL} {w : aa9} {K : aaa} {mg : Str → Option aad} {base : Heap} {f : aaC} {fd : abd}
theorem iA : ax ["_law_line", "_law_sign"] ["_law_line"] (ao jh) := ⟨rfl, rfl, rfl, by decide +kernel, rfl, by decide +kernel, by decide +kernel⟩
theorem wK (F : bw K "_law_closer" "_law_closer" jh f fd) : DI P w K mg base da 1 f fd ["_law_line"] wc := by
 refine F.okT iA (fun vs H Q E h => ?_) (fun cb A outer s H vs Q E hr h => ?_)
 ·obtain ⟨p, rfl, _⟩ := h
  rfl
 obtain ⟨p, rfl, hp, q⟩ := h
 refine ⟨_, cy (MA aaP rfl (Kr (Mz (jZ pF (jZ pF (jZ pF (jZ pF G6)))))) (bN (i := 1) iA.nd rfl (aaM rfl))
  (Az (ai (aw (i := 0) iA.nd rfl (aaM rfl) (bo aaw acE adu G7 (pv 0) (aa (MB (by decide +kernel) (pv 1)) (aa (pv 1) ab)))))))
  (DH (Mu (Pe aaw acE adu G7 (pv 0) (jZ pF (jZ pF G6))))), ?_⟩
 intro t1 h1 t2 h2 t3 h3 t4 h4
 refine ⟨by show 4 ≤ aai; decide, fun l hl => ⟨l, rfl, ⟨_, aH.of ae⟩, ?_⟩⟩
 refine cI (xs := [V.tok (S [44]) t1, .tok (S [59]) t2, .tok (S [58]) t3, .tok (S [61]) t4]) (fun i σ' H' => ah H H' ∧ H' l = some (.lst [V.tok (S [44]) t1, .tok (S [59]) t2, .tok (S [58]) t3, .tok (S [61]) t4]) ∧ ∃ r o, IJ p r ∧ σ' = [some (tx r), o]) ⟨aj hl _, ae, p, none, IJ.refl p, rfl⟩ (fun i σ' H' _ z => aH.of z.2.1) (fun i x σ' H' hx z => ?_) (fun σ' H' z => ?_)
 ·obtain ⟨sm, hL, r, o, hc, rfl⟩ := z
  obtain ⟨c, t, rfl, ht, OV, Sw, hc3⟩ : ∃ c t, x = .tok (S [c]) t ∧ 1 ≤ t ∧ aZ c = false ∧ c ≠ 32 ∧ c < 256 := by
   match i, hx with
   | 0, hx => cases hx; exact ⟨_, _, rfl, h1, by decide, by decide, by decide⟩
   | 1, hx => cases hx; exact ⟨_, _, rfl, h2, by decide, by decide, by decide⟩
   | 2, hx => cases hx; exact ⟨_, _, rfl, h3, by decide, by decide, by decide⟩
   | 3, hx => cases hx; exact ⟨_, _, rfl, h4, by decide, by decide, by decide⟩
  obtain ⟨y, ey, hy⟩ := Ke OV Sw r
  have Qh : (S r).length ≤ 20000 := by rw [aD]; exact aa8 hc.n hp
  have e32 : S [c] ++ aab " " = S [c, 32] := rfl
  refine ⟨_, rfl, rfl, _, rfl, S [c], t, rfl, rfl, (by rw [e32]; show 2 ≤ aai; decide), fun u hu => ⟨_, rfl, ?_⟩⟩
  rw [e32]
  have hne : (S [c, 32] == S [c]) = false := by
   rw [beq_eq_false_iff_ne]
   intro e
   have z := congrArg aeu e
   rw [aD, aD] at z
   exact absurd (show 2 = 1 from z) (by decide)
  refine ⟨S r, S [c, 32], u, S [c], t, rfl, rfl, hu, ht, hne, (by rw [show (S [c]).length = 1 from rfl]; omega), ?_, ?_⟩
  ·rw [ey]
   exact ⟨sm, hL, y, _, hc.trans hy, rfl⟩
  ·exact ⟨sm, hL, r, _, hc, rfl⟩
 ·obtain ⟨sm, hL, r, o, hc, rfl⟩ := z
  obtain ⟨y, ey, hy⟩ := O3 r
  have Qh : (S r).length ≤ 20000 := by rw [aD]; exact aa8 hc.n hp
  refine ⟨_, rfl, rfl, ?_⟩
  intro u1 hu1 u2 hu2
  refine ⟨S r, S [32, 61], u1, S [61], u2, rfl, rfl, hu1, hu2, (by decide +kernel), (by rw [show (S [61]).length = 1 from rfl]; omega), ?_, ?_⟩
  ·rw [ey]
   exact q y H' sm (hc.trans hy)
  ·exact q r H' sm hc
end
end iS
namespace iS
open PySem L2 cM Bk
set_option maxHeartbeats 4000000
section
variable {P : aaL} {w : aa9} {K : aaa} {mg : Str → Option aad} {base : Heap} {f : aaC} {fd : abd} {c : Cl}
theorem dn : ax ["_law_script", "_law_number", "_law_kinds_here", "_law_opens_here", "_law_words_here", "_law_rest", "_law_cells", "_law_due", "_law_title", "_law_plain", "_law_line", "_law_lines", "_law_book", "_law_told"] ["_law_script"] (ao qV) := ⟨rfl, rfl, rfl, by decide +kernel, rfl, by decide +kernel, by decide +kernel⟩
theorem PV (F : bw K "law" "law" qV f fd) (T : Ma K c.book) (b6 : br P w K mg base "_law_cell_at" 1 ["_law_script", "_law_k"] (Fn K)) (aY : br P w K mg base "_law_mix" 1 ["_law_cell", "_law_k"] qM) (lM : br P w K mg base "_law_kinds" 4 ["_law_cell", "_law_sizes"] (vW K)) (dC : br P w K mg base "_law_titles" 3 ["_law_cell", "_law_many"] (i8 dI.cps.toList)) (lN : br P w K mg base "_law_opens" 3 ["_law_cell", "_law_many"] (i8 d7.cps.toList)) (lO : br P w K mg base "_law_words" 3 ["_law_cell", "_law_many"] (i8 OT.cps.toList))
  (gO : br P w K mg base "_law_keywords" 1 ["_law_number"] FC) (oC : br P w K mg base "_law_rule" 4 ["_law_kinds_here", "_law_opens_here", "_law_words_here", "_law_cells", "_law_menu"] (Ax K)) (fW : br P w K mg base "_law_kind_text" 1 ["_law_kind"] (pB K)) (fX : br P w K mg base "_law_rule_text" 2 ["_law_title", "_law_rule_here"] (vZ K)) (jr : br P w K mg base "_law_spread" 1 ["_law_line", "_law_seed"] v9) (js : Pd P w K mg base "_law_closer" 1 ["_law_line"] wc)
  (oE : br P w K mg base "read_book" 9 ["text"] (Fm K c)) (oF : br P w K mg base "book_text" 4 ["book"] (vV K c)) (ju : br P w K mg base "_law_fields" 4 ["_law_rule_here", "_law_title", "_law_due"] (sg K c)) (qd : mg "list" = none) (aX : mg "len" = none) (dm : mg "isinstance" = none) (bK : mg "range" = none) : a4 P w K mg base da 10 f fd ["_law_script"] (GY K) := by
 refine F.ok dn (fun vs H Q E h => ?_) (fun cb A outer s H vs Q E hr h => ?_)
 ·obtain ⟨a, ns, rfl, _⟩ := h
  rfl
 obtain ⟨a, ns, rfl, hS, hn, q⟩ := h
 refine ⟨_, (@HW _ _ _ _ _ (@My _ _ _ _ _ (1) _ dn.nd rfl (aaM rfl) (@HY _ _ _ _ _ _ _ _ _ _ aY (hr.mono (by decide)) rfl (@Kq _ _ _ _ _ (@ak _ _ _ _ _ _ _ _ _ _ b6 (hr.mono (by decide)) rfl (@aa _ _ _ _ _ (pv 0) (@aa _ _ _ _ _ (@af _ _ _ _) (@ab _) (by rfl)) (by rfl)) (by decide) (by rfl) (by rfl)) (@Ko _ _ _ _ _ (@Mx _ _ _ _) (@ab _) (by rfl)) (by rfl)) (by decide) (by rfl) (by rfl)) (by rfl) (by first | exact aaM rfl | exact acn rfl)) (@cy _ _ _ _ _ (@ik _ _ _ (@aw _ _ (2) _ _ _ _ dn.nd rfl (acn rfl) (@ak _ _ _ _ _ _ _ _ _ _ lM (hr.mono (by decide)) rfl (@aa _ _ _ _ _ (@ak _ _ _ _ _ _ _ _ _ _ b6 (hr.mono (by decide)) rfl (@aa _ _ _ _ _ (pv 0) (@aa _ _ _ _ _ (@af _ _ _ _) (@ab _) (by rfl)) (by rfl)) (by decide) (by rfl) (by rfl)) (@aa _ _ _ _ _ (@a7 _ _ _ _ (@aa _ _ _ _ _ (@af _ _ _ _) (@aa _ _ _ _ _ (@af _ _ _ _) (@aa _ _ _ _ _ (@af _ _ _ _) (@aa _ _ _ _ _ (@af _ _ _ _) (@aa _ _ _ _ _ (@af _ _ _ _) (@aa _ _ _ _ _ (@af _ _ _ _) (@aa _ _ _ _ _ (@af _ _ _ _) (@ab _) (by rfl)) (by rfl)) (by rfl)) (by rfl)) (by rfl)) (by rfl)) (by rfl))) (@ab _) (by rfl)) (by rfl)) (by decide) (by rfl) (by rfl)) (by rfl) (by first | exact .inl rfl | exact .inr rfl | assumption))) (@cy _ _ _ _ _ (@ik _ _ _ (@aw _ _ (3) _ _ _ _ dn.nd rfl (aaM rfl) (@ak _ _ _ _ _ _ _ _ _ _ lN (hr.mono (by decide)) rfl (@aa _ _ _ _ _ (@ak _ _ _ _ _ _ _ _ _ _ b6 (hr.mono (by decide)) rfl (@aa _ _ _ _ _ (pv 0) (@aa _ _ _ _ _ (@af _ _ _ _) (@ab _) (by rfl)) (by rfl)) (by decide) (by rfl) (by rfl)) (@aa _ _ _ _ _ (@af _ _ _ _) (@ab _) (by rfl)) (by rfl)) (by decide) (by rfl) (by rfl)) (by rfl) (by first | exact .inl rfl | exact .inr rfl | assumption))) (@cy _ _ _ _ _ (@ik _ _ _ (@aw _ _ (4) _ _ _ _ dn.nd rfl (aaM rfl) (@ak _ _ _ _ _ _ _ _ _ _ lO (hr.mono (by decide)) rfl (@aa _ _ _ _ _ (@ak _ _ _ _ _ _ _ _ _ _ b6 (hr.mono (by decide)) rfl (@aa _ _ _ _ _ (pv 0) (@aa _ _ _ _ _ (@af _ _ _ _) (@ab _) (by rfl)) (by rfl)) (by decide) (by rfl) (by rfl)) (@aa _ _ _ _ _ (@af _ _ _ _) (@ab _) (by rfl)) (by rfl)) (by decide) (by rfl) (by rfl)) (by rfl) (by first | exact .inl rfl | exact .inr rfl | assumption))) (@cy _ _ _ _ _ (@ik _ _ _ (@aV _ _ _ _ _ _ _ _ (@ay _ _ _ _ _ _ _ _ (@cS _) (@av _ _ _ _ _ _ _ _ (@bF _) (pv 1) (@af _ _ _ _)) (@af _ _ _ _) (aL _)) (@ag _ _ _ _ _ (@aw _ _ (5) _ _ _ _ dn.nd rfl (acn rfl) (@ak _ _ _ _ _ _ _ _ _ _ gO (hr.mono (by decide)) rfl (@aa _ _ _ _ _ (@av _ _ _ _ _ _ _ _ (@cC _) (pv 1) (@af _ _ _ _)) (@ab _) (by rfl)) (by decide) (by rfl) (by rfl)) (by rfl) (by first | exact .inl rfl | exact .inr rfl | assumption)) (@ag _ _ _ _ _ (@aw _ _ (2) _ _ _ _ dn.nd rfl (acn rfl) (@bA _ _ _ _ _ _ _ _ _ _ _ [5, 2] rfl (by kernel_rfl) (@bS _ _ _ _ _ _ rfl bK (@aa _ _ _ _ _ (@af _ _ _ _) (@ab _) (by rfl)) (by rfl)) (fun _ _ _ _ _ => (@bj _)) (fun _ _ _ _ _ => (@cT _ _ _ _ _ (@aa _ _ _ _ _ (@aq _ _ _ _ _ _ (zX K) (@aG _) (pv 1) (pv 0) (fun _ _ => rfl)) (@aa _ _ _ _ _ (@aq _ _ _ _ _ _ (ub K) (@aI _) (@aq _ _ _ _ _ _ (zX K) (@aG _) (pv 2) (pv 0) (fun _ _ => rfl)) (@af _ _ _ _) (fun _ _ => rfl)) (@aa _ _ _ _ _ (@aq _ _ _ _ _ _ (ub K) (@aI _) (@aq _ _ _ _ _ _ (zX K) (@aG _) (pv 2) (pv 0) (fun _ _ => rfl)) (@af _ _ _ _) (fun _ _ => rfl)) (@ab _) (by rfl)) (by rfl)) (by rfl)))) (by intro _; rfl)) (by rfl) (by first | exact .inl rfl | exact .inr rfl | assumption)) (@ai _ _ _ (@aw _ _ (4) _ _ _ _ dn.nd rfl (aaM rfl) (@cf _ _ _ _ _ _ _ _ _ _ (@o9 _) (pv 5) (@b7 _ _ _ (@af _ _ _ _)) (@b7 _ _ _ (@af _ _ _ _))) (by rfl) (by first | exact .inl rfl | exact .inr rfl | assumption))))) (@aE _))) (@cy _ _ _ _ _ (@ik _ _ _ (@kg _ (6) _ _ _ _ _ _ _ _ _ _ _ _ _ [0] dn.nd rfl (aaM rfl) rfl (by kernel_rfl) (@bS _ _ _ _ _ _ rfl bK (@aa _ _ _ _ _ (@af _ _ _ _) (@ab _) (by rfl)) (by rfl)) (fun _ _ _ _ _ => (@bj _)) (fun _ _ _ _ _ => (@ak _ _ _ _ _ _ _ _ _ _ b6 (hr.mono (by decide)) rfl (@aa _ _ _ _ _ (pv 1) (@aa _ _ _ _ _ (@av _ _ _ _ _ _ _ _ (@cj _) (@af _ _ _ _) (pv 0)) (@ab _) (by rfl)) (by rfl)) (by decide) (by rfl) (by rfl))) (by rfl) (by intro _; rfl) (by first | exact .inl rfl | exact .inr rfl | assumption))) (@cy _ _ _ _ _ (@ik _ _ _ (@aw _ _ (7) _ _ _ _ dn.nd rfl (aaM rfl) (@ak _ _ _ _ _ _ _ _ _ _ oC (hr.mono (by decide)) rfl (@aa _ _ _ _ _ (pv 2) (@aa _ _ _ _ _ (pv 3) (@aa _ _ _ _ _ (pv 4) (@aa _ _ _ _ _ (pv 6) (@aa _ _ _ _ _ (@a7 _ _ _ _ (@aa _ _ _ _ _ (@af _ _ _ _) (@aa _ _ _ _ _ (@af _ _ _ _) (@aa _ _ _ _ _ (@af _ _ _ _) (@aa _ _ _ _ _ (@af _ _ _ _) (@aa _ _ _ _ _ (@af _ _ _ _) (@aa _ _ _ _ _ (@af _ _ _ _) (@aa _ _ _ _ _ (@af _ _ _ _) (@ab _) (by rfl)) (by rfl)) (by rfl)) (by rfl)) (by rfl)) (by rfl)) (by rfl))) (@ab _) (by rfl)) (by rfl)) (by rfl)) (by rfl)) (by rfl)) (by decide) (by rfl) (by rfl)) (by rfl) (by first | exact .inl rfl | exact .inr rfl | assumption))) (@cy _ _ _ _ _ (@ik _ _ _ (@aw _ _ (8) _ _ _ _ dn.nd rfl (aaM rfl) (@aq _ _ _ _ _ _ _ (@aG _) (@ak _ _ _ _ _ _ _ _ _ _ dC (hr.mono (by decide)) rfl (@aa _ _ _ _ _ (@ak _ _ _ _ _ _ _ _ _ _ b6 (hr.mono (by decide)) rfl (@aa _ _ _ _ _ (pv 0) (@aa _ _ _ _ _ (@af _ _ _ _) (@ab _) (by rfl)) (by rfl)) (by decide) (by rfl) (by rfl)) (@aa _ _ _ _ _ (@af _ _ _ _) (@ab _) (by rfl)) (by rfl)) (by decide) (by rfl) (by rfl)) (@av _ _ _ _ _ _ _ _ (@bF _) (@av _ _ _ _ _ _ _ _ (@cC _) (pv 1) (@af _ _ _ _)) (@af _ _ _ _)) (fun _ _ => rfl)) (by rfl) (by first | exact .inl rfl | exact .inr rfl | assumption))) (@cy _ _ _ _ _ (@ik _ _ _ (@kg _ (9) _ _ _ _ _ _ _ _ _ _ _ _ _ [] dn.nd rfl (aaM rfl) rfl (by kernel_rfl) (@aW _ _ _ _ (pv 2)) (fun _ _ _ _ _ => (@bj _)) (fun _ _ _ _ _ => (@ak _ _ _ _ _ _ _ _ _ _ fW (hr.mono (by decide)) rfl (@aa _ _ _ _ _ (pv 0) (@ab _) (by rfl)) (by decide) (by rfl) (by rfl))) (by rfl) (by intro _; rfl) (by first | exact .inl rfl | exact .inr rfl | assumption))) (@cy _ _ _ _ _ (@ik _ _ _ (@aw _ _ (10) _ _ _ _ dn.nd rfl (aaM rfl) (@ak _ _ _ _ _ _ _ _ _ _ fX (hr.mono (by decide)) rfl (@aa _ _ _ _ _ (pv 8) (@aa _ _ _ _ _ (pv 7) (@ab _) (by rfl)) (by rfl)) (by decide) (by rfl) (by rfl)) (by rfl) (by first | exact .inl rfl | exact .inr rfl | assumption))) (@cy _ _ _ _ _ (@ik _ _ _ (@bf _ _ _ _ (@bo _ _ _ _ _ _ _ _ _ _ _ _ aaD aaE aaG (@bh _) (pv 9) (@aa _ _ _ _ _ (pv 10) (@ab _) (by rfl)) (by rfl) (by rfl) (by rfl) (by rfl) (by rfl)) (by rfl))) (@cy _ _ _ _ _ (@ik _ _ _ (@aV _ _ _ _ _ _ _ _ (@ay _ _ _ _ _ _ _ _ (@cS _) (@av _ _ _ _ _ _ _ _ (@bF _) (@av _ _ _ _ _ _ _ _ (@cC _) (pv 1) (@af _ _ _ _)) (@af _ _ _ _)) (@af _ _ _ _) (aL _)) (@ai _ _ _ (@aw _ _ (10) _ _ _ _ dn.nd rfl (aaM rfl) (@ak _ _ _ _ _ _ _ _ _ _ jr (hr.mono (by decide)) rfl (@aa _ _ _ _ _ (pv 10) (@aa _ _ _ _ _ (@av _ _ _ _ _ _ _ _ (@cC _) (pv 1) (@af _ _ _ _)) (@ab _) (by rfl)) (by rfl)) (by decide) (by rfl) (by rfl)) (by rfl) (by first | exact .inl rfl | exact .inr rfl | assumption))) (@aE _))) (@cy _ _ _ _ _ (@Pb _ _ _ _ _ _ _ _ (@ay _ _ _ _ _ _ _ _ (@cS _) (@av _ _ _ _ _ _ _ _ (@bF _) (@av _ _ _ _ _ _ _ _ (@cC _) (pv 1) (@af _ _ _ _)) (@af _ _ _ _)) (@af _ _ _ _) (aL _)) (@DH _ _ _ (@Mw _ _ _ _ (10) _ _ dn.nd rfl (aaM rfl) (@HX _ _ _ _ _ _ _ _ _ _ js (hr.mono (by decide)) rfl (@aa _ _ _ _ _ (pv 10) (@ab _) (by rfl)) (by decide) (by rfl) (by rfl)) (by rfl) (by first | exact aaM rfl | exact acn rfl))) (@Az _ _ _ (@aE _))) (@Az _ _ _ (@ag _ _ _ _ _ (@aw _ _ (11) _ _ _ _ dn.nd rfl (aaM rfl) (@av _ _ _ _ _ _ _ _ (@gH _) (@cf _ _ _ _ _ _ _ _ _ _ (@o9 _) (pv 9) (@eO _) (@b7 _ _ _ (@af _ _ _ _))) (@a7 _ _ _ _ (@aa _ _ _ _ _ (pv 10) (@ab _) (by rfl)))) (by rfl) (by first | exact .inl rfl | exact .inr rfl | assumption)) (@ag _ _ _ _ _ (@aV _ _ _ _ _ _ _ _ (@ay _ _ _ _ _ _ _ _ (@cS _) (@av _ _ _ _ _ _ _ _ (@bF _) (@av _ _ _ _ _ _ _ _ (@cC _) (pv 1) (@af _ _ _ _)) (@af _ _ _ _)) (@af _ _ _ _) (aL _)) (@ai _ _ _ (@aw _ _ (11) _ _ _ _ dn.nd rfl (aaM rfl) (@av _ _ _ _ _ _ _ _ (@gH _) (@a7 _ _ _ _ (@aa _ _ _ _ _ (pv 10) (@ab _) (by rfl))) (@cf _ _ _ _ _ _ _ _ _ _ (@o9 _) (pv 9) (@eO _) (@b7 _ _ _ (@af _ _ _ _)))) (by rfl) (by first | exact .inl rfl | exact .inr rfl | assumption))) (@aE _)) (@ag _ _ _ _ _ (@aw _ _ (12) _ _ _ _ dn.nd rfl (aaM rfl) (@ak _ _ _ _ _ _ _ _ _ _ oE (hr.mono (by decide)) rfl (@aa _ _ _ _ _ (@bo _ _ _ _ _ _ _ _ _ _ _ _ aaw aaJ aaK (@bV _) (@ar _ _ _ _) (@aa _ _ _ _ _ (pv 11) (@ab _) (by rfl)) (by rfl) (by rfl) (by rfl) (by rfl) (by rfl)) (@ab _) (by rfl)) (by decide) (by rfl) (by rfl)) (by rfl) (by first | exact .inl rfl | exact .inr rfl | assumption)) (@ag _ _ _ _ _ (@aV _ _ _ _ _ _ _ _ (PW.pt (iT (ay (r9 hr.units) (pe_fld (pv 12) rfl) (pv 2) (aL _)) (iT (iZ (cR (aM mQ rfl dm abB (aa (pe_fld (pv 12) rfl) (aa (zR rfl qd PyProof.Rows.Boot.«list» (v := .ty "list") rfl) ab))))) (j8 (ay fJ (aM aF rfl aX aaI (aa (pe_fld (pv 12) rfl) ab)) af (aL _)))))) (@ai _ _ _ (@aC _ _ _ _ (@c7 _ _ _ _))) (@aE _)) (@ag _ _ _ _ _ (@aw _ _ (13) _ _ _ _ dn.nd rfl (aaM rfl) (@ak _ _ _ _ _ _ _ _ _ _ oF (hr.mono (by decide)) rfl (@aa _ _ _ _ _ (pv 12) (@ab _) (by rfl)) (by decide) (by rfl) (by rfl)) (by rfl) (by first | exact .inl rfl | exact .inr rfl | assumption)) (@ai _ _ _ (@aC _ _ _ _ (@rF _ _ _ _ _ _ _ (@dF _ _ _ _ _ _ _ _ (@cS _) (pv 13) (@bo _ _ _ _ _ _ _ _ _ _ _ _ aaw aaJ aaK (@bV _) (@ar _ _ _ _) (@aa _ _ _ _ _ (pv 9) (@ab _) (by rfl)) (by rfl) (by rfl) (by rfl) (by rfl) (by rfl)) (aL _)) (@rE _ _ _ _ _ (@ak _ _ _ _ _ _ _ _ _ _ ju (hr.mono (by decide)) rfl (@aa _ _ _ _ _ (@aq _ _ _ _ _ _ _ (@aG _) (@pe_fld _ _ _ _ _ (pv 12) rfl) (@af _ _ _ _) (fun _ _ => rfl)) (@aa _ _ _ _ _ (pv 8) (@aa _ _ _ _ _ (pv 7) (@ab _) (by rfl)) (by rfl)) (by rfl)) (by decide) (by rfl) (by rfl))))))))))))))))))))))))), ?_⟩
 refine ⟨_, rfl, a, ns, 3, rfl, hS, by decide, fun v3 => ⟨v3, 1, rfl, by decide, by decide, fun num H1 s1 adm => ?_⟩⟩
 have hS1 : aH K H1 a (ns.map V.int) := s1.seq hS
 refine ⟨_, rfl, a, ns, 0, rfl, hS1, by decide, fun v0 => ?_⟩
 refine ⟨(by show 7 ≤ aai; decide), fun lz hlz => ⟨v0, lz, [0, 1, 2, 2, 1, 3, 4], rfl, aH.of ae, by decide, by decide, by decide, fun lk ks H2 s2 Sh Ls hG => ?_⟩⟩
 have sA : ah H H2 := ah.trans s1 (ah.trans (aj hlz _) s2)
 have hS2 : aH K H2 a (ns.map V.int) := sA.seq hS
 refine ⟨_, rfl, a, ns, 1, rfl, hS2, by decide, fun v1 => ⟨v1, 4, rfl, by decide, fun lo os H3 s3 hlo hLo ho hog adp => ?_⟩⟩
 have hS3 : aH K H3 a (ns.map V.int) := s3.seq hS2
 refine ⟨_, rfl, a, ns, 2, rfl, hS3, by decide, fun v2 => ⟨v2, 3, rfl, by decide, fun lw ws H4 s4 PD hLw hw Ye Yf => ?_⟩⟩
 have sB := ah.trans sA (ah.trans s3 s4)
 have hS4 : aH K H4 a (ns.map V.int) := sB.seq hS
 have PX := Ls.sm (ah.trans s3 s4)
 have Yg := s4 _ _ hLo
 obtain ⟨nu, rfl⟩ : ∃ nu : Nat, num = (nu : Int) := ⟨num.toNat, by omega⟩
 refine nv ?_
 dsimp only
 refine f7 (Good := fun σ' H' => ah H4 H' ∧ ∃ (lk : aaC) (ks : List Kd) (lw : aaC) (ws : List Cs) (o : Option V), xD K H' lk ks ∧ KG ks ∧ H' lw = some (.lst (ws.map tx)) ∧ ws.length = 3 ∧ (∀ n ∈ ws, aB n = true ∧ great n = false) ∧ σ' = [some (.ref a), some (.int nu), some (.ref lk), some (.ref lo), some (.ref lw), o, none, none, none, none, none, none, none, none]) (fun fin => ?_) (fun σ' H5 hg => ?_)
 ·refine ⟨_, rfl, _, _, rfl, rfl, (by show (0 : Int) < 3; decide), rfl, _, rfl, ?_⟩
  generalize decide (V.int ((nu : Int) % 3) = V.int 1) = b
  cases b with
  | false => exact bb (fin _ H4 ⟨ah.refl _, lk, ks, lw, ws, none, PX, hG, hLw, hw, (fun n hn => ⟨(Ye n hn).1, Km (Ye n hn).2⟩), rfl⟩)
  | true =>
   refine dq ?_
   refine ⟨_, rfl, _, _, rfl, rfl, ⟨by decide, by decide⟩, nu / 3, ?_, fun lr zs H5 s5 tN U0 Yh MM hzs => ?_⟩
   ·show [V.int ((nu : Int) / 3)] = [V.int ((nu / 3 : Nat) : Int)]
    rw [show ((nu : Int) / 3) = ((nu / 3 : Nat) : Int) by omega]
   obtain ⟨kv, Pl, Qv⟩ := PX.sm s5
   have zkv := aam Qv
   have h4 := hG.len
   refine ⟨4, rfl, by decide, by decide, fun D hD => ?_⟩
   refine df (n := 4) (lo := 0) (by decide) (fun i ys H' => ah H5 H' ∧ H' D = some (.lst ys) ∧ Paired (Kind K H') ((abj i).map (DG zs ks)) ys) ⟨aj hD _, ae, .nil⟩ (fun i ys H' p => ⟨p.2.1, ?_⟩) (fun i ys H' hi p => ?_) (fun ys H6 p => ?_)
   ·have := aam p.2.2
    rw [Lm9, List.length_range] at this
    omega
   ·obtain ⟨sm, ud, pk⟩ := p
    unfold vf
    simp only [if_true]
    have Su : i < zs.length := by omega
    have Nn : i < ks.length := by omega
    have hiv : i < kv.length := by omega
    have a1 : qq (zs.map tx) (0 + (i : Int)) = some (tx zs[i]) := by rw [ab2]; exact bU (by rw [aa2, Ge9 Su]; rfl)
    have a2 : qq kv (0 + (i : Int)) = some kv[i] := by rw [ab2]; exact bU (Ge9 hiv)
    obtain ⟨t, et, ht⟩ := paired_at Qv i Nn hiv
    rw [et] at a2
    have ht := ht.same sm
    refine ⟨_, rfl, _, rfl, lr, _, _, _, rfl, rfl, aH.of (sm _ _ U0), a1, _, rfl, _, rfl, lk, _, _, _, rfl, rfl, aH.of (sm _ _ Pl), a2, t, _, 1, _, rfl, rfl, ht, rfl, _, rfl, _, rfl, lk, _, _, _, rfl, rfl, aH.of (sm _ _ Pl), a2, t, _, 2, _, rfl, rfl, ht, rfl, (by show 3 ≤ aai; decide), fun p hp => ?_⟩
    have s8 : ah H' (upd H' p (.tup [tx zs[i], .int (ks[i].c : Int), .bl ks[i].l])) := aj hp _
    refine ⟨s8 _ _ ud, ah.aQ (ah.trans sm s8) hD _, ae, ?_⟩
    rw [acg, aan]
    refine cB (aR pk fun k b _ hk => ?_) (.cons ⟨p, rfl, ?_⟩ .nil)
    ·obtain ⟨t, e, h⟩ := Kind.sm s8 hk
     exact ⟨t, e, dt (s8 _ _ ud) h⟩
    ·rw [Ay Su Nn]
     exact dt (s8 _ _ ud) (cK.of ae)
   obtain ⟨s6, ud, pk⟩ := p
   have hG' := KG.V5 hG Yh MM hzs
   have eC : kb (zs.map tx) (some 4) (some 7) = ((zs.drop 4).take 3).map tx := by
    unfold kb
    have q1 : HT.d6 (zs.map tx).length 0 (some 4) = min 4 (zs.map tx).length := HT.uL _ _ 4
    have q2 : HT.d6 (zs.map tx).length (zs.map tx).length (some 7) = min 7 (zs.map tx).length := HT.uL _ _ 7
    rw [q1, q2, Lm9, Yh, List.map_take, List.map_drop]
    rfl
   refine ⟨_, rfl, _, rfl, _, rfl, lr, _, rfl, aH.of (s6 _ _ U0), fun l7 SV => ?_⟩
   rw [eC]
   have s7 := aj SV (.lst (((zs.drop 4).take 3).map tx))
   refine fin _ _ ⟨ah.trans s5 (ah.trans s6 s7), D, _, l7, (zs.drop 4).take 3, _, ⟨ys, s7 _ _ ud, aR pk fun _ _ _ => Kind.sm s7⟩, hG', ae, ?_, fun n hn => ?_, rfl⟩
   ·rw [aaH, abf, Yh]
    rfl
   ·have z := hzs n (acT (abD hn))
    exact ⟨di z, DE z⟩
 clear Ls PX hG PD hLw hw Ye Yf
 obtain ⟨s5, lk, ks, lw, ws, o5, Ls, hG, PD, hw3, hwn, rfl⟩ := hg
 have sC := ah.trans sB s5
 have hS5 : aH K H5 a (ns.map V.int) := sC.seq hS
 have Yi := s5 _ _ Yg
 refine ⟨12, rfl, by decide, by decide, fun D hD => ?_⟩
 refine df (n := 12) (lo := 0) (by decide) (fun i ys H' => ah H5 H' ∧ H' D = some (.lst ys) ∧ ∃ cs : List Int, ys = cs.map V.int ∧ cs.length = i) ⟨aj hD _, ae, [], rfl, rfl⟩ (fun i ys H' p => ⟨p.2.1, ?_⟩) (fun i ys H' hi p => ?_) (fun ys H6 p => ?_)
 ·obtain ⟨_, _, cs, rfl, hl⟩ := p
  rw [Lm9]
  omega
 ·obtain ⟨sm, ud, cs, rfl, hl⟩ := p
  unfold vf
  simp only [if_true]
  refine ⟨_, rfl, _, rfl, _, _, rfl, rfl, a, ns, _, rfl, sm.seq hS5, (by omega), fun v => ?_⟩
  exact ⟨ud, ah.aQ sm hD _, ae, cs ++ [v], by rw [aan]; rfl, by simp [hl]⟩
 obtain ⟨s6, CY, cs, rfl, Qt⟩ := p
 have sD := ah.trans sC s6
 have SX := Ls.sm s6
 have Yj := s6 _ _ PD
 have Yk := s6 _ _ Yi
 have Yl : ∀ n ∈ os ++ ws, aB n = true := fun n hn => by
  rcases aax.mp hn with z | z
  ·exact (hog n z).1
  ·exact (hwn n z).1
 refine ⟨_, rfl, _, rfl, _, rfl, _, rfl, (by show 7 ≤ aai; decide), fun lm Xs => ?_⟩
 have t7 := aj Xs (.lst [V.int 0, .int 1, .int 2, .int 1, .int 4, .int 3, .int 2])
 have SY := ae (H := H6) (a := lm) (o := .lst [V.int 0, .int 1, .int 2, .int 1, .int 4, .int 3, .int 2])
 generalize upd H6 lm (.lst [V.int 0, .int 1, .int 2, .int 1, .int 4, .int 3, .int 2]) = H7 at t7 SY ⊢
 refine ⟨lk, lo, lw, D, lm, ks, os, ws, cs, [0, 1, 2, 1, 4, 3, 2], 4, rfl, SX.sm t7, hG, t7 _ _ Yk, t7 _ _ Yj, (by omega), (by omega), (by omega), Yl, t7 _ _ CY, (by omega), (by omega), aH.of SY, by decide, by decide, by decide, by decide, by decide, fun td r H8 s8 hR OA _ => ?_⟩
 have s68 := ah.trans t7 s8
 have sE := ah.trans sD s68
 have Ym := SX.sm s68
 refine ⟨_, rfl, a, ns, 2, rfl, sE.seq hS, by decide, fun v2' => ⟨v2', 3, rfl, by decide, fun lt zs H9 s9 rB Xl hz Xj MM => ?_⟩⟩
 obtain ⟨jt, hjt, Yn⟩ := gN (xs := zs.map tx) (v := (nu : Int) / 6) (by rw [Lm9]; omega)
 rw [Lm9, hz] at Yn
 have Yo : jt < zs.length := by simpa using hjt
 rw [aas] at Yn
 refine ⟨_, rfl, _, _, rfl, rfl, ⟨by decide, by decide⟩, _, _, rfl, rfl, (by show (0 : Int) < 3; decide), lt, _, _, _, rfl, rfl, aH.of Xl, Yn, ?_⟩
 have MJ : a8 zs[jt] = true := by
  have z := Xj _ (aaq Yo)
  unfold a8
  rw [z.1, decide_eq_true z.2]
  rfl
 generalize zs[jt] = title at MJ ⊢
 have hkn := wH (r.take ++ r.keep)
 have hT := OA.rlT hG Yl MJ hkn
 have NO := OA.good (t := title) hG Yl (fun n hn => (hwn n hn).2) hkn
 have hlen := hT.V4 OA.few
 have sF := ah.trans sE s9
 have SW : Fz K H9 td (tV r title) := hR.sm s9
 have hf8 : (tV r title).take.length + (tV r title).keep.length ≤ 8 := by
  have := OA.few
  show r.take.length + r.keep.length ≤ 8
  omega
 have et : (tV r title).title = title := rfl
 obtain ⟨kvs, Yp, Yq⟩ := Ym.sm s9
 generalize tV r title = rr at hT NO hlen SW hf8 et
 subst et
 clear OA hkn
 have zk := aam Yq
 have h4 := hG.len
 refine ⟨_, rfl, lk, rfl, ⟨_, aH.of Yp⟩, fun D2 pJ => ?_⟩
 refine cA (K := K) (xs := kvs) (ks.map az) (fun _ _ b y => y = tx b) (fun _ _ _ _ _ _ h => h) (fun _ _ _ _ _ _ h => h) (kl (by omega)) pJ (aH.of Yp) (by rw [Lm9]; exact zk) (fun i y b H' R hy hb sm hQ => ?_) (fun U2 ys s10 hL po => ?_)
 ·obtain ⟨hi, ey⟩ := aP hy
  obtain ⟨dH, eb⟩ := aP hb
  rw [Lm9] at dH
  rw [aas] at eb
  have hK := paired_at Yq i dH hi
  rw [ey] at hK
  have h2 := hG.ok _ (aaq dH)
  exact ⟨_, rfl, y, _, rfl, Kind.sm sm hK, (eQ h2.1).2, h2.2, fun H2 s2 => hQ _ _ s2 (by rw [← eb])⟩
 rw [bT po] at hL
 refine ⟨_, rfl, _, rfl, td, rr, rfl, SW.sm s10, hT, fun U3 PK => ?_⟩
 have S0 := PK _ _ hL
 have Yr := ah.trans s10 PK
 refine ⟨_, rfl, .inl ⟨rfl, _, aH.of S0⟩, _, rfl, D2, _, _, rfl, rfl, S0, (by rw [Lm9, Lm9, aaA]; omega), ?_⟩
 have sG : ah H9 (upd U3 D2 (.lst ((ks.map az).map tx ++ [tx (bE rr)]))) := ah.aQ Yr pJ _
 have PY := ae (H := U3) (a := D2) (o := .lst ((ks.map az).map tx ++ [tx (bE rr)]))
 generalize upd U3 D2 (.lst ((ks.map az).map tx ++ [tx (bE rr)])) = SJ at sG PY ⊢
 have S1 := Mj hT
 dsimp only
 refine f7 (Good := fun σ' H' => ah SJ H' ∧ ∃ p : Cs, toks p = toks (bE rr) ∧ p.all (m5 cw) = true ∧ p.length ≤ 5000 ∧ σ' = [some (.ref a), some (.int nu), some (.ref lk), some (.ref lo), some (.ref lw), o5, some (.ref D), some (.ref td), some (tx rr.title), some (.ref D2), some (tx p), none, none, none]) (fun fin => ?_) (fun σ' SO hg => ?_)
 ·refine ⟨_, rfl, _, _, rfl, rfl, ⟨by decide, by decide⟩, _, _, rfl, rfl, (by show (0 : Int) < 3; decide), rfl, _, rfl, ?_⟩
  generalize decide (V.int ((nu : Int) / 18 % 3) = V.int 1) = b
  cases b with
  | true =>
   refine dq ⟨_, rfl, _, rfl, _, _, rfl, rfl, ⟨by decide, by decide⟩, bE rr, nu / 54, ?_, (by omega), fun p H' s' hp => ?_⟩
   ·show [tx (bE rr), V.int ((nu : Int) / 54)] = [tx (bE rr), V.int ((nu / 54 : Nat) : Int)]
    rw [show ((nu : Int) / 54) = ((nu / 54 : Nat) : Int) by omega]
   ·have := hp.n
    exact fin _ H' ⟨s', p, hp.t, hp.ok S1, by omega, rfl⟩
  | false => exact bb (fin _ SJ ⟨ah.refl _, bE rr, rfl, S1, by omega, rfl⟩)
 obtain ⟨KO, p1, AG, PZ, US, rfl⟩ := hg
 refine f7 (Good := fun σ' H' => ah SO H' ∧ ∃ p : Cs, toks p = toks (bE rr) ∧ p.all (m5 cw) = true ∧ p.length ≤ 5000 ∧ σ' = [some (.ref a), some (.int nu), some (.ref lk), some (.ref lo), some (.ref lw), o5, some (.ref D), some (.ref td), some (tx rr.title), some (.ref D2), some (tx p), none, none, none]) (fun fin => ?_) (fun σ' U4 hg => ?_)
 ·refine ⟨_, rfl, _, _, rfl, rfl, ⟨by decide, by decide⟩, _, _, rfl, rfl, (by show (0 : Int) < 3; decide), rfl, _, rfl, ?_⟩
  generalize decide (V.int ((nu : Int) / 18 % 3) = V.int 2) = b
  cases b with
  | true =>
   refine dq ⟨_, rfl, p1, rfl, (by omega), fun p H' s' hp => ?_⟩
   have := hp.n
   exact fin _ H' ⟨s', p, hp.t.trans AG, hp.ok PZ, by omega, rfl⟩
  | false => exact bb (fin _ SO ⟨ah.refl _, p1, AG, PZ, US, rfl⟩)
 obtain ⟨MK, p, htp, S2, hpl, rfl⟩ := hg
 clear AG PZ US
 have NP := ah.trans KO MK
 have K1 := NP _ _ PY
 have e45 : (ks.map az).map tx ++ [tx (bE rr)] = (ks.map az ++ [bE rr]).map tx := by rw [aan]; rfl
 rw [e45] at K1
 have ZA : ((ks.map az ++ [bE rr]).map tx).length = 5 := by simp [h4]
 have eT : kb ((ks.map az ++ [bE rr]).map tx) none (some 4) = (ks.map az).map tx := by
  have z := OY (xs := (ks.map az ++ [bE rr]).map tx) (k := 4) (by omega)
  rw [show ((4 : Nat) : Int) = 4 from rfl] at z
  rw [z, aan, List.take_append_of_le_length (by simp [h4]), abp (by simp [h4])]
 refine ⟨_, rfl, _, rfl, D2, _, rfl, aH.of K1, fun l8 Xz => ?_⟩
 rw [eT]
 have t15 := aj Xz (.lst ((ks.map az).map tx))
 have hl8' := ae (H := U4) (a := l8) (o := .lst ((ks.map az).map tx))
 generalize upd U4 l8 (.lst ((ks.map az).map tx)) = H15 at t15 hl8' ⊢
 refine ⟨_, rfl, (by show 1 ≤ aai; decide), fun l9 UY => ?_⟩
 have Ys := aj UY (.lst [tx p])
 have hl9' := ae (H := H15) (a := l9) (o := .lst [tx p])
 have NQ := Ys _ _ hl8'
 generalize upd H15 l9 (.lst [tx p]) = H16 at Ys hl9' NQ ⊢
 refine ⟨l8, l9, _, _, rfl, rfl, NQ, hl9', (by rw [Lm9, Lm9, aaA]; show _ + 1 ≤ _; omega), fun Yt Yu => ?_⟩
 have t17 := aj Yu (.lst ((ks.map az).map tx ++ [tx p]))
 have NS := ae (H := H16) (a := Yt) (o := .lst ((ks.map az).map tx ++ [tx p]))
 generalize upd H16 Yt (.lst ((ks.map az).map tx ++ [tx p])) = H17 at t17 NS ⊢
 have K3 := ah.trans t15 (ah.trans Ys t17)
 refine nv ?_
 dsimp only
 refine f7 (Good := fun σ' H' => ah U4 H' ∧ ∃ (first : Bool) (ll : aaC), H' ll = some (.lst ((kz first ks p).map tx)) ∧ σ' = [some (.ref a), some (.int nu), some (.ref lk), some (.ref lo), some (.ref lw), o5, some (.ref D), some (.ref td), some (tx rr.title), some (.ref D2), some (tx p), some (.ref ll), none, none]) (fun fin => ?_) (fun σ' H18 hg => ?_)
 ·refine ⟨_, rfl, _, _, rfl, rfl, ⟨by decide, by decide⟩, _, _, rfl, rfl, (by show (0 : Int) < 2; decide), rfl, _, rfl, ?_⟩
  generalize decide (V.int ((nu : Int) / 9 % 2) = V.int 1) = b
  cases b with
  | true =>
   refine dq ⟨_, rfl, (by show 1 ≤ aai; decide), fun m1 ND => ?_⟩
   have u1 := aj ND (.lst [tx p])
   have S3 := ae (H := H17) (a := m1) (o := .lst [tx p])
   generalize upd H17 m1 (.lst [tx p]) = G1 at u1 S3 ⊢
   have Yv := u1 _ _ (K3 _ _ K1)
   refine ⟨_, rfl, _, rfl, D2, _, rfl, aH.of Yv, fun m2 Xt => ?_⟩
   rw [eT]
   have u2 := aj Xt (.lst ((ks.map az).map tx))
   have hm2' := ae (H := G1) (a := m2) (o := .lst ((ks.map az).map tx))
   have NT := u2 _ _ S3
   generalize upd G1 m2 (.lst ((ks.map az).map tx)) = G2 at u2 hm2' NT ⊢
   refine ⟨m1, m2, _, _, rfl, rfl, NT, hm2', (by rw [Lm9, Lm9, aaA]; show 1 + _ ≤ _; omega), fun m3 hm3 => ?_⟩
   exact fin _ _ ⟨ah.trans K3 (ah.trans u1 (ah.trans u2 (aj hm3 _))), true, m3, ae, rfl⟩
  | false =>
   refine bb (fin _ _ ⟨K3, false, Yt, ?_, rfl⟩)
   rw [NS]
   unfold kz
   rw [if_neg (by decide), aan]
   rfl
 obtain ⟨s18, first, ll, RL, rfl⟩ := hg
 obtain ⟨hjn, hne⟩ := Kn first (line := p) hG hpl
 have RK := Mt first hG S2
 have hB := O8 first hG hT NO htp S2
 obtain ⟨eK, eR⟩ := DC first ks p rr
 have enl : (aab "\n") = ⟨#[10]⟩ := by decide +kernel
 have Yw : (aab "\n").length = 1 := by decide +kernel
 have Qn : (kz first ks p).length = 5 := by
  unfold kz
  cases first <;> simp [h4]
 have Yx : ∀ l ∈ kz first ks p, l.length ≤ 20000 := fun l hl => aa8 (zI hl) hjn
 have zs5 := cP (as := kz first ks p) (B := 20000) Yx
 refine ⟨rfl, _, rfl, _, ll, (kz first ks p).map S, rfl, rfl, .inl (aH.of (by rw [← dE]; exact RL)), (by rw [Yw, Lm9]; omega), ?_⟩
 rw [enl, kq, uR]
 refine ⟨kz first ks p, pM first ks p rr, rfl, hne, RK, hjn, hB, fun bv H19 s19 Yy => ?_⟩
 rw [eK, eR] at Yy
 have S4 := ah.trans s18 s19
 have NU := ah.trans NP S4
 have P0 := ah.trans sG NU
 obtain ⟨bx, U6, U7, rfl, hb0, U8, ⟨v1, e1, WN, kv2, rfl, Nx, Qs, U1⟩, ⟨v2, e2, lr2, HL, rfl, G9, Ig, ow⟩⟩ := id Yy
 have Yz := P0 _ _ Yp
 have YA : Paired (Kind K H19) ks kvs := aR Yq fun _ _ _ => Kind.sm P0
 have zr := aam ow
 refine ⟨_, rfl, bx, c.book, U6, U7, _, rfl, U8, T.cl, T.n1, e1, _, rfl, DF (aH.of Qs) (aH.of Yz) U1 YA, _, rfl, bb ?_⟩
 refine ⟨_, rfl, bx, c.book, U6, U7, _, rfl, U8, T.cl, T.n2, e2, _, "list", _, true, rfl, .lst Ig, nq, _, rfl, bb ?_⟩
 refine ⟨_, rfl, bx, c.book, U6, U7, _, rfl, U8, T.cl, T.n2, e2, lr2, _, rfl, .inl (aH.of Ig), rfl, _, rfl, ?_⟩
 have er1 : HL.length = 1 := zr.symm
 rw [er1]
 have e11 : (!decide (V.int ((1 : Nat) : Int) = V.int 1)) = false := by decide
 rw [e11]
 refine bb ?_
 refine ⟨_, rfl, .ref bx, H18, ks, [rr], rfl, Yy, (fun k hk => ⟨(eQ (hG.ok k hk).1).2, (hG.ok k hk).2⟩), (by omega), (fun r hr => by rw [aak.mp hr]; exact hT), (by show 1 ≤ 100; decide), fun H20 S5 => ?_⟩
 have S6 := ah.trans NU S5
 have S7 := S6 _ _ PY
 rw [e45] at S7
 have YB : ∀ l ∈ ks.map az ++ [bE rr], l.length ≤ 1600 := fun l hl => by
  rcases aax.mp hl with z | z
  ·obtain ⟨k, hk, rfl⟩ := aat.mp z
   have := kr (eQ (hG.ok k hk).1).2
   omega
  ·rw [aak.mp z]; exact hlen
 have zp5 := cP (as := ks.map az ++ [bE rr]) (B := 1600) YB
 have hc5 : (ks.map az ++ [bE rr]).length = 5 := by simp [h4]
 refine ⟨_, rfl, rfl, _, rfl, _, D2, (ks.map az ++ [bE rr]).map S, rfl, rfl, .inl (aH.of (by rw [← dE]; exact S7)), (by rw [show (⟨#[10]⟩ : Str).length = 1 from rfl, Lm9]; omega), ?_⟩
 rw [kq, uR]
 refine ⟨rfl, _, rfl, ?_⟩
 have e12 : decide (tx (bP (ks.map az ++ [rr].map bE)) = V.str (S (bP (ks.map az ++ [bE rr])))) = true := decide_eq_true rfl
 rw [e12]
 refine dq ?_
 have S8 := S5 _ _ U8
 have YC := S5 _ _ Ig
 cases ow with
 | cons NB YD =>
 cases YD
 refine ⟨_, rfl, bx, c.book, U6, U7, _, rfl, S8, T.cl, T.n2, e2, lr2, _, 0, _, rfl, rfl, aH.of YC, rfl, _, rfl, _, rfl, ?_⟩
 exact ⟨_, td, H18, rr, rfl, NB.keep (Kp.same S5), SW.sm (ah.trans P0 S5), hT, hf8, fun H' _ => q _⟩
end
end iS
namespace iS
open PySem L2 cM Bk
open PySem.W (nsIn findIn keepIn mg_of isFn mroIn)
set_option maxHeartbeats 4000000
theorem all_mk {l : adO} {w : aa9} {K : aaa} {h : Heap} {mg : Str → Option aad} {fa cG bu cN ff f_0 f_1 f_2 f_3 f_4 f_5 f_6 f_7 f_8 f_9 S9 Ta Tb Tc Td Te Tf Tg Th Ti Tj Tn To Tp Tq Tt Tv Tw Tx Tz TC TF TH TJ TK TL TM TN TQ TR TU TV TX TY TZ T2 T3 T4 T5 T6 T8 T9 Ua Ub Uc Ud Ue Ug P1 gf jv iB jw jx gP : aaC} (X : K.In h) (G : h.Ns aah mg) (Ny : mg "law" = some (.ref fa))
  {wL Ir uy FW K4 FX wM Iu wN Iv Bl x6 DV K5 rn DW DX Bm Bn DY DZ FY Bo D0 x8 ya Bp Bq yb Br D1 wO FZ Bs yc Bt Bu D4 sJ Bv D5 D6 D7 D8 D9 Bw yd Bx By F0 Ea sL sN uz ye Bz yf yg yh yi wQ yj yk uA : abd} {P2 K6 : Option aaC} {P4 : Array (Option aad)} {P5 K7 K8 K9 F3 La : aad}
  {BA BB zK zL rp oG : Tok}
  {lP lQ wR : aaC}
  {wU wV wW wX wY wZ w6 F4 F5 F6 F7 F8 : Tok}
  {pO pP zM : Nat}
  {yl ym Iw : Array (Option aad)}
  (BC : nsIn K aah "Same" = some (some (.ref cG)))
  (sO : nsIn K aah "Unlike" = some (some (.ref bu)))
  (BD : nsIn K aah "Rule" = some (some (.ref cN)))
  (BE : nsIn K aah "Book" = some (some (.ref ff)))
  (iC : nsIn K aah "is_name_sign" = some (some (.ref f_0)))
  (sP : nsIn K aah "is_name" = some (some (.ref f_1)))
  (gQ : nsIn K aah "is_small_word" = some (some (.ref f_2)))
  (qe : nsIn K aah "name_end" = some (some (.ref f_3)))
  (w9 : nsIn K aah "pieces" = some (some (.ref f_4)))
  (qf : nsIn K aah "piece_at" = some (some (.ref f_5)))
  (iD : nsIn K aah "arguments_at" = some (some (.ref f_6)))
  (sQ : nsIn K aah "fact_at" = some (some (.ref f_7)))
  (iE : nsIn K aah "row_of_facts" = some (some (.ref f_8)))
  (sR : nsIn K aah "is_told" = some (some (.ref f_9)))
  (lR : nsIn K aah "told_lines" = some (some (.ref S9)))
  (jy : nsIn K aah "line_pieces" = some (some (.ref Ta)))
  (oH : nsIn K aah "read_kind" = some (some (.ref Tb)))
  (xa : nsIn K aah "parted" = some (some (.ref Tc)))
  (fh : nsIn K aah "check_two_names" = some (some (.ref Td)))
  (oI : nsIn K aah "read_look" = some (some (.ref Te)))
  (oJ : nsIn K aah "read_pair" = some (some (.ref Tf)))
  (lS : nsIn K aah "read_looks" = some (some (.ref Tg)))
  (lT : nsIn K aah "read_pairs" = some (some (.ref Th)))
  (oK : nsIn K aah "read_part" = some (some (.ref Ti)))
  (oM : nsIn K aah "read_rule" = some (some (.ref Tj)))
  (qg : nsIn K aah "is_great" = some (some (.ref Tn)))
  (lU : nsIn K aah "open_names" = some (some (.ref To)))
  (oN : nsIn K aah "hear_line" = some (some (.ref Tp)))
  (jz : nsIn K aah "check_facts" = some (some (.ref Tq)))
  (jA : nsIn K aah "check_taken" = some (some (.ref Tt)))
  (lV : nsIn K aah "check_call" = some (some (.ref Tv)))
  (lW : nsIn K aah "said_names" = some (some (.ref Tw)))
  (jB : nsIn K aah "check_names" = some (some (.ref Tx)))
  (lX : nsIn K aah "whole_book" = some (some (.ref Tz)))
  (oO : nsIn K aah "read_book" = some (some (.ref TC)))
  (iF : nsIn K aah "_law_cell_at" = some (some (.ref TF)))
  (qh : nsIn K aah "_law_mix" = some (some (.ref TH)))
  (lY : nsIn K aah "_law_names" = some (some (.ref TJ)))
  (jC : nsIn K aah "_law_titles" = some (some (.ref TK)))
  (lZ : nsIn K aah "_law_opens" = some (some (.ref TL)))
  (ma : nsIn K aah "_law_words" = some (some (.ref TM)))
  (oP : nsIn K aah "fact_text" = some (some (.ref TN)))
  (fY : nsIn K aah "_law_fact_text" = some (some (.ref TQ)))
  (me : nsIn K aah "facts_text" = some (some (.ref TR)))
  (oQ : nsIn K aah "part_text" = some (some (.ref TU)))
  (oR : nsIn K aah "rule_text" = some (some (.ref TV)))
  (oS : nsIn K aah "kind_text" = some (some (.ref TX)))
  (oT : nsIn K aah "book_text" = some (some (.ref TY)))
  (oU : nsIn K aah "_law_fact" = some (some (.ref TZ)))
  (mf : nsIn K aah "_law_kinds" = some (some (.ref T2)))
  (jD : nsIn K aah "_law_counts" = some (some (.ref T3)))
  (mh : nsIn K aah "_law_facts" = some (some (.ref T4)))
  (mi : nsIn K aah "_law_heads" = some (some (.ref T5)))
  (qi : nsIn K aah "_law_two" = some (some (.ref T6)))
  (oV : nsIn K aah "_law_rule" = some (some (.ref T8)))
  (fZ : nsIn K aah "_law_rule_text" = some (some (.ref T9)))
  (f6 : nsIn K aah "_law_kind_text" = some (some (.ref Ua)))
  (gR : nsIn K aah "_law_keywords" = some (some (.ref Ub)))
  (jE : nsIn K aah "_law_spread" = some (some (.ref Uc)))
  (mj : nsIn K aah "_law_looks" = some (some (.ref Ud)))
  (jF : nsIn K aah "_law_fields" = some (some (.ref Ue)))
  (jG : nsIn K aah "_law_closer" = some (some (.ref Ug)))
  (Hc : nsIn K aah "law" = some (some (.ref P1)))
  (ml : findIn K (.ref cG) "__init__" = some (some (.ref gf)))
  (mm : findIn K (.ref cG) "word" = some (some (.ref jx)))
  (iG : findIn K (.ref bu) "__init__" = some (some (.ref gf)))
  (iH : findIn K (.ref bu) "word" = some (some (.ref gP)))
  (mn : findIn K (.ref cN) "__init__" = some (some (.ref jv)))
  (jH : findIn K (.ref cN) "calls" = some (some (.ref iB)))
  (mq : findIn K (.ref ff) "__init__" = some (some (.ref jw)))
  (gg : isFn K (.ref gf) = true)
  (jI : isFn K (.ref jv) = true)
  (iI : isFn K (.ref iB) = true)
  (jJ : isFn K (.ref jw) = true)
  (jK : isFn K (.ref jx) = true)
  (gS : isFn K (.ref gP) = true)
  (dR : bw K "is_name_sign" "is_name_sign" il f_0 wL)
  (j4 : bw K "is_name" "is_name" sj f_1 Ir)
  (dw : bw K "is_small_word" "is_small_word" gL f_2 uy)
  (iJ : bw K "name_end" "name_end" pX f_3 FW)
  (oW : bw K "pieces" "pieces" we f_4 K4)
  (iK : bw K "piece_at" "piece_at" pY f_5 FX)
  (dS : bw K "arguments_at" "arguments_at" ir f_6 wM)
  (j5 : bw K "fact_at" "fact_at" sk f_7 Iu)
  (dU : bw K "row_of_facts" "row_of_facts" ip f_8 wN)
  (j6 : bw K "is_told" "is_told" so f_9 Iv)
  (fi : bw K "told_lines" "told_lines" kE S9 Bl)
  (eo : bw K "line_pieces" "line_pieces" jc Ta x6)
  (gr : bw K "read_kind" "read_kind" nG Tb DV)
  (oX : bw K "parted" "parted" wg Tc K5)
  (cJ : bw K "check_two_names" "check_two_names" eY Td rn)
  (gu : bw K "read_look" "read_look" nJ Te DW)
  (gv : bw K "read_pair" "read_pair" nK Tf DX)
  (fj : bw K "read_looks" "read_looks" kI Tg Bm)
  (fm : bw K "read_pairs" "read_pairs" kJ Th Bn)
  (gw : bw K "read_part" "read_part" nI Ti DY)
  (gx : bw K "read_rule" "read_rule" nH Tj DZ)
  (iM : bw K "is_great" "is_great" pW Tn FY)
  (fo : bw K "open_names" "open_names" kO To Bo)
  (gy : bw K "hear_line" "hear_line" nP Tp D0)
  (eB : bw K "check_facts" "check_facts" i9 Tq x8)
  (eD : bw K "check_taken" "check_taken" ja Tt ya)
  (fq : bw K "check_call" "check_call" kY Tv Bp)
  (ft : bw K "said_names" "said_names" kZ Tw Bq)
  (eE : bw K "check_names" "check_names" jd Tx yb)
  (fu : bw K "whole_book" "whole_book" kW Tz Br)
  (gz : bw K "read_book" "read_book" nO TC D1)
  (dW : bw K "_law_cell_at" "_law_cell_at" iu TF wO)
  (iN : bw K "_law_mix" "_law_mix" pZ TH FZ)
  (fw : bw K "_law_names" "_law_names" lj TJ Bs)
  (eF : bw K "_law_titles" "_law_titles" je TK yc)
  (fA : bw K "_law_opens" "_law_opens" lq TL Bt)
  (fB : bw K "_law_words" "_law_words" lu TM Bu)
  (gA : bw K "fact_text" "fact_text" nD TN D4)
  (cY : bw K "_law_fact_text" "_law_fact_text" fQ TQ sJ)
  (fC : bw K "facts_text" "facts_text" kC TR Bv)
  (gB : bw K "part_text" "part_text" nU TU D5)
  (gC : bw K "rule_text" "rule_text" nT TV D6)
  (gD : bw K "kind_text" "kind_text" nS TX D7)
  (gE : bw K "book_text" "book_text" nQ TY D8)
  (gF : bw K "_law_fact" "_law_fact" nV TZ D9)
  (fD : bw K "_law_kinds" "_law_kinds" ly T2 Bw)
  (eG : bw K "_law_counts" "_law_counts" jf T3 yd)
  (fE : bw K "_law_facts" "_law_facts" lA T4 Bx)
  (fG : bw K "_law_heads" "_law_heads" lB T5 By)
  (iO : bw K "_law_two" "_law_two" p6 T6 F0)
  (gG : bw K "_law_rule" "_law_rule" nW T8 Ea)
  (cZ : bw K "_law_rule_text" "_law_rule_text" fR T9 sL)
  (c6 : bw K "_law_kind_text" "_law_kind_text" fS Ua sN)
  (dy : bw K "_law_keywords" "_law_keywords" gM Ub uz)
  (eI : bw K "_law_spread" "_law_spread" jg Uc ye)
  (fH : bw K "_law_looks" "_law_looks" lC Ud Bz)
  (eJ : bw K "_law_fields" "_law_fields" ji Ue yf)
  (eL : bw K "_law_closer" "_law_closer" jh Ug yg)
  (Lb : K.lookup P1 = some ⟨P5, P2, .func (abS "law" "law" (pe qV) (iU qV) (ao qV) .none K7 K8 K9 K6 F3 La), P4⟩)
  (Lc : acL K F3 "law" = true)
  (Ld : keepIn K (.ref P1) = true)
  (gh : bw K "__init__" "Look.__init__" nE gf yh)
  (gi : bw K "__init__" "Rule.__init__" nM jv yi)
  (dX : bw K "calls" "Rule.calls" kL iB wQ)
  (gj : bw K "__init__" "Book.__init__" nN jw yj)
  (eM : bw K "word" "Same.word" nF jx yk)
  (dz : bw K "word" "Unlike.word" jb gP uA)
  (BF : abL K cG aei = true)
  (BG : abN K cG = true)
  (BH : abX K cG = true)
  (BI : findIn K (.ref cG) "__setattr__" = some (some (.builtin "object.__setattr__")))
  (BJ : aca K cG = true)
  (BK : keepIn K (.ref cG) = true)
  (oY : findIn K (.ref cG) "left" = some none)
  (mr : findIn K (.ref cG) "right" = some none)
  (BL : findIn K (.ref cG) "__class__" = some (some (.builtin "object.__class__")))
  (BM : mroIn K cG (.type "object") = some true)
  (sS : abL K bu aei = true)
  (sT : abN K bu = true)
  (sU : abX K bu = true)
  (sV : findIn K (.ref bu) "__setattr__" = some (some (.builtin "object.__setattr__")))
  (sW : aca K bu = true)
  (sX : keepIn K (.ref bu) = true)
  (jL : findIn K (.ref bu) "left" = some none)
  (iP : findIn K (.ref bu) "right" = some none)
  (sY : findIn K (.ref bu) "__class__" = some (some (.builtin "object.__class__")))
  (sZ : mroIn K bu (.type "object") = some true)
  (BN : abL K cN aei = true)
  (BO : abN K cN = true)
  (BP : abX K cN = true)
  (BQ : findIn K (.ref cN) "__setattr__" = some (some (.builtin "object.__setattr__")))
  (BR : aca K cN = true)
  (BS : keepIn K (.ref cN) = true)
  (mv : findIn K (.ref cN) "title" = some none)
  (mw : findIn K (.ref cN) "taken" = some none)
  (oZ : findIn K (.ref cN) "kept" = some none)
  (mx : findIn K (.ref cN) "looks" = some none)
  (my : findIn K (.ref cN) "given" = some none)
  (o7 : findIn K (.ref cN) "told" = some none)
  (mz : findIn K (.ref cN) "names" = some none)
  (Hd : findIn K (.ref cN) "__class__" = some (some (.builtin "object.__class__")))
  (He : mroIn K cN (.type "object") = some true)
  (BU : abL K ff aei = true)
  (BV : abN K ff = true)
  (BW : abX K ff = true)
  (BX : findIn K (.ref ff) "__setattr__" = some (some (.builtin "object.__setattr__")))
  (BY : aca K ff = true)
  (BZ : keepIn K (.ref ff) = true)
  (mB : findIn K (.ref ff) "kinds" = some none)
  (mC : findIn K (.ref ff) "rules" = some none)
  (Hf : findIn K (.ref ff) "__class__" = some (some (.builtin "object.__class__")))
  (Hg : mroIn K ff (.type "object") = some true)
  (hn : aer K (.builtin "object.__class__") "__get__" = some (some (.builtin "getset_descriptor.__get__")))
  (LK : PySem.W.takesIn K (.builtin "object.__class__") = some true)
  (B1 : adP K cG = true)
  (B2 : adk K (.ref cG) = some (.type "type"))
  (B3 : mroIn K cG (.ref cG) = some true)
  (tf : adP K bu = true)
  (tj : adk K (.ref bu) = some (.type "type"))
  (tm : mroIn K bu (.ref bu) = some true)
  (iQ : mroIn K cG (.ref bu) = some false)
  (iR : mroIn K bu (.ref cG) = some false)
  (B4 : nsIn K aah "GREAT" = some (some (.str d7 BA)))
  (B5 : nsIn K aah "SMALL" = some (some (.str dI BB)))
  (tp : nsIn K aah "FIGURES" = some (some (.str HI zK)))
  (tq : nsIn K aah "LONGEST" = some (some (.int 12 zL)))
  (mD : nsIn K aah "LINE_MARKS" = some (some (.str cw rp)))
  (o8 : nsIn K aah "RULE_WORD" = some (some (.str (S cF) oG)))
  (Le : nsIn K aah "all" = some none)
  (F9 : nsIn K aah "bool" = some none)
  (Ga : nsIn K aah "dict" = some none)
  (Lf : nsIn K aah "int" = some none)
  (mE : nsIn K aah "isinstance" = some none)
  (Lg : nsIn K aah "len" = some none)
  (Gb : nsIn K aah "list" = some none)
  (B6 : nsIn K aah "range" = some none)
  (Lh : nsIn K aah "str" = some none)
  (B7 : nsIn K aah "tuple" = some none)
  (mF : aeB K aah "KIND_WORDS" = some (some (.ref lP)))
  (mG : K.lookup lP = some ⟨.type "tuple", none, .seq #[abw "passing" wU, abw "lasting" wV] pO, yl⟩)
  (mH : aeB K aah "PART_WORDS" = some (some (.ref lQ)))
  (g8 : K.lookup lQ = some ⟨.type "tuple", none, .seq #[abw "take" wW, abw "keep" wX, abw "look" wY, abw "put" wZ, abw "tell" w6] pP, ym⟩)
  (xb : aeB K aah "COUNTS" = some (some (.ref wR)))
  (xc : K.lookup wR = some ⟨.type "tuple", none, .seq #[abw "0" F4, abw "1" F5, abw "2" F6, abw "3" F7, abw "4" F8] zM, Iw⟩)
  : ∃ fd : abd, (∀ (s : aaf) (v : aad), BindsTo s fd ⟨[v], []⟩ [("_law_script", v)]) ∧ ∀ base : Heap, K.In base → base.Ns aah mg → a4 l.prog w K mg base da 10 fa fd ["_law_script"] (GY K) := by
 have e := Ny.symm.trans (mg_of X G Hc)
 cases e
 have xf := dR.binds (ps := ["sign"]) fun _ _ _ _ _ _ us hl => match us, hl with | [_], _ => rfl
 have xg := mg_of X G iC
 have Iy := j4.binds (ps := ["text"]) fun _ _ _ _ _ _ us hl => match us, hl with | [_], _ => rfl
 have Iz := mg_of X G sP
 have uB := dw.binds (ps := ["text"]) fun _ _ _ _ _ _ us hl => match us, hl with | [_], _ => rfl
 have uC := mg_of X G gQ
 have Gd := iJ.binds (ps := ["text", "start"]) fun _ _ _ _ _ _ us hl => match us, hl with | [_, _], _ => rfl
 have Ge := mg_of X G qe
 have Li := oW.binds (ps := ["text", "marks"]) fun _ _ _ _ _ _ us hl => match us, hl with | [_, _], _ => rfl
 have Lj := mg_of X G w9
 have Gf := iK.binds (ps := ["found", "place"]) fun _ _ _ _ _ _ us hl => match us, hl with | [_, _], _ => rfl
 have Gg := mg_of X G qf
 have xh := dS.binds (ps := ["found", "place"]) fun _ _ _ _ _ _ us hl => match us, hl with | [_, _], _ => rfl
 have xi := mg_of X G iD
 have IA := j5.binds (ps := ["found", "place"]) fun _ _ _ _ _ _ us hl => match us, hl with | [_, _], _ => rfl
 have IB := mg_of X G sQ
 have xj := dU.binds (ps := ["found"]) fun _ _ _ _ _ _ us hl => match us, hl with | [_], _ => rfl
 have xk := mg_of X G iE
 have IC := j6.binds (ps := ["line"]) fun _ _ _ _ _ _ us hl => match us, hl with | [_], _ => rfl
 have ID := mg_of X G sR
 have B8 := fi.binds (ps := ["text"]) fun _ _ _ _ _ _ us hl => match us, hl with | [_], _ => rfl
 have Ca := mg_of X G lR
 have yn := eo.binds (ps := ["line"]) fun _ _ _ _ _ _ us hl => match us, hl with | [_], _ => rfl
 have yo := mg_of X G jy
 have Eb := gr.binds (ps := ["found"]) fun _ _ _ _ _ _ us hl => match us, hl with | [_], _ => rfl
 have Ec := mg_of X G oH
 have Ll := oX.binds (ps := ["found", "mark"]) fun _ _ _ _ _ _ us hl => match us, hl with | [_, _], _ => rfl
 have Lm := mg_of X G xa
 have rq := cJ.binds (ps := ["found"]) fun _ _ _ _ _ _ us hl => match us, hl with | [_], _ => rfl
 have rA := mg_of X G fh
 have Ed := gu.binds (ps := ["found"]) fun _ _ _ _ _ _ us hl => match us, hl with | [_], _ => rfl
 have Ee := mg_of X G oI
 have Ef := gv.binds (ps := ["found"]) fun _ _ _ _ _ _ us hl => match us, hl with | [_], _ => rfl
 have Eg := mg_of X G oJ
 have Cb := fj.binds (ps := ["found"]) fun _ _ _ _ _ _ us hl => match us, hl with | [_], _ => rfl
 have Cc := mg_of X G lS
 have Cd := fm.binds (ps := ["found"]) fun _ _ _ _ _ _ us hl => match us, hl with | [_], _ => rfl
 have Ce := mg_of X G lT
 have Eh := gw.binds (ps := ["word", "found"]) fun _ _ _ _ _ _ us hl => match us, hl with | [_, _], _ => rfl
 have Ei := mg_of X G oK
 have Ej := gx.binds (ps := ["found"]) fun _ _ _ _ _ _ us hl => match us, hl with | [_], _ => rfl
 have Ek := mg_of X G oM
 have Gh := iM.binds (ps := ["name"]) fun _ _ _ _ _ _ us hl => match us, hl with | [_], _ => rfl
 have Gi := mg_of X G qg
 have Cf := fo.binds (ps := ["facts"]) fun _ _ _ _ _ _ us hl => match us, hl with | [_], _ => rfl
 have Cg := mg_of X G lU
 have El := gy.binds (ps := ["kinds", "rules", "line"]) fun _ _ _ _ _ _ us hl => match us, hl with | [_, _, _], _ => rfl
 have Em := mg_of X G oN
 have yp := eB.binds (ps := ["kinds", "facts"]) fun _ _ _ _ _ _ us hl => match us, hl with | [_, _], _ => rfl
 have yq := mg_of X G jz
 have yr := eD.binds (ps := ["lasts", "taken"]) fun _ _ _ _ _ _ us hl => match us, hl with | [_, _], _ => rfl
 have yt := mg_of X G jA
 have Ci := fq.binds (ps := ["lasts", "rule"]) fun _ _ _ _ _ _ us hl => match us, hl with | [_, _], _ => rfl
 have Cj := mg_of X G lV
 have Ck := ft.binds (ps := ["rule"]) fun _ _ _ _ _ _ us hl => match us, hl with | [_], _ => rfl
 have Cm := mg_of X G lW
 have yu := eE.binds (ps := ["rule"]) fun _ _ _ _ _ _ us hl => match us, hl with | [_], _ => rfl
 have yw := mg_of X G jB
 have Cn := fu.binds (ps := ["kinds", "rules"]) fun _ _ _ _ _ _ us hl => match us, hl with | [_, _], _ => rfl
 have Co := mg_of X G lX
 have En := gz.binds (ps := ["text"]) fun _ _ _ _ _ _ us hl => match us, hl with | [_], _ => rfl
 have Eo := mg_of X G oO
 have xl := dW.binds (ps := ["_law_script", "_law_k"]) fun _ _ _ _ _ _ us hl => match us, hl with | [_, _], _ => rfl
 have xm := mg_of X G iF
 have Gj := iN.binds (ps := ["_law_cell", "_law_k"]) fun _ _ _ _ _ _ us hl => match us, hl with | [_, _], _ => rfl
 have Gk := mg_of X G qh
 have Cp := fw.binds (ps := ["_law_cell", "_law_many", "_law_firsts"]) fun _ _ _ _ _ _ us hl => match us, hl with | [_, _, _], _ => rfl
 have Cq := mg_of X G lY
 have yx := eF.binds (ps := ["_law_cell", "_law_many"]) fun _ _ _ _ _ _ us hl => match us, hl with | [_, _], _ => rfl
 have yy := mg_of X G jC
 have Cr := fA.binds (ps := ["_law_cell", "_law_many"]) fun _ _ _ _ _ _ us hl => match us, hl with | [_, _], _ => rfl
 have Ct := mg_of X G lZ
 have Cu := fB.binds (ps := ["_law_cell", "_law_many"]) fun _ _ _ _ _ _ us hl => match us, hl with | [_, _], _ => rfl
 have Cv := mg_of X G ma
 have Ep := gA.binds (ps := ["fact"]) fun _ _ _ _ _ _ us hl => match us, hl with | [_], _ => rfl
 have Er := mg_of X G oP
 have tu := cY.binds (ps := ["_law_fact_here"]) fun _ _ _ _ _ _ us hl => match us, hl with | [_], _ => rfl
 have tw := mg_of X G fY
 have Cw := fC.binds (ps := ["facts"]) fun _ _ _ _ _ _ us hl => match us, hl with | [_], _ => rfl
 have Cy := mg_of X G me
 have Es := gB.binds (ps := ["word", "members"]) fun _ _ _ _ _ _ us hl => match us, hl with | [_, _], _ => rfl
 have Et := mg_of X G oQ
 have Eu := gC.binds (ps := ["rule"]) fun _ _ _ _ _ _ us hl => match us, hl with | [_], _ => rfl
 have Ew := mg_of X G oR
 have Ex := gD.binds (ps := ["kind"]) fun _ _ _ _ _ _ us hl => match us, hl with | [_], _ => rfl
 have Ey := mg_of X G oS
 have Ez := gE.binds (ps := ["book"]) fun _ _ _ _ _ _ us hl => match us, hl with | [_], _ => rfl
 have EA := mg_of X G oT
 have EB := gF.binds (ps := ["_law_kinds_here", "_law_names_here", "_law_cell"]) fun _ _ _ _ _ _ us hl => match us, hl with | [_, _, _], _ => rfl
 have EC := mg_of X G oU
 have Cz := fD.binds (ps := ["_law_cell", "_law_sizes"]) fun _ _ _ _ _ _ us hl => match us, hl with | [_, _], _ => rfl
 have CA := mg_of X G mf
 have yz := eG.binds (ps := ["_law_cell", "_law_menu"]) fun _ _ _ _ _ _ us hl => match us, hl with | [_, _], _ => rfl
 have yA := mg_of X G jD
 have CB := fE.binds (ps := ["_law_kinds_here", "_law_names_here", "_law_cells", "_law_first", "_law_many"]) fun _ _ _ _ _ _ us hl => match us, hl with | [_, _, _, _, _], _ => rfl
 have CC := mg_of X G mh
 have CD := fG.binds (ps := ["_law_facts_here"]) fun _ _ _ _ _ _ us hl => match us, hl with | [_], _ => rfl
 have CF := mg_of X G mi
 have Gm := iO.binds (ps := ["_law_names_here", "_law_cells", "_law_first", "_law_k"]) fun _ _ _ _ _ _ us hl => match us, hl with | [_, _, _, _], _ => rfl
 have Gn := mg_of X G qi
 have ED := gG.binds (ps := ["_law_kinds_here", "_law_opens_here", "_law_words_here", "_law_cells", "_law_menu"]) fun _ _ _ _ _ _ us hl => match us, hl with | [_, _, _, _, _], _ => rfl
 have EE := mg_of X G oV
 have tD := cZ.binds (ps := ["_law_title", "_law_rule_here"]) fun _ _ _ _ _ _ us hl => match us, hl with | [_, _], _ => rfl
 have tE := mg_of X G fZ
 have tF := c6.binds (ps := ["_law_kind"]) fun _ _ _ _ _ _ us hl => match us, hl with | [_], _ => rfl
 have tG := mg_of X G f6
 have uD := dy.binds (ps := ["_law_number"]) fun _ _ _ _ _ _ us hl => match us, hl with | [_], _ => rfl
 have uE := mg_of X G gR
 have yB := eI.binds (ps := ["_law_line", "_law_seed"]) fun _ _ _ _ _ _ us hl => match us, hl with | [_, _], _ => rfl
 have yC := mg_of X G jE
 have CG := fH.binds (ps := ["_law_found", "_law_due"]) fun _ _ _ _ _ _ us hl => match us, hl with | [_, _], _ => rfl
 have CH := mg_of X G mj
 have yD := eJ.binds (ps := ["_law_rule_here", "_law_title", "_law_due"]) fun _ _ _ _ _ _ us hl => match us, hl with | [_, _, _], _ => rfl
 have yE := mg_of X G jF
 have yF := eL.binds (ps := ["_law_line"]) fun _ _ _ _ _ _ us hl => match us, hl with | [_], _ => rfl
 have yG := mg_of X G jG
 have Uh := aK (st := qV) Lb Lc Ld
 have aaR := mg_of X G Hc
 have pQ := gh.binds (ps := ["self", "left", "right"]) fun _ _ _ _ _ _ us hl => match us, hl with | [_, _, _], _ => rfl
 have yH := gi.binds (ps := ["self", "title", "parts"]) fun _ _ _ _ _ _ us hl => match us, hl with | [_, _, _], _ => rfl
 have xo := dX.binds (ps := ["self"]) fun _ _ _ _ _ _ us hl => match us, hl with | [_], _ => rfl
 have yI := gj.binds (ps := ["self", "kinds", "rules"]) fun _ _ _ _ _ _ us hl => match us, hl with | [_, _, _], _ => rfl
 have yJ := eM.binds (ps := ["self"]) fun _ _ _ _ _ _ us hl => match us, hl with | [_], _ => rfl
 have uF := dz.binds (ps := ["self"]) fun _ _ _ _ _ _ us hl => match us, hl with | [_], _ => rfl
 have uG := Jt tf tj tm iQ
 have uH := Jt B1 B2 B3 iR
 have Hh := mg_of X G BC
 have zN := mg_of X G sO
 have MR := mg_of X G BD
 have MS := mg_of X G BE
 have Ui := abi X G Le
 have P6 := abi X G F9
 have P7 := abi X G Ga
 have NV := abi X G Lf
 have mI := abi X G mE
 have dG := abi X G Lg
 have CI := abi X G Gb
 have gm := abi X G B6
 have NW := abi X G Lh
 have Hi := abi X G B7
 have Hj := mg_of X G B4
 have Hk := mg_of X G B5
 have IE := mg_of X G tp
 have IF := mg_of X G tq
 have CJ := mg_of X G mD
 have tY := mg_of X G o8
 refine ⟨abS "law" "law" (pe qV) (iU qV) (ao qV) .none K7 K8 K9 K6 F3 La, fun s v => .of_eq rfl, fun base _ _ => ?_⟩
 let cc : Cl := ⟨cG, bu, cN, ff⟩
 have tH : uh K cc.same := ⟨⟨BF, BG, BH, BI⟩, oY, mr⟩
 have j7 : uh K cc.unlike := ⟨⟨sS, sT, sU, sV⟩, jL, iP⟩
 have jM : xC K cc.rule := ⟨⟨BN, BO, BP, BQ⟩, mv, mw, oZ, mx, my, o7, mz⟩
 have Gp : Ma K cc.book := ⟨⟨BU, BV, BW, BX⟩, mB, mC⟩
 have CK := aep X G mF
 have yK : ∀ H : Hp, cK K H lP [tx [112, 97, 115, 115, 105, 110, 103], tx [108, 97, 115, 116, 105, 110, 103]] := fun H => .inr ⟨_, _, pO, mG, rfl, rfl, (by show 2 ≤ aai; decide), rfl, .cons (gK (by decide +kernel)) (.cons (gK (by decide +kernel)) (.nil))⟩
 have CL := aep X G mH
 have yL : ∀ H : Hp, cK K H lQ [tx [116, 97, 107, 101], tx [107, 101, 101, 112], tx [108, 111, 111, 107], tx [112, 117, 116], tx [116, 101, 108, 108]] := fun H => .inr ⟨_, _, pP, g8, rfl, rfl, (by show 5 ≤ aai; decide), rfl, .cons (gK (by decide +kernel)) (.cons (gK (by decide +kernel)) (.cons (gK (by decide +kernel)) (.cons (gK (by decide +kernel)) (.cons (gK (by decide +kernel)) (.nil)))))⟩
 have Ln := aep X G xb
 have IG : ∀ H : Hp, cK K H wR [tx [48], tx [49], tx [50], tx [51], tx [52]] := fun H => .inr ⟨_, _, zM, xc, rfl, rfl, (by show 5 ≤ aai; decide), rfl, .cons (gK (by decide +kernel)) (.cons (gK (by decide +kernel)) (.cons (gK (by decide +kernel)) (.cons (gK (by decide +kernel)) (.cons (gK (by decide +kernel)) (.nil)))))⟩
 have cV : br l.prog w K mg base "is_name_sign" 1 ["sign"] Ad := ⟨_, _, uo dR Hk ⟨BB, rfl⟩ Hj ⟨BA, rfl⟩ IE ⟨zK, rfl⟩, xf, dR.2, xg⟩
 have dA : br l.prog w K mg base "is_name" 2 ["text"] (xy gn) := ⟨_, _, FF j4 cV dG Ui IF ⟨zL, rfl⟩, Iy, j4.2, Iz⟩
 have bC : br l.prog w K mg base "is_small_word" 3 ["text"] (xy i7) := ⟨_, _, sr dw dA Hk ⟨BB, rfl⟩, uB, dw.2, uC⟩
 have p7 : br l.prog w K mg base "name_end" 2 ["text", "start"] JG := ⟨_, _, DK iJ cV dG, Gd, iJ.2, Ge⟩
 have wt : br l.prog w K mg base "pieces" 3 ["text", "marks"] vB := ⟨_, _, Ie oW p7 dG, Li, oW.2, Lj⟩
 have bI : br l.prog w K mg base "piece_at" 1 ["found", "place"] qH := ⟨_, _, DM iK dG, Gf, iK.2, Gg⟩
 have iw : br l.prog w K mg base "arguments_at" 3 ["found", "place"] E7 := ⟨_, _, uq dS bI dA Hi, xh, dS.2, xi⟩
 have su : br l.prog w K mg base "fact_at" 4 ["found", "place"] vC := ⟨_, _, FH j5 bI bC iw, IA, j5.2, IB⟩
 have ix : br l.prog w K mg base "row_of_facts" 5 ["found"] (JI K) := ⟨_, _, uu dU su dG, xj, dU.2, xk⟩
 have sv : br l.prog w K mg base "is_told" 1 ["line"] E9 := ⟨_, _, FI j6, IC, j6.2, ID⟩
 have lI : br l.prog w K mg base "told_lines" 2 ["text"] Ag := ⟨_, _, xG fi sv, B8, fi.2, Ca⟩
 have jj : br l.prog w K mg base "line_pieces" 4 ["line"] Fb := ⟨_, _, wq eo wt CJ ⟨rp, rfl⟩, yn, eo.2, yo⟩
 have oj : br l.prog w K mg base "read_kind" 4 ["found"] (Fd K) := ⟨_, _, AK gr bC dG NV CK yK Ln IG, Eb, gr.2, Ec⟩
 have eZ : br l.prog w K mg base "parted" 1 ["found", "mark"] m7 := ⟨_, _, Ih oX, Ll, oX.2, Lm⟩
 have b8 : br l.prog w K mg base "check_two_names" 3 ["found"] GV := ⟨_, _, qc cJ dA dG, rq, cJ.2, rA⟩
 have pR : a4 l.prog w K mg base da 1 _ _ ["self", "left", "right"] (km K) := AR gh
 have FJ : LW l.prog w K mg base "Same" cG 1 ["self", "left", "right"] (km K) := ⟨_, _, ⟨BJ, ml, gg, BK⟩, pR, pQ, Hh⟩
 have wu : LW l.prog w K mg base "Unlike" bu 1 ["self", "left", "right"] (km K) := ⟨_, _, ⟨sW, iG, gg, sX⟩, pR, pQ, zN⟩
 have nZ : br l.prog w K mg base "read_look" 4 ["found"] (Fe cc) := ⟨_, _, AU (c := cc) gu b8 tH j7 FJ wu, Ed, gu.2, Ee⟩
 have n0 : br l.prog w K mg base "read_pair" 4 ["found"] (Ff K) := ⟨_, _, AW gv b8, Ef, gv.2, Eg⟩
 have lD : br l.prog w K mg base "read_looks" 5 ["found"] (Ah cc) := ⟨_, _, xI (c := cc) fj eZ nZ, Cb, fj.2, Cc⟩
 have lE : br l.prog w K mg base "read_pairs" 5 ["found"] (Ai K) := ⟨_, _, xK fm eZ n0, Cd, fm.2, Ce⟩
 have oa : br l.prog w K mg base "read_part" 6 ["word", "found"] (Fg K cc) := ⟨_, _, AY (c := cc) gw lD lE ix, Eh, gw.2, Ei⟩
 have oi : br l.prog w K mg base "read_rule" 7 ["found"] (Fh K cc) := ⟨_, _, AZ (c := cc) gx bI bC eZ oa tY ⟨oG, rfl⟩ CL yL ⟨_, g8, rfl, rfl⟩, Ej, gx.2, Ek⟩
 have fV : br l.prog w K mg base "is_great" 1 ["name"] uN := ⟨_, _, DO iM Hj ⟨BA, rfl⟩, Gh, iM.2, Gi⟩
 have lF : br l.prog w K mg base "open_names" 2 ["facts"] (Aj K) := ⟨_, _, xM fo fV CI, Cf, fo.2, Cg⟩
 have yM : a4 l.prog w K mg base da 3 _ _ ["self", "title", "parts"] (uO K cc) := A3 (c := cc) gi jM lF
 have FQ : LW l.prog w K mg base "Rule" cN 3 ["self", "title", "parts"] (uO K cc) := ⟨_, _, ⟨BR, mn, jI, BS⟩, yM, yH, MR⟩
 have ib : Met l.prog w K mg base cN "calls" 1 ["self"] (uQ K cc) := ⟨_, _, jM.cl, ⟨jH, iI, dX.2⟩, xO (c := cc) dX jM dG, xo⟩
 have yN : a4 l.prog w K mg base da 1 _ _ ["self", "kinds", "rules"] (uP K cc) := A5 (c := cc) gj Gp
 have FU : LW l.prog w K mg base "Book" ff 1 ["self", "kinds", "rules"] (uP K cc) := ⟨_, _, ⟨BY, mq, jJ, BZ⟩, yN, yI, MS⟩
 have ou : br l.prog w K mg base "hear_line" 8 ["kinds", "rules", "line"] (Fj K cc) := ⟨_, _, A6 (c := cc) gy jM jj oi oj FQ tY ⟨oG, rfl⟩, El, gy.2, Em⟩
 have jl : br l.prog w K mg base "check_facts" 1 ["kinds", "facts"] (vI K) := ⟨_, _, wy eB P7 dG, yp, eB.2, yq⟩
 have jm : br l.prog w K mg base "check_taken" 1 ["lasts", "taken"] (vJ K) := ⟨_, _, wz eD, yr, eD.2, yt⟩
 have lH : br l.prog w K mg base "check_call" 2 ["lasts", "rule"] (vK K cc) := ⟨_, _, xP (c := cc) fq jM ib, Ci, fq.2, Cj⟩
 have lG : br l.prog w K mg base "said_names" 1 ["rule"] (Fl K cc) := ⟨_, _, xQ (c := cc) ft jM tH j7, Ck, ft.2, Cm⟩
 have jn : br l.prog w K mg base "check_names" 2 ["rule"] (vL K cc) := ⟨_, _, wA (c := cc) eE jM lG fV, yu, eE.2, yw⟩
 have lJ : br l.prog w K mg base "whole_book" 3 ["kinds", "rules"] (Al K cc) := ⟨_, _, xR (c := cc) fu jM jl jm lH jn FU, Cn, fu.2, Co⟩
 have oE : br l.prog w K mg base "read_book" 9 ["text"] (Fm K cc) := ⟨_, _, A7 (c := cc) gz lI ou lJ, En, gz.2, Eo⟩
 have b6 : br l.prog w K mg base "_law_cell_at" 1 ["_law_script", "_law_k"] (Fn K) := ⟨_, _, ux dW dG, xl, dW.2, xm⟩
 have aY : br l.prog w K mg base "_law_mix" 1 ["_law_cell", "_law_k"] qM := ⟨_, _, DS iN, Gj, iN.2, Gk⟩
 have cu : br l.prog w K mg base "_law_names" 2 ["_law_cell", "_law_many", "_law_firsts"] qN := ⟨_, _, xS fw aY dG gm, Cp, fw.2, Cq⟩
 have dC : br l.prog w K mg base "_law_titles" 3 ["_law_cell", "_law_many"] (i8 dI.cps.toList) := ⟨_, _, wC eF cu, yx, eF.2, yy⟩
 have lN : br l.prog w K mg base "_law_opens" 3 ["_law_cell", "_law_many"] (i8 d7.cps.toList) := ⟨_, _, xU fA cu, Cr, fA.2, Ct⟩
 have lO : br l.prog w K mg base "_law_words" 3 ["_law_cell", "_law_many"] (i8 OT.cps.toList) := ⟨_, _, xW fB cu, Cu, fB.2, Cv⟩
 have iW : br l.prog w K mg base "fact_text" 1 ["fact"] (zE K) := ⟨_, _, Ba gA dG, Ep, gA.2, Er⟩
 have cX : br l.prog w K mg base "_law_fact_text" 1 ["_law_fact_here"] (zE K) := ⟨_, _, q5 cY dG, tu, cY.2, tw⟩
 have fc : br l.prog w K mg base "facts_text" 2 ["facts"] (Fs K) := ⟨_, _, xY fC iW, Cw, fC.2, Cy⟩
 have dP : br l.prog w K mg base "part_text" 1 ["word", "members"] As := ⟨_, _, Bc gB, Es, gB.2, Et⟩
 have yO : Met l.prog w K mg base cG "word" 2 ["self"] (ky true) := ⟨_, _, tH.cl, ⟨mm, jK, eM.2⟩, Be eM, yJ⟩
 have uI : Met l.prog w K mg base bu "word" 2 ["self"] (ky false) := ⟨_, _, j7.cl, ⟨iH, gS, dz.2⟩, wF dz, uF⟩
 have Qq : ∀ b, Met l.prog w K mg base (cc.look b) "word" 2 ["self"] (ky b) := fun b => match b with | true => yO | false => uI
 have kT : ∀ (b : Bool) {H : Hp} {a dx : aaC} {fs : List (Str × V)}, H a = some (.ins (cc.look b) dx fs) → mO K H (.ref a) (.ref (cc.look b)) := fun b {_ _ _ _} e => match b, e with | true, e => .ins e tH.cl BL hn LK BM | false, e => .ins e j7.cl sY hn LK sZ
 have kS : ∀ b, abC K (.ref (cc.look b)) (.ref cc.same) = some b := fun b => match b with | true => nq | false => uH
 have kU : ∀ b, abC K (.ref (cc.look b)) (.ref cc.unlike) = some (!b) := fun b => match b with | true => uG | false => nq
 have oz : br l.prog w K mg base "rule_text" 3 ["rule"] (Au K cc) := ⟨_, _, Bf (c := cc) gC jM tH j7 dP fc Qq, Eu, gC.2, Ew⟩
 have oy : br l.prog w K mg base "kind_text" 1 ["kind"] (pB K) := ⟨_, _, Bg gD NW, Ex, gD.2, Ey⟩
 have oF : br l.prog w K mg base "book_text" 4 ["book"] (vV K cc) := ⟨_, _, Bh (c := cc) gE Gp oy oz, Ez, gE.2, EA⟩
 have oA : br l.prog w K mg base "_law_fact" 2 ["_law_kinds_here", "_law_names_here", "_law_cell"] (Aw K) := ⟨_, _, Bi gF aY dG gm Hi, EB, gF.2, EC⟩
 have lM : br l.prog w K mg base "_law_kinds" 4 ["_law_cell", "_law_sizes"] (vW K) := ⟨_, _, xZ fD aY dC dG gm, Cz, fD.2, CA⟩
 have jo : br l.prog w K mg base "_law_counts" 2 ["_law_cell", "_law_menu"] (vX K) := ⟨_, _, wG eG aY dG gm, yz, eG.2, yA⟩
 have fe : br l.prog w K mg base "_law_facts" 3 ["_law_kinds_here", "_law_names_here", "_law_cells", "_law_first", "_law_many"] (vY K) := ⟨_, _, x3 fE aY oA dG gm, CB, fE.2, CC⟩
 have d5 : br l.prog w K mg base "_law_heads" 1 ["_law_facts_here"] (uW K) := ⟨_, _, x4 fG, CD, fG.2, CF⟩
 have lK : br l.prog w K mg base "_law_two" 2 ["_law_names_here", "_law_cells", "_law_first", "_law_k"] (Fy K) := ⟨_, _, DU iO aY dG, Gm, iO.2, Gn⟩
 have oC : br l.prog w K mg base "_law_rule" 4 ["_law_kinds_here", "_law_opens_here", "_law_words_here", "_law_cells", "_law_menu"] (Ax K) := ⟨_, _, Bj gG jo fe d5 lK dG gm, ED, gG.2, EE⟩
 have fX : br l.prog w K mg base "_law_rule_text" 2 ["_law_title", "_law_rule_here"] (vZ K) := ⟨_, _, rh cZ cX dG CI, tD, cZ.2, tE⟩
 have fW : br l.prog w K mg base "_law_kind_text" 1 ["_law_kind"] (pB K) := ⟨_, _, rm c6 NW NV, tF, c6.2, tG⟩
 have gO : br l.prog w K mg base "_law_keywords" 1 ["_law_number"] FC := ⟨_, _, sy dy gm, uD, dy.2, uE⟩
 have jr : br l.prog w K mg base "_law_spread" 1 ["_law_line", "_law_seed"] v9 := ⟨_, _, wI eI dG gm, yB, eI.2, yC⟩
 have lL : br l.prog w K mg base "_law_looks" 3 ["_law_found", "_law_due"] (wa K cc) := ⟨_, _, x5 (c := cc) fH tH j7 Qq kT kS kU Hh zN mI dG CI gm, CG, fH.2, CH⟩
 have ju : br l.prog w K mg base "_law_fields" 4 ["_law_rule_here", "_law_title", "_law_due"] (sg K cc) := ⟨_, _, wJ (c := cc) eJ jM ib d5 lL mI P6 dG, yD, eJ.2, yE⟩
 have js : Pd l.prog w K mg base "_law_closer" 1 ["_law_line"] wc := ⟨_, _, wK eL, yF, eL.2, yG⟩
 exact PV (c := cc) Uh Gp b6 aY lM dC lN lO gO oC fW fX jr js oE oF ju CI dG mI gm
theorem walk {l : adO} {q : aaL} {loose : List Str} {XP : (Str → Option aad) → Heap → Prop} {YP : aa9 → Heap → Prop} {d : DefRec} {K : Params → aaa} (hn : l.most = some 63) (Q4 : d.params.defaults = [])
  (hY : ∀ (w : aa9) (h : Heap), YP w h → (K w.params).In h)
  (F : ∀ (w : aa9) (mg : Str → Option aad) (fa : aaC) (h : Heap), (K w.params).In h → h.Ns aah mg → mg d.name = some (.ref fa) →
   ∃ fd : abd, (∀ (s : aaf) (u : aad), BindsTo s fd ⟨[u], []⟩ [("_law_script", u)]) ∧ ∀ base : Heap, (K w.params).In base → base.Ns aah mg → a4 l.prog w (K w.params) mg base da 10 fa fd ["_law_script"] (GY (K w.params))) :
  PySem.W.WalkO q loose XP YP l.row.toRowW d [] (fun f vs => PySem.call f vs) :=
 L2.LV (n := 63) (k := 10) (x := "_law_script") (CX := fun _ => da) (sp := fun w => GY (K w.params)) hn (by decide) Q4 ⟨rfl, by decide, by decide, rfl⟩ hY F (fun _ _ a ns hl _ hS => ⟨a, ns, rfl, hS, hl, fun _ => rfl⟩) fun _ _ _ _ _ z => z
end iS
open PySem PySem.W PyProof.Rows
def PySem.W.Fast.tw11649780836923201298 : Nat := 0
def PySem.W.Fast.tw3240811782716749024 : Nat := 0
def PySem.W.Fast.tw3775365763642630362 : Nat := 0
def PySem.W.Fast.tw5627432781290203312 : Nat := 0
def PySem.W.Fast.tw11738234952545370154 : Nat := 0
def PySem.W.Fast.tw4033418681657659907 : Nat := 0
def PySem.W.Fast.tw2345658802482227404 : Nat := 0
def PySem.W.Fast.tw16949993185966156982 : Nat := 0
def PySem.W.Fast.tw5469558946843665260 : Nat := 0
def PySem.W.Fast.tw17396674924185031758 : Nat := 0
def PySem.W.Fast.tw3261592080243233663 : Nat := 0
def PySem.W.Fast.tw3146043609452099600 : Nat := 0
def PySem.W.Fast.tw9383229219324309166 : Nat := 0
def PySem.W.Fast.tw17690596873362587942 : Nat := 0
def PySem.W.Fast.tw14793477767557434445 : Nat := 0
def PySem.W.Fast.tw12333632247998575283 : Nat := 0
def PySem.W.Fast.tw10748867454074265799 : Nat := 0
def PySem.W.Fast.tw757176943355079927 : Nat := 0
def PySem.W.Fast.tw17108130259451524898 : Nat := 0
def PySem.W.Fast.tw3745308274333188586 : Nat := 0
def PySem.W.Fast.tw8343482398342102990 : Nat := 0
def PySem.W.Fast.tw15109158841323295265 : Nat := 0
def PySem.W.Fast.tw7674456193057252139 : Nat := 0
def PySem.W.Fast.tw15708678594807879394 : Nat := 0
def PySem.W.Fast.tw3918592429696804214 : Nat := 0
def PySem.W.Fast.tw5919001336817647566 : Nat := 0
def PySem.W.Fast.tw16636863308475066972 : Nat := 0
def PySem.W.Fast.tw4593438772889488995 : Nat := 0
def PySem.W.Fast.tw9141336079598834059 : Nat := 0
def PySem.W.Fast.tw10343792089049590703 : Nat := 0
def PySem.W.Fast.tw13269139553188859050 : Nat := 0
def PySem.W.Fast.tw2794385587506726279 : Nat := 0
def PySem.W.Fast.tw7190522957920274736 : Nat := 0
def PySem.W.Fast.tw4787197517376019669 : Nat := 0
def PySem.W.Fast.tw6755293796239429533 : Nat := 0
def PySem.W.Fast.tw6881689542463511782 : Nat := 0
def PySem.W.Fast.tw16999546487087803951 : Nat := 0
def PySem.W.Fast.tw1459881269122370255 : Nat := 0
def PySem.W.Fast.tw7042353083196402013 : Nat := 0
def PySem.W.Fast.tw2732714474090726965 : Nat := 0
def PySem.W.Fast.tw15148791082006127741 : Nat := 0
def PySem.W.Fast.tw5865799511641451742 : Nat := 0
def PySem.W.Fast.tw12020700863374392649 : Nat := 0
def PySem.W.Fast.tw6704660736837002048 : Nat := 0
def PySem.W.Fast.tw3372534111798010295 : Nat := 0
def PySem.W.Fast.tw14093557188263435394 : Nat := 0
def PySem.W.Fast.tw8766136152642126356 : Nat := 0
def PySem.W.Fast.tw17731152000845306664 : Nat := 0
def PySem.W.Fast.tw18344830905824235264 : Nat := 0
def PySem.W.Fast.tw14938702674107017413 : Nat := 0
def PySem.W.Fast.tw6644341284553143493 : Nat := 0
def PySem.W.Fast.tw3403822226452889707 : Nat := 0
def PySem.W.Fast.tw13053750262507795137 : Nat := 0
def PySem.W.Fast.tw15540276582128617074 : Nat := 0
def PySem.W.Fast.tw7059319368331291861 : Nat := 0
def PySem.W.Fast.tw13227708274708258849 : Nat := 0
def PySem.W.Fast.tw17191130346014100322 : Nat := 0
def PySem.W.Fast.tw17950812230933242050 : Nat := 0
def PySem.W.Fast.tw15215514181691203474 : Nat := 0
def PySem.W.Fast.tw15801565403496260527 : Nat := 0
def PySem.W.Fast.tw13277450513977478966 : Nat := 0
def PySem.W.Fast.tw4815183748713987042 : Nat := 0
def PySem.W.Fast.tw1919481574326067629 : Nat := 0
def PySem.W.Fast.tw4494692529261994642 : Nat := 0
def PySem.W.Fast.tw1641813146182317193 : Nat := 0
def PySem.W.Fast.tw16407012093922870261 : Nat := 0
def PySem.W.Fast.tw13009762156813460079 : Nat := 0
def PySem.W.Fast.tw10486402000629622164 : Nat := 0
def PySem.W.Fast.tw4005254928789375435 : Nat := 0
def PySem.W.Fast.tw11758260675090107699 : Nat := 0
def PySem.W.Fast.tw9053928585426144788 : Nat := 0
def PySem.W.Fast.tw8421603930477074693 : Nat := 0
def PySem.W.Fast.tw16581726156010379700 : Nat := 0
def PySem.W.Fast.tw14053194099032298037 : Nat := 0
def PySem.W.Fast.tw13317236513370656423 : Nat := 0
def PySem.W.Fast.tw10966375158694242906 : Nat := 0
def PySem.W.Fast.tw16504761426188801128 : Nat := 0
def PySem.W.Fast.tw11178678960817173369 : Nat := 0
def PySem.W.Fast.tw10131986765370474582 : Nat := 0
def PySem.W.Fast.tw9622090921351092108 : Nat := 0
def PySem.W.Fast.tw11218244615703050725 : Nat := 0
def PySem.W.Fast.tw18312600664893853402 : Nat := 0
def PySem.W.Fast.tw15947199245915916903 : Nat := 0
def PySem.W.Fast.tw13024276501315212836 : Nat := 0
def PySem.W.Fast.tw206173410372031337 : Nat := 0
def PySem.W.Fast.tw5796824342709968699 : Nat := 0
def PySem.W.Fast.tw15078490277089578786 : Nat := 0
def PySem.W.Fast.tw6916042018971800205 : Nat := 0
def PySem.W.Fast.tw17330902658303030141 : Nat := 0
def PySem.W.Fast.tw253329118828271054 : Nat := 0
def PySem.W.Fast.tw6518892121833287764 : Nat := 0
def PySem.W.Fast.tw13430550742394715744 : Nat := 0
def PySem.W.Fast.tw891105936210296417 : Nat := 0
def PySem.W.Fast.tw3456812994402600264 : Nat := 0
def PySem.W.Fast.tw16245634289425649846 : Nat := 0
def PySem.W.Fast.tw4209514531599599675 : Nat := 0
def PySem.W.Fast.tw5735500471145008702 : Nat := 0
def PySem.W.Fast.tw17775356476523303074 : Nat := 0
def PySem.W.Fast.tw13162893235763112593 : Nat := 0
def PySem.W.Fast.tw2116044566322206971 : Nat := 0
def PySem.W.Fast.tw12751928433233707542 : Nat := 0
def PySem.W.Fast.tw17345194633802097681 : Nat := 0
def PySem.W.Fast.tw9233472051423710502 : Nat := 0
def PySem.W.Fast.tw14878718317720601989 : Nat := 0
def PySem.W.Fast.tw12756638583748463569 : Nat := 0
def PySem.W.Fast.tw3637996223309422503 : Nat := 0
def PySem.W.Fast.tw11791002342987033583 : Nat := 0
def PySem.W.Fast.tw6181297199216931506 : Nat := 0
def PySem.W.Fast.tw14888760536263253402 : Nat := 0
def PySem.W.Fast.tw960645724334177176 : Nat := 0
def PySem.W.Fast.tw10902988935827337568 : Nat := 0
def PySem.W.Fast.tw18243659213028341817 : Nat := 0
def PySem.W.Fast.tw10109003401130897955 : Nat := 0
def PySem.W.Fast.tw5871839932648121856 : Nat := 0
def PySem.W.Fast.tw17177772787684635593 : Nat := 0
def PySem.W.Fast.tw17878429436894940679 : Nat := 0
def PySem.W.Fast.tw11693434309283721603 : Nat := 0
def PySem.W.Fast.tw11797203408232373489 : Nat := 0
def PySem.W.Fast.tw4334872760615287404 : Nat := 0
set_option maxRecDepth 100000 in
set_option maxHeartbeats 0 in
theorem PySem.Challenge.cw_poolrules_k10_a_rule_and_its_fields_holds : PySem.Challenge.rw_poolrules_k10_a_rule_and_its_fields.Holds := by
 w_on; o_law; k_head; (case hw => w_witness2)
 k_fill
 refine iS.walk (l := PySem.Challenge.rw_poolrules_k10_a_rule_and_its_fields) rfl rfl (fun w h Y => PySem.W.kIn_of Y) ?F
 case F =>
  intro w mg fa h KX G hmg
  refine' iS.all_mk KX G hmg ?BC ?sO ?BD ?BE ?iC ?sP ?gQ ?qe ?w9 ?qf ?iD ?sQ ?iE ?sR ?lR ?jy ?oH ?xa ?fh ?oI ?oJ ?lS ?lT ?oK ?oM ?qg ?lU ?oN ?jz ?jA ?lV ?lW ?jB ?lX ?oO ?iF ?qh ?lY ?jC ?lZ ?ma ?oP ?fY ?me ?oQ ?oR ?oS ?oT ?oU ?mf ?jD ?mh ?mi ?qi ?oV ?fZ ?f6 ?gR ?jE ?mj ?jF ?jG ?Hc ?ml ?mm ?iG ?iH ?mn ?jH ?mq ?gg ?jI ?iI ?jJ ?jK ?gS ?dR ?j4 ?dw ?iJ ?oW ?iK ?dS ?j5 ?dU ?j6 ?fi ?eo ?gr ?oX ?cJ ?gu ?gv ?fj ?fm ?gw ?gx ?iM ?fo ?gy ?eB ?eD ?fq ?ft ?eE ?fu ?gz ?dW ?iN ?fw ?eF ?fA ?fB ?gA ?cY ?fC ?gB ?gC ?gD ?gE ?gF ?fD ?eG ?fE ?fG ?iO ?gG ?cZ ?c6 ?dy ?eI ?fH ?eJ ?eL ?Lb ?Lc ?Ld ?gh ?gi ?dX ?gj ?eM ?dz ?BF ?BG ?BH ?BI ?BJ ?BK ?oY ?mr ?BL ?BM ?sS ?sT ?sU ?sV ?sW ?sX ?jL ?iP ?sY ?sZ ?BN ?BO ?BP ?BQ ?BR ?BS ?mv ?mw ?oZ ?mx ?my ?o7 ?mz ?Hd ?He ?BU ?BV ?BW ?BX ?BY ?BZ ?mB ?mC ?Hf ?Hg ?hn ?LK ?B1 ?B2 ?B3 ?tf ?tj ?tm ?iQ ?iR ?B4 ?B5 ?tp ?tq ?mD ?o8 ?Le ?F9 ?Ga ?Lf ?mE ?Lg ?Gb ?B6 ?Lh ?B7 ?mF ?mG ?mH ?g8 ?xb ?xc
  (case BC => k_is)
  (case sO => k_is)
  (case BD => k_is)
  (case BE => k_is)
  (case iC => k_is)
  (case sP => k_is)
  (case gQ => k_is)
  (case qe => k_is)
  (case w9 => k_is)
  (case qf => k_is)
  (case iD => k_is)
  (case sQ => k_is)
  (case iE => k_is)
  (case sR => k_is)
  (case lR => k_is)
  (case jy => k_is)
  (case oH => k_is)
  (case xa => k_is)
  (case fh => k_is)
  (case oI => k_is)
  (case oJ => k_is)
  (case lS => k_is)
  (case lT => k_is)
  (case oK => k_is)
  (case oM => k_is)
  (case qg => k_is)
  (case lU => k_is)
  (case oN => k_is)
  (case jz => k_is)
  (case jA => k_is)
  (case lV => k_is)
  (case lW => k_is)
  (case jB => k_is)
  (case lX => k_is)
  (case oO => k_is)
  (case iF => k_is)
  (case qh => k_is)
  (case lY => k_is)
  (case jC => k_is)
  (case lZ => k_is)
  (case ma => k_is)
  (case oP => k_is)
  (case fY => k_is)
  (case me => k_is)
  (case oQ => k_is)
  (case oR => k_is)
  (case oS => k_is)
  (case oT => k_is)
  (case oU => k_is)
  (case mf => k_is)
  (case jD => k_is)
  (case mh => k_is)
  (case mi => k_is)
  (case qi => k_is)
  (case oV => k_is)
  (case fZ => k_is)
  (case f6 => k_is)
  (case gR => k_is)
  (case jE => k_is)
  (case mj => k_is)
  (case jF => k_is)
  (case jG => k_is)
  (case Hc => k_is)
  (case ml => k_is)
  (case mm => k_is)
  (case iG => k_is)
  (case iH => k_is)
  (case mn => k_is)
  (case jH => k_is)
  (case mq => k_is)
  (case gg => k_is)
  (case jI => k_is)
  (case iI => k_is)
  (case jJ => k_is)
  (case jK => k_is)
  (case gS => k_is)
  (case dR => exact L2.aK (by k_is) (by k_is) (by k_is))
  (case j4 => exact L2.aK (by k_is) (by k_is) (by k_is))
  (case dw => exact L2.aK (by k_is) (by k_is) (by k_is))
  (case iJ => exact L2.aK (by k_is) (by k_is) (by k_is))
  (case oW => exact L2.aK (by k_is) (by k_is) (by k_is))
  (case iK => exact L2.aK (by k_is) (by k_is) (by k_is))
  (case dS => exact L2.aK (by k_is) (by k_is) (by k_is))
  (case j5 => exact L2.aK (by k_is) (by k_is) (by k_is))
  (case dU => exact L2.aK (by k_is) (by k_is) (by k_is))
  (case j6 => exact L2.aK (by k_is) (by k_is) (by k_is))
  (case fi => exact L2.aK (by k_is) (by k_is) (by k_is))
  (case eo => exact L2.aK (by k_is) (by k_is) (by k_is))
  (case gr => exact L2.aK (by k_is) (by k_is) (by k_is))
  (case oX => exact L2.aK (by k_is) (by k_is) (by k_is))
  (case cJ => exact L2.aK (by k_is) (by k_is) (by k_is))
  (case gu => exact L2.aK (by k_is) (by k_is) (by k_is))
  (case gv => exact L2.aK (by k_is) (by k_is) (by k_is))
  (case fj => exact L2.aK (by k_is) (by k_is) (by k_is))
  (case fm => exact L2.aK (by k_is) (by k_is) (by k_is))
  (case gw => exact L2.aK (by k_is) (by k_is) (by k_is))
  (case gx => exact L2.aK (by k_is) (by k_is) (by k_is))
  (case iM => exact L2.aK (by k_is) (by k_is) (by k_is))
  (case fo => exact L2.aK (by k_is) (by k_is) (by k_is))
  (case gy => exact L2.aK (by k_is) (by k_is) (by k_is))
  (case eB => exact L2.aK (by k_is) (by k_is) (by k_is))
  (case eD => exact L2.aK (by k_is) (by k_is) (by k_is))
  (case fq => exact L2.aK (by k_is) (by k_is) (by k_is))
  (case ft => exact L2.aK (by k_is) (by k_is) (by k_is))
  (case eE => exact L2.aK (by k_is) (by k_is) (by k_is))
  (case fu => exact L2.aK (by k_is) (by k_is) (by k_is))
  (case gz => exact L2.aK (by k_is) (by k_is) (by k_is))
  (case dW => exact L2.aK (by k_is) (by k_is) (by k_is))
  (case iN => exact L2.aK (by k_is) (by k_is) (by k_is))
  (case fw => exact L2.aK (by k_is) (by k_is) (by k_is))
  (case eF => exact L2.aK (by k_is) (by k_is) (by k_is))
  (case fA => exact L2.aK (by k_is) (by k_is) (by k_is))
  (case fB => exact L2.aK (by k_is) (by k_is) (by k_is))
  (case gA => exact L2.aK (by k_is) (by k_is) (by k_is))
  (case cY => exact L2.aK (by k_is) (by k_is) (by k_is))
  (case fC => exact L2.aK (by k_is) (by k_is) (by k_is))
  (case gB => exact L2.aK (by k_is) (by k_is) (by k_is))
  (case gC => exact L2.aK (by k_is) (by k_is) (by k_is))
  (case gD => exact L2.aK (by k_is) (by k_is) (by k_is))
  (case gE => exact L2.aK (by k_is) (by k_is) (by k_is))
  (case gF => exact L2.aK (by k_is) (by k_is) (by k_is))
  (case fD => exact L2.aK (by k_is) (by k_is) (by k_is))
  (case eG => exact L2.aK (by k_is) (by k_is) (by k_is))
  (case fE => exact L2.aK (by k_is) (by k_is) (by k_is))
  (case fG => exact L2.aK (by k_is) (by k_is) (by k_is))
  (case iO => exact L2.aK (by k_is) (by k_is) (by k_is))
  (case gG => exact L2.aK (by k_is) (by k_is) (by k_is))
  (case cZ => exact L2.aK (by k_is) (by k_is) (by k_is))
  (case c6 => exact L2.aK (by k_is) (by k_is) (by k_is))
  (case dy => exact L2.aK (by k_is) (by k_is) (by k_is))
  (case eI => exact L2.aK (by k_is) (by k_is) (by k_is))
  (case fH => exact L2.aK (by k_is) (by k_is) (by k_is))
  (case eJ => exact L2.aK (by k_is) (by k_is) (by k_is))
  (case eL => exact L2.aK (by k_is) (by k_is) (by k_is))
  (case Lb => k_is)
  (case Lc => k_is)
  (case Ld => k_is)
  (case gh => exact L2.aK (by k_is) (by k_is) (by k_is))
  (case gi => exact L2.aK (by k_is) (by k_is) (by k_is))
  (case dX => exact L2.aK (by k_is) (by k_is) (by k_is))
  (case gj => exact L2.aK (by k_is) (by k_is) (by k_is))
  (case eM => exact L2.aK (by k_is) (by k_is) (by k_is))
  (case dz => exact L2.aK (by k_is) (by k_is) (by k_is))
  (case BF => k_is)
  (case BG => k_is)
  (case BH => k_is)
  (case BI => k_is)
  (case BJ => k_is)
  (case BK => k_is)
  (case oY => k_is)
  (case mr => k_is)
  (case BL => k_is)
  (case BM => k_is)
  (case sS => k_is)
  (case sT => k_is)
  (case sU => k_is)
  (case sV => k_is)
  (case sW => k_is)
  (case sX => k_is)
  (case jL => k_is)
  (case iP => k_is)
  (case sY => k_is)
  (case sZ => k_is)
  (case BN => k_is)
  (case BO => k_is)
  (case BP => k_is)
  (case BQ => k_is)
  (case BR => k_is)
  (case BS => k_is)
  (case mv => k_is)
  (case mw => k_is)
  (case oZ => k_is)
  (case mx => k_is)
  (case my => k_is)
  (case o7 => k_is)
  (case mz => k_is)
  (case Hd => k_is)
  (case He => k_is)
  (case BU => k_is)
  (case BV => k_is)
  (case BW => k_is)
  (case BX => k_is)
  (case BY => k_is)
  (case BZ => k_is)
  (case mB => k_is)
  (case mC => k_is)
  (case Hf => k_is)
  (case Hg => k_is)
  (case hn => k_is)
  (case LK => k_is)
  (case B1 => k_is)
  (case B2 => k_is)
  (case B3 => k_is)
  (case tf => k_is)
  (case tj => k_is)
  (case tm => k_is)
  (case iQ => k_is)
  (case iR => k_is)
  (case B4 => k_is)
  (case B5 => k_is)
  (case tp => k_is)
  (case tq => k_is)
  (case mD => k_is)
  (case o8 => k_is)
  (case Le => k_is)
  (case F9 => k_is)
  (case Ga => k_is)
  (case Lf => k_is)
  (case mE => k_is)
  (case Lg => k_is)
  (case Gb => k_is)
  (case B6 => k_is)
  (case Lh => k_is)
  (case B7 => k_is)
  (case mF => k_is)
  (case mG => k_is)
  (case mH => k_is)
  (case g8 => k_is)
  (case xb => k_is)
  (case xc => k_is)
