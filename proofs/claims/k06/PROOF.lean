import PyProof.Rows.All
import Wide.All
import OpenK.AllK
import Wide.FinOn
import Lean
import PyProof.EqAt
import PyProof.EqKinds
import PyProof.TupleCall
import KE.KIntText
import KE.KDictList
import KE.KDictOf
import PyProof.AttrMissHeap
import PyProof.DictUpdate
import PyProof.ToksMono
import PyProof.NeKinds
import PyProof.EnumFor
import PyProof.EnumStmt
import PyProof.EnumMake
import KE.KRevIter
import PyProof.StrOps2
import PyProof.ZipIter
import PyProof.SumWalkG
import KE.KMinKey
import KE.KTryMore
import KE.KSortAsk
import KE.KSortTup
import KE.KDictLaws
import KE.KItemsList
import KE.RegKTryMore
import KE.KIsNot
import PyProof.WalkInts
import PyProof.SeqI3
import PySem.Challenge.RW_poolrules_k06_names_told_the_same
set_option Elab.async false
set_option linter.all false
set_option maxRecDepth 100000
open PySem.W renaming Frag->ZQ,mg_none_of->aa8,kia_one->abe,excIn->abX,keepIn->ab0,kitOne->acj,fnOf->acu,findIn->acI,hideAll->ac0,codeIn->adU,methodObj->adY,cellsFrom_some->aeo,instObj->aew,OpenLaw->aey,lookIn->aeR,exmOne->aeT,hideAll_get->aeU,of_hideAll->ae6,kitx_tuple->ae7,callWith_K->ae8,specialIn->afm,kitx_list->afn,kitx_dict->afo,plainGet->afz
open PySem renaming wpAny_bind->ZR,Value->ZS,Shared->ZU,wpAny_pure->ZW,sizeLine->Z2,mainGlobals->aaa,Addr->aac,sizeLine_eq->aak,Program->aao,wpAny->aar,Around->aaA,SetTable->aaB,wpAny_setState_of->aaN,World->aaO,boot_len->aaW,FuncData->aa0,mem_of_lookup->abf
open List renaming getElem_mem->ZT,mem_singleton->ZX,mem_append->ZY,getElem?_eq_some_iff->ZZ,mem_map->Z1,getElem_map->Z3,take_succ_eq_append_getElem->Z4,mem_cons_self->Z5,length_append->Z6,mem_cons_of_mem->Z9,size_toArray->aag,length_take->aah,mem_cons->aai,map_append->aaj,length_cons->aal,map_cons->aap,mem_filter->aaq,length_filter_le->aat,take_length->aau,drop_eq_getElem_cons->aaw,range->aaz,mem_append_right->aaD,map_map->aaJ,getElem?_map->aaK,find?_cons->aaP,length_nil->aaQ,mem_range->aaT,take_of_length_le->aaV,mem_iff_getElem->aa2,mem_of_mem_take->aa3,any_eq_true->abb,all_eq_true->abg,foldl_append->abh,lookup_cons->abk,length->abl,mem_map_of_mem->abn,take_append_drop->abq,append_nil->abt,nil_append->abv,mem_flatMap->abx,drop_of_length_le->aby,map_id->abA,mem_of_find?_eq_some->abD,nodup_cons->abE,length_singleton->abF,filter_append->abI,length_drop->abL,eq_nil_of_length_eq_zero->abM,map_nil->abO,append_assoc->abS,pairwise_map->abT,filterMap_cons->abU,zip_cons_cons->abY,pairwise_iff_getElem->ab2,mem_append_left->ab4,mem_of_getElem?->ab5,sum_cons->ace,ext_getElem->acg,nodup_append->acC,length_range->acD,flatMap_cons->acE,getElem_append_right->acL,nodup_nil->acM,drop_length->acO,toList_toArray->acP,flatMap_append->acQ,map_congr_left->acR,getElem_append_left->acY,mem_filterMap->ac1,find?_eq_none->ac5,pairwise_lt_range->adb,length_replicate->adk,toArray->adn,sum_nil->ado,all_cons->ads,any_cons->adt,filter_map->adE,sum_append->adF,range_succ->adG,length_eraseIdx_of_lt->adK,getElem?_eq_none_iff->adT,extract_eq_drop_take->adW,length_erase_of_mem->ad0,take_append_getElem->ad2,getElem?_cons_succ->ad6,mem_ofFn->aea,length_eq_zero_iff->aed,getElem_inj->aeh,perm_middle->aem,getElem?_set_self->aen,range_succ_eq_map->aep,getElem_cons_succ->aer,of_mem_zip->aex,getElem?_eq_none->aeF,getElem?_set_ne->aeJ,pairwise_append->aeO,mem_of_mem_drop->aeQ,map_take->afj
open PySem.Heap renaming get?_push_of_some->ZV,get?_push_size->Z8,lt_size->aab,get?_update_other->abd,get?_update_self->abZ,size_push->ab1,get?_push_ne->ab7,SameBut->acb,size_update->acN,get?_update_ne->adB,FlyingW->afu
open Nat renaming le_refl->Z0,lt_of_lt_of_le->aaf,ne_of_lt->aam,le_trans->aaM,zero_le->aaX,lt_succ_of_lt->abR,lt_irrefl->abW,lt_succ_self->aci,lt_of_le_of_ne->aco,pow_succ->acy,not_lt_zero->ac8,lt_trichotomy->adf,mod_lt->adh,ne_of_gt->adj,le_of_lt->adO,le_of_lt_succ->ad1,mod_eq_of_lt->ael,min_eq_left->aez,succ_pos->aeC,pow_le_pow_right->aeN,lt_trans->afv,mul_comm->afw,add_zero->afx,lt_or_ge->afy
open Bool renaming false_eq_true->Z7,false_ne_true->aas,and_eq_true->aaE,not_true->acf,eq_iff_iff->acs,or_eq_true->adD,not_false->adV,and_false->aeS,true_and->aff
open PySem.Paired renaming length->aad
open PySem.Str renaming ofString->aae,empty->aaU,join->adR
open PySem.F renaming plainAttrs_str->aan,slot_str_join->aaF,type_str_join->aaG,slot_list_append->aaY,type_list_append->aa6,plainAttrs_list->aba,slot_str_isupper->abJ,type_str_isupper->abK,slot_tuple_hash->abN,slot_tuple_getattribute->aca,slot_list_getattribute->acd,called_set->acz,kt_typeCall_dict_1->acF,args_dict_init_2->acV,plainAttrs_dict->ac3,entry_dict_init->ac4,kt_called_dict->ac9,slot_dict_get->adl,slot_dict_setdefault->adu,excBase_ValueError->adI,plain_extend_loop->adX,args_dict_get_3->ad8,slot_dict_items->aec,plain_list_iadd->aef,entry_dict_get->aeq
open Array renaming getD_eq_getD_getElem?->aav,length_toList->aaZ,size_map->aa7,getD->abp,getElem?_eq_getElem->ab3,mem_toList_iff->acG,append_assoc->acZ,forIn_toList->ac6,getElem?_toList->adm,getElem?_eq_none_iff->adL,toList_map->aej,getElem?_extract->aes,toList_filterMap->aet,toList_extract->aeP,getElem?_push->ae5
open Or renaming inl->aax,inr->ac2
open PySem.SetTable renaming runEnd->aay,below->aaH,insertAt->aaL,bits->aaS,leap->aa9,turns->abC,Probe->abP,grown->abQ,advance->ach,fresh->acK,layClean->adi,sizeAbove->adS,has->aeB,fill->afg
open PySem.Value renaming ref->aaC,none->aa4,str->acq,type->acS,int->adv,isStrOf->ad5,builtin->afe,bool->afl
open Option.some renaming inj->aaI
open PySem.Around renaming under_plainId->aaR
open Option renaming map_eq_some_iff->aa1,isSome_iff_exists->abH,getD_some->abV,getD_none->aei,isSome_map->afq
open PySem.PassesOwn renaming never->aa5
open Classical renaming byContradiction->abc,propDecidable->aeg,skolem->aek,choose_spec->aeH,choose->afB
open Sum renaming inr->abi,inl->afk
open PySem.Builtin.Tuple renaming tupleHashOf->abj
open PySem.Heap.SameBut renaming update->abm
open PySem.Obj renaming mapSeq->abo,data_mapFields->ac7,mapFields->aee,isFreed_of_fields->aeE,putSet->afs
open PyProof.Rows renaming boot_sorted->abr,boot_isinstance->acp,callWith_type1->adx,boot_min->aeI,lt_str->ae4
open PySem.Builtin.Dict renaming updateFrom->abu,pairItems->acm,addKeywords->acU,selfAndRest->acW
open PySem.SeqAt renaming EqAt->abw,notIn_listAt->afb
open PySem.W.KT renaming app_list->abz
open PySem.NameKind renaming free->abB,cell->afc
open False renaming elim->abG
open Int renaming toNat_natCast->ab6,emod_nonneg->acw,mul_le_mul_of_nonneg_left->adp,emod_lt_of_pos->adQ,toNat->afD
open PySem.SetTable.probe renaming go->ab8
open PySem.PyData renaming shownAll->ab9,hasDictAll->ad4,depthAll->aeG,showableAll->afh
open PySem.Calls renaming callWith_builtin->ack,spliced_cons->acn,evalArgs_plain->acH,call_function_entry->acJ,Name_function_global->adH,Constant_str->adP,spliced_nil->adZ
open Ne renaming symm->acr
open ForInStep renaming yield->acv
open PySem.StrLaws renaming glued_eq_join->acx,reprText_len->adq
open PySem.Builtin.List renaming listExtendWith->acA,listTooLong->acT,listLengthHint->adC,listSameRef->ad3
open True renaming intro->acB
open List.Pairwise renaming imp_of_mem->acX,nil->afp,imp->afr
open PySem.SetTable.layClean renaming free->ada
open PySem.Builtin.Str renaming glued->ade,strSliceIndices->adA
open PySem.SetTable.below renaming go->adg
open Sum.inr renaming inj->adw
open PySem.SeqAt.EqAt renaming same->ady,int_str->adM,str_int->adN,none_bool->aeK,bool_none->aeL,bool_bool->aeM,none_int->aeV,none_str->aeW,bool_int->aeX,bool_str->aeY,int_none->aeZ,int_bool->ae0,str_none->ae1,str_bool->ae2,int_int->ae9,str_str->afa,of_refs->afd
open PySem.Txt renaming slice->adz,join->ad7,isupper->ae3
open PySem.Manifest.ParamKind renaming posOnly->adJ
open PySem.Shared renaming TypeIs->ad9
open PySem.W.Looks renaming of_pure->aeb
open PySem.Manifest.Receiver renaming self->aeu,none->aev
open PySem.Heap.DictOf renaming new->aeA
open PySem.SetTable.sizeAbove renaming go->aeD
open PySem.SeqAt.RcNeAt renaming lists->afi
open Iff renaming rfl->aft
open PySem.SeqAt.RcAt renaming lists->afA
open List.Perm renaming of_eq->afC
theorem Lm9 {α : Type _} {β : Type _} {as : List α} (f : α → β) : (as.map f).length = as.length := List.length_map f
theorem Ge9 {α : Type _} {l : List α} {i : Nat} (h : i < l.length) : l[i]? = some l[i] := List.getElem?_eq_getElem h
theorem Gd9 {α : Type _} {l : List α} {i : Nat} {a : α} : l.getD i a = (l[i]?).getD a := List.getD_eq_getElem?_getD
namespace L2
open PySem PySem.Spec PyProof.Rows
abbrev Key := Sum Int Str
def tZ : Key → ZS → Bool
 | .inl k, v => Value.isInt k v
 | .inr x, v => ad5 x v
def QE (w : aaO) : Key → Int
 | .inl k => hashInt k
 | .inr x => hashStr w x
theorem bI : ∀ {k : Key} {v : ZS}, tZ k v = true → (∃ i t, k = afk i ∧ v = adv i t) ∨ (∃ x t, k = abi x ∧ v = acq x t)
 | .inl i, v, h => by
  obtain ⟨t, e⟩ := Value.isInt_shape (k := i) (v := v) h
  exact .inl ⟨i, t, rfl, e⟩
 | .inr x, v, h => by
  obtain ⟨t, e⟩ := Value.isStrOf_shape (x := x) (v := v) h
  exact .inr ⟨x, t, rfl, e⟩
theorem B4 (i : Int) (t : Tok) : tZ (.inl i) (.int i t) = true := by simp [tZ, Value.isInt]
theorem B5 (x : Str) (t : Tok) : tZ (.inr x) (.str x t) = true := by simp [tZ, ad5]
theorem IA (a b : Int) : decide ((afk a : Key) = afk b) = (a == b) := by
 by_cases e : a = b
 ·subst e; simp
 ·have h : ¬ (afk a : Key) = afk b := fun q => e (Sum.inl.inj q)
  rw [decide_eq_false h]
  exact (beq_eq_false_iff_ne.mpr e).symm
theorem IB (a b : Str) : decide ((abi a : Key) = abi b) = decide (a = b) := by
 by_cases e : a = b
 ·subst e; simp
 ·have h : ¬ (abi a : Key) = abi b := fun q => e (adw q)
  rw [decide_eq_false h, decide_eq_false e]
theorem IC (a : Int) (b : Str) : decide ((afk a : Key) = abi b) = false := decide_eq_false (fun q => nomatch q)
theorem ID (a : Str) (b : Int) : decide ((abi a : Key) = afk b) = false := decide_eq_false (fun q => nomatch q)
def aF (prog : aao) (w : aaO) : PySem.KeyKind prog w Key where
 is := tZ
 hash := QE w
 inj := fun v a b ha hb => by
  rcases bI ha with ⟨i, t, rfl, rfl⟩ | ⟨x, t, rfl, rfl⟩
  ·rcases bI hb with ⟨j, u, rfl, e⟩ | ⟨y, u, rfl, e⟩
   ·injection e with e1 _; rw [e1]
   ·exact nomatch e
  ·rcases bI hb with ⟨j, u, rfl, e⟩ | ⟨y, u, rfl, e⟩
   ·exact nomatch e
   ·injection e with e1 _; rw [e1]
 byValue := fun k v h => by
  rcases bI h with ⟨i, t, rfl, rfl⟩ | ⟨x, t, rfl, rfl⟩ <;> rfl
 pyHash := fun hv h => by
  rcases bI hv with ⟨i, t, rfl, rfl⟩ | ⟨x, t, rfl, rfl⟩
  ·exact wpAny_pyHash_int h
  ·exact wpAny_pyHash_str h
 eqBool := fun hu hv h => by
  rcases bI hu with ⟨i, t, rfl, rfl⟩ | ⟨x, t, rfl, rfl⟩
  ·rcases bI hv with ⟨j, u, rfl, rfl⟩ | ⟨y, u, rfl, rfl⟩
   ·rw [IA] at h; exact wpAny_eqBool_int h
   ·rw [IC] at h; exact adM i t y u _ _ _ _ h
  ·rcases bI hv with ⟨j, u, rfl, rfl⟩ | ⟨y, u, rfl, rfl⟩
   ·rw [ID] at h; exact adN x t j u _ _ _ _ h
   ·rw [IB] at h; exact wpAny_eqBool_str h
 «strs» := fun k x t v h => by
  rcases bI h with ⟨i, u, rfl, e⟩ | ⟨y, u, rfl, e⟩
  ·exact nomatch e
  ·injection e with e1 _
   subst e1
   cases v <;> rfl
theorem xk (prog : aao) (w : aaO) (i : Int) (t : Tok) : (aF prog w).is (.inl i) (.int i t) = true := B4 i t
theorem xl (prog : aao) (w : aaO) (x : Str) (t : Tok) : (aF prog w).is (.inr x) (.str x t) = true := B5 x t
end L2
namespace L2
open PySem PySem.Spec PyProof.Rows
inductive V where
 | bB | bl (b : Bool) | int (i : Int) | str (x : Str) | DD (b : Array UInt8) | Lw (b : UInt64) | ref (a : aac) | ty (n : String)
 deriving DecidableEq
def RelV : V → ZS → Prop
 | .bB, u => u = aa4
 | .bl b, u => u = afl b
 | .int i, u => ∃ t, u = adv i t
 | .str x, u => ∃ t, u = acq x t
 | .DD b, u => ∃ t, u = Value.bytes b t
 | .Lw b, u => ∃ t, u = Value.float b t
 | .ref a, u => u = aaC a
 | .ty n, u => u = acS n
abbrev Vals : List V → List ZS → Prop := Paired RelV
theorem Vals.length {xs : List V} {us : List ZS} (r : Vals xs us) : xs.length = us.length := aad r
theorem Vals.get : ∀ {xs : List V} {us : List ZS} {i : Nat} {x : V}, Vals xs us → xs[i]? = some x → ∃ u, us[i]? = some u ∧ RelV x u
 | _, _, _, _, .nil, e => by simp at e
 | _, _, 0, _, .cons r _, e => by simp at e; subst e; exact ⟨_, rfl, r⟩
 | _, _, i + 1, x, .cons _ t, e => by
  obtain ⟨u, h1, h2⟩ := Vals.get (i := i) (x := x) t (by simpa using e)
  exact ⟨u, by simpa using h1, h2⟩
theorem Vals.append : ∀ {xs ys : List V} {us ws : List ZS}, Vals xs us → Vals ys ws → Vals (xs ++ ys) (us ++ ws)
 | _, _, _, _, .nil, s => s
 | _, _, _, _, .cons r t, s => .cons r (Vals.append t s)
theorem Vals.take : ∀ {xs : List V} {us : List ZS} (n : Nat), Vals xs us → Vals (xs.take n) (us.take n)
 | _, _, 0, _ => .nil
 | _, _, _ + 1, .nil => .nil
 | _, _, n + 1, .cons r t => .cons r (Vals.take n t)
theorem Vals.drop : ∀ {xs : List V} {us : List ZS} (n : Nat), Vals xs us → Vals (xs.drop n) (us.drop n)
 | _, _, 0, r => r
 | _, _, _ + 1, .nil => .nil
 | _, _, n + 1, .cons _ t => Vals.drop n t
theorem Vals.none_of : ∀ {xs : List V} {us : List ZS} {i : Nat}, Vals xs us → xs[i]? = none → us[i]? = none := fun {xs us i} r e => by
 have h1 := r.length
 have h2 : xs.length ≤ i := adT.mp e
 exact adT.mpr (by omega)
def ma : Option V → Option ZS → Prop
 | some v, some u => RelV v u
 | none, none => True
 | _, _ => False
def KV {κ : Type} : List (κ × V) → List (κ × ZS) → Prop := Paired fun (p : κ × V) (q : κ × ZS) => p.1 = q.1 ∧ RelV p.2 q.2
def kV : Key → V
 | .inl i => .int i
 | .inr x => .str x
inductive HO where
 | lst (xs : List V)
 | tup (xs : List V)
 | dK (kvs : List (Key × V)) | dT (kvs : List (List Key × V))
 | set (S : Int → Bool) (n : Nat)
 | ins (C dx : aac) (fs : List (Str × V))
 | own (x : aac)
 | xd (fs : List (Str × V))
 | met (f x : aac)
 | Px (lo hi : Int)
 | lO (o : Obj) (u : HO)
 | F7 (ps : Array ZS)
 | ext (φ : Heap → Prop)
abbrev Hp := aac → Option HO
def upd (H : Hp) (a : aac) (o : HO) : Hp := fun b => if b = a then some o else H b
theorem ae {H : Hp} {a : aac} {o : HO} : upd H a o a = some o := by unfold upd; rw [if_pos rfl]
theorem aE {H : Hp} {a b : aac} {o : HO} (h : b ≠ a) : upd H a o b = H b := by unfold upd; rw [if_neg h]
theorem A4 {H : Hp} {a : aac} {o u : HO} : upd (upd H a o) a u = upd H a u := by
 funext b; unfold upd; split <;> rfl
theorem xm {H : Hp} {a b : aac} {o u : HO} (h : H a = some o) (h' : H b = some u) (d : o ≠ u) : a ≠ b := by
 intro e; subst e; rw [h] at h'; exact d (aaI h')
theorem bg {H : Hp} {a b : aac} {o : HO} (h : H a = some o) (h' : H b = none) : a ≠ b := by
 intro e; subst e; rw [h] at h'; cases h'
section
variable (P : aao) (w : aaO)
def ba (H : Hp) (h : Heap) (a : aac) : HO → Prop
 | .lst xs => xs.length ≤ Z2 ∧ ∃ (its : List ZS) (n : Nat), Vals xs its ∧ h.get? a = some { cls := .type "list", data := .seq its.toArray n }
 | .tup xs => xs.length ≤ Z2 ∧ ∃ its : List ZS, Vals xs its ∧ IsTup h a its.toArray
 | .dK kvs => kvs.length ≤ Z2 ∧ (a == sysModules) = false ∧ ∃ vs, KV kvs vs ∧ h.DictOf (aF P w) a vs
 | .dT kvs => kvs.length ≤ Z2 ∧ (a == sysModules) = false ∧ ∃ xs : List (List Key × aac × ZS),
   Paired (fun (p : List Key × V) (q : List Key × aac × ZS) => p.1 = q.1 ∧ H q.2.1 = some (.tup (p.1.map kV)) ∧ RelV p.2 q.2.2) kvs xs ∧
   ∃ o es ep, h.get? a = some o ∧ o.ExactDict ∧ o.data = .dict es ep ∧ es.toList = xs.map (entryOfKey (tupleKind (aF P w))) ∧ (xs.map (·.1)).Nodup
 | .set S n => h.SetOf (intKind P w) a S n
 | .ins C dx fs => H dx = some (.own a) ∧ fs.length ≤ 1000 ∧ dx ≠ a ∧ h.get? a = some (aew C dx) ∧
   ∃ mA, h.Ns1 dx mA ∧ (∀ f, ma (fs.lookup f) (mA f)) ∧ PySem.Within mA (fs.map (·.1))
 | .own _ => ∃ o, h.get? a = some o
 | .xd fs => ∃ mA, h.Ns1 a mA ∧ ∀ f, ma (fs.lookup f) (mA f)
 | .Px lo hi => ∃ t u v, h.get? a = some { cls := .type "range", data := .fields #[.int lo t, .int hi u, .int 1 v] }
 | .lO o u => h.get? a = some o ∧ ba H h a u
 | .F7 ps => h.get? a = some { cls := .none, data := .fields ps }
 | .met f x => h.get? a = some (adY (.ref f) (.ref x))
 | .ext φ => φ h ∧ (∃ o, h.get? a = some o) ∧ ∀ h1 h2 : Heap, φ h1 → (∀ o, h1.get? a = some o → h2.get? a = some o) → φ h2
def jO (H : Hp) (h : Heap) : Prop := ∀ a o, H a = some o → ba P w H h a o
end
section
variable {P : aao} {w : aaO} {H H' : Hp} {h h' : Heap} {a : aac} {o : HO}
theorem ba.lt (x : ba P w H h a o) : a < h.objs.size := by
 cases o with
 | lst xs => obtain ⟨_, _, _, _, e⟩ := x; exact aab e
 | tup xs => obtain ⟨_, _, _, p⟩ := x; exact p.lt
 | dK kvs => obtain ⟨_, _, _, _, o, _, _, e, _⟩ := x; exact aab e
 | dT kvs => obtain ⟨_, _, _, _, o, _, _, e, _⟩ := x; exact aab e
 | set S n => obtain ⟨o, _, _, _, e, _⟩ := x; exact aab e
 | ins C dx fs => obtain ⟨_, _, _, e, _⟩ := x; exact aab e
 | own y => obtain ⟨_, e⟩ := x; exact aab e
 | xd fs => obtain ⟨_, ⟨_, _, _, e, _⟩, _⟩ := x; exact aab e
 | Px lo hi => obtain ⟨_, _, _, e⟩ := x; exact aab e
 | lO ob u => obtain ⟨e, _⟩ := x; exact aab e
 | F7 ps => exact aab (show h.get? a = some _ from x)
 | met f y => exact aab (show h.get? a = some _ from x)
 | ext φ => obtain ⟨_, ⟨_, e⟩, _⟩ := x; exact aab e
theorem Paired.sk {α β : Type} {F G : α → β → Prop} : ∀ {l₁ : List α} {l₂ : List β}, Paired F l₁ l₂ → (∀ a b, F a b → G a b) → Paired G l₁ l₂
 | _, _, .nil, _ => .nil
 | _, _, .cons r t, f => .cons (f _ _ r) (Paired.sk t f)
theorem ba.zy (x : ba P w H h a o) (k : ∀ b u, (b = a ∨ H b = some (.own a)) → h.get? b = some u → h'.get? b = some u)
  (ho : ∀ b, H b = some (.own a) → H' b = some (.own a)) (ht : ∀ b xs, H b = some (.tup xs) → H' b = some (.tup xs)) : ba P w H' h' a o := by
 induction o with
 | lst xs => obtain ⟨z, its, n, r, e⟩ := x; exact ⟨z, its, n, r, k _ _ (.inl rfl) e⟩
 | tup xs => obtain ⟨z, its, r, ob, e, c⟩ := x; exact ⟨z, its, r, ob, k _ _ (.inl rfl) e, c⟩
 | dK kvs => obtain ⟨z, y, vs, r, ob, es, ep, e, c⟩ := x; exact ⟨z, y, vs, r, ob, es, ep, k _ _ (.inl rfl) e, c⟩
 | dT kvs =>
  obtain ⟨z, y, xs, r, ob, es, ep, e, c⟩ := x
  exact ⟨z, y, xs, Paired.sk r fun p q z => ⟨z.1, ht _ _ z.2.1, z.2.2⟩, ob, es, ep, k _ _ (.inl rfl) e, c⟩
 | set S n => obtain ⟨ob, es, ep, t, e, c⟩ := x; exact ⟨ob, es, ep, t, k _ _ (.inl rfl) e, c⟩
 | ins C dx fs =>
  obtain ⟨d, z, ne, e, mA, ⟨od, es, ep, e2, c⟩, r⟩ := x
  exact ⟨ho _ d, z, ne, k _ _ (.inl rfl) e, mA, ⟨od, es, ep, k _ _ (.inr d) e2, c⟩, r⟩
 | own y => obtain ⟨ob, e⟩ := x; exact ⟨ob, k _ _ (.inl rfl) e⟩
 | xd fs => obtain ⟨mA, ⟨od, es, ep, e, c⟩, r⟩ := x; exact ⟨mA, ⟨od, es, ep, k _ _ (.inl rfl) e, c⟩, r⟩
 | Px lo hi => obtain ⟨t, u, v, e⟩ := x; exact ⟨t, u, v, k _ _ (.inl rfl) e⟩
 | lO ob u ih => obtain ⟨e, q⟩ := x; exact ⟨k _ _ (.inl rfl) e, ih q⟩
 | F7 ps =>
  have e : h.get? a = some { cls := .none, data := .fields ps } := x
  show h'.get? a = some { cls := .none, data := .fields ps }
  exact k a _ (.inl rfl) e
 | met f y =>
  have e : h.get? a = some (adY (.ref f) (.ref y)) := x
  show h'.get? a = some (adY (.ref f) (.ref y))
  exact k a _ (.inl rfl) e
 | ext φ => obtain ⟨p, ⟨o, e⟩, st⟩ := x; exact ⟨st _ _ p fun o q => k _ _ (.inl rfl) q, ⟨o, k _ _ (.inl rfl) e⟩, st⟩
theorem jO.lt (x : jO P w H h) (e : H a = some o) : a < h.objs.size := (x a o e).lt
theorem jO.fresh (x : jO P w H h) (e : h.objs.size ≤ a) : H a = none := by
 cases q : H a with
 | none => rfl
 | some u => exact absurd (aaf (x.lt q) e) (abW _)
theorem jO.kept (x : jO P w H h) (k : ∀ b u, h.get? b = some u → h'.get? b = some u) : jO P w H h' := fun a o e =>
 (x a o e).zy (fun b u _ q => k b u q) (fun _ q => q) fun _ _ q => q
theorem jO.laid (x : jO P w H h) (k : ∀ b u, h.get? b = some u → h'.get? b = some u) (hp : h.objs.size ≤ a) (new : ba P w (upd H a o) h' a o) : jO P w (upd H a o) h' := fun b u e => by
 have hn := x.fresh hp
 by_cases hb : b = a
 ·subst hb; rw [ae] at e; cases e; exact new
 ·rw [aE hb] at e
  exact (x b u e).zy (fun c v _ q => k c v q) (fun c q => by rw [aE (bg q hn)]; exact q) fun c xs q => by rw [aE (bg q hn)]; exact q
end
def Rd (H : Hp) (a : aac) (u : HO) : Prop := H a = some u ∨ ∃ o, H a = some (.lO o u)
theorem Rd.ok {P : aao} {w : aaO} {H : Hp} {h : Heap} {a : aac} {u : HO} (r : Rd H a u) (x : jO P w H h) : ba P w H h a u := by
 rcases r with r | ⟨o, r⟩
 ·exact x a u r
 ·obtain ⟨_, q⟩ := x a _ r
  exact q
def LZ : Option HO → Prop
 | some (.lst _) => True
 | some (.dK _) => True
 | some (.dT _) => True
 | some (.set _ _) => True
 | some (.ins _ _ _) => True
 | some (.ext _) => True
 | _ => False
section
variable {P : aao} {w : aaO} {H : Hp} {h h' : Heap} {x e : aac} {o' : HO}
theorem jO.write (ok : jO P w H h) (mu : LZ (H x)) (he : e = x ∨ H e = some (.own x)) (k : ∀ b u, b ≠ e → h.get? b = some u → h'.get? b = some u) (Lx : ∃ u, h'.get? e = some u)
  (new : ba P w (upd H x o') h' x o') : jO P w (upd H x o') h' := fun b u q => by
 have L0 : ∀ c y, H c = some (.own y) → c ≠ x := fun c y r z => by subst z; rw [r] at mu; exact mu
 have QF : ∀ c xs, H c = some (.tup xs) → c ≠ x := fun c xs r z => by subst z; rw [r] at mu; exact mu
 by_cases hb : b = x
 ·subst hb; rw [ae] at q; cases q; exact new
 ·rw [aE hb] at q
  by_cases IE : b = e
  ·have q' : H b = some (.own x) := by
    rcases he with z | z
    ·exact absurd (IE.trans z) hb
    ·rw [IE]; exact z
   rw [q] at q'; cases q'
   obtain ⟨v, hv⟩ := Lx
   exact ⟨v, by rw [IE]; exact hv⟩
  ·refine (ok b u q).zy (fun c v hc r => k c v ?_ r) (fun c r => by rw [aE (L0 c b r)]; exact r) fun c xs r => by rw [aE (QF c xs r)]; exact r
   rcases hc with rfl | hc
   ·exact IE
   ·rintro rfl
    rcases he with z | z
    ·exact L0 c b hc z
    ·rw [hc] at z; cases z; exact hb rfl
end
structure Un (fs ex : List aac) (H H' : Hp) (h h' : Heap) : Prop where
 keep : ∀ b o, h.get? b = some o → H b = none → b ∉ fs → b ∉ ex → h'.get? b = some o
 slot : ∀ b o, h.get? b = some o → H b = none → b ∈ fs → b ∉ ex → ∃ sl, h'.get? b = some { o with slots := sl }
 free : ∀ b o, h.get? b = some o → H b = none → b ∉ ex → H' b = none
 there : ∀ b o, h.get? b = some o → b ∉ ex → ∃ o', h'.get? b = some o'
 jQ : ∀ b xs, H b = some (.tup xs) → H' b = some (.tup xs)
 jL : ∀ b o u, H b = some (.lO o u) → H' b = some (.lO o u)
 jR : ∀ b ps, H b = some (.F7 ps) → ∃ more, H' b = some (.F7 (ps ++ more))
section
variable {fs fs' ex Y2 : List aac} {H H1 H2 : Hp} {h h1 h2 h' : Heap} {a x e : aac} {o : HO}
theorem Un.any (u : Un fs ex H H1 h h1) {b : aac} {ob : Obj} (q : h.get? b = some ob) (n : H b = none) (hx : b ∉ ex) : ∃ sl, h1.get? b = some { ob with slots := sl } := by
 by_cases hb : b ∈ fs
 ·exact u.slot b ob q n hb hx
 ·exact ⟨ob.slots, u.keep b ob q n hb hx⟩
theorem Un.trans (a : Un fs ex H H1 h h1) (b : Un fs ex H1 H2 h1 h2) : Un fs ex H H2 h h2 where
 keep := fun c ob q n hc hx => b.keep c ob (a.keep c ob q n hc hx) (a.free c ob q n hx) hc hx
 slot := fun c ob q n hc hx => by
  obtain ⟨sl, e1⟩ := a.slot c ob q n hc hx
  obtain ⟨sl', e2⟩ := b.slot c _ e1 (a.free c ob q n hx) hc hx
  exact ⟨sl', e2⟩
 free := fun c ob q n hx => by
  obtain ⟨o', e1⟩ := a.there c ob q hx
  exact b.free c o' e1 (a.free c ob q n hx) hx
 there := fun c ob q hx => by
  obtain ⟨o', e1⟩ := a.there c ob q hx
  exact b.there c o' e1 hx
 jQ := fun c xs q => b.jQ c xs (a.jQ c xs q)
 jL := fun c ob xs q => b.jL c ob xs (a.jL c ob xs q)
 jR := fun c ps q => by
  obtain ⟨m1, e1⟩ := a.jR c ps q
  obtain ⟨m2, e2⟩ := b.jR c _ e1
  exact ⟨m1 ++ m2, by rw [e2, acZ]⟩
theorem Un.kept (k : ∀ b u, h.get? b = some u → h'.get? b = some u) : Un fs ex H H h h' :=
 ⟨fun b ob q _ _ _ => k b ob q, fun b ob q _ _ _ => ⟨ob.slots, k b ob q⟩, fun _ _ _ n _ => n, fun b ob q _ => ⟨ob, k b ob q⟩, fun _ _ q => q, fun _ _ _ q => q, fun _ ps q => ⟨#[], by rw [q]; simp⟩⟩
theorem Un.refl : Un fs ex H H h h := Un.kept fun _ _ q => q
theorem Un.laid (k : ∀ b u, h.get? b = some u → h'.get? b = some u) (hp : h.objs.size ≤ a) (hn : H a = none) : Un fs ex H (upd H a o) h h' where
 keep := fun b u q _ _ _ => k b u q
 slot := fun b u q _ _ _ => ⟨u.slots, k b u q⟩
 free := fun b u q n _ => by rw [aE (aam (aaf (aab q) hp))]; exact n
 there := fun b u q _ => ⟨u, k b u q⟩
 jQ := fun b xs q => by rw [aE (bg q hn)]; exact q
 jL := fun b u xs q => by rw [aE (bg q hn)]; exact q
 jR := fun b ps q => ⟨#[], by rw [aE (bg q hn), q]; simp⟩
theorem Un.write (mu : LZ (H x)) (he : e = x ∨ H e = some (.own x)) (k : ∀ b u, b ≠ e → h.get? b = some u → h'.get? b = some u) (Lx : ∃ u, h'.get? e = some u) : Un fs ex H (upd H x o) h h' := by
 have hx : ∀ b, H b = none → b ≠ x := fun b n z => by subst z; rw [n] at mu; exact mu
 have hb : ∀ b, H b = none → b ≠ e := fun b n z => by
  subst z
  rcases he with r | r
  ·exact hx b n r
  ·rw [n] at r; cases r
 have hm : ∀ b u, H b = some u → ¬ LZ (some u) → b ≠ x := fun b u q nm z => by subst z; rw [q] at mu; exact nm mu
 refine ⟨fun b u q n _ _ => k b u (hb b n) q, fun b u q n _ _ => ⟨u.slots, k b u (hb b n) q⟩, fun b u q n _ => by rw [aE (hx b n)]; exact n, fun b u q _ => ?_,
  fun b xs q => by rw [aE (hm b _ q fun z => z)]; exact q, fun b u xs q => by rw [aE (hm b _ q fun z => z)]; exact q, fun b ps q => ⟨#[], by rw [aE (hm b _ q fun z => z), q]; simp⟩⟩
 by_cases IE : b = e
 ·subst IE; exact Lx
 ·exact ⟨u, k b u IE q⟩
end
def Py (h : Heap) (H : Hp) : List aac := (aaz h.objs.size).filter fun a => (H a).isSome
def uV (h : Heap) (H : Hp) : Heap := ac0 h (Py h H)
theorem B6 (h : Heap) (H : Hp) : (uV h H).objs.size = h.objs.size := PySem.W.hideAll_size _ _
theorem DE {h : Heap} {H : Hp} {b : aac} {o : Obj} (e : h.get? b = some o) (n : H b = none) : (uV h H).get? b = some o :=
 aeU _ e fun hm => by
  have q : (H b).isSome = true := (aaq.mp hm).2
  rw [n] at q; simp at q
theorem Gn {h : Heap} {H : Hp} {b : aac} {o : Obj} (e : (uV h H).get? b = some o) : h.get? b = some o ∧ H b = none := by
 have e' : h.get? b = some o := ae6 (Py h H) e
 refine ⟨e', ?_⟩
 cases q : H b with
 | none => rfl
 | some x =>
  have hm : b ∈ Py h H := aaq.mpr ⟨aaT.mpr (aab e'), by simp [q]⟩
  have z : (uV h H).get? b = none := PySem.W.hideAll_none (Py h H) hm
  rw [z] at e; cases e
def Gp (g h : Heap) (L : aac) : List (aac × Obj) := (aaz h.objs.size).filterMap fun a => if a = L ∨ (g.get? a).isSome = true then none else (h.get? a).map fun o => (a, o)
def rest (g h : Heap) (L d : aac) : List (aac × Obj) := (Gp g h L).filter fun p => decide (p.1 ≠ d)
end L2
namespace L2
open PySem PySem.Spec PyProof.Rows
structure Mod (K : ZQ) (mg : Str → Option ZS) (base : Heap) : Prop where
 L1 : K.In base
 glob : base.Ns aaa mg
 blt : ∃ mb, base.Ns builtinsNs mb ∧ ∀ x : Str, x ≠ "__name__" → mb x = bootBuiltins x
 nolimit : base.NoLimit
structure Cx where
 prog : aao
 w : aaO
 K : ZQ
 mg : Str → Option ZS
 base : Heap
 A : aaA
 N : List Str
 s₀ : ZU
 H₀ : Hp
 env : Env
 outer : List Env
 stack : List Env
 ex : List aac
 fn : Str → Bool
 calm : Bool
 pn : List (aac × Obj)
 xe : ZS → ZU → Prop
def gh (l : List Env) : List aac := l.filterMap (·.frame)
abbrev Cx.fs (X : Cx) : List aac := gh X.outer
def QG (sc : Scope) (x : Str) : Prop := sc.names.lookup x = some .local ∨ sc.names.lookup x = some .cell ∨ sc.names.lookup x = some .free
def Loc (sc : Scope) (x : Str) : Prop := sc.names.lookup x = some .local ∨ sc.names.lookup x = some .cell
def Look (env : Env) (h : Heap) (m : Str → Option ZS) (x : Str) (u : ZS) : Prop :=
 (env.kindOf x = some .local ∧ m x = some u) ∨ ((env.kindOf x = some .cell ∨ env.kindOf x = some .free) ∧ ∃ c, env.cells.lookup x = some c ∧ h.IsCell c (some u))
structure Cx.Ok (X : Cx) : Prop where
 mod : Mod X.K X.mg X.base
 kind : X.env.scope.kind = .function
 glob : X.env.globals = aaa
 blt : X.env.builtins = builtinsNs
 above : X.s₀.heap.objs.size ≤ X.env.locals
 inj : ∀ x y c, X.env.cells.lookup x = some c → X.env.cells.lookup y = some c → x = y
 has : ∀ x, (X.env.kindOf x = some .cell ∨ X.env.kindOf x = some .free) → ∃ c, X.env.cells.lookup x = some c
 IF : ∀ x c, X.fn x = true → X.env.cells.lookup x = some c → X.s₀.heap.objs.size ≤ c
 hd : X.calm = true → X.A.handled = none
 frames : X.A.frames = some X.stack
 A5 : X.stack = X.outer ∨ (X.stack = X.env :: X.outer ∧ X.env.frame = some X.env.locals)
 QH : ∀ b ∈ X.ex, b ≠ X.env.locals ∧ ∀ x c, X.env.cells.lookup x = some c → c ≠ b
 bs : ∀ b o, X.base.get? b = some o → X.s₀.heap.get? b = some o ∧ X.H₀ b = none
 Gq : X.base.objs.size ≤ X.s₀.heap.objs.size
 B7 : ∀ b o, X.base.get? b = some o → b ∉ X.ex
 DF : ∀ b ∈ X.ex, b ∉ X.fs
 oh : X.s₀.heap.FunFrames X.base X.outer
 IG : ∀ b ∈ X.fs, X.H₀ b = none
structure Inv (X : Cx) (pins : List (aac × Obj)) (σ : List (Option V)) (H : Hp) (s : ZU) : Prop where
 ok : X.Ok
 os : s.os = X.s₀.os
 bare : AllBare s.gens
 base : Un X.fs X.ex X.H₀ H X.s₀.heap s.heap
 loc : ∃ m, s.heap.Ns X.env.locals m ∧ ∀ (i : Nat) (x : Str) (v : V), X.N[i]? = some x → σ[i]? = some (some v) → QG X.env.scope x → ∃ u, RelV v u ∧ Look X.env s.heap m x u
 cell : ∀ x c, X.env.cells.lookup x = some c → ∃ v, s.heap.IsCell c v
 free : H X.env.locals = none
 gj : ∀ x c, X.env.cells.lookup x = some c → H c = none
 pin : ∀ p ∈ X.pn ++ pins, s.heap.get? p.1 = some p.2 ∧ H p.1 = none ∧ p.1 ≠ X.env.locals ∧ p.1 ∉ X.fs ∧ ∀ v, p.2.data ≠ .cell v
 hok : jO X.prog X.w H s.heap
 len : σ.length = X.N.length
section
variable {X : Cx} {pins : List (aac × Obj)} {σ : List (Option V)} {H H' : Hp} {s : ZU} {h' : Heap}
theorem Cx.Ok.QI (ok : X.Ok) {b : aac} {o : Obj} (e : X.base.get? b = some o) : b ∉ X.fs := fun hb => by
 have := (ok.oh.mem hb).1
 rw [e] at this; cases this
theorem Inv.bs (I : Inv X pins σ H s) : ∀ b o, X.base.get? b = some o → s.heap.get? b = some o ∧ H b = none := fun b o e =>
 ⟨I.base.keep b o (I.ok.bs b o e).1 (I.ok.bs b o e).2 (I.ok.QI e) (I.ok.B7 b o e), I.base.free b o (I.ok.bs b o e).1 (I.ok.bs b o e).2 (I.ok.B7 b o e)⟩
theorem Inv.bk (I : Inv X pins σ H s) : ∀ b o, X.base.get? b = some o → s.heap.get? b = some o := fun b o e => (I.bs b o e).1
theorem Inv.mod (I : Inv X pins σ H s) : Mod X.K X.mg X.base := I.ok.mod
theorem Inv.si (I : Inv X pins σ H s) : X.K.In s.heap := I.ok.mod.L1.keeps I.bk
theorem Inv.nolimit (I : Inv X pins σ H s) : s.heap.NoLimit := I.ok.mod.nolimit.keeps I.bk
theorem Inv.lt (I : Inv X pins σ H s) : X.env.locals < s.heap.objs.size := let ⟨_, hn, _⟩ := I.loc; hn.lt
theorem Inv.sz (I : Inv X pins σ H s) : X.s₀.heap.objs.size ≤ s.heap.objs.size := aaM I.ok.above (adO I.lt)
theorem Inv.QJ (I : Inv X pins σ H s) {a : aac} (h : s.heap.objs.size ≤ a) : a ∉ X.fs := fun hb => by
 obtain ⟨_, o, ho, _⟩ := I.ok.oh.mem hb
 exact absurd (aaf (aab ho) (aaM I.sz h)) (abW _)
theorem Inv.Gr (I : Inv X pins σ H s) : ∀ x c, X.env.cells.lookup x = some c → c ≠ X.env.locals := fun x c e z => by
 obtain ⟨v, o, ho, hd⟩ := I.cell x c e
 obtain ⟨m, ⟨o', es, ep, ho', hd', _⟩, _⟩ := I.loc
 rw [z, ho'] at ho; cases ho; rw [hd'] at hd; cases hd
theorem Inv.oh (I : Inv X pins σ H s) : s.heap.FunFrames X.base X.outer := by
 have all : ∀ (l : List Env), (∀ b ∈ gh l, b ∈ X.fs) → X.s₀.heap.FunFrames X.base l → s.heap.FunFrames X.base l := by
  intro l
  induction l with
  | nil => intro _ _; trivial
  | cons env r ih =>
   intro hs hl
   obtain ⟨hk, ⟨L, o, hf, hn, ho, hd⟩, hr⟩ := hl
   have hL : L ∈ X.fs := hs L (by unfold gh; rw [abU, hf]; exact Z5)
   obtain ⟨sl, e⟩ := I.base.slot L o ho (I.ok.IG L hL) hL fun z => I.ok.DF L z hL
   exact ⟨hk, ⟨L, _, hf, hn, e, hd⟩, ih (fun b hb => hs b (by unfold gh; rw [abU, hf]; exact Z9 _ hb)) hr⟩
 exact all X.outer (fun _ hb => hb) I.ok.oh
theorem Inv.stack (I : Inv X pins σ H s) : s.heap.FunFrames X.base X.stack := by
 rcases I.ok.A5 with e | ⟨e, hf⟩
 ·rw [e]; exact I.oh
 ·rw [e]
  obtain ⟨m, hn, _⟩ := I.loc
  refine .cons (by rw [I.ok.kind]; decide) hf hn ?_ I.oh
  exact Heap.get?_none_of_le (aaM I.ok.Gq I.ok.above)
theorem Inv.uW (I : Inv X pins σ H s) : ∀ b ∈ gh X.stack, b ∈ X.env.locals :: X.fs := fun b hb => by
 rcases I.ok.A5 with e | ⟨e, hf⟩
 ·rw [e] at hb; exact Z9 _ hb
 ·rw [e] at hb
  unfold gh at hb
  rw [abU, hf] at hb
  exact hb
theorem Inv.uX (I : Inv X pins σ H s) : ∀ b ∈ gh X.stack, H b = none := fun b hb => by
 rcases aai.mp (I.uW b hb) with e | hb
 ·rw [e]; exact I.free
 ·obtain ⟨_, o, ho, _⟩ := I.ok.oh.mem hb
  exact I.base.free b o ho (I.ok.IG b hb) fun z => I.ok.DF b z hb
theorem Inv.step {g' : Array GenState} {t' : Nat} {d' : Drawn} {ch : List aac} (I : Inv X pins σ H s)
  (Dq : ∀ b ∈ ch, (b ∈ X.ex ∨ X.s₀.heap.objs.size ≤ b) ∧ b ≠ X.env.locals ∧ (∀ x c, X.env.cells.lookup x = some c → c ≠ b) ∧ ∀ p ∈ X.pn ++ pins, p.1 ≠ b)
  (keep : ∀ b o, b ≠ X.env.locals → b ∉ X.fs → b ∉ ch → s.heap.get? b = some o → H b = none → h'.get? b = some o)
  (slot : ∀ b o, b ≠ X.env.locals → b ∈ X.fs → b ∉ ch → s.heap.get? b = some o → H b = none → ∃ sl, h'.get? b = some { o with slots := sl }) (free : ∀ b o, b ∉ ch → s.heap.get? b = some o → H b = none → H' b = none)
  (there : ∀ b o, b ∉ ch → s.heap.get? b = some o → ∃ o', h'.get? b = some o')
  (jQ : ∀ b xs, H b = some (.tup xs) → H' b = some (.tup xs)) (jL : ∀ b o u, H b = some (.lO o u) → H' b = some (.lO o u)) (jR : ∀ b ps, H b = some (.F7 ps) → ∃ more, H' b = some (.F7 (ps ++ more)))
  (ns : ∀ m, s.heap.Ns X.env.locals m → h'.Ns X.env.locals m) (hok : jO X.prog X.w H' h') (hg : AllBare g') :
  Inv X pins σ H' { s with heap := h', gens := g', drawn := d', toks := t' } := by
 have L3 : ∀ b o, X.s₀.heap.get? b = some o → b ≠ X.env.locals := fun b o e => aam (aaf (aab e) I.ok.above)
 have Pz : ∀ b o, X.s₀.heap.get? b = some o → b ∉ X.ex → b ∉ ch := fun b o e hx hb => by
  rcases (Dq b hb).1 with z | z
  ·exact hx z
  ·exact absurd (aaf (aab e) z) (abW _)
 have cellK : ∀ x c, X.env.cells.lookup x = some c → ∀ v, s.heap.IsCell c v → h'.IsCell c v := fun x c e v ⟨o, ho, hd⟩ => by
  have L4 : c ∉ ch := fun z => (Dq c z).2.2.1 x c e rfl
  by_cases hc : c ∈ X.fs
  ·obtain ⟨sl, q⟩ := slot c o (I.Gr x c e) hc L4 ho (I.gj x c e)
   exact ⟨_, q, hd⟩
  ·exact ⟨o, keep c o (I.Gr x c e) hc L4 ho (I.gj x c e), hd⟩
 refine ⟨I.ok, I.os, hg, ⟨fun b o e n hb hx => ?_, fun b o e n hb hx => ?_, fun b o e n hx => ?_, fun b o e hx => ?_, fun b xs e => jQ b xs (I.base.jQ b xs e), fun b o xs e => jL b o xs (I.base.jL b o xs e), fun b ps e => ?_⟩, ?_, fun x c e => ?_, ?_, fun x c e => ?_, fun p hp => ?_, hok, I.len⟩
 ·exact keep b o (L3 b o e) hb (Pz b o e hx) (I.base.keep b o e n hb hx) (I.base.free b o e n hx)
 ·obtain ⟨sl, e1⟩ := I.base.slot b o e n hb hx
  obtain ⟨sl', e2⟩ := slot b _ (L3 b o e) hb (Pz b o e hx) e1 (I.base.free b o e n hx)
  exact ⟨sl', e2⟩
 ·obtain ⟨o', e1⟩ := I.base.there b o e hx
  exact free b o' (Pz b o e hx) e1 (I.base.free b o e n hx)
 ·obtain ⟨o', e1⟩ := I.base.there b o e hx
  exact there b o' (Pz b o e hx) e1
 ·obtain ⟨m1, e1⟩ := I.base.jR b ps e
  obtain ⟨m2, e2⟩ := jR b _ e1
  exact ⟨m1 ++ m2, by rw [e2, acZ]⟩
 ·obtain ⟨m, hn, hl⟩ := I.loc
  refine ⟨m, ns m hn, fun i x v e1 e2 e3 => ?_⟩
  obtain ⟨u, r, l⟩ := hl i x v e1 e2 e3
  refine ⟨u, r, ?_⟩
  rcases l with l | ⟨k, c, e, z⟩
  ·exact .inl l
  ·exact .inr ⟨k, c, e, cellK x c e _ z⟩
 ·obtain ⟨v, z⟩ := I.cell x c e
  exact ⟨v, cellK x c e v z⟩
 ·obtain ⟨m, ⟨o, _, _, ho, _⟩, _⟩ := I.loc
  exact free _ o (fun z => (Dq _ z).2.1 rfl) ho I.free
 ·obtain ⟨v, o, ho, hd⟩ := I.cell x c e
  exact free c o (fun z => (Dq c z).2.2.1 x c e rfl) ho (I.gj x c e)
 ·obtain ⟨e, n, ne, nf, d⟩ := I.pin p hp
  have L4 : p.1 ∉ ch := fun z => (Dq p.1 z).2.2.2 p hp rfl
  exact ⟨keep p.1 p.2 ne nf L4 e n, free p.1 p.2 L4 e n, ne, nf, d⟩
theorem Inv.un {t' : Nat} (I : Inv X pins σ H s) (u : Un X.fs [] H H' s.heap h') (hok : jO X.prog X.w H' h') : Inv X pins σ H' { s with heap := h', toks := t' } := by
 obtain ⟨m, ⟨o, es, ep, ho, r⟩, _⟩ := id I.loc
 obtain ⟨sl, hL⟩ := u.any ho I.free (by simp)
 exact I.step (g' := s.gens) (d' := s.drawn) (ch := []) (fun _ z => nomatch z) (fun b o _ hb _ e n => u.keep b o e n hb (by simp)) (fun b o _ hb _ e n => u.slot b o e n hb (by simp)) (fun b o _ e n => u.free b o e n (by simp)) (fun b o _ e => u.there b o e (by simp)) u.jQ u.jL u.jR (fun m' hm => by
  obtain ⟨o', mQ, QK, ho', r'⟩ := hm
  rw [ho] at ho'; cases ho'
  exact ⟨_, mQ, QK, hL, r'⟩) hok I.bare
theorem Inv.call {g' : Array GenState} {t' : Nat} {d' : Drawn} {ch : List aac} (I : Inv X pins σ H s) (u : Un (gh X.stack) ch H H' s.heap h') (hok : jO X.prog X.w H' h') (hg : AllBare g')
  (Dq : ∀ b ∈ ch, (b ∈ X.ex ∨ X.s₀.heap.objs.size ≤ b) ∧ b ≠ X.env.locals ∧ (∀ x c, X.env.cells.lookup x = some c → c ≠ b) ∧ ∀ p ∈ X.pn ++ pins, p.1 ≠ b) :
  Inv X pins σ H' { s with heap := h', gens := g', drawn := d', toks := t' } := by
 obtain ⟨m, ⟨o, es, ep, ho, r⟩, _⟩ := id I.loc
 obtain ⟨sl, hL⟩ := u.any ho I.free fun z => (Dq _ z).2.1 rfl
 exact I.step (ch := ch) Dq (fun b o hL hb hc e n => u.keep b o e n (fun z => (aai.mp (I.uW b z)).elim hL hb) hc) (fun b o _ _ hc e n => u.any e n hc) (fun b o hc e n => u.free b o e n hc) (fun b o hc e => u.there b o e hc) u.jQ u.jL u.jR (fun m' hm => by
  obtain ⟨o', mQ, QK, ho', r'⟩ := hm
  rw [ho] at ho'; cases ho'
  exact ⟨_, mQ, QK, hL, r'⟩) hok hg
theorem Inv.turned {t' : Nat} {it : aac} (I : Inv X pins σ H s) (k : ∀ b o, b ≠ it → s.heap.get? b = some o → h'.get? b = some o) (hn : H it = none) (hL : it ≠ X.env.locals)
  (h1 : it ∈ X.ex ∨ X.s₀.heap.objs.size ≤ it) (h2 : ∀ x c, X.env.cells.lookup x = some c → c ≠ it) (h3 : ∀ p ∈ X.pn ++ pins, p.1 ≠ it) : Inv X pins σ H { s with heap := h', toks := t' } := by
 have Up : ∀ b u, H b = some u → b ≠ it := fun b u e z => by rw [z, hn] at e; cases e
 refine I.step (g' := s.gens) (d' := s.drawn) (ch := [it]) (fun b hb => ?_) (fun b o _ _ hc e _ => k b o (fun z => hc (by simp [z])) e) (fun b o _ _ hc e _ => ⟨o.slots, k b o (fun z => hc (by simp [z])) e⟩) (fun _ _ _ _ n => n)
  (fun b o hc e => ⟨o, k b o (fun z => hc (by simp [z])) e⟩) (fun _ _ e => e) (fun _ _ _ e => e) (fun b ps e => ⟨#[], by rw [e]; simp⟩) (fun m hm => ?_) (fun b u e => ?_) I.bare
 ·have e : b = it := by simpa using hb
  subst e
  exact ⟨h1, hL, h2, h3⟩
 ·obtain ⟨o, es, ep, ho, r⟩ := hm
  exact ⟨o, es, ep, k _ o (acr hL) ho, r⟩
 ·refine (I.hok b u e).zy (fun c v hc q => k c v ?_ q) (fun _ q => q) fun _ _ q => q
  rcases hc with z | z
  ·rw [z]; exact Up b u e
  ·exact Up c _ z
theorem Inv.tok (I : Inv X pins σ H s) (t : Nat) : Inv X pins σ H { s with toks := t } := I.un (h' := s.heap) (t' := t) Un.refl I.hok
theorem Inv.kept {t' : Nat} (I : Inv X pins σ H s) (k : ∀ b u, s.heap.get? b = some u → h'.get? b = some u) : Inv X pins σ H { s with heap := h', toks := t' } := I.un (Un.kept k) (I.hok.kept k)
theorem Inv.laid {a : aac} {o : HO} {t' : Nat} (I : Inv X pins σ H s) (k : ∀ b u, s.heap.get? b = some u → h'.get? b = some u) (hp : s.heap.objs.size ≤ a) (new : ba X.prog X.w (upd H a o) h' a o) :
  Inv X pins σ (upd H a o) { s with heap := h', toks := t' } := I.un (Un.laid k hp (I.hok.fresh hp)) (I.hok.laid k hp new)
theorem Inv.write {x e : aac} {o : HO} {t' : Nat} (I : Inv X pins σ H s) (mu : LZ (H x)) (he : e = x ∨ H e = some (.own x)) (k : ∀ b u, b ≠ e → s.heap.get? b = some u → h'.get? b = some u) (Lx : ∃ u, h'.get? e = some u)
  (new : ba X.prog X.w (upd H x o) h' x o) : Inv X pins σ (upd H x o) { s with heap := h', toks := t' } := I.un (Un.write mu he k Lx) (I.hok.write mu he k Lx new)
theorem Inv.A6 {fD : List (aac × Obj)} (I : Inv X pins σ H s) (h : ∀ p ∈ fD, s.heap.get? p.1 = some p.2 ∧ H p.1 = none ∧ p.1 ≠ X.env.locals ∧ p.1 ∉ X.fs ∧ ∀ v, p.2.data ≠ .cell v) : Inv X fD σ H s :=
 ⟨I.ok, I.os, I.bare, I.base, I.loc, I.cell, I.free, I.gj, fun p hp => (ZY.mp hp).elim (fun z => I.pin p (ab4 _ z)) (h p), I.hok, I.len⟩
theorem xn {N : List Str} (hN : N.Nodup) {i j : Nat} {x : Str} (a : N[i]? = some x) (b : N[j]? = some x) : i = j := by
 obtain ⟨h1, e1⟩ := ZZ.mp a
 obtain ⟨h2, e2⟩ := ZZ.mp b
 exact (aeh hN).mp (e1.trans e2.symm)
theorem t8 {M : Model} {A : aaA} {E : ZS → ZU → Prop} {i : Nat} {x : Str} {v : V} {u : ZS} {Q : Unit → ZU → Prop} (I : Inv X pins σ H s) (hN : X.N.Nodup) (hi : X.N[i]? = some x) (hx : Loc X.env.scope x) (r : RelV v u)
  (h : ∀ s', Inv X pins (σ.set i (some v)) H s' → (∃ a, acb a s.heap s'.heap ∧ (a = X.env.locals ∨ X.env.cells.lookup x = some a)) → Q () s') (hf : X.fn x = true ∨ X.env.scope.names.lookup x = some .local := by first | exact .inl rfl | exact .inr rfl | assumption) : aar M A (storeName X.env x u) Q E s := by
 obtain ⟨m, hn, hl⟩ := id I.loc
 have DG : (X.env.scope.kind == .class || (X.env.scope.kind == .module && X.env.locals != X.env.globals)) = false := by rw [I.ok.kind]; rfl
 have Uq : i < σ.length := by rw [I.len]; exact (ZZ.mp hi).1
 have Gr := I.Gr
 have tracked : ∀ {a : aac} {h' : Heap}, (∃ o, s.heap.get? a = some o ∧ H a = none) → acb a s.heap h' → jO X.prog X.w H h' := fun {a h'} ha hs b ob e => by
  obtain ⟨_, _, hfree⟩ := ha
  refine (I.hok b ob e).zy (fun c w' hc q => (hs.2 c ?_).trans q) (fun _ q => q) fun _ _ q => q
  rintro rfl
  rcases hc with rfl | hc
  ·rw [hfree] at e; cases e
  ·rw [hfree] at hc; cases hc
 rcases hx with hk | hk
 ·refine wpAny_storeName_local hk hn (fun h' hn' hs => ?_) DG
  obtain ⟨oL, _, _, PB, _⟩ := id hn
  refine h _ ⟨I.ok, I.os, I.bare, ⟨fun b o e n hb hx => ?_, fun b o e n hb hx => ?_, I.base.free, fun b o e hx => ?_, I.base.jQ, I.base.jL, I.base.jR⟩, ⟨_, hn', fun j y v' e1 e2 e3 => ?_⟩, fun y c e => ?_, I.free, I.gj, fun p hp => ?_, tracked ⟨oL, PB, I.free⟩ hs, by simpa using I.len⟩ ⟨_, hs, .inl rfl⟩
  ·exact (hs.2 b (aam (aaf (aab e) I.ok.above))).trans (I.base.keep b o e n hb hx)
  ·obtain ⟨sl, e1⟩ := I.base.slot b o e n hb hx
   exact ⟨sl, (hs.2 b (aam (aaf (aab e) I.ok.above))).trans e1⟩
  ·obtain ⟨o', e1⟩ := I.base.there b o e hx
   exact ⟨o', (hs.2 b (aam (aaf (aab e) I.ok.above))).trans e1⟩
  ·by_cases hj : j = i
   ·subst hj
    rw [hi] at e1; cases e1
    rw [aen Uq] at e2
    cases e2
    exact ⟨u, r, .inl ⟨hk, by simp⟩⟩
   ·rw [aeJ (acr hj)] at e2
    obtain ⟨u', r', q⟩ := hl j y v' e1 e2 e3
    refine ⟨u', r', ?_⟩
    rcases q with ⟨k, e⟩ | ⟨k, c, e, z⟩
    ·refine .inl ⟨k, ?_⟩
     have : y ≠ x := fun e => hj (xn hN e1 (e ▸ hi))
     simp [this, e]
    ·exact .inr ⟨k, c, e, z.sameBut hs (Gr y c e)⟩
  ·obtain ⟨w', z⟩ := I.cell y c e
   exact ⟨w', z.sameBut hs (Gr y c e)⟩
  ·obtain ⟨e, n, ne, nf, d⟩ := I.pin p hp
   exact ⟨(hs.2 p.1 ne).trans e, n, ne, nf, d⟩
 ·have xo : X.fn x = true := by
   rcases hf with z | z
   ·exact z
   ·rw [z] at hk; cases hk
  obtain ⟨c, hc⟩ := I.ok.has x (.inl hk)
  obtain ⟨w', z⟩ := I.cell x c hc
  refine wpAny_storeName_cell I.ok.kind hk hc z (fun h' hc' hs => ?_)
  obtain ⟨oc, Ur, QL⟩ := id z
  refine h { s with heap := h' } ⟨I.ok, I.os, I.bare, ⟨fun b o e n hb hx => ?_, fun b o e n hb hx => ?_, I.base.free, fun b o e hx => ?_, I.base.jQ, I.base.jL, I.base.jR⟩, ⟨m, hn.sameBut hs (acr (Gr x c hc)), fun j y v' e1 e2 e3 => ?_⟩, fun y c' e => ?_, I.free, I.gj, fun p hp => ?_, tracked ⟨oc, Ur, I.gj x c hc⟩ hs, by simpa using I.len⟩ ⟨c, hs, .inr hc⟩
  ·exact (hs.2 b (aam (aaf (aab e) (I.ok.IF x c xo hc)))).trans (I.base.keep b o e n hb hx)
  ·obtain ⟨sl, e1⟩ := I.base.slot b o e n hb hx
   exact ⟨sl, (hs.2 b (aam (aaf (aab e) (I.ok.IF x c xo hc)))).trans e1⟩
  ·obtain ⟨o', e1⟩ := I.base.there b o e hx
   exact ⟨o', (hs.2 b (aam (aaf (aab e) (I.ok.IF x c xo hc)))).trans e1⟩
  ·by_cases hj : j = i
   ·subst hj
    rw [hi] at e1; cases e1
    rw [aen Uq] at e2
    cases e2
    exact ⟨u, r, .inr ⟨.inl hk, c, hc, hc'⟩⟩
   ·rw [aeJ (acr hj)] at e2
    obtain ⟨u', r', q⟩ := hl j y v' e1 e2 e3
    refine ⟨u', r', ?_⟩
    rcases q with q | ⟨k, c', e, z'⟩
    ·exact .inl q
    ·refine .inr ⟨k, c', e, z'.sameBut hs ?_⟩
     rintro rfl
     exact hj (xn hN e1 (I.ok.inj _ _ _ e hc ▸ hi))
  ·by_cases IH : c' = c
   ·subst IH; exact ⟨_, hc'⟩
   ·obtain ⟨w2, z2⟩ := I.cell y c' e
    exact ⟨w2, z2.sameBut hs IH⟩
  ·obtain ⟨e, n, ne, nf, d⟩ := I.pin p hp
   refine ⟨(hs.2 p.1 ?_).trans e, n, ne, nf, d⟩
   intro q
   rw [q, Ur] at e
   have q' : oc = p.2 := aaI e
   exact d w' (by rw [← q']; exact QL)
theorem xp {M : Model} {A : aaA} {E : ZS → ZU → Prop} {i : Nat} {x : Str} {v : V} {u : ZS} {Q : Unit → ZU → Prop} (I : Inv X pins σ H s) (hN : X.N.Nodup) (hi : X.N[i]? = some x) (hx : Loc X.env.scope x) (r : RelV v u)
  (h : ∀ s', Inv X pins (σ.set i (some v)) H s' → Q () s') (hf : X.fn x = true ∨ X.env.scope.names.lookup x = some .local := by first | exact .inl rfl | exact .inr rfl | assumption) : aar M A (storeName X.env x u) Q E s :=
 t8 I hN hi hx r (fun s' I' _ => h s' I') hf
theorem Inv.L5 {s' : ZU} {ch : List aac} (I : Inv X pins σ H s) (ho : s'.os = s.os) (u : Un (gh X.stack) ch H H' s.heap s'.heap) (hok : jO X.prog X.w H' s'.heap) (hg : AllBare s'.gens)
  (Dq : ∀ b ∈ ch, (b ∈ X.ex ∨ X.s₀.heap.objs.size ≤ b) ∧ b ≠ X.env.locals ∧ (∀ x c, X.env.cells.lookup x = some c → c ≠ b) ∧ ∀ p ∈ X.pn ++ pins, p.1 ≠ b) : Inv X pins σ H' s' := by
 obtain ⟨h', g', d', t', o'⟩ := s'
 have e : o' = s.os := ho
 subst e
 exact I.call (g' := g') (t' := t') (d' := d') u hok hg Dq
end
abbrev XK := ZS → Option aac → Hp → Prop
abbrev St := List (Option V)
abbrev VK := V → Hp → Prop
abbrev TE := St → Hp → VK → Prop
abbrev TT := St → Hp → (Bool → Hp → Prop) → Prop
abbrev TA := St → Hp → (List V → Hp → Prop) → Prop
structure Ends where
 nx : St → Hp → Prop
 rt : VK
 bk : St → Hp → Prop := fun _ _ => False
 ct : St → Hp → Prop := fun _ _ => False
abbrev TS := Ends → St → Hp → Prop
def EP (X : Cx) (pins : List (aac × Obj)) (σ : St) (Q : VK) (u : ZS) (s' : ZU) : Prop := ∃ v H', Inv X pins σ H' s' ∧ RelV v u ∧ Q v H'
def TP (X : Cx) (pins : List (aac × Obj)) (σ : St) (Q : Bool → Hp → Prop) (b : Bool) (s' : ZU) : Prop := ∃ H', Inv X pins σ H' s' ∧ Q b H'
def AP (X : Cx) (pins : List (aac × Obj)) (σ : St) (Q : List V → Hp → Prop) (us : List ZS) (s' : ZU) : Prop := ∃ vs H', Inv X pins σ H' s' ∧ Vals vs us ∧ Q vs H'
def SP (X : Cx) (pins : List (aac × Obj)) (D : Ends) (f : Flow) (s' : ZU) : Prop :=
 match f with
 | .next => ∃ σ' H', Inv X pins σ' H' s' ∧ D.nx σ' H'
 | .brk => ∃ σ' H', Inv X pins σ' H' s' ∧ D.bk σ' H'
 | .cont => ∃ σ' H', Inv X pins σ' H' s' ∧ D.ct σ' H'
 | .ret u => ∃ v σ' H', Inv X pins σ' H' s' ∧ RelV v u ∧ D.rt v H'
def PE (X : Cx) (e : Expr) (t : TE) : Prop :=
 ∀ (pins : List (aac × Obj)) (s : ZU) (σ : St) (H : Hp) (Q : VK), Inv X pins σ H s → t σ H Q → aar (model X.prog X.w) X.A (eval e X.env) (EP X pins σ Q) X.xe s
def PT (X : Cx) (e : Expr) (t : TT) : Prop :=
 ∀ (pins : List (aac × Obj)) (s : ZU) (σ : St) (H : Hp) (Q : Bool → Hp → Prop), Inv X pins σ H s → t σ H Q → aar (model X.prog X.w) X.A (isTrue e X.env (eval e X.env)) (TP X pins σ Q) X.xe s
def PW (X : Cx) (e : Expr) (t : TT) : Prop :=
 ∀ (whole : Sem ZS) (pins : List (aac × Obj)) (s : ZU) (σ : St) (H : Hp) (Q : Bool → Hp → Prop), Inv X pins σ H s → t σ H Q → aar (model X.prog X.w) X.A (isTrue e X.env whole) (TP X pins σ Q) X.xe s
theorem PW.pt {X : Cx} {e : Expr} {t : TT} (h : PW X e t) : PT X e t := h _
def PA (X : Cx) (es : List Expr) (t : TA) : Prop :=
 ∀ (pos : Pos) (pins : List (aac × Obj)) (s : ZU) (σ : St) (H : Hp) (Q : List V → Hp → Prop), Inv X pins σ H s → t σ H Q → aar (model X.prog X.w) X.A (spliced (backTo pos (starEach es X.env))) (AP X pins σ Q) X.xe s
def PS (X : Cx) (st : Stmt) (t : TS) : Prop :=
 ∀ (pins : List (aac × Obj)) (s : ZU) (σ : St) (H : Hp) (D : Ends), Inv X pins σ H s → t D σ H → aar (model X.prog X.w) X.A (exec st X.env) (SP X pins D) X.xe s
def zi (X : Cx) (st : List Stmt) (t : TS) : Prop :=
 ∀ (pins : List (aac × Obj)) (s : ZU) (σ : St) (H : Hp) (D : Ends), Inv X pins σ H s → t D σ H → aar (model X.prog X.w) X.A (execs st X.env) (SP X pins D) X.xe s
theorem cJ {α : Type} {t : Sem α} {Q Q' : α → ZU → Prop} {M : Model} {A : aaA} {E : ZS → ZU → Prop} {s : ZU} (h : aar M A t Q E s) (hQ : ∀ a s, Q a s → Q' a s) : aar M A t Q' E s := wpAny_mono h hQ fun _ _ x => x
end L2
namespace L2
open PySem PySem.Spec PyProof.Rows
section
variable {X : Cx}
theorem bin {a b : Expr} {ta tb : TE} (ha : PE X a ta) (hb : PE X b tb) {pins : List (aac × Obj)} {s : ZU} {σ : St} {H : Hp} {R : V → V → Hp → Prop} (I : Inv X pins σ H s) (h : ta σ H fun x H1 => tb σ H1 fun y H2 => R x y H2)
  {α : Type} {Q : α → ZU → Prop} {f : ZS → ZS → Sem α}
  (hf : ∀ v u s2 x y H2, Inv X pins σ H2 s2 → RelV x v → RelV y u → R x y H2 → aar (model X.prog X.w) X.A (f v u) Q X.xe s2) :
  aar (model X.prog X.w) X.A (eval a X.env) (fun v s₁ => aar (model X.prog X.w) X.A (eval b X.env) (fun u s₂ => aar (model X.prog X.w) X.A (f v u) Q X.xe s₂) X.xe s₁) X.xe s := by
 refine cJ (ha pins s σ H _ I h) fun v s1 ⟨x, H1, I1, r1, q1⟩ => ?_
 refine cJ (hb pins s1 σ H1 _ I1 q1) fun u s2 ⟨y, H2, I2, r2, q2⟩ => ?_
 exact hf v u s2 x y H2 I2 r1 r2 q2
def L6 (i : Nat) : TE := fun σ H Q => ∃ v, σ[i]? = some (some v) ∧ Q v H
def tC (v : V) : TE := fun _ H Q => Q v H
theorem II {i : Nat} {x : Str} {pos : Pos} (hN : X.N[i]? = some x) (hv : QG X.env.scope x) (hd : (x == ("__debug__" : Str)) = false := by decide) (hcd : (x == ("__classdict__" : Str)) = false := by decide) : PE X (.Name x pos) (L6 i) := by
 intro pins s σ H Q I h
 obtain ⟨v, e, h⟩ := h
 obtain ⟨m, hn, hl⟩ := I.loc
 obtain ⟨u, r, l⟩ := hl i x v hN e hv
 have fin : EP X pins σ Q u s := ⟨v, H, I, r, h⟩
 rcases l with ⟨hk, hm⟩ | ⟨hk, c, hc, hcell⟩
 ·exact wpAny_Name (wpAny_loadName_local I.ok.kind hk hn hm fin) hd
 ·rcases hk with hk | hk
  ·exact wpAny_Name (wpAny_loadName_cell I.ok.kind hk hc hcell fin) hd
  ·exact wpAny_Name (wpAny_loadName_free I.ok.kind hk hc hcell fin hcd) hd
theorem ai {i j pos} : PE X (.Constant (.int i) j pos) (tC (.int i)) := fun _ _ _ H _ I h => wpAny_Constant_int ⟨.int i, H, I.tok _, ⟨_, rfl⟩, h⟩
theorem bC {b j pos} : PE X (.Constant (.bool b) j pos) (tC (.bl b)) := fun _ _ _ H _ I h => Constant_bool ⟨.bl b, H, I, rfl, h⟩
theorem IJ {j pos} : PE X (.Constant .none j pos) (tC .bB) := fun _ _ _ H _ I h => Constant_none ⟨.bB, H, I, rfl, h⟩
theorem bh {x j pos} : PE X (.Constant (.str x) j pos) (tC (.str x)) := fun _ _ _ H _ I h => adP ⟨.str x, H, I.tok _, ⟨_, rfl⟩, h⟩
def Gl (X : Cx) (x : Str) : Prop := X.env.kindOf x = some .globalImplicit
theorem mR {E : ZS → ZU → Prop} {pins : List (aac × Obj)} {s : ZU} {σ : St} {H : Hp} {x : Str} {u : ZS} {pos : Pos} {Q : ZS → ZU → Prop} (I : Inv X pins σ H s) (hg : Gl X x) (hm : X.mg x = some u) (h : Q u s)
  (hd : (x == ("__debug__" : Str)) = false := by decide) : aar (model X.prog X.w) X.A (eval (.Name x pos) X.env) Q E s :=
 adH I.ok.kind hg (Calls.loadGlobal_global (by rw [I.ok.glob]; exact I.mod.glob.keeps I.bk) hm h) hd
theorem uY {E : ZS → ZU → Prop} {pins : List (aac × Obj)} {s : ZU} {σ : St} {H : Hp} {x : Str} {u : ZS} {pos : Pos} {Q : ZS → ZU → Prop} (I : Inv X pins σ H s) (hg : Gl X x) (hm : X.mg x = none) (hv : bootBuiltins x = some u) (h : Q u s)
  (hn : x ≠ "__name__" := by decide) (hd : (x == ("__debug__" : Str)) = false := by decide) : aar (model X.prog X.w) X.A (eval (.Name x pos) X.env) Q E s := by
 obtain ⟨mb, h1, h2⟩ := I.mod.blt
 exact adH I.ok.kind hg (Calls.loadGlobal_builtin (by rw [I.ok.glob]; exact I.mod.glob.keeps I.bk) hm (by rw [I.ok.blt]; exact h1.keeps I.bk) ((h2 x hn).trans hv) h) hd
theorem pQ {x : Str} {v : V} {u : ZS} {pos : Pos} (hg : Gl X x) (hm : X.mg x = some u) (r : RelV v u) (hd : (x == ("__debug__" : Str)) = false := by decide) : PE X (.Name x pos) (tC v) :=
 fun _ _ _ H _ I h => mR I hg hm ⟨v, H, I, r, h⟩ hd
theorem uZ {x : Str} {v : V} {u : ZS} {pos : Pos} (hg : Gl X x) (hm : X.mg x = none) (hv : bootBuiltins x = some u) (r : RelV v u) (hn : x ≠ "__name__" := by decide) (hd : (x == ("__debug__" : Str)) = false := by decide) : PE X (.Name x pos) (tC v) :=
 fun _ _ _ H _ I h => uY I hg hm hv ⟨v, H, I, r, h⟩ hn hd
def Wa (ta tb : TE) (k : Int → Int → Hp → Prop) : St → Hp → Prop := fun σ H => ta σ H fun x H1 => tb σ H1 fun y H2 => ∃ i j, x = .int i ∧ y = .int j ∧ k i j H2
variable {a b : Expr} {ta tb : TE} {pos : Pos}
def PC (X : Cx) (op : CmpOp) (a b : Expr) (t : TE) : Prop :=
 ∀ (pins : List (aac × Obj)) (s : ZU) (σ : St) (H : Hp) (Q : VK), Inv X pins σ H s → t σ H Q →
  aar (model X.prog X.w) X.A (eval a X.env) (fun v s₁ => aar (model X.prog X.w) X.A (eval b X.env) (fun u s₂ => aar (model X.prog X.w) X.A (compareOp op v u) (EP X pins σ Q) X.xe s₂) X.xe s₁) X.xe s
theorem DH (b : Expr) {op : CmpOp} (h : op ≠ .In) (h2 : op ≠ .NotIn) : behindInMarks op b = false := by
 have e1 : (op == CmpOp.In) = false := by cases op <;> first | rfl | exact absurd rfl h
 have e2 : (op == CmpOp.NotIn) = false := by cases op <;> first | rfl | exact absurd rfl h2
 cases b <;> simp [behindInMarks, e1, e2]
def B8 (p : Int → Int → Bool) (ta tb : TE) : TE := fun σ H Q => Wa ta tb (fun i j H2 => Q (.bl (p i j)) H2) σ H
abbrev Y3 : TE → TE → TE := B8 fun i j => decide (i < j)
abbrev Y4 : TE → TE → TE := B8 fun i j => decide (i ≤ j)
abbrev Y5 : TE → TE → TE := B8 fun i j => decide (j < i)
abbrev Y6 : TE → TE → TE := B8 fun i j => decide (j ≤ i)
abbrev Wb : TE → TE → TE := B8 fun i j => decide (i = j)
abbrev Wc : TE → TE → TE := B8 fun i j => !decide (i = j)
def tB (t : TE) : TT := fun σ H Q => t σ H fun x H1 => ∃ c, x = .bl c ∧ Q c H1
theorem IK {op : CmpOp} {t : TE} (h : PC X op a b t) (h1 : behindInMarks op b = false := by first | exact DH _ (by decide) (by decide) | rfl) : PT X (.Compare a [op] [b] pos) (tB t) := by
 intro pins s σ H Q I hw
 refine wpAny_isTrue_Compare1 (cJ (h pins s σ H _ I hw) fun v s1 h1 => cJ h1 fun u s2 h2 => cJ h2 fun c s3 ⟨x, H1, I1, r1, q1⟩ => ?_) h1
 obtain ⟨d, rfl, q⟩ := q1
 cases r1
 exact wpAny_truthy_bool ⟨H1, I1, q⟩
theorem bj {e : Expr} {t : TE} (h : PE X e t) (he : ∀ whole, isTrue e X.env whole = (do let v ← whole; standAt e.pos; holding [v] (truthy v)) := by intro _; rfl) : PT X e (tB t) := by
 intro pins s σ H Q I hw
 refine isTrue_plain (cJ (h pins s σ H _ I hw) fun v s1 ⟨x, H1, I1, r1, q1⟩ => ?_) (he _)
 obtain ⟨d, rfl, q⟩ := q1
 cases r1
 exact wpAny_truthy_bool ⟨H1, I1, q⟩
variable {tA PD : TT} {rest : List Expr}
def QM (t u : TT) : TT := fun σ H Q => t σ H fun c H1 => if c = true then u σ H1 Q else Q false H1
def Wd (t u : TT) : TT := fun σ H Q => t σ H fun c H1 => if c = true then Q true H1 else u σ H1 Q
def QN (t : TT) : TT := fun σ H Q => t σ H fun c H1 => Q (!c) H1
theorem pR (ha : PT X a tA) : PW X (.BoolOp .And [a] pos) tA := by
 intro wh pins s σ H Q I h
 refine isTrue_and (cJ (ha pins s σ H Q I h) fun c s1 e => ?_)
 cases c with
 | true => exact isTrue_and_nil e
 | false => exact e
theorem qa (ha : PT X a tA) : PW X (.BoolOp .Or [a] pos) tA := by
 intro wh pins s σ H Q I h
 refine isTrue_or (cJ (ha pins s σ H Q I h) fun c s1 e => ?_)
 cases c with
 | false => exact isTrue_or_nil e
 | true => exact e
theorem u4 (ha : PT X a tA) (hb : PW X (.BoolOp .And (b :: rest) pos) PD) : PW X (.BoolOp .And (a :: b :: rest) pos) (QM tA PD) := by
 intro wh pins s σ H Q I h
 refine isTrue_and (cJ (ha pins s σ H _ I h) fun c s1 ⟨H1, I1, q1⟩ => ?_)
 cases c with
 | true => exact hb wh pins s1 σ H1 Q I1 q1
 | false => exact ⟨H1, I1, q1⟩
theorem t9 (ha : PT X a tA) (hb : PW X (.BoolOp .Or (b :: rest) pos) PD) : PW X (.BoolOp .Or (a :: b :: rest) pos) (Wd tA PD) := by
 intro wh pins s σ H Q I h
 refine isTrue_or (cJ (ha pins s σ H _ I h) fun c s1 ⟨H1, I1, q1⟩ => ?_)
 cases c with
 | true => exact ⟨H1, I1, q1⟩
 | false => exact hb wh pins s1 σ H1 Q I1 q1
theorem dq (ha : PT X a tA) : PT X (.UnaryOp .Not a pos) (QN tA) := by
 intro pins s σ H Q I h
 exact isTrue_not (ha pins s σ H (fun c H1 => Q (!c) H1) I h)
end
end L2
namespace L2
open PySem PySem.Spec PyProof.Rows
def aC (K : ZQ) (H : Hp) (a : aac) (xs : List V) : Prop :=
 Rd H a (.lst xs) ∨
  ∃ (o : Obj) (its : Array ZS) (n : Nat), K.lookup a = some o ∧ o.cls = .type "list" ∧ o.dict = none ∧ o.data = .seq its n ∧ its.size ≤ Z2 ∧ Vals xs its.toList
def aK (K : ZQ) (H : Hp) (a : aac) (xs : List V) : Prop :=
 Rd H a (.tup xs) ∨
  ∃ (o : Obj) (its : Array ZS) (n : Nat), K.lookup a = some o ∧ o.cls = .type "tuple" ∧ o.data = .seq its n ∧ its.size ≤ Z2 ∧ Vals xs its.toList
def QO : ZS → Option V
 | .none => some .bB
 | .bool b => some (.bl b)
 | .int i _ => some (.int i)
 | .str x _ => some (.str x)
 | .bytes b _ => some (.DD b)
 | .float b _ => some (.Lw b)
 | .ref a => some (.ref a)
 | .type n => some (.ty n)
 | _ => none
theorem RelV.abs {x : V} {u : ZS} (r : RelV x u) : QO u = some x := by
 cases x with
 | bB => cases r; rfl
 | bl _ => cases r; rfl
 | int _ => obtain ⟨t, rfl⟩ := r; rfl
 | str _ => obtain ⟨t, rfl⟩ := r; rfl
 | DD _ => obtain ⟨t, rfl⟩ := r; rfl
 | Lw _ => obtain ⟨t, rfl⟩ := r; rfl
 | ref _ => cases r; rfl
 | ty _ => cases r; rfl
theorem RelV.inj {x y : V} {u : ZS} (r : RelV x u) (q : RelV y u) : x = y := aaI (r.abs.symm.trans q.abs)
theorem Vals.inj : ∀ {xs ys : List V} {us : List ZS}, Vals xs us → Vals ys us → xs = ys
 | _, _, _, .nil, .nil => rfl
 | _, _, _, .cons r t, .cons r' t' => by rw [r.inj r', Vals.inj t t']
section
variable {X : Cx} {pins : List (aac × Obj)} {σ : St} {H : Hp} {s : ZU} {a : aac} {xs ys : List V}
theorem aC.of {K : ZQ} (h : H a = some (.lst xs)) : aC K H a xs := .inl (.inl h)
theorem aK.of {K : ZQ} (h : H a = some (.tup xs)) : aK K H a xs := .inl (.inl h)
theorem Inv.list (I : Inv X pins σ H s) (h : aC X.K H a xs) : ∃ its : List ZS, Vals xs its ∧ PlainL s.heap a its.toArray ∧ xs.length ≤ Z2 := by
 rcases h with h | ⟨o, its, n, hk, hc, hd, hs, hz, r⟩
 ·obtain ⟨z, its, n, r, e⟩ := h.ok I.hok
  exact ⟨its, r, ⟨_, n, e, rfl, rfl, rfl⟩, z⟩
 ·refine ⟨its.toList, r, ⟨o, n, I.si a o hk, hc, hd, by simpa using hs⟩, ?_⟩
  have e := r.length
  simp only [aaZ] at e
  omega
theorem Inv.tuple (I : Inv X pins σ H s) (h : aK X.K H a xs) : ∃ its : List ZS, Vals xs its ∧ IsTup s.heap a its.toArray ∧ xs.length ≤ Z2 := by
 rcases h with h | ⟨o, its, n, hk, hc, hs, hz, r⟩
 ·obtain ⟨z, its, r, p⟩ := h.ok I.hok
  exact ⟨its, r, p, z⟩
 ·refine ⟨its.toList, r, ⟨o, I.si a o hk, hc, n, by simpa using hs⟩, ?_⟩
  have e := r.length
  simp only [aaZ] at e
  omega
theorem Inv.DI (I : Inv X pins σ H s) (h : aC X.K H a xs) (h' : aC X.K H a ys) : xs = ys := by
 obtain ⟨its, r, ⟨o, n, e, _, _, d⟩, _⟩ := I.list h
 obtain ⟨its', r', ⟨o', n', e', _, _, d'⟩, _⟩ := I.list h'
 rw [e] at e'; cases e'
 rw [d] at d'
 injection d' with d1 _
 have : its = its' := by simpa using congrArg Array.toList d1
 subst this
 exact r.inj r'
theorem Inv.oi (I : Inv X pins σ H s) (h : aK X.K H a xs) (h' : aK X.K H a ys) : xs = ys := by
 obtain ⟨its, r, ⟨o, e, _, n, d⟩, _⟩ := I.tuple h
 obtain ⟨its', r', ⟨o', e', _, n', d'⟩, _⟩ := I.tuple h'
 rw [e] at e'; cases e'
 rw [d] at d'
 injection d' with d1 _
 have : its = its' := by simpa using congrArg Array.toList d1
 subst this
 exact r.inj r'
end
abbrev Cx.so (X : Cx) (E : ZS → ZU → Prop) : Cx := { X with xe := E }
abbrev Cx.PF (X : Cx) : Cx := X.so fun _ _ => False
theorem Cx.Ok.so {X : Cx} (ok : X.Ok) (E : ZS → ZU → Prop) : (X.so E).Ok :=
 ⟨ok.mod, ok.kind, ok.glob, ok.blt, ok.above, ok.inj, ok.has, ok.IF, ok.hd, ok.frames, ok.A5, ok.QH, ok.bs, ok.Gq, ok.B7, ok.DF, ok.oh, ok.IG⟩
theorem Cx.Ok.jS {X : Cx} {E : ZS → ZU → Prop} (ok : (X.so E).Ok) : X.Ok :=
 ⟨ok.mod, ok.kind, ok.glob, ok.blt, ok.above, ok.inj, ok.has, ok.IF, ok.hd, ok.frames, ok.A5, ok.QH, ok.bs, ok.Gq, ok.B7, ok.DF, ok.oh, ok.IG⟩
section
variable {X : Cx} {pins : List (aac × Obj)} {σ : St} {H : Hp} {s : ZU} {E : ZS → ZU → Prop}
theorem Inv.so (I : Inv X pins σ H s) (E : ZS → ZU → Prop) : Inv (X.so E) pins σ H s := ⟨I.ok.so E, I.os, I.bare, I.base, I.loc, I.cell, I.free, I.gj, I.pin, I.hok, I.len⟩
theorem Inv.jS (I : Inv (X.so E) pins σ H s) : Inv X pins σ H s := ⟨I.ok.jS, I.os, I.bare, I.base, I.loc, I.cell, I.free, I.gj, I.pin, I.hok, I.len⟩
theorem SP.jS {D : Ends} {f : Flow} {s' : ZU} (h : SP (X.so E) pins D f s') : SP X pins D f s' := by
 cases f with
 | next => obtain ⟨σ', H', I, q⟩ := h; exact ⟨σ', H', I.jS, q⟩
 | brk => obtain ⟨σ', H', I, q⟩ := h; exact ⟨σ', H', I.jS, q⟩
 | cont => obtain ⟨σ', H', I, q⟩ := h; exact ⟨σ', H', I.jS, q⟩
 | ret u => obtain ⟨v, σ', H', I, r, q⟩ := h; exact ⟨v, σ', H', I.jS, r, q⟩
theorem zi.PF {st : List Stmt} {t : TS} (h : zi X.PF st t) : zi X st t := fun pins s σ H D I hw =>
 wpAny_mono (h pins s σ H D (I.so _) hw) (fun _ _ q => q.jS) fun _ _ z => abG z
end
section
variable {X : Cx} {st : Stmt} {rest : List Stmt} {t u : TS} {e : Expr} {te : TE} {pos : Pos}
def L7 : TS := fun D σ H => D.nx σ H
def IL (t u : TS) : TS := fun D σ H => t { D with nx := u D } σ H
theorem aA : zi X [] L7 := fun _ _ σ H _ I h => wpAny_execs_nil ⟨σ, H, I, h⟩
theorem ah (h1 : PS X st t) (h2 : zi X rest u) : zi X (st :: rest) (IL t u) := by
 intro pins s σ H D I h
 refine wpAny_execs_cons (cJ (h1 pins s σ H { D with nx := u D } I h) fun f s1 q => ?_)
 cases f with
 | next =>
  obtain ⟨σ', H', I', q⟩ := q
  exact h2 pins s1 σ' H' D I' q
 | ret v => exact q
 | brk => exact q
 | cont => exact q
theorem ak (h1 : PS X st t) : zi X [st] t := by
 intro pins s σ H D I h
 refine wpAny_execs_cons (cJ (h1 pins s σ H D I h) fun f s1 q => ?_)
 cases f with
 | next => exact wpAny_execs_nil q
 | ret v => exact q
 | brk => exact q
 | cont => exact q
theorem Inv.quiet {pins : List (aac × Obj)} {σ : St} {H : Hp} {s : ZU} (I : Inv X pins σ H s) : interactive X.env = false := by simp [interactive, I.ok.kind]
def L8 (te : TE) : TS := fun D σ H => te σ H fun _ H1 => D.nx σ H1
theorem cF (he : PE X e te) (hs : swapsWith e none pos.line X.env = pure false := by rfl) : PS X (.Expr e pos) (L8 te) := by
 intro pins s σ H D I h
 exact wpAny_Expr_any (cJ (he pins s σ H _ I h) fun v s1 ⟨x, H1, I1, r1, q1⟩ => ⟨σ, H1, I1, q1⟩) I.quiet hs
def QP (te : TE) : TS := fun D σ H => te σ H D.rt
theorem ay (he : PE X e te) : PS X (.Return (some e) pos) (QP te) := by
 intro pins s σ H D I h
 exact wpAny_Return_some (cJ (he pins s σ H _ I h) fun v s1 ⟨x, H1, I1, r1, q1⟩ => ⟨x, σ, H1, I1, r1, q1⟩)
def QR (c : TT) (t u : TS) : TS := fun D σ H => c σ H fun b H1 => if b = true then t D σ H1 else u D σ H1
theorem aU {c : Expr} {a b : List Stmt} {tc : TT} (hc : PT X c tc) (ha : zi X a t) (hb : zi X b u) : PS X (.If c a b pos) (QR tc t u) := by
 intro pins s σ H D I h
 refine wpAny_If (cJ (hc pins s σ H _ I h) fun d s1 ⟨H1, I1, q1⟩ => ?_)
 cases d with
 | true => exact ha pins s1 σ H1 D I1 q1
 | false => exact hb pins s1 σ H1 D I1 q1
def IM : TS := fun _ _ _ => False
theorem ua {We : List Stmt} : zi X We IM := fun _ _ _ _ _ _ h => h.elim
end
abbrev TG := V → St → Hp → (St → Hp → Prop) → Prop
abbrev Y7 := List V → St → Hp → (St → Hp → Prop) → Prop
def PG (X : Cx) (target : Expr) (t : TG) : Prop :=
 ∀ (pins : List (aac × Obj)) (s : ZU) (σ : St) (H : Hp) (v : V) (u : ZS) (Q : St → Hp → Prop), Inv X pins σ H s → RelV v u → t v σ H Q →
  aar (model X.prog X.w) X.A (assign target X.env u) (fun _ s' => ∃ σ' H', Inv X pins σ' H' s' ∧ Q σ' H') X.xe s
abbrev Wf := V → V → V → Hp → (Hp → Prop) → Prop
abbrev Y8 := V → V → Hp → VK → Prop
section
variable {X : Cx} {pos : Pos}
def oN (i : Nat) : TG := fun v σ H Q => Q (σ.set i (some v)) H
theorem bx {i : Nat} {x : Str} (hN : X.N.Nodup) (hi : X.N[i]? = some x) (hx : Loc X.env.scope x) (hf : X.fn x = true ∨ X.env.scope.names.lookup x = some .local := by first | exact .inl rfl | exact .inr rfl | assumption) : PG X (.Name x pos) (oN i) := by
 intro pins s σ H v u Q I r h
 exact wpAny_assign_Name (xp I hN hi hx r (fun s' I' => ⟨_, H, I', h⟩) hf)
def IP (te : TE) (g : TG) : TS := fun D σ H => te σ H fun x H1 => g x σ H1 D.nx
theorem aw {i : Nat} {x : Str} {e : Expr} {te : TE} {pos' : Pos} (hN : X.N.Nodup) (hi : X.N[i]? = some x) (hx : Loc X.env.scope x) (he : PE X e te) (hs : swapsWith e (some (.Name x pos')) pos.line X.env = pure false := by rfl) (hf : X.fn x = true ∨ X.env.scope.names.lookup x = some .local := by first | exact .inl rfl | exact .inr rfl | assumption) :
  PS X (.Assign [.Name x pos'] e pos) (IP te (oN i)) := by
 intro pins s σ H D I h
 refine wpAny_Assign_Name (cJ (he pins s σ H _ I h) fun v s1 ⟨y, H1, I1, r1, q1⟩ => ?_) hs
 exact xp I1 hN hi hx r1 (fun s2 I2 => ⟨_, H1, I2, q1⟩) hf
end
section
variable {X : Cx} {pos : Pos}
end
structure It where
 go : Nat → Hp → Prop
 IQ : Nat → Hp → V → Hp → Prop
 stop : Nat → Hp → Prop
def su (X : Cx) (pins : List (aac × Obj)) (H : Hp) (b : aac) : Prop :=
 H b = none ∧ b ≠ X.env.locals ∧ b ∉ X.fs ∧ (b ∈ X.ex ∨ X.s₀.heap.objs.size ≤ b) ∧ (∀ x c, X.env.cells.lookup x = some c → c ≠ b) ∧ ∀ p ∈ X.pn ++ pins, p.1 ≠ b
theorem Inv.Gs {X : Cx} {pins : List (aac × Obj)} {σ : St} {H H' : Hp} {s : ZU} {b : aac} (I : Inv X pins σ H s) (hb : s.heap.objs.size ≤ b) (hn : H' b = none) : su X pins H' b := by
 refine ⟨hn, adj (aaf I.lt hb), I.QJ hb, .inr (aaM I.sz hb), fun x c e z => ?_, fun p hp z => ?_⟩
 ·obtain ⟨v, q⟩ := I.cell x c e
  exact absurd (aaf q.lt (by rw [z]; exact hb)) (abW _)
 ·exact absurd (aaf (aab (I.pin p hp).1) (by rw [z]; exact hb)) (abW _)
structure Turn (P : aao) (w : aaO) (K : ZQ) (tg : Expr) (J : It) (fp : List aac) (it : aac) (tn : Nat → Heap → Prop) : Prop where
 mem : it ∈ fp
 obj : ∀ i h, tn i h → ∀ b ∈ fp, ∃ o, h.get? b = some o ∧ ∀ v, o.data ≠ .cell v
 keep : ∀ i h h', tn i h → (∀ b ∈ fp, ∀ o, h.get? b = some o → h'.get? b = some o) → tn i h'
 item : ∀ (X : Cx), X.prog = P → X.w = w → X.K = K → X.calm = true → ∀ (i : Nat) (pins : List (aac × Obj)) (s : ZU) (σ : St) (H : Hp) (E : ZS → ZU → Prop), Inv X pins σ H s → (∀ b ∈ fp, su X pins H b) → tn i s.heap → J.go i H →
  aar (model P w) X.A (pyNext (.ref it)) (fun r s1 => ∃ u, r = some u ∧
   aar (model P w) X.A (letOwnedTupleGo tg (.ref it) u) (fun _ s2 => ∃ x H', Inv X pins σ H' s2 ∧ RelV x u ∧ J.IQ i H x H' ∧ tn (i + 1) s2.heap ∧ ∀ b ∈ fp, H' b = none) E s1) E s
 done : ∀ (X : Cx), X.prog = P → X.w = w → X.K = K → X.calm = true → ∀ (i : Nat) (pins : List (aac × Obj)) (s : ZU) (σ : St) (H : Hp) (E : ZS → ZU → Prop), Inv X pins σ H s → (∀ b ∈ fp, su X pins H b) → tn i s.heap → J.stop i H →
  aar (model P w) X.A (pyNext (.ref it)) (fun r s1 => r = none ∧ Inv X pins σ H s1) E s
 self : ∀ (A : aaA) (i : Nat) (s : ZU) (Q : ZS → ZU → Prop) (E : ZS → ZU → Prop), tn i s.heap → Q (.ref it) s → aar (model P w) A (pyIter (.ref it)) Q E s
abbrev TI := St → Hp → (It → Hp → Prop) → Prop
def Us (X : Cx) (pins : List (aac × Obj)) (σ : St) (tg : Expr) (R : It → Hp → Prop) (QS : ZS) (s2 : ZU) : Prop :=
 ∃ (it : aac) (fp : List aac) (tn : Nat → Heap → Prop) (J : It) (H' : Hp), QS = .ref it ∧ Inv X pins σ H' s2 ∧ Turn X.prog X.w X.K tg J fp it tn ∧ tn 0 s2.heap ∧ (∀ b ∈ fp, su X pins H' b) ∧ R J H'
def PI (X : Cx) (tg iter : Expr) (wi : TI) : Prop :=
 ∀ (pins : List (aac × Obj)) (s : ZU) (σ : St) (H : Hp) (R : It → Hp → Prop), Inv X pins σ H s → wi σ H R →
  aar (model X.prog X.w) X.A (eval iter X.env) (fun v s1 => aar (model X.prog X.w) X.A (pyIter v) (Us X pins σ tg R) X.xe s1) X.xe s
theorem DJ {M : Model} {A : aaA} {E : ZS → ZU → Prop} {s : ZU} {tg : Expr} {it : aac} {u : ZS} {o : Obj} {n : String} {vs : Array ZS} {Q : Unit → ZU → Prop} (ho : s.heap.get? it = some o) (hc : o.cls = .type n) (hd : o.data = .fields vs)
    (hn : ["enumerate", "zip", "dict_itemiterator", "dict_reverseitemiterator", "odict_iterator", "itertools.zip_longest", "itertools.pairwise"].contains n = false) (hQ : Q () s) : aar M A (letOwnedTupleGo tg (.ref it) u) Q E s := by
  unfold letOwnedTupleGo
  cases tg <;> first
    | exact ZW hQ
    | (cases u <;> first
        | exact ZW hQ
        | (refine ZR (wpAny_load ho ?_)
           rw [hc, hd]
           show aar M A (if (["enumerate", "zip", "dict_itemiterator", "dict_reverseitemiterator", "odict_iterator", "itertools.zip_longest", "itertools.pairwise"].contains n && vs[0]? == some (rawInt _)) = true then _ else _) Q E s
           rw [if_neg (by intro h; rw [hn, Bool.false_and] at h; cases h)]
           exact ZW hQ))
def DK (K : ZQ) (a : aac) : It :=
 ⟨fun i H => ∃ xs x, aC K H a xs ∧ xs[i]? = some x, fun i H x H' => H' = H ∧ ∀ xs, aC K H a xs → xs[i]? = some x, fun i H => ∃ xs, aC K H a xs ∧ xs.length ≤ i⟩
def Gu (K : ZQ) (a : aac) : It :=
 ⟨fun i H => ∃ xs x, aK K H a xs ∧ xs[i]? = some x, fun i H x H' => H' = H ∧ ∀ xs, aK K H a xs → xs[i]? = some x, fun i H => ∃ xs, aK K H a xs ∧ xs.length ≤ i⟩
def HV (lo : Int) (n : Nat) : It := ⟨fun i _ => i < n, fun i H x H' => H' = H ∧ x = .int (lo + i), fun i _ => n ≤ i⟩
theorem Ca {P : aao} {w : aaO} {K : ZQ} {tg : Expr} (a it : aac) : Turn P w K tg (DK K a) [it] it (fun i h => h.IsListIter it a i) where
 mem := by simp
 obj := fun i h st b hb => by
  have e : b = it := by simpa using hb
  subst e
  obtain ⟨o, e, c, d⟩ := st
  exact ⟨o, e, fun v z => by rw [d] at z; cases z⟩
 keep := fun i h h' st k => st.at fun o e => k it (by simp) o e
 item := by
  intro X hP hw hK hc i pins s σ H E I hf st hg
  subst hP hw hK
  obtain ⟨xs, x, hq, hx⟩ := hg
  obtain ⟨its, rv, p, hz⟩ := I.list hq
  obtain ⟨u, hu, ru⟩ := rv.get hx
  obtain ⟨f0, f1, f2, f3, f4, f5⟩ := hf it (by simp)
  refine wpAny_pyNext_list_item st p.isList (x := u) (by simpa using hu) fun h' iF sb => ?_
  have I1 : Inv X pins σ H { s with heap := h' } := I.turned (t' := s.toks) (fun b o hb e => (sb.2 b hb).trans e) f0 f1 f3 f4 f5
  obtain ⟨o, e, c, d⟩ := id iF
  exact ⟨u, rfl, DJ (s := { s with heap := h' }) e c d (by decide) ⟨x, H, I1, ru, ⟨rfl, fun ys hy => by rw [I.DI hy hq]; exact hx⟩, iF, fun b hb => (hf b hb).1⟩⟩
 done := by
  intro X hP hw hK hc i pins s σ H E I hf st hg
  subst hP hw hK
  obtain ⟨xs, hq, hx⟩ := hg
  obtain ⟨its, rv, p, hz⟩ := I.list hq
  obtain ⟨f0, f1, f2, f3, f4, f5⟩ := hf it (by simp)
  have hl := rv.length
  exact wpAny_pyNext_list_end (I.ok.hd hc) st p.isList (by simp; omega) fun h' eb => ⟨rfl, I.turned (t' := s.toks) (fun b o hb e => eb b o hb e) f0 f1 f3 f4 f5⟩
 self := fun _ _ _ _ _ st h => wpAny_pyIter_listiter st h
theorem zA {P : aao} {w : aaO} {K : ZQ} {tg : Expr} (a it : aac) : Turn P w K tg (Gu K a) [it] it (fun i h => h.IsTupleIter it a i) where
 mem := by simp
 obj := fun i h st b hb => by
  have e : b = it := by simpa using hb
  subst e
  obtain ⟨o, e, c, d⟩ := st
  exact ⟨o, e, fun v z => by rw [d] at z; cases z⟩
 keep := fun i h h' st k => st.at fun o e => k it (by simp) o e
 item := by
  intro X hP hw hK hc i pins s σ H E I hf st hg
  subst hP hw hK
  obtain ⟨xs, x, hq, hx⟩ := hg
  obtain ⟨its, rv, p, hz⟩ := I.tuple hq
  obtain ⟨u, hu, ru⟩ := rv.get hx
  obtain ⟨f0, f1, f2, f3, f4, f5⟩ := hf it (by simp)
  refine wpAny_pyNext_tuple_item st (show s.heap.IsTuple a its.toArray from p) (x := u) (by simpa using hu) fun h' iF sb => ?_
  have I1 : Inv X pins σ H { s with heap := h' } := I.turned (t' := s.toks) (fun b o hb e => (sb.2 b hb).trans e) f0 f1 f3 f4 f5
  obtain ⟨o, e, c, d⟩ := id iF
  exact ⟨u, rfl, DJ (s := { s with heap := h' }) e c d (by decide) ⟨x, H, I1, ru, ⟨rfl, fun ys hy => by rw [I.oi hy hq]; exact hx⟩, iF, fun b hb => (hf b hb).1⟩⟩
 done := by
  intro X hP hw hK hc i pins s σ H E I hf st hg
  subst hP hw hK
  obtain ⟨xs, hq, hx⟩ := hg
  obtain ⟨its, rv, p, hz⟩ := I.tuple hq
  obtain ⟨f0, f1, f2, f3, f4, f5⟩ := hf it (by simp)
  have hl := rv.length
  exact wpAny_pyNext_tuple_end (I.ok.hd hc) st (show s.heap.IsTuple a its.toArray from p) (by simp; omega) fun h' eb => ⟨rfl, I.turned (t' := s.toks) (fun b o hb e => eb b o hb e) f0 f1 f3 f4 f5⟩
 self := fun _ _ _ _ _ st h => wpAny_pyIter_tupleiter st h
theorem zB {P : aao} {w : aaO} {K : ZQ} {tg : Expr} (it : aac) (lo : Int) (n : Nat) : Turn P w K tg (HV lo n) [it] it (fun i h => IsRangeIter h it (lo + (i : Nat) * 1) ((n : Int) - (i : Nat)) 1) where
 mem := by simp
 obj := fun i h st b hb => by
  have e : b = it := by simpa using hb
  subst e
  exact ⟨_, st, fun v z => by
   have z' : Data.fields _ = Data.cell v := z
   cases z'⟩
 keep := fun i h h' st k => k it (by simp) _ st
 item := by
  intro X hP hw hK hc i pins s σ H E I hf st hg
  subst hP hw hK
  obtain ⟨f0, f1, f2, f3, f4, f5⟩ := hf it (by simp)
  have W := Walks.range (prog := X.prog) (w := X.w) (I.ok.hd hc) it lo 1 n
  refine W.item i s _ _ hg st fun v h' tk hv iF kk => ?_
  obtain ⟨t, rfl⟩ := hv
  have I1 : Inv X pins σ H { s with heap := h', toks := tk } := I.turned (fun b o hb e => kk b o (by simpa using hb) e) f0 f1 f3 f4 f5
  refine ⟨_, rfl, DJ (s := { s with heap := h', toks := tk }) (n := "range_iterator") iF rfl rfl (by decide) ⟨.int (lo + i), H, I1, ⟨t, ?_⟩, ⟨rfl, rfl⟩, iF, fun b hb => (hf b hb).1⟩⟩
  rw [Int.mul_one]
 done := by
  intro X hP hw hK hc i pins s σ H E I hf st hg
  subst hP hw hK
  obtain ⟨f0, f1, f2, f3, f4, f5⟩ := hf it (by simp)
  exact wpAny_pyNext_range_end (I.ok.hd hc) st (by have : n ≤ i := hg; omega) fun h' eb => ⟨rfl, I.turned (t' := s.toks) (fun b o hb e => eb b o hb e) f0 f1 f3 f4 f5⟩
 self := fun _ _ _ _ _ st h => wpAny_pyIter_rangeiter st h
end L2
namespace L2
open PySem PySem.Spec PyProof.Rows
section
variable {X : Cx} {tg : Expr}
def L9 (K : ZQ) (tl : TE) : TI := fun σ H R => tl σ H fun x H1 => ∃ a, x = .ref a ∧ (∃ xs, aC K H1 a xs) ∧ R (DK K a) H1
def QT (K : ZQ) (tl : TE) : TI := fun σ H R => tl σ H fun x H1 => ∃ a, x = .ref a ∧ (∃ xs, aK K H1 a xs) ∧ R (Gu K a) H1
theorem aH {l : Expr} {tl : TE} (hl : PE X l tl) : PI X tg l (L9 X.K tl) := by
 intro pins s σ H R I h
 refine cJ (hl pins s σ H _ I h) fun v s1 ⟨x, H1, I1, r1, q1⟩ => ?_
 obtain ⟨a, e, ⟨xs, hq⟩, q⟩ := q1
 subst e
 cases r1
 obtain ⟨its, rv, p, hz⟩ := I1.list hq
 refine wpAny_pyIter_list p.isList ?_
 refine ⟨s1.heap.objs.size, [s1.heap.objs.size], _, _, H1, rfl, I1.kept (t' := s1.toks) fun b o e => ZV _ e, Ca a _, ⟨_, Z8 _ rfl, rfl, rfl⟩, fun b hb => ?_, q⟩
 have e : b = s1.heap.objs.size := by simpa using hb
 subst e
 exact I1.Gs (Z0 _) (I1.hok.fresh (Z0 _))
theorem fE {l : Expr} {tl : TE} (hl : PE X l tl) : PI X tg l (QT X.K tl) := by
 intro pins s σ H R I h
 refine cJ (hl pins s σ H _ I h) fun v s1 ⟨x, H1, I1, r1, q1⟩ => ?_
 obtain ⟨a, e, ⟨xs, hq⟩, q⟩ := q1
 subst e
 cases r1
 obtain ⟨its, rv, p, hz⟩ := I1.tuple hq
 refine wpAny_pyIter_tuple (show s1.heap.IsTuple a its.toArray from p) ?_
 refine ⟨s1.heap.objs.size, [s1.heap.objs.size], _, _, H1, rfl, I1.kept (t' := s1.toks) fun b o e => ZV _ e, zA a _, ⟨_, Z8 _ rfl, rfl, rfl⟩, fun b hb => ?_, q⟩
 have e : b = s1.heap.objs.size := by simpa using hb
 subst e
 exact I1.Gs (Z0 _) (I1.hok.fresh (Z0 _))
theorem DL {pins : List (aac × Obj)} {σ : St} {H : Hp} {s : ZU} {R : It → Hp → Prop} {E : ZS → ZU → Prop} {lo hi : Int} {t u v : Tok} {tk : Nat} (I : Inv X pins σ H s) (h1 : -(2 ^ 62) ≤ lo) (h2 : lo < 2 ^ 62) (h3 : -(2 ^ 62) ≤ hi) (h4 : hi < 2 ^ 62)
  (q : R (HV lo (hi - lo).toNat) H) : aar (model X.prog X.w) X.A (pyIter (.ref s.heap.objs.size)) (Us X pins σ tg R) E { s with heap := s.heap.push { cls := .type "range", data := .fields #[.int lo t, .int hi u, .int 1 v] }, toks := tk } := by
 refine wpAny_pyIter_range (IsRange.new ..) (small_one h1 h2 h3 h4) ?_
 have I1 : Inv X pins σ H { s with heap := s.heap.push { cls := .type "range", data := .fields #[.int lo t, .int hi u, .int 1 v] }, toks := tk } := I.kept fun b o e => ZV _ e
 refine ⟨(s.heap.push { cls := .type "range", data := .fields #[.int lo t, .int hi u, .int 1 v] }).objs.size, [(s.heap.push { cls := .type "range", data := .fields #[.int lo t, .int hi u, .int 1 v] }).objs.size], _, _, H, rfl,
  I1.kept (t' := tk) fun b o e => ZV _ e, zB _ lo (hi - lo).toNat, ?_, fun b hb => ?_, q⟩
 ·have e1 : lo + ((0 : Nat) : Int) * 1 = lo := by simp
  have e2 : (((hi - lo).toNat : Nat) : Int) - ((0 : Nat) : Int) = Builtin.Range.rangeSize lo hi 1 := by rw [rangeSize_one]; split <;> omega
  show IsRangeIter _ _ (lo + ((0 : Nat) : Int) * 1) ((((hi - lo).toNat : Nat) : Int) - ((0 : Nat) : Int)) 1
  rw [e1, e2]
  exact Z8 _ rfl
 ·have e : b = (s.heap.push { cls := .type "range", data := .fields #[.int lo t, .int hi u, .int 1 v] }).objs.size := by simpa using hb
  subst e
  exact I1.Gs (Z0 _) (I1.hok.fresh (Z0 _))
def Ma (ta : TA) : TI := fun σ H R => ta σ H fun vs H1 => ∃ j : Int, vs = [.int j] ∧ -(2 ^ 62) ≤ j ∧ j < 2 ^ 62 ∧ R (HV 0 j.toNat) H1
theorem fq {a : Expr} {ta : TA} {p pos : Pos} (hg : Gl X "range") (hm : X.mg "range" = none) (ha : PA X [a] ta) (hs : starEach [a] X.env = [(false, eval a X.env)] := by rfl) : PI X tg (.Call (.Name "range" p) [a] [] pos) (Ma ta) := by
 intro pins s σ H R I h
 refine Call_ (uY I hg hm boot_range (adx (cJ (ha pos pins s σ H _ I h) fun us s1 ⟨vs, H1, I1, r1, q1⟩ => ?_) hs rfl))
 obtain ⟨j, e, q1, q2, q⟩ := q1
 subst e
 cases r1 with
 | cons r rr =>
  cases rr
  obtain ⟨t, rfl⟩ := r
  exact call_range_1 (DL I1 (by omega) (by omega) q1 q2 (by simpa using q))
def QU (wi : TI) (g : TG) (tb : TS) : TS := fun D σ H => wi σ H fun J H1 => ∃ W : Nat → Nat → St → Hp → Prop, (∃ m, W 0 m σ H1) ∧ ∀ i m σ H, W i m σ H →
 (J.stop i H ∧ D.nx σ H) ∨ (J.go i H ∧ ∃ N : St → Hp → Prop, (∀ σ' H', N σ' H' → ∃ m', m' < m ∧ W (i + 1) m' σ' H') ∧ ∀ x H', J.IQ i H x H' → g x σ H' fun σ2 H2 => tb { D with nx := N, ct := N, bk := D.nx } σ2 H2)
def qc (fp : List aac) (h : Heap) : List (aac × Obj) := fp.filterMap fun b => (h.get? b).map fun o => (b, o)
theorem iH {fp : List aac} {h : Heap} {b : aac} {o : Obj} (hb : b ∈ fp) (e : h.get? b = some o) : (b, o) ∈ qc fp h := ac1.mpr ⟨b, hb, by rw [e]; rfl⟩
theorem Cb {fp : List aac} {h : Heap} {p : aac × Obj} (hp : p ∈ qc fp h) : p.1 ∈ fp ∧ h.get? p.1 = some p.2 := by
 obtain ⟨b, hb, e⟩ := ac1.mp hp
 cases q : h.get? b with
 | none => rw [q] at e; cases e
 | some o =>
  rw [q] at e
  have e' : (b, o) = p := aaI e
  subst e'
  exact ⟨hb, q⟩
theorem Inv.pinned {pins : List (aac × Obj)} {σ : St} {H : Hp} {s : ZU} {fp : List aac} (I : Inv X pins σ H s) (hf : ∀ b ∈ fp, su X pins H b) (ho : ∀ b ∈ fp, ∃ o, s.heap.get? b = some o ∧ ∀ v, o.data ≠ .cell v) : Inv X (pins ++ qc fp s.heap) σ H s :=
 I.A6 fun p hp => (ZY.mp hp).elim (fun z => I.pin p (aaD _ z)) fun z => by
  obtain ⟨hb, e⟩ := Cb z
  obtain ⟨f0, f1, f2, _⟩ := hf p.1 hb
  obtain ⟨o, e', d⟩ := ho p.1 hb
  rw [e] at e'; cases e'
  exact ⟨e, f0, f1, f2, d⟩
theorem Inv.mS {pins pl : List (aac × Obj)} {σ : St} {H : Hp} {s : ZU} (I : Inv X (pins ++ pl) σ H s) : Inv X pins σ H s := I.A6 fun p hp => I.pin p (aaD _ (ab4 _ hp))
theorem cb {iter : Expr} {body : List Stmt} {wi : TI} {g : TG} {tb : TS} {pos : Pos} (hp : PassesOwn (model X.prog X.w) X.A X.env X.xe) (hc : X.calm = true) (hi : PI X tg iter wi) (hg : PG X tg g) (hb : zi X body tb)
  (hs : ∀ x, foldedSetIterable iter X.env x = pure x := by intro _; rfl) : PS X (.For tg iter body [] pos) (QU wi g tb) := by
 intro pins s σ H D I h
 refine wpAny_For (cJ (hi pins s σ H _ I h) fun v s1 h1 => cJ h1 fun QS s2 h2 => ?_) hs
 obtain ⟨it, fp, tn, J, H2, e, I2, T, bQ, f2, W, ⟨m0, w0⟩, turn⟩ := h2
 subst e
 have zC : ∀ {H' : Hp}, (∀ b ∈ fp, H' b = none) → ∀ b ∈ fp, su X pins H' b := fun hn b hb => ⟨hn b hb, (f2 b hb).2⟩
 refine codeAny_forLoop_any (fun n s' => ∃ i σ' H', Inv X pins σ' H' s' ∧ tn i s'.heap ∧ (∀ b ∈ fp, H' b = none) ∧ W i n σ' H') ?_ m0 ⟨0, σ, H2, I2, bQ, fun b hb => (f2 b hb).1, w0⟩
 rintro n s3 ⟨i, σ3, H3, I3, IS, Ut, w3⟩
 rcases turn i n σ3 H3 w3 with ⟨stop, qn⟩ | ⟨go, N, hN, step⟩
 ·refine wpAny_passesOwn hp (cJ (T.done X rfl rfl rfl hc i pins s3 σ3 H3 X.xe I3 (zC Ut) IS stop) fun r s4 ⟨hr, I4⟩ => ?_)
  subst hr
  exact wpAny_execs_nil ⟨σ3, H3, I4, qn⟩
 ·refine wpAny_passesOwn hp (cJ (T.item X rfl rfl rfl hc i pins s3 σ3 H3 X.xe I3 (zC Ut) IS go) fun r s4 ⟨u, hr, h4⟩ => ?_)
  subst hr
  refine wpAny_passesOwn hp (cJ h4 fun _ s5 ⟨x, H5, I5, r5, y5, IT, QV⟩ => ?_)
  have Wg := I5.pinned (zC QV) (T.obj _ _ IT)
  refine wpAny_passesOwn hp (cJ (hg _ s5 σ3 H5 x u _ Wg r5 (step x H5 y5)) fun _ s6 ⟨σ6, H6, I6, q6⟩ => ?_)
  refine wpAny_passesOwn hp (cJ (hb _ s6 σ6 H6 _ I6 q6) fun f s7 q7 => ?_)
  have again : ∀ {σ7 : St} {H7 : Hp}, Inv X (pins ++ qc fp s5.heap) σ7 H7 s7 → N σ7 H7 → ∃ m, m < n ∧ ∃ i σ' H', Inv X pins σ' H' s7 ∧ tn i s7.heap ∧ (∀ b ∈ fp, H' b = none) ∧ W i m σ' H' := fun {σ7 H7} I7 n7 => by
   obtain ⟨m', hm, w7⟩ := hN σ7 H7 n7
   refine ⟨m', hm, i + 1, σ7, H7, I7.mS, T.keep _ _ _ IT fun b hb o e => (I7.pin (b, o) (aaD _ (aaD _ (iH hb e)))).1, fun b hb => ?_, w7⟩
   obtain ⟨o, e, d⟩ := T.obj _ _ IT b hb
   exact (I7.pin (b, o) (aaD _ (aaD _ (iH hb e)))).2.1
  cases f with
  | next => obtain ⟨σ7, H7, I7, n7⟩ := q7; exact again I7 n7
  | cont => obtain ⟨σ7, H7, I7, n7⟩ := q7; exact again I7 n7
  | brk => obtain ⟨σ7, H7, I7, q7⟩ := q7; exact ⟨σ7, H7, I7.mS, q7⟩
  | ret v => obtain ⟨x7, σ7, H7, I7, r7, q7⟩ := q7; exact ⟨x7, σ7, H7, I7.mS, r7, q7⟩
end
theorem bK {K : ZQ} {a : aac} {xs : List V} {g : TG} {tb : TS} {D : Ends} {σ : St} {H : Hp} (Pv : Nat → St → Hp → Prop) (h0 : Pv 0 σ H) (hl : ∀ i σ H, i ≤ xs.length → Pv i σ H → aC K H a xs)
  (hs : ∀ i x σ H, xs[i]? = some x → Pv i σ H → g x σ H fun σ2 H2 => tb { D with nx := Pv (i + 1), ct := Pv (i + 1), bk := D.nx } σ2 H2) (hd : ∀ σ H, Pv xs.length σ H → D.nx σ H) :
  ∃ W : Nat → Nat → St → Hp → Prop, (∃ m, W 0 m σ H) ∧ ∀ i m σ H, W i m σ H →
   ((DK K a).stop i H ∧ D.nx σ H) ∨ ((DK K a).go i H ∧ ∃ N : St → Hp → Prop, (∀ σ' H', N σ' H' → ∃ m', m' < m ∧ W (i + 1) m' σ' H') ∧ ∀ x H', (DK K a).IQ i H x H' → g x σ H' fun σ2 H2 => tb { D with nx := N, ct := N, bk := D.nx } σ2 H2) := by
 refine ⟨fun i m σ H => m = xs.length - i ∧ i ≤ xs.length ∧ Pv i σ H, ⟨xs.length, by simp, aaX _, h0⟩, ?_⟩
 rintro i m σ H ⟨rfl, hi, p⟩
 have q := hl i σ H hi p
 by_cases fF : i < xs.length
 ·refine .inr ⟨⟨xs, xs[i], q, by simp [fF]⟩, Pv (i + 1), fun σ' H' p' => ⟨xs.length - (i + 1), by omega, rfl, fF, p'⟩, fun x H' y => ?_⟩
  obtain ⟨e, y⟩ := y
  subst e
  exact hs i x σ _ (y xs q) p
 ·have e : i = xs.length := by omega
  subst e
  exact .inl ⟨⟨xs, q, Z0 _⟩, hd σ H p⟩
theorem u5 {K : ZQ} {a : aac} {xs : List V} {g : TG} {tb : TS} {D : Ends} {σ : St} {H : Hp} (Pv : Nat → St → Hp → Prop) (h0 : Pv 0 σ H) (hl : ∀ i σ H, i ≤ xs.length → Pv i σ H → aK K H a xs)
  (hs : ∀ i x σ H, xs[i]? = some x → Pv i σ H → g x σ H fun σ2 H2 => tb { D with nx := Pv (i + 1), ct := Pv (i + 1), bk := D.nx } σ2 H2) (hd : ∀ σ H, Pv xs.length σ H → D.nx σ H) :
  ∃ W : Nat → Nat → St → Hp → Prop, (∃ m, W 0 m σ H) ∧ ∀ i m σ H, W i m σ H →
   ((Gu K a).stop i H ∧ D.nx σ H) ∨ ((Gu K a).go i H ∧ ∃ N : St → Hp → Prop, (∀ σ' H', N σ' H' → ∃ m', m' < m ∧ W (i + 1) m' σ' H') ∧ ∀ x H', (Gu K a).IQ i H x H' → g x σ H' fun σ2 H2 => tb { D with nx := N, ct := N, bk := D.nx } σ2 H2) := by
 refine ⟨fun i m σ H => m = xs.length - i ∧ i ≤ xs.length ∧ Pv i σ H, ⟨xs.length, by simp, aaX _, h0⟩, ?_⟩
 rintro i m σ H ⟨rfl, hi, p⟩
 have q := hl i σ H hi p
 by_cases fF : i < xs.length
 ·refine .inr ⟨⟨xs, xs[i], q, by simp [fF]⟩, Pv (i + 1), fun σ' H' p' => ⟨xs.length - (i + 1), by omega, rfl, fF, p'⟩, fun x H' y => ?_⟩
  obtain ⟨e, y⟩ := y
  subst e
  exact hs i x σ _ (y xs q) p
 ·have e : i = xs.length := by omega
  subst e
  exact .inl ⟨⟨xs, q, Z0 _⟩, hd σ H p⟩
theorem Cc {lo : Int} {n : Nat} {g : TG} {tb : TS} {D : Ends} {σ : St} {H : Hp} (Pv : Nat → St → Hp → Prop) (h0 : Pv 0 σ H)
  (hs : ∀ i σ H, i < n → Pv i σ H → g (.int (lo + i)) σ H fun σ2 H2 => tb { D with nx := Pv (i + 1), ct := Pv (i + 1), bk := D.nx } σ2 H2) (hd : ∀ σ H, Pv n σ H → D.nx σ H) :
  ∃ W : Nat → Nat → St → Hp → Prop, (∃ m, W 0 m σ H) ∧ ∀ i m σ H, W i m σ H →
   ((HV lo n).stop i H ∧ D.nx σ H) ∨ ((HV lo n).go i H ∧ ∃ N : St → Hp → Prop, (∀ σ' H', N σ' H' → ∃ m', m' < m ∧ W (i + 1) m' σ' H') ∧ ∀ x H', (HV lo n).IQ i H x H' → g x σ H' fun σ2 H2 => tb { D with nx := N, ct := N, bk := D.nx } σ2 H2) := by
 refine ⟨fun i m σ H => m = n - i ∧ i ≤ n ∧ Pv i σ H, ⟨n, by simp, aaX _, h0⟩, ?_⟩
 rintro i m σ H ⟨rfl, hi, p⟩
 by_cases fF : i < n
 ·refine .inr ⟨fF, Pv (i + 1), fun σ' H' p' => ⟨n - (i + 1), by omega, rfl, fF, p'⟩, fun x H' y => ?_⟩
  obtain ⟨e, y⟩ := y
  subst e y
  exact hs i σ _ fF p
 ·have e : i = n := by omega
  subst e
  exact .inl ⟨Z0 _, hd σ H p⟩
end L2
namespace L2
open PySem PySem.Spec PyProof.Rows
abbrev R2 := V → V → Hp → VK → Prop
def pT (X : Cx) (f : ZS → ZS → Sem ZS) (r : R2) : Prop :=
 ∀ (pins : List (aac × Obj)) (s : ZU) (σ : St) (H : Hp) (x y : V) (v u : ZS) (Q : VK), Inv X pins σ H s → RelV x v → RelV y u → r x y H Q →
  aar (model X.prog X.w) X.A (f v u) (EP X pins σ Q) X.xe s
def cK (X : Cx) (f : ZS) (r : List V → Hp → VK → Prop) : Prop :=
 ∀ (pins : List (aac × Obj)) (s : ZU) (σ : St) (H : Hp) (xs : List V) (us : List ZS) (Q : VK), Inv X pins σ H s → Vals xs us → r xs H Q →
  aar (model X.prog X.w) X.A (call f us) (EP X pins σ Q) X.xe s
def PJ (r : R2) (ta tb : TE) : TE := fun σ H Q => ta σ H fun x H1 => tb σ H1 fun y H2 => r x y H2 Q
def rI (C : Int → Int → Prop) (g : Int → Int → V) : R2 := fun x y H Q => ∃ i j, x = .int i ∧ y = .int j ∧ C i j ∧ Q (g i j) H
def Mb (g : Int → Int → V) : R2 := fun x y H Q => ∃ i j, x = .int i ∧ y = .int j ∧ Q (g i j) H
section
variable {X : Cx} {a b c : Expr} {ta tb tc : TE} {pos : Pos}
theorem IU (ha : PE X a ta) (hb : PE X b tb) {pins : List (aac × Obj)} {s : ZU} {σ : St} {H : Hp} {R : V → V → Hp → Prop} (I : Inv X pins σ H s)
  (h : ta σ H fun x H1 => tb σ H1 fun y H2 => R x y H2) {Q : ZS → ZU → Prop} {f : ZS → ZS → Sem ZS}
  (hf : ∀ v u s2 x y H2, Inv X pins σ H2 s2 → RelV x v → RelV y u → R x y H2 → aar (model X.prog X.w) X.A (f v u) Q X.xe s2) :
  aar (model X.prog X.w) X.A (eval a X.env) (fun v s₁ => aar (model X.prog X.w) X.A (eval b X.env) (fun u s₂ => aar (model X.prog X.w) X.A (f v u) Q X.xe s₂) X.xe s₁) X.xe s := by
 refine cJ (ha pins s σ H _ I h) fun v s1 ⟨x, H1, I1, r1, q1⟩ => ?_
 refine cJ (hb pins s1 σ H1 _ I1 q1) fun u s2 ⟨y, H2, I2, r2, q2⟩ => ?_
 exact hf v u s2 x y H2 I2 r1 r2 q2
theorem az {op : Operator} {r : R2} (ho : pT X (binaryOp op) r) (ha : PE X a ta) (hb : PE X b tb) : PE X (.BinOp a op b pos) (PJ r ta tb) := by
 intro pins s σ H Q I h
 exact wpAny_BinOp (IU ha hb I h fun v u s2 x y H2 I2 rx ry q => ho pins s2 σ H2 x y v u Q I2 rx ry q)
theorem QW {f : ZS → ZS → Sem ZS} {C : Int → Int → Prop} {g : Int → Int → Int}
  (rule : ∀ (i j : Int) (t u : Tok) (s : ZU) (Q : ZS → ZU → Prop) (E : ZS → ZU → Prop), C i j → Q (.int (g i j) s.toks) { s with toks := s.toks + 1 } → aar (model X.prog X.w) X.A (f (.int i t) (.int j u)) Q E s) :
  pT X f (rI C fun i j => .int (g i j)) := by
 intro pins s σ H x y v u Q I rx ry h
 obtain ⟨i, j, rfl, rfl, hc, q⟩ := h
 obtain ⟨t, rfl⟩ := rx
 obtain ⟨t', rfl⟩ := ry
 exact rule i j t t' s _ _ hc ⟨.int (g i j), H, I.tok _, ⟨_, rfl⟩, q⟩
theorem QX {f : ZS → ZS → Sem ZS} {g : Int → Int → Int}
  (rule : ∀ (i j : Int) (t u : Tok) (s : ZU) (Q : ZS → ZU → Prop) (E : ZS → ZU → Prop), Q (.int (g i j) s.toks) { s with toks := s.toks + 1 } → aar (model X.prog X.w) X.A (f (.int i t) (.int j u)) Q E s) :
  pT X f (Mb fun i j => .int (g i j)) := by
 intro pins s σ H x y v u Q I rx ry h
 obtain ⟨i, j, rfl, rfl, q⟩ := h
 obtain ⟨t, rfl⟩ := rx
 obtain ⟨t', rfl⟩ := ry
 exact rule i j t t' s _ _ ⟨.int (g i j), H, I.tok _, ⟨_, rfl⟩, q⟩
theorem Mc {f : ZS → ZS → Sem ZS} {g : Int → Int → Bool}
  (rule : ∀ (i j : Int) (t u : Tok) (s : ZU) (Q : ZS → ZU → Prop) (E : ZS → ZU → Prop), Q (.bool (g i j)) s → aar (model X.prog X.w) X.A (f (.int i t) (.int j u)) Q E s) :
  pT X f (Mb fun i j => .bl (g i j)) := by
 intro pins s σ H x y v u Q I rx ry h
 obtain ⟨i, j, rfl, rfl, q⟩ := h
 obtain ⟨t, rfl⟩ := rx
 obtain ⟨t', rfl⟩ := ry
 exact rule i j t t' s _ _ ⟨.bl (g i j), H, I, rfl, q⟩
def QY (i j : Int) : Prop := 0 < j ∧ j < 1073741824
def IV (i j : Int) : Prop := (-(2 ^ 64) < i ∧ i < 2 ^ 64) ∨ (-(2 ^ 64) < j ∧ j < 2 ^ 64)
theorem IV.ok {i j : Int} (h : IV i j) : IntMulOk i j := by
 rcases h with ⟨h1, h2⟩ | ⟨h1, h2⟩
 ·exact .of_left (intBits_le_64 h1 h2)
 ·exact .of_right (intBits_le_64 h1 h2)
theorem iI : pT X (binaryOp .Add) (Mb fun i j => .int (i + j)) := QX fun _ _ _ _ _ _ _ q => add_int q
theorem qd : pT X (binaryOp .Mult) (rI IV fun i j => .int (i * j)) := QW fun _ _ _ _ _ _ _ hc q => mul_int q hc.ok
theorem cc : pT X (binaryOp .FloorDiv) (rI QY fun i j => .int (i / j)) := QW fun i j _ _ _ _ _ hc q => by
 have h1 : (0 : Int) < j := hc.1
 have h2 : j < 1073741824 := hc.2
 exact floordiv_int (by omega) (by rw [Int.fdiv_eq_ediv_of_nonneg i (by omega)]; exact q) (.inl (PyProof.noPylong_small (by omega)))
theorem bL : pT X (binaryOp .Mod) (rI (fun _ j => 0 < j) fun i j => .int (i % j)) := QW fun i j _ _ _ _ _ hc q => by
 have h1 : (0 : Int) < j := hc
 exact mod_int' (by omega) (by rw [Int.fmod_eq_emod_of_nonneg i (by omega)]; exact q)
end
def Md : V → V → Bool
 | .bB, .bB => true | .bB, .int _ => true | .int _, .bB => true | .bB, .bl _ => true | .bl _, .bB => true | .bB, .str _ => true | .str _, .bB => true
 | .int _, .int _ => true | .bl _, .bl _ => true | .str _, .str _ => true | .DD _, .DD _ => true
 | .int _, .str _ => true | .str _, .int _ => true | .bl _, .str _ => true | .str _, .bl _ => true
 | _, _ => false
def Wh : R2 := fun x y H Q => Md x y = true ∧ Q (.bl (decide (x = y))) H
def Wi : R2 := fun x y H Q => Md x y = true ∧ Q (.bl (!decide (x = y))) H
theorem A7 {i j : Int} : decide (V.int i = V.int j) = (i == j) := by
 rw [acs]
 simp
theorem DM {i j : Bool} : decide (V.bl i = V.bl j) = (i == j) := by
 rw [acs]
 simp
theorem A8 {i j : Str} : decide (V.str i = V.str j) = (i == j) := by
 rw [acs]
 simp
theorem A9 {i j : Array UInt8} : decide (V.DD i = V.DD j) = (i.toList == j.toList) := by
 rw [acs]
 cases i
 cases j
 simp
section
variable {X : Cx} {a b c : Expr} {ta tb tc : TE} {pos : Pos}
theorem aV {pins : List (aac × Obj)} {σ : St} {H : Hp} {s : ZU} {Q : VK} {k k' : Bool} (I : Inv X pins σ H s) (q : Q (.bl k) H) (e : k = k') : EP X pins σ Q (.bool k') s := by
 subst e
 exact ⟨.bl k, H, I, rfl, q⟩
theorem ie : pT X (compareOp .Eq) Wh := by
 intro pins s σ H x y v u Q I rx ry h
 obtain ⟨hs, q⟩ := h
 cases x with
 | bB =>
  cases rx
  cases y with
  | bB => cases ry; exact PySem.EqNone.eq_none_none (aV I q (by simp))
  | bl j => cases ry; exact PySem.EqNone.eq_none_bool (aV I q (by simp))
  | int j => obtain ⟨t', rfl⟩ := ry; exact PySem.EqNone.eq_none_int (aV I q (by simp))
  | str j => obtain ⟨t', rfl⟩ := ry; exact PySem.EqNone.eq_none_str (aV I q (by simp))
  | _ => exact absurd (show false = true from hs) aas
 | bl i =>
  cases rx
  cases y with
  | bB => cases ry; exact PySem.EqNone.eq_bool_none (aV I q (by simp))
  | bl j => cases ry; exact eq_bool (aV I q DM)
  | str j => obtain ⟨t', rfl⟩ := ry; exact PySem.EqMixed.eq_bool_str (aV I q (by simp))
  | _ => exact absurd (show false = true from hs) aas
 | int i =>
  obtain ⟨t, rfl⟩ := rx
  cases y with
  | bB => cases ry; exact PySem.EqNone.eq_int_none (aV I q (by simp))
  | int j => obtain ⟨t', rfl⟩ := ry; exact eq_int (aV I q A7)
  | str j => obtain ⟨t', rfl⟩ := ry; exact PySem.EqMixed.eq_int_str (aV I q (by simp))
  | _ => exact absurd (show false = true from hs) aas
 | str i =>
  obtain ⟨t, rfl⟩ := rx
  cases y with
  | bB => cases ry; exact PySem.EqNone.eq_str_none (aV I q (by simp))
  | bl j => cases ry; exact PySem.EqMixed.eq_str_bool (aV I q (by simp))
  | int j => obtain ⟨t', rfl⟩ := ry; exact PySem.EqMixed.eq_str_int (aV I q (by simp))
  | str j => obtain ⟨t', rfl⟩ := ry; exact eq_str (aV I q A8)
  | _ => exact absurd (show false = true from hs) aas
 | DD i =>
  obtain ⟨t, rfl⟩ := rx
  cases y with
  | DD j => obtain ⟨t', rfl⟩ := ry; exact PySem.W.eq_bytes (aV I q A9)
  | _ => exact absurd (show false = true from hs) aas
 | _ => cases y <;> exact absurd (show false = true from hs) aas
theorem ub : pT X (compareOp .NotEq) Wi := by
 intro pins s σ H x y v u Q I rx ry h
 obtain ⟨hs, q⟩ := h
 cases x with
 | bB =>
  cases rx
  cases y with
  | bB => cases ry; exact PySem.EqNone.ne_none_none (aV I q (by simp))
  | bl j => cases ry; exact PySem.EqNone.ne_none_bool (aV I q (by simp))
  | int j => obtain ⟨t', rfl⟩ := ry; exact PySem.EqNone.ne_none_int (aV I q (by simp))
  | str j => obtain ⟨t', rfl⟩ := ry; exact PySem.EqNone.ne_none_str (aV I q (by simp))
  | _ => exact absurd (show false = true from hs) aas
 | bl i =>
  cases rx
  cases y with
  | bB => cases ry; exact PySem.EqNone.ne_bool_none (aV I q (by simp))
  | bl j => cases ry; exact ne_bool (aV I q (congrArg not DM))
  | str j => obtain ⟨t', rfl⟩ := ry; exact PySem.EqMixed.ne_bool_str (aV I q (by simp))
  | _ => exact absurd (show false = true from hs) aas
 | int i =>
  obtain ⟨t, rfl⟩ := rx
  cases y with
  | bB => cases ry; exact PySem.EqNone.ne_int_none (aV I q (by simp))
  | int j => obtain ⟨t', rfl⟩ := ry; exact ne_int (aV I q (congrArg not A7))
  | str j => obtain ⟨t', rfl⟩ := ry; exact PySem.EqMixed.ne_int_str (aV I q (by simp))
  | _ => exact absurd (show false = true from hs) aas
 | str i =>
  obtain ⟨t, rfl⟩ := rx
  cases y with
  | bB => cases ry; exact PySem.EqNone.ne_str_none (aV I q (by simp))
  | bl j => cases ry; exact PySem.EqMixed.ne_str_bool (aV I q (by simp))
  | int j => obtain ⟨t', rfl⟩ := ry; exact PySem.EqMixed.ne_str_int (aV I q (by simp))
  | str j => obtain ⟨t', rfl⟩ := ry; exact ne_str (aV I q (congrArg not A8))
  | _ => exact absurd (show false = true from hs) aas
 | DD i =>
  obtain ⟨t, rfl⟩ := rx
  cases y with
  | DD j => obtain ⟨t', rfl⟩ := ry; exact PySem.W.ne_bytes (aV I q (congrArg not A9))
  | _ => exact absurd (show false = true from hs) aas
 | _ => cases y <;> exact absurd (show false = true from hs) aas
theorem Me : pT X (compareOp .Lt) (Mb fun i j => .bl (decide (i < j))) := Mc fun _ _ _ _ _ _ _ q => lt_int q
theorem DN : pT X (compareOp .Gt) (Mb fun i j => .bl (decide (j < i))) := Mc fun _ _ _ _ _ _ _ q => gt_int q
theorem Cd : pT X (compareOp .In) (fun x y H Q => ∃ i j, x = .str i ∧ y = .str j ∧ Q (.bl (!(Builtin.Str.occurrences j i 0 j.length 1).isEmpty)) H) := by
 intro pins s σ H x y v u Q I rx ry h
 obtain ⟨i, j, rfl, rfl, q⟩ := h
 obtain ⟨t, rfl⟩ := rx
 obtain ⟨t', rfl⟩ := ry
 exact in_str (aV I q rfl)
theorem bu (b : Expr) {op : CmpOp} (h : op ≠ .In := by decide) (h2 : op ≠ .NotIn := by decide) : behindInMarks op b = false := by
 have e1 : (op == CmpOp.In) = false := by cases op <;> first | rfl | exact absurd rfl h
 have e2 : (op == CmpOp.NotIn) = false := by cases op <;> first | rfl | exact absurd rfl h2
 cases b <;> simp [behindInMarks, e1, e2]
theorem Ba {op : CmpOp} {r : R2} (ho : pT X (compareOp op) r) (ha : PE X a ta) (hb : PE X b tb) (hm : behindInMarks op b = false) : PE X (.Compare a [op] [b] pos) (PJ r ta tb) := by
 intro pins s σ H Q I h
 exact wpAny_Compare1 (IU ha hb I h fun v u s2 x y H2 I2 rx ry q => ho pins s2 σ H2 x y v u Q I2 rx ry q) hm
def Mf (t : TE) : TT := fun σ H Q => t σ H fun x H' => ∃ k, x = .bl k ∧ Q k H'
theorem aD {op : CmpOp} {r : R2} (ho : pT X (compareOp op) r) (ha : PE X a ta) (hb : PE X b tb) (hm : behindInMarks op b = false) : PT X (.Compare a [op] [b] pos) (Mf (PJ r ta tb)) := by
 intro pins s σ H Q I h
 refine wpAny_isTrue_Compare1 (cJ (ha pins s σ H _ I h) fun v s1 ⟨x, H1, I1, r1, q1⟩ => cJ (hb pins s1 σ H1 _ I1 q1) fun u s2 ⟨y, H2, I2, r2, q2⟩ =>
  cJ (ho pins s2 σ H2 x y v u _ I2 r1 r2 q2) fun c s3 ⟨z, H3, I3, r3, k, e, q3⟩ => ?_) hm
 subst e
 cases r3
 exact wpAny_truthy_bool ⟨H3, I3, q3⟩
theorem qe : (Z2 : Nat) < 2 ^ 63 := by rw [aak]; decide
theorem aO : pT X (binaryOp .Add) (fun x y H Q => ∃ i j, x = .str i ∧ y = .str j ∧ i.length + j.length ≤ Z2 ∧ Q (.str (i ++ j)) H) := by
 intro pins s σ H x y v u Q I rx ry h
 obtain ⟨i, j, rfl, rfl, hz, q⟩ := h
 obtain ⟨t, rfl⟩ := rx
 obtain ⟨t', rfl⟩ := ry
 exact add_str (fun t' tk => ⟨.str (i ++ j), H, I.tok _, ⟨_, rfl⟩, q⟩) hz
theorem vals1 {x : V} {us : List ZS} (r : Vals [x] us) : ∃ u, us = [u] ∧ RelV x u := by
 cases r with
 | cons r1 r2 => cases r2; exact ⟨_, rfl, r1⟩
theorem vals2 {x y : V} {us : List ZS} (r : Vals [x, y] us) : ∃ u w', us = [u, w'] ∧ RelV x u ∧ RelV y w' := by
 cases r with
 | cons r1 r2 =>
  cases r2 with
  | cons r3 r4 => cases r4; exact ⟨_, _, rfl, r1, r3⟩
end
end L2
namespace L2
open PySem PySem.Spec PyProof.Rows
structure IW (h : Heap) (x dx C : aac) (mA : Str → Option ZS) : Prop where
 obj : h.get? x = some (aew C dx)
 ns : h.Ns1 dx mA
 ne : dx ≠ x
theorem Ce {h : Heap} {dx : aac} {mA : Str → Option ZS} (n : h.Ns1 dx mA) : ∃ od, h.get? dx = some od ∧ ∀ name, aeR name od = some (mA name) := by
 obtain ⟨o, es, ep, ho, hd, hk, _, hm⟩ := n
 refine ⟨o, ho, fun name => ?_⟩
 have e := hm name
 unfold nsFind findBy at e
 rw [← Array.find?_toList] at e
 unfold aeR
 rw [hd]
 dsimp only
 split
 ·rename_i y q
  rw [q] at e
  exact congrArg some e
 ·rename_i q
  rw [q] at e
  have a : es.toList.any (·.refKey) = false := by
   rw [List.any_eq_false]
   intro y hy
   obtain ⟨z, t, hkey⟩ := hk y (acG.mp hy)
   simp [DictEntry.refKey, hkey]
  have a' : ¬ es.toList.any (·.refKey) = true := by rw [a]; exact aas
  rw [if_neg a']
  exact congrArg some e
theorem IW.look {h : Heap} {x dx C : aac} {mA : Str → Option ZS} (I : IW h x dx C mA) : ∃ od, PySem.W.InstAt h x (aew C dx) C (some od) ∧ ∀ name, aeR name od = some (mA name) :=
 let ⟨od, ho, hl⟩ := Ce I.ns
 ⟨od, ⟨I.obj, rfl, rfl, ho⟩, hl⟩
section
variable {prog : aao} {w : aaO} {A : aaA} {E : ZS → ZU → Prop} {s : ZU} {K : ZQ} {x dx C f : aac} {mA : Str → Option ZS} {name : Str} {v : ZS}
end
theorem ma.some_of {v : V} {o : Option ZS} (r : ma (some v) o) : ∃ u, o = some u ∧ RelV v u := by
 cases o with
 | none => exact (show False from r).elim
 | some u => exact ⟨u, rfl, r⟩
theorem ma.none_of {o : Option ZS} (r : ma none o) : o = none := by
 cases o with
 | none => rfl
 | some u => exact (show False from r).elim
section
variable {P : aao} {w : aaO} {H H' : Hp} {h h' : Heap} {a C dx : aac} {fs fs' : List (Str × V)}
theorem Gv (hok : jO P w H h) (e : H a = some (.ins C dx fs)) : ∃ mA, IW h a dx C mA ∧ (∀ f, ma (fs.lookup f) (mA f)) ∧ PySem.Within mA (fs.map (·.1)) ∧ fs.length ≤ 1000 ∧ H dx = some (.own a) := by
 obtain ⟨d, z, ne, ob, mA, n, r, q⟩ := (show ba P w H h a (.ins C dx fs) from hok a _ e)
 exact ⟨mA, ⟨ob, n, ne⟩, r, q, z, d⟩
end
structure Ly (K : ZQ) (C : aac) : Prop where
 pg : afz K C aaU = true
 hd : PySem.W.hasDictIn K C = true
 po : PySem.W.plainOver K C = true
 sa : acI K (.ref C) "__setattr__" = some (some (.builtin "object.__setattr__"))
theorem Ly.get {K : ZQ} {C : aac} (c : Ly K C) (f : Str) : afz K C f = true := c.pg
def fG (K : ZQ) (C : aac) (f : Str) : Prop := acI K (.ref C) f = some none
structure Y9 (K : ZQ) (C : aac) (f : Str) (v : V) (u : ZS) : Prop where
 at_ : acI K (.ref C) f = some (some u)
 rel : RelV v u
 get : afm K u "__get__" = some none
 cp : PySem.W.copiedNames.contains f = false
structure Meth (K : ZQ) (C : aac) (m : Str) (f : aac) : Prop where
 at_ : acI K (.ref C) m = some (some (.ref f))
 fn : PySem.W.isFn K (.ref f) = true
 kp : ab0 K (.ref f) = true
section
variable {X : Cx} {pins : List (aac × Obj)} {σ : St} {H : Hp} {s : ZU} {a C dx : aac} {fs : List (Str × V)} {f : Str} {v : V} {A : aaA} {E : ZS → ZU → Prop}
end
section
variable {X : Cx} {o e value : Expr} {f : Str} {pos pos' Mg : Pos} {ta tv : TE}
end
section
variable {X : Cx} {pins : List (aac × Obj)} {σ : St} {H : Hp} {s : ZU} {A : aaA} {E : ZS → ZU → Prop} {Q : ZS → ZU → Prop} {c : ZS} {b : Bool}
inductive oj (K : ZQ) (H : Hp) : V → ZS → Prop where
 | bB : oj K H .bB (.type "NoneType")
 | bl (x : Bool) : oj K H (.bl x) (.type "bool")
 | int (i : Int) : oj K H (.int i) (.type "int")
 | str (x : Str) : oj K H (.str x) (.type "str")
 | Lw (x : UInt64) : oj K H (.Lw x) (.type "float")
 | lst {a : aac} {xs : List V} (e : H a = some (.lst xs)) : oj K H (.ref a) (.type "list")
 | lO {a : aac} {o : Obj} {xs : List V} (e : H a = some (.lO o (.lst xs))) : oj K H (.ref a) (.type "list")
 | tup {a : aac} {xs : List V} (e : H a = some (.tup xs)) : oj K H (.ref a) (.type "tuple")
 | dK {a : aac} {kvs : List (Key × V)} (e : H a = some (.dK kvs)) : oj K H (.ref a) (.type "dict")
 | dT {a : aac} {kvs : List (List Key × V)} (e : H a = some (.dT kvs)) : oj K H (.ref a) (.type "dict")
 | ins {a C dx : aac} {fs : List (Str × V)} (e : H a = some (.ins C dx fs)) (cl : Ly K C) (ha : acI K (.ref C) "__class__" = some (some (.builtin "object.__class__")))
   (hn : afm K (.builtin "object.__class__") "__get__" = some (some (.builtin "getset_descriptor.__get__"))) (PK : PySem.W.takesIn K (.builtin "object.__class__") = some true)
   (hm : PySem.W.mroIn K C (.type "object") = some true) : oj K H (.ref a) (.ref C)
theorem Cf {x : V} {u t : ZS} (I : Inv X pins σ H s) (rx : RelV x u) (ty : oj X.K H x t) (e : acj X.K t c = some b) (h : ∀ tk, Q (.bool b) { s with toks := tk }) :
  aar (model X.prog X.w) A (call (.builtin "isinstance") [u, c]) Q E s := by
 cases ty with
 | bB => cases (show u = aa4 from rx); exact abe PySem.W.kitx_none I.si acB e (fun z => nomatch z) h
 | bl y => cases (show u = afl y from rx); exact abe PySem.W.kitx_bool I.si acB e (fun z => nomatch z) h
 | int i => obtain ⟨t, q⟩ := (show ∃ t, u = adv i t from rx); cases q; exact abe PySem.W.kitx_int I.si acB e (fun z => nomatch z) h
 | str y => obtain ⟨t, q⟩ := (show ∃ t, u = acq y t from rx); cases q; exact abe PySem.W.kitx_str I.si acB e (fun z => nomatch z) h
 | Lw y => obtain ⟨t, q⟩ := (show ∃ t, u = Value.float y t from rx); cases q; exact abe PySem.W.kitx_float I.si acB e (fun z => nomatch z) h
 | @lst a xs ea =>
  cases (show u = aaC a from rx)
  obtain ⟨_, _, n, _, h1⟩ := (show ba X.prog X.w H s.heap a (.lst xs) from I.hok a _ ea)
  exact abe afn I.si ⟨_, h1, rfl⟩ e (fun z => nomatch z) h
 | @lO a ob xs ea =>
  cases (show u = aaC a from rx)
  obtain ⟨_, _, _, n, _, h1⟩ := (show ba X.prog X.w H s.heap a (.lO ob (.lst xs)) from I.hok a _ ea)
  exact abe afn I.si ⟨_, h1, rfl⟩ e (fun z => nomatch z) h
 | @tup a xs ea =>
  cases (show u = aaC a from rx)
  obtain ⟨_, _, _, p⟩ := (show ba X.prog X.w H s.heap a (.tup xs) from I.hok a _ ea)
  obtain ⟨o, h1, h2, _⟩ := p
  exact abe ae7 I.si ⟨o, h1, h2⟩ e (fun z => nomatch z) h
 | @dK a kvs ea =>
  cases (show u = aaC a from rx)
  obtain ⟨_, _, vs, _, p⟩ := (show ba X.prog X.w H s.heap a (.dK kvs) from I.hok a _ ea)
  obtain ⟨o, es, ep, h1, h2, _⟩ := p
  exact abe afo I.si ⟨o, h1, h2.1⟩ e (fun z => nomatch z) h
 | @dT a kvs ea =>
  cases (show u = aaC a from rx)
  obtain ⟨_, _, xs, _, o, es, ep, h1, h2, _⟩ := (show ba X.prog X.w H s.heap a (.dT kvs) from I.hok a _ ea)
  exact abe afo I.si ⟨o, h1, h2.1⟩ e (fun z => nomatch z) h
 | @ins a C dx fs ea cl ha hn PK hm =>
  cases (show u = aaC a from rx)
  obtain ⟨mA, O, _⟩ := Gv I.hok ea
  obtain ⟨od, J, _⟩ := O.look
  exact abe (PySem.W.kitx_own (cl.get _) cl.hd ha hn PK hm) I.si J e (fun z => nomatch z) h
end
end L2
namespace L2
open PySem PySem.Spec PyProof.Rows
structure eJ (k : Nat) (A : aaA) : Prop where
 hd : A.handled = none
 dp : A.depth + 3 * k + 5 < recursionLimit
 un : A.units + 16 * k + 200 < cLine
 gd : A.guards = some []
theorem eJ.mono {j k : Nat} {A : aaA} (r : eJ k A) (h : j ≤ k) : eJ j A := ⟨r.hd, by have := r.dp; omega, by have := r.un; omega, r.gd⟩
theorem eJ.deeper {k : Nat} {A : aaA} (r : eJ (k + 1) A) (env : Env) : eJ k (A.deeper env) :=
 ⟨r.hd, by have := r.dp; show A.depth + 1 + 3 * k + 5 < _; omega, by have := r.un; show A.units + 3 + 16 * k + 200 < _; omega, r.gd⟩
theorem eJ.depth {k : Nat} {A : aaA} (r : eJ k A) : A.depth < recursionLimit := by have := r.dp; omega
theorem eJ.units {k : Nat} {A : aaA} (r : eJ k A) : A.units + 64 < cLine := by have := r.un; omega
def Cg : TA := fun _ H Q => Q [] H
def Mh (ta : TE) (tr : TA) : TA := fun σ H Q => ta σ H fun x H1 => tr σ H1 fun xs H2 => Q (x :: xs) H2
section
variable {X : Cx} {e : Expr} {es : List Expr} {te : TE} {t : TA} {pos : Pos}
theorem ag : PA X [] Cg := fun _ _ _ _ H Q I h => adZ ⟨[], H, I, .nil, h⟩
theorem aa (ha : PE X e te) (hr : PA X es t) (hs : starEach (e :: es) X.env = (false, eval e X.env) :: starEach es X.env := by rfl) : PA X (e :: es) (Mh te t) := by
 intro pos pins s σ H Q I h
 rw [hs]
 show aar _ _ (spliced ((false, eval e X.env) :: backTo pos (starEach es X.env))) _ _ s
 refine acn (cJ (ha pins s σ H _ I h) fun u s1 ⟨x, H1, I1, r1, q1⟩ => ?_)
 exact cJ (hr pos pins s1 σ H1 _ I1 q1) fun us s2 ⟨xs, H2, I2, r2, q2⟩ => ⟨x :: xs, H2, I2, .cons r1 r2, q2⟩
def QZ (t : TA) : TE := fun σ H Q => t σ H fun xs H1 => xs.length ≤ Z2 ∧ ∀ p, H1 p = none → Q (.ref p) (upd H1 p (.tup xs))
def Q0 (t : TA) : TE := fun σ H Q => t σ H fun xs H1 => xs.length ≤ Z2 ∧ ∀ p, H1 p = none → Q (.ref p) (upd H1 p (.lst xs))
theorem cY {x1} (h : PA X es t) : PE X (.Tuple es x1 pos) (QZ t) := by
 intro pins s σ H Q I hq
 refine wpAny_Tuple_spliced (cJ (h pos pins s σ H _ I hq) fun us s1 ⟨xs, H1, I1, r, z, q⟩ => ⟨by rw [← r.length]; exact z, ?_⟩)
 have hf : H1 s1.heap.objs.size = none := I1.hok.fresh (Z0 _)
 refine ⟨.ref s1.heap.objs.size, upd H1 s1.heap.objs.size (.tup xs), I1.laid (t' := s1.toks) (fun b u e => ZV _ e) (Z0 _) ?_, rfl, q _ hf⟩
 exact ⟨z, us, r, ⟨_, Z8 _ rfl, rfl, _, rfl⟩⟩
theorem aQ (h : PA X es t) : PE X (.List es pos) (Q0 t) := by
 intro pins s σ H Q I hq
 refine wpAny_List_spliced (cJ (h pos pins s σ H _ I hq) fun us s1 ⟨xs, H1, I1, r, z, q⟩ => ⟨by rw [← r.length]; exact z, ?_⟩)
 have hf : H1 s1.heap.objs.size = none := I1.hok.fresh (Z0 _)
 refine ⟨.ref s1.heap.objs.size, upd H1 s1.heap.objs.size (.lst xs), I1.laid (t' := s1.toks) (fun b u e => ZV _ e) (Z0 _) ?_, rfl, q _ hf⟩
 exact ⟨z, us, 0, r, Z8 _ rfl⟩
end
abbrev Sp := List V → Hp → VK → XK → Prop
abbrev Dr := List Env → Hp → ZU → XK → ZS → ZU → Prop
structure Gw (P : aao) (w : aaO) (K : ZQ) (mg : Str → Option ZS) (base : Heap) (A : aaA) (outer : List Env) (s : ZU) (H : Hp) : Prop where
 frames : A.frames = some outer
 mod : Mod K mg base
 bs : ∀ b o, base.get? b = some o → s.heap.get? b = some o ∧ H b = none
 Gq : base.objs.size ≤ s.heap.objs.size
 oh : s.heap.FunFrames base outer
 IG : ∀ b ∈ gh outer, H b = none
 hok : jO P w H s.heap
 bare : AllBare s.gens
def CE (outer : List Env) (P : aao) (w : aaO) (H : Hp) (s : ZU) (Q : VK) (u : ZS) (s' : ZU) : Prop :=
 ∃ v H', s'.os = s.os ∧ AllBare s'.gens ∧ Un (gh outer) [] H H' s.heap s'.heap ∧ jO P w H' s'.heap ∧ RelV v u ∧ Q v H'
def CR (CX : Dr) (outer : List Env) (P : aao) (w : aaO) (H : Hp) (s : ZU) (Q : VK) (E : XK) (r : Result) (s' : ZU) : Prop :=
 match r with
 | .ok (.ret u) => CE outer P w H s Q u s'
 | .ok _ => False
 | .error e => CX outer H s E e s'
structure bD (P : aao) (w : aaO) (K : ZQ) (mg : Str → Option ZS) (base : Heap) (CX : Dr) (k : Nat) (f : aac) (fd : aa0) (ps : List Str) (sp : Sp) : Prop where
 len : ∀ vs H Q E, sp vs H Q E → vs.length = ps.length
 run : ∀ (A : aaA) (outer : List Env) (s : ZU) (H : Hp) (args : Args) (us : List ZS) (vs : List V) (Q : VK) (E : XK), eJ k A → Gw P w K mg base A outer s H → BindsTo s fd args (ps.zip us) → Vals vs us → sp vs H Q E →
  codeAny (model P w) A (.call (.ref f) args) (CR CX outer P w H s Q E) s
section
variable {X : Cx} {pins : List (aac × Obj)} {σ : St} {H : Hp} {s s' : ZU}
theorem Inv.Mi (I : Inv X pins σ H s) : Gw X.prog X.w X.K X.mg X.base X.A X.stack s H :=
 ⟨I.ok.frames, I.ok.mod, I.bs, aaM I.ok.Gq I.sz, I.stack, I.uX, I.hok, I.bare⟩
theorem Inv.after {Q : VK} {u : ZS} (I : Inv X pins σ H s) (h : CE X.stack X.prog X.w H s Q u s') : EP X pins σ Q u s' := by
 obtain ⟨v, H', os, bare, un, hok, r, q⟩ := h
 obtain ⟨hh, g, d, t, Wj⟩ := s'
 obtain rfl : Wj = s.os := os
 exact ⟨v, H', I.call (h' := hh) (g' := g) (d' := d) (t' := t) (ch := []) un hok bare (fun b z => absurd z (by simp)), r, q⟩
end
def DO (sp : Sp) (xq : List V) (E : XK) (t : TA) : TE := fun σ H Q => t σ H fun vs H1 => sp (vs ++ xq) H1 Q E
def Binds (K : ZQ) (fd : aa0) (ps : List Str) (ds : List ZS) : Prop :=
 ∀ (s : ZU) (us : List ZS), K.In s.heap → (us ++ ds).length = ps.length → BindsTo s fd ⟨us, []⟩ (ps.zip (us ++ ds))
theorem Binds.all {K : ZQ} {fd : aa0} {ps : List Str} (h : ∀ us : List ZS, us.length = ps.length → bindArgs fd ⟨us, []⟩ = pure (ps.zip us)) : Binds K fd ps [] := fun s us _ hl => by
 rw [abt] at hl ⊢
 exact .of_eq (h us hl)
def Passes (CX : Dr) (X : Cx) (E : XK) : Prop := ∀ (pins : List (aac × Obj)) (σ : St) (H : Hp) (s : ZU) (e : ZS) (s' : ZU), Inv X pins σ H s → CX X.stack H s E e s' → X.xe e s'
section
variable {X : Cx} {CX : Dr} {k : Nat} {f C : aac} {fd : aa0} {ps : List Str} {sp : Sp} {xq : List V} {ds : List ZS} {E : XK} {x m : Str} {p pos apos : Pos} {e o : Expr} {es : List Expr} {ta : TE} {t : TA}
theorem IX {pins : List (aac × Obj)} {σ : St} {H : Hp} {s : ZU} {Q : VK} {us : List ZS} {vs : List V} (F : bD X.prog X.w X.K X.mg X.base CX k f fd ps sp) (hr : eJ k X.A) (hb : Binds X.K fd ps ds) (hd : Vals xq ds) (hx : Passes CX X E)
  (I : Inv X pins σ H s) (r : Vals vs us) (h : sp (vs ++ xq) H Q E) : aar (model X.prog X.w) X.A (call (.ref f) us) (EP X pins σ Q) X.xe s := by
 have r2 : Vals (vs ++ xq) (us ++ ds) := r.append hd
 have hl : (us ++ ds).length = ps.length := by rw [← r2.length]; exact F.len _ _ _ _ h
 refine wpAny_call (codeAny_mono (F.run X.A X.stack s H ⟨us, []⟩ (us ++ ds) (vs ++ xq) Q E hr I.Mi (hb s us I.si hl) r2 h) fun r s' hq => ?_)
 cases r with
 | error e => exact hx pins σ H s e s' I hq
 | ok fl =>
  cases fl with
  | ret u => exact I.after hq
  | next => exact abG hq
  | brk => exact abG hq
  | cont => exact abG hq
theorem Bb (F : bD X.prog X.w X.K X.mg X.base CX k f fd ps sp) (hr : eJ k X.A) (hg : Gl X x) (hm : X.mg x = some (.ref f)) (hk : ab0 X.K (.ref f) = true) (hb : Binds X.K fd ps ds) (hd : Vals xq ds) (hx : Passes CX X E)
  (ha : PA X (e :: es) t) (xr : (x == ("__debug__" : Str)) = false := by decide) (he : starEach (e :: es) X.env = (false, eval e X.env) :: starEach es X.env := by rfl) (hpl : (backTo pos (starEach es X.env)).any (·.1) = false := by rfl) :
  PE X (.Call (.Name x p) (e :: es) [] pos) (DO sp xq E t) := by
 intro pins s σ H Q I h
 refine wpAny_Call_Name_kw (mR I hg hm ?_ xr)
 refine ae8 (h₀ := X.base) I.ok.mod.L1 hk (cJ (ha pos pins s σ H _ I h) fun us s1 ⟨vs, H1, I1, r, q⟩ => ⟨I1.si, ?_⟩) he hpl
 exact IX F hr hb hd hx I1 r q
structure Mk (K : ZQ) (C f : aac) : Prop where
 makes : PySem.W.makesIn K C = true
 init : acI K (.ref C) "__init__" = some (some (.ref f))
 fn : PySem.W.isFn K (.ref f) = true
 kp : ab0 K (.ref C) = true
end
section
variable {X : Cx} {CX : Dr} {k : Nat} {f C : aac} {fd : aa0} {ps ks : List Str} {sp : Sp} {E : XK} {x m : Str} {p pos apos Wk : Pos} {e o : Expr} {es : List Expr} {Za : List Keyword} {te ta : TE} {t tk : TA} {nm : Option Str}
structure Q1 (K : ZQ) (fd : aa0) (ps ks : List Str) (g : List ZS → List ZS → List ZS) (gV : List V → List V → List V) : Prop where
 to : ∀ (s : ZU) (us ws : List ZS), K.In s.heap → (g us ws).length = ps.length → BindsTo s fd ⟨us, ks.zip ws⟩ (ps.zip (g us ws))
 rel : ∀ {vs : List V} {us : List ZS} {zs : List V} {ws : List ZS}, Vals vs us → Vals zs ws → Vals (gV vs zs) (g us ws)
variable {g : List ZS → List ZS → List ZS} {gV : List V → List V → List V}
end
structure aB (N P : List Str) (sc : Scope) : Prop where
 kind : sc.kind = .function
 co : sc.isCoroutine = false
 gen : sc.isGenerator = false
 nd : N.Nodup
 pre : N.take P.length = P
 par : ∀ x ∈ P, sc.names.lookup x = some .local ∨ sc.names.lookup x = some .cell
 IY : ∀ y ∈ sc.names, y.2 ≠ .free
theorem uc {kindOf : Str → Option NameKind} {x : Str} : ∀ {binds : List (Str × ZS)} {m : Str → Option ZS}, (∀ v, (x, v) ∉ binds) → bindL kindOf binds m x = m x
 | [], _, _ => rfl
 | (n, v) :: r, m, h => by
  unfold bindL
  rw [uc fun w hw => h w (Z9 _ hw)]
  split
  ·have : x ≠ n := by rintro rfl; exact h v Z5
   simp [this]
  ·rfl
theorem ud {kindOf : Str → Option NameKind} {x : Str} : ∀ {binds : List (Str × ZS)} {m : Str → Option ZS}, (∀ v, (x, v) ∉ binds) → bindC kindOf binds m x = m x
 | [], _, _ => rfl
 | (n, v) :: r, m, h => by
  unfold bindC
  rw [ud fun w hw => h w (Z9 _ hw)]
  split
  ·rfl
  ·have : x ≠ n := by rintro rfl; exact h v Z5
   simp [this]
theorem ue {kindOf : Str → Option NameKind} {x : Str} {v : ZS} : ∀ {P : List Str} {vs : List ZS} {i : Nat} {m : Str → Option ZS}, P.Nodup → P[i]? = some x → vs[i]? = some v → kindOf x = some .local →
  bindL kindOf (P.zip vs) m x = some v
 | [], _, _, _, _, h, _, _ => by simp at h
 | _ :: _, [], _, _, _, _, h, _ => by simp at h
 | p :: P, w :: vs, 0, m, nd, h1, h2, hk => by
  simp at h1 h2; subst h1; subst h2
  show bindL kindOf ((p, w) :: P.zip vs) m p = _
  unfold bindL
  rw [uc fun v hv => (abE.mp nd).1 (aex hv).1, if_pos hk]
  simp
 | p :: P, w :: vs, i + 1, m, nd, h1, h2, hk => by
  show bindL kindOf ((p, w) :: P.zip vs) m x = _
  unfold bindL
  exact ue (i := i) (abE.mp nd).2 (by simpa using h1) (by simpa using h2) hk
theorem uf {kindOf : Str → Option NameKind} {x : Str} {v : ZS} : ∀ {P : List Str} {vs : List ZS} {i : Nat} {m : Str → Option ZS}, P.Nodup → P[i]? = some x → vs[i]? = some v → kindOf x ≠ some .local →
  bindC kindOf (P.zip vs) m x = some v
 | [], _, _, _, _, h, _, _ => by simp at h
 | _ :: _, [], _, _, _, _, h, _ => by simp at h
 | p :: P, w :: vs, 0, m, nd, h1, h2, hk => by
  simp at h1 h2; subst h1; subst h2
  show bindC kindOf ((p, w) :: P.zip vs) m p = _
  unfold bindC
  rw [ud fun v hv => (abE.mp nd).1 (aex hv).1, if_neg hk]
  simp
 | p :: P, w :: vs, i + 1, m, nd, h1, h2, hk => by
  show bindC kindOf ((p, w) :: P.zip vs) m x = _
  unfold bindC
  exact uf (i := i) (abE.mp nd).2 (by simpa using h1) (by simpa using h2) hk
def start (N : List Str) (vs : List V) : St := vs.map some ++ List.replicate (N.length - vs.length) none
def zD (CX : Dr) (P : aao) (w : aaO) (K : ZQ) (mg : Str → Option ZS) (base : Heap) (N : List Str) (qual : Str) (scope : Scope) (f : aac) (cd : ZS) (A : aaA) (outer : List Env) (s : ZU) (H : Hp) (E : XK) : Cx where
 prog := P
 w := w
 K := K
 mg := mg
 base := base
 A := A.deeper (envOfC qual scope s.heap.objs.size f cd)
 N := N
 s₀ := s
 H₀ := H
 env := envOfC qual scope s.heap.objs.size f cd
 outer := outer
 stack := envOfC qual scope s.heap.objs.size f cd :: outer
 ex := []
 calm := true
 fn := fun _ => true
 pn := []
 xe := fun e s' => aar (model P w) (A.deeper (envOfC qual scope s.heap.objs.size f cd)) (leaving (envOfC qual scope s.heap.objs.size f cd) e) (fun _ s'' => CX outer H s E e s'') (fun e' s'' => CX outer H s E e' s'') s'
theorem xt {sc : Scope} {n : Nat} {x : Str} (h : sc.names.lookup x = some .cell) : ∃ c, (cellsFrom n sc.names []).lookup x = some c := by
 have q := aeo sc.names n [] (.inl h)
 exact abH.mp q
theorem Ci {CX : Dr} {P : aao} {w : aaO} {K : ZQ} {mg : Str → Option ZS} {base : Heap} {N ps : List Str} {qual : Str} {scope : Scope} {f : aac} {cd : ZS} {A : aaA} {outer : List Env} {s s1 : ZU} {H : Hp} {E : XK} {us : List ZS} {vs : List V}
  (S : aB N ps scope) (hd : A.handled = none) (e0 : Gw P w K mg base A outer s H) (hl : vs.length = ps.length) (r : Vals vs us)
  (x : InCallC s s.heap.objs.size (bindL (envOfC qual scope s.heap.objs.size f cd).kindOf (ps.zip us) fun _ => none) (cellsFrom (s.heap.objs.size + 1) scope.names []) (bindC (envOfC qual scope s.heap.objs.size f cd).kindOf (ps.zip us) fun _ => none) s1) :
  Inv (zD CX P w K mg base N qual scope f cd A outer s H E) [] (start N vs) H s1 := by
 have hpl : ps.length ≤ N.length := by have := congrArg abl S.pre; rw [aah] at this; omega
 obtain ⟨h1, tk, rfl, hk⟩ := x.done
 have Mj : ∀ b : aac, b ∉ (zD CX P w K mg base N qual scope f cd A outer s H E).ex := fun b z => absurd (show b ∈ ([] : List aac) from z) (by simp)
 refine ⟨⟨e0.mod, S.kind, rfl, rfl, Z0 _, fun y z c h1 h2 => ?_, fun y hy => ?_, fun y c _ h => ?_, fun _ => hd, Around.frames_deeper e0.frames, .inr ⟨rfl, rfl⟩, fun b z => absurd z (Mj b), e0.bs, e0.Gq, fun b _ _ => Mj b, fun b z => absurd z (Mj b), e0.oh, e0.IG⟩,
  rfl, e0.bare, Un.kept hk, ⟨_, x.toInCall.ns, fun i y v h1 h2 h3 => ?_⟩, fun y c h => ⟨_, x.cell y c h⟩, e0.hok.fresh (Z0 _), fun y c h => ?_, fun p hp => absurd (show p ∈ ([] : List (aac × Obj)) from hp) (by simp), e0.hok.kept hk, ?_⟩
 ·exact name_of_addr x.apart (abf h1) (abf h2)
 ·have hy : scope.names.lookup y = some .cell ∨ scope.names.lookup y = some .free := hy
  rcases hy with hy | hy
  ·exact xt hy
  ·exact absurd rfl (S.IY _ (abf hy))
 ·exact adO (x.above y c (abf h))
 ·have hi : i < vs.length := by
   unfold start at h2
   by_cases hi : i < vs.length
   ·exact hi
   ·rw [List.getElem?_append_right (by simpa using hi)] at h2
    rw [List.getElem?_replicate] at h2
    split at h2 <;> cases h2
  have ha : vs[i]? = some v := by
   unfold start at h2
   rw [List.getElem?_append_left (by simpa using hi), aaK] at h2
   cases e : vs[i]? with
   | none => rw [e] at h2; cases h2
   | some a => rw [e] at h2; cases h2; rfl
  obtain ⟨u, hu, rv⟩ := r.get ha
  have hp : ps[i]? = some y := by
   rw [← S.pre, List.getElem?_take_of_lt (by omega)]; exact h1
  have Uu : ps.Nodup := by rw [← S.pre]; exact S.nd.sublist (List.take_sublist _ _)
  refine ⟨u, rv, ?_⟩
  rcases S.par y (ab5 hp) with k | k
  ·exact .inl ⟨k, ue Uu hp hu k⟩
  ·obtain ⟨c, e⟩ := xt (n := s.heap.objs.size + 1) k
   refine .inr ⟨.inl k, c, e, ?_⟩
   have q := x.cell y c e
   rw [uf Uu hp hu (by show scope.names.lookup y ≠ _; rw [k]; decide)] at q
   exact q
 ·exact e0.hok.fresh (adO (x.above y c (abf h)))
 ·unfold start
  show _ = N.length
  rw [Z6, Lm9, adk]
  omega
theorem HW {CX : Dr} {P : aao} {w : aaO} {K : ZQ} {mg : Str → Option ZS} {base : Heap} {k : Nat} {f : aac} {name qual : Str} {params : Arguments} {body : List Stmt} {scope : Scope} {dV kV doc pm c0 ct oc : ZS} {an od : Option aac}
  {Gx : Array (Option ZS)} {N ps : List Str} {sp : Sp} (lk : K.lookup f = some ⟨oc, od, .func (acu name qual params body scope dV kV doc pm an c0 ct), Gx⟩) (hcd : adU K c0 qual = true) (S : aB N ps scope)
  (len : ∀ vs H Q E, sp vs H Q E → vs.length = ps.length)
  (mT : ∀ (A : aaA) (outer : List Env) (s : ZU) (H : Hp) (vs : List V) (Q : VK) (E : XK), eJ k (A.deeper (envOfC qual scope s.heap.objs.size f c0)) → sp vs H Q E →
   ∃ t, zi (zD CX P w K mg base N qual scope f c0 A outer s H E) body t ∧ t { nx := fun _ H' => Q .bB H', rt := Q } (start N vs) H) :
  bD P w K mg base CX (k + 1) f (acu name qual params body scope dV kV doc pm an c0 ct) ps sp := by
 refine ⟨len, fun A outer s H args us vs Q E hr e0 hb r F8 => ?_⟩
 have hl := len _ _ _ _ F8
 have KX : K.In s.heap := e0.mod.L1.keeps fun b o e => (e0.bs b o e).1
 have lim : s.heap.NoLimit := e0.mod.nolimit.keeps fun b o e => (e0.bs b o e).1
 have hkind : ∀ y ∈ ps.zip us, scope.names.lookup y.1 = some .local ∨ (scope.names.lookup y.1 = some .cell ∧ ((cellsFrom (s.heap.objs.size + 1) scope.names []).lookup y.1).isSome = true) := fun ⟨n, v⟩ hy => by
  rcases S.par n (aex hy).1 with q | q
  ·exact .inl q
  ·exact .inr ⟨q, aeo _ _ _ (.inl q)⟩
 refine codeAny_call_function hr.depth (KX _ _ lk) rfl S.co S.gen rfl (PySem.W.codeRec_of KX hcd) (hb _ _ _ _ ?_)
 refine wpAny_newFunctionEnv_cells S.kind hkind fun env he s1 x => ?_
 subst he
 refine ⟨lim.keeps x.toInCall.keep, codeAny_func ?_⟩
 obtain ⟨t, ht, hq⟩ := mT A outer s H vs Q E (hr.deeper _) F8
 have I : Inv (zD CX P w K mg base N qual scope f c0 A outer s H E) [] (start N vs) H s1 := Ci S hr.hd e0 hl r x
 refine wpAny_mono (ht [] s1 (start N vs) H _ I hq) (fun fl s' hs => ?_) fun e s' hs => hs
 have fin : ∀ {σ' : St} {H' : Hp} {v : V} {u : ZS}, Inv (zD CX P w K mg base N qual scope f c0 A outer s H E) [] σ' H' s' → RelV v u → Q v H' → CE outer P w H s Q u s' :=
  fun {σ' H' v u} J rv q => ⟨v, H', J.os, J.bare, J.base, J.hok, rv, q⟩
 cases fl with
 | ret u =>
  obtain ⟨v, σ', H', J, rv, q⟩ := hs
  exact fin J rv q
 | next =>
  obtain ⟨σ', H', J, q⟩ := hs
  exact fin (v := V.bB) (u := aa4) J rfl q
 | brk =>
  obtain ⟨_, _, _, q⟩ := hs
  exact abG q
 | cont =>
  obtain ⟨_, _, _, q⟩ := hs
  exact abG q
end L2
namespace L2
open PySem PySem.Spec PyProof.Rows
section
variable {X : Cx} {x : Str} {p pos : Pos} {e : Expr} {es : List Expr} {t : TA} {id T : String} {r : List V → Hp → VK → Prop}
def Uv (r : List V → Hp → VK → Prop) (t : TA) : TE := fun σ H Q => t σ H fun vs H1 => r vs H1 Q
theorem aG (hc : cK X (.builtin id) r) (hg : Gl X x) (hm : X.mg x = none) (hv : bootBuiltins x = some (.builtin id)) (ha : PA X (e :: es) t) (hn : x ≠ "__name__" := by decide) (xr : (x == ("__debug__" : Str)) = false := by decide)
  (he : starEach (e :: es) X.env = (false, eval e X.env) :: starEach es X.env := by rfl) (hpl : (backTo pos (starEach es X.env)).any (·.1) = false := by rfl) : PE X (.Call (.Name x p) (e :: es) [] pos) (Uv r t) := by
 intro pins s σ H Q I h
 refine wpAny_Call_Name_kw (uY I hg hm hv ?_ hn xr)
 exact PyProof.Rows.callWith_builtin1 (cJ (ha pos pins s σ H _ I h) fun us s1 ⟨vs, H1, I1, r1, q1⟩ => hc pins s1 σ H1 vs us Q I1 r1 q1) he hpl
theorem aR (hc : cK X (.type T) r) (hg : Gl X x) (hm : X.mg x = none) (hv : bootBuiltins x = some (.type T)) (ha : PA X (e :: es) t) (hn : x ≠ "__name__" := by decide) (xr : (x == ("__debug__" : Str)) = false := by decide)
  (he : starEach (e :: es) X.env = (false, eval e X.env) :: starEach es X.env := by rfl) (hpl : (backTo pos (starEach es X.env)).any (·.1) = false := by rfl) : PE X (.Call (.Name x p) (e :: es) [] pos) (Uv r t) := by
 intro pins s σ H Q I h
 refine wpAny_Call_Name_kw (uY I hg hm hv ?_ hn xr)
 exact adx (cJ (ha pos pins s σ H _ I h) fun us s1 ⟨vs, H1, I1, r1, q1⟩ => hc pins s1 σ H1 vs us Q I1 r1 q1) he hpl
end
end L2
namespace HT
open PySem PyProof.Rows
section
open PySem.SeqAt
open PySem.AutoSeq1 (wpAny_loadPart')
open PySem.MeetsSeq PySem.MeetsSeq2 PySem.MeetsSeq3
end
section
variable {prog : aao} {w : aaO} {A : aaA} {E : ZS → ZU → Prop} {s : ZU}
def mO (n d : Nat) : Option Int → Nat
 | none => d
 | some v => if v < 0 then (v + (n : Int)).toNat else min v.toNat n
theorem DP (n d : Nat) : mO n d none = d := rfl
theorem lC (n d k : Nat) : mO n d (some (k : Int)) = min k n := by
 show (if (k : Int) < 0 then ((k : Int) + (n : Int)).toNat else min (k : Int).toNat n) = min k n
 rw [if_neg (by omega), ab6]
end
end HT
namespace L2
open PySem PySem.Spec PyProof.Rows
abbrev TO := St → Hp → (Option Int → Hp → Prop) → Prop
def PO (X : Cx) (e : Option Expr) (t : TO) : Prop :=
 ∀ (pins : List (aac × Obj)) (s : ZU) (σ : St) (H : Hp) (Q : Option Int → Hp → Prop), Inv X pins σ H s → t σ H Q →
  aar (model X.prog X.w) X.A (evalPart e X.env) (fun u s' => ∃ o H', Inv X pins σ H' s' ∧ IsPart u o ∧ Q o H') X.xe s
def Gy : TO := fun _ H Q => Q none H
def Ml (t : TE) : TO := fun σ H Q => t σ H fun x H1 => ∃ i, x = .int i ∧ Q (some i) H1
section
variable {X : Cx} {e : Expr} {te : TE} {lo hi : Option Expr} {tl th : TO} {pos p2 : Pos}
theorem ff : PO X none Gy := by
 intro pins s σ H Q I h
 rw [evalPart_none]
 exact ZW ⟨none, H, I, .none, h⟩
theorem cf (h : PE X e te) : PO X (some e) (Ml te) := by
 intro pins s σ H Q I hw
 rw [evalPart_some]
 refine cJ (h pins s σ H _ I hw) fun u s1 ⟨x, H1, I1, r1, q1⟩ => ?_
 obtain ⟨i, rfl, q⟩ := q1
 obtain ⟨t, rfl⟩ := r1
 exact ⟨some i, H1, I1, .int i t, q⟩
def Q2 (X : Cx) (r : V → Option Int → Option Int → Hp → VK → Prop) : Prop :=
 ∀ (pins : List (aac × Obj)) (s : ZU) (σ : St) (H : Hp) (x : V) (v vl vu : ZS) (lo hi : Option Int) (sl : aac) (Q : VK), Inv X pins σ H s → RelV x v → s.heap.IsSliceOf sl vl vu .none → IsPart vl lo → IsPart vu hi → r x lo hi H Q →
  ∃ T id, typeLookup (.type T) "__getitem__" = pure (some (.builtin id)) ∧ s.TypeIs v T ∧ aar (model X.prog X.w) X.A (getItem v (.ref sl)) (EP X pins σ Q) X.xe s
def Wl (r : V → Option Int → Option Int → Hp → VK → Prop) (te : TE) (tl th : TO) : TE := fun σ H Q => te σ H fun x H1 => tl σ H1 fun l H2 => th σ H2 fun u H3 => r x l u H3 Q
theorem cv {r : V → Option Int → Option Int → Hp → VK → Prop} (hr : Q2 X r) (he : PE X e te) (hl : PO X lo tl) (hu : PO X hi th) : PE X (.Subscript e (.Slice lo hi none p2) pos) (Wl r te tl th) := by
 intro pins s σ H Q I h
 refine Subscript_ (cJ (he pins s σ H _ I h) fun v s1 ⟨x, H1, I1, r1, q1⟩ => ?_)
 refine wpAny_Slice (cJ (hl pins s1 σ H1 _ I1 q1) fun vl s2 ⟨l, H2, I2, pl, q2⟩ => cJ (hu pins s2 σ H2 _ I2 q2) fun vu s3 ⟨u, H3, I3, pu, q3⟩ => ?_)
 rw [evalPart_none]
 refine ZW ?_
 have I4 : Inv X pins σ H3 { s3 with heap := s3.heap.push { cls := .type "slice", data := .fields #[vl, vu, .none] } } := I3.kept (t' := s3.toks) fun b ob q => ZV _ q
 obtain ⟨T, id, hT, ht, hg⟩ := hr pins { s3 with heap := s3.heap.push { cls := .type "slice", data := .fields #[vl, vu, .none] } } σ H3 x v vl vu l u s3.heap.objs.size Q I4 r1 (Heap.IsSliceOf.new ..) pl pu q3
 show aar (model X.prog X.w) X.A (subscriptTail e (.Slice lo hi none p2) v (.ref s3.heap.objs.size)) (EP X pins σ Q) X.xe { s3 with heap := s3.heap.push { cls := .type "slice", data := .fields #[vl, vu, .none] } }
 exact tail_any (ops := [.ref s3.heap.objs.size, v]) ht hT hg (by with_unfolding_all rfl)
def jM (xs : List V) (lo hi : Option Int) : List V := (xs.drop (HT.mO xs.length 0 lo)).take (HT.mO xs.length xs.length hi - HT.mO xs.length 0 lo)
theorem xu (xs : List V) (lo hi : Option Int) : (jM xs lo hi).length ≤ xs.length := by
 unfold jM
 rw [aah, abL]
 omega
end
end L2
namespace L2
open PySem PySem.Spec PyProof.Rows
def Lz (n : Nat) (i : Int) : Option Nat := if 0 ≤ i then (if i < n then some i.toNat else none) else if -(n : Int) ≤ i then some (i + n).toNat else none
def ug {α : Type} (xs : List α) (i : Int) : Option α := (Lz xs.length i).bind fun j => xs[j]?
theorem Gz {n : Nat} {i : Int} {j : Nat} (h : Lz n i = some j) : seqIndex? i n = some j ∧ j < n ∧ -(n : Int) ≤ i ∧ i < n := by
 unfold Lz at h
 by_cases h0 : 0 ≤ i
 ·rw [if_pos h0] at h
  by_cases h1 : i < n
  ·rw [if_pos h1] at h
   have e : i.toNat = j := aaI h
   exact ⟨by rw [seqIndex_of h0 h1, e], by omega, by omega, h1⟩
  ·rw [if_neg h1] at h; cases h
 ·rw [if_neg h0] at h
  by_cases h1 : -(n : Int) ≤ i
  ·rw [if_pos h1] at h
   have e : (i + n).toNat = j := aaI h
   exact ⟨by rw [seqIndex_neg (by omega) h1, e], by omega, h1, by omega⟩
  ·rw [if_neg h1] at h; cases h
theorem u6 {α : Type} {xs : List α} {i : Int} {v : α} (h : ug xs i = some v) : ∃ j, seqIndex? i xs.length = some j ∧ xs[j]? = some v ∧ j < xs.length ∧ -(xs.length : Int) ≤ i ∧ i < xs.length := by
 unfold ug at h
 cases e : Lz xs.length i with
 | none => rw [e] at h; cases h
 | some j =>
  rw [e] at h
  obtain ⟨h1, h2, h3, h4⟩ := Gz e
  exact ⟨j, h1, h, h2, h3, h4⟩
theorem fg {α : Type} {xs : List α} {j : Nat} {v : α} (h : xs[j]? = some v) : ug xs (j : Int) = some v := by
 have hj : j < xs.length := (ZZ.mp h).1
 have e : Lz xs.length (j : Int) = some j := by
  unfold Lz
  rw [if_pos (by omega), if_pos (by omega)]; simp
 unfold ug; rw [e]; exact h
def GA (b : Expr) : Prop := ∀ o i, subscripted b false o i = operate [o, i] (getItem o i)
def PL (X : Cx) (r : R2) : Prop :=
 ∀ (value slice : Expr) (pins : List (aac × Obj)) (s : ZU) (σ : St) (H : Hp) (x y : V) (v u : ZS) (Q : VK), Inv X pins σ H s → RelV x v → RelV y u → r x y H Q →
  subscripted slice false v u = operate [v, u] (getItem v u) → aar (model X.prog X.w) X.A (subscriptTail value slice v u) (EP X pins σ Q) X.xe s
def Mm (X : Cx) (id : String) (r : V → List V → Hp → VK → Prop) : Prop :=
 ∀ (pins : List (aac × Obj)) (s : ZU) (σ : St) (H : Hp) (x : V) (xs : List V) (v : ZS) (us : List ZS) (Q : VK), Inv X pins σ H s → RelV x v → Vals xs us → r x xs H Q →
  aar (model X.prog X.w) X.A (call (.builtin id) (v :: us)) (EP X pins σ Q) X.xe s
section
variable {X : Cx} {a b : Expr} {ta tb : TE} {pos : Pos}
theorem au {r : R2} (hr : PL X r) (ha : PE X a ta) (hb : PE X b tb) (hs : GA b) : PE X (.Subscript a b pos) (PJ r ta tb) := by
 intro pins s σ H Q I h
 exact Subscript_ (IU ha hb I h fun v u s2 x y H2 I2 rx ry q => hr a b pins s2 σ H2 x y v u Q I2 rx ry q (hs _ _))
def GB (K : ZQ) : R2 := fun x y H Q => ∃ p xs i v, x = .ref p ∧ y = .int i ∧ aC K H p xs ∧ ug xs i = some v ∧ Q v H
def iJ (K : ZQ) : R2 := fun x y H Q => ∃ p xs i v, x = .ref p ∧ y = .int i ∧ aK K H p xs ∧ ug xs i = some v ∧ Q v H
def Q3 : R2 := fun x y H Q => ∃ z i c, x = .str z ∧ y = .int i ∧ z.length ≤ Z2 ∧ ug z.cps.toList i = some c ∧ Q (.str ⟨#[c]⟩) H
theorem cG : PL X (GB X.K) := by
 intro value slice pins s σ H x y v u Q I rx ry h hs
 obtain ⟨p, xs, i, z, rfl, rfl, hq, he, q⟩ := h
 cases rx
 obtain ⟨t, rfl⟩ := ry
 obtain ⟨its, r, pl, hz⟩ := I.list hq
 obtain ⟨j, h1, h2, h3, h4, h5⟩ := u6 he
 obtain ⟨w, ew, DQ⟩ := r.get h2
 have hl := r.length
 have hn := qe
 have fin : EP X pins σ Q w s := ⟨z, H, I, DQ, q⟩
 by_cases h0 : 0 ≤ i
 ·have hj : i.toNat = j := by
   rw [seqIndex_of h0 h5] at h1
   exact aaI h1
  exact item_listR pl.isList h0 (by omega) (by rw [hj]; simpa using ew) fin hs
 ·have hj : (i + (its.toArray.size : Int)).toNat = j := by
   rw [seqIndex_neg (by omega) h4] at h1
   rw [aag, ← hl]
   exact aaI h1
  exact subscriptTail_builtinR (x := w) pl.isList.typeIs slot_list_getitem.lookup
   (wpAny_getItem_list_neg (Q := fun r s' => r = w ∧ EP X pins σ Q r s') pl.isList (by omega) (by rw [aag] <;> omega) (by omega) (by rw [hj]; simpa using ew) ⟨rfl, fin⟩) hs
theorem av : PL X (iJ X.K) := by
 intro value slice pins s σ H x y v u Q I rx ry h hs
 obtain ⟨p, xs, i, z, rfl, rfl, hq, he, q⟩ := h
 cases rx
 obtain ⟨t, rfl⟩ := ry
 obtain ⟨its, r, pl, hz⟩ := I.tuple hq
 obtain ⟨j, h1, h2, h3, h4, h5⟩ := u6 he
 obtain ⟨w, ew, DQ⟩ := r.get h2
 have hl := r.length
 have hn := qe
 have fin : EP X pins σ Q w s := ⟨z, H, I, DQ, q⟩
 exact subscriptTail_builtinR (x := w) pl.typeIs slot_tuple_getitem.lookup
  (getItem_tuple (j := j) (Q := fun r s' => r = w ∧ EP X pins σ Q r s') pl (by omega) (by omega) (by rw [aag, ← hl]; exact h1) (by simpa using ew) ⟨rfl, fin⟩) hs
theorem fH : PL X Q3 := by
 intro value slice pins s σ H x y v u Q I rx ry h hs
 obtain ⟨z, i, c, rfl, rfl, hz, he, q⟩ := h
 obtain ⟨t, rfl⟩ := rx
 obtain ⟨t', rfl⟩ := ry
 obtain ⟨j, h1, h2, h3, h4, h5⟩ := u6 he
 have hl : z.cps.toList.length = z.length := by simp [Str.length]
 rw [hl] at h1 h4 h5
 have hn := qe
 exact tail_any (typeIs_str s z t) slot_str_getitem.lookup (getItem_str (c := c) (by
  have e1 : decide (i < -(2 ^ 63 : Int)) = false := decide_eq_false (by omega)
  have e2 : decide (i ≥ 2 ^ 63) = false := decide_eq_false (by omega)
  rw [e1, e2, Bool.or_false]) (by rw [h1]; simpa using h2) ⟨.str ⟨#[c]⟩, H, I.tok _, ⟨_, rfl⟩, q⟩) hs
theorem u7 (lo hi : Option Int) (n : Nat) : (sliceBounds lo hi none n).1 = ((HT.mO n 0 lo : Nat) : Int) ∧ (sliceBounds lo hi none n).2.1 = ((HT.mO n n hi : Nat) : Int) ∧ (sliceBounds lo hi none n).2.2 = 1 := by
 refine ⟨?_, ?_, rfl⟩
 ·cases lo with
  | none => simp [sliceBounds, HT.mO]
  | some i =>
   simp only [sliceBounds, HT.mO, aei, show (1 : Int) > 0 by decide, if_true]
   by_cases h : i < 0
   ·simp only [h, if_true] <;> omega
   ·simp only [h, if_false] <;> omega
 ·cases hi with
  | none => simp [sliceBounds, HT.mO]
  | some i =>
   simp only [sliceBounds, HT.mO, aei, show (1 : Int) > 0 by decide, if_true]
   by_cases h : i < 0
   ·simp only [h, if_true] <;> omega
   ·simp only [h, if_false] <;> omega
theorem sv (its : List ZS) (lo hi : Option Int) : slicePick its.toArray lo hi none = ((its.drop (HT.mO its.length 0 lo)).take (HT.mO its.length its.length hi - HT.mO its.length 0 lo)).toArray := by
 obtain ⟨h1, h2, h3⟩ := u7 lo hi its.toArray.size
 unfold slicePick
 rw [h1, h2, h3]
 simp only [sliceRange_one, pick_run, aag] <;> rfl
def Q4 (K : ZQ) : V → Option Int → Option Int → Hp → VK → Prop := fun x lo hi H Q => ∃ a xs, x = .ref a ∧ aC K H a xs ∧ ∀ p, H p = none → Q (.ref p) (upd H p (.lst (jM xs lo hi)))
theorem gm : Q2 X (Q4 X.K) := by
 intro pins s σ H x v vl vu lo hi sl Q I rx hs pl pu h
 obtain ⟨a, xs, rfl, hx, q⟩ := h
 cases rx
 obtain ⟨its, r, ht, hz⟩ := I.list hx
 have hlen := r.length
 refine ⟨"list", _, slot_list_getitem.lookup, ht.isList.typeIs, ?_⟩
 refine wpAny_getItem_list_slice ht.isList hs pl pu .none (by simp) ?_ (by rw [aag] <;> omega)
 rw [sv, ← hlen]
 refine ⟨.ref s.heap.objs.size, _, I.laid (t' := s.toks) (o := .lst (jM xs lo hi)) (fun b ob q => ZV _ q) (Z0 _) ?_, rfl, q _ (I.hok.fresh (Z0 _))⟩
 exact ⟨aaM (xu xs lo hi) hz, _, 0, (r.drop (HT.mO xs.length 0 lo)).take (HT.mO xs.length xs.length hi - HT.mO xs.length 0 lo), Z8 _ rfl⟩
def mU : V → Bool
 | .bB => true
 | .bl _ => true
 | .int _ => true
 | .str _ => true
 | _ => false
def HX : V → V → Bool
 | .bB, .bB => true
 | .bl a, .bl b => a == b
 | .bl a, .int b => (if a then 1 else 0) == b
 | .int a, .bl b => a == (if b then 1 else 0)
 | .int a, .int b => a == b
 | .str a, .str b => a == b
 | _, _ => false
theorem IZ {A : aaA} {s : ZU} {y x : V} {u v : ZS} (ry : RelV y u) (rx : RelV x v) (fy : mU y = true) (fx : mU x = true) : abw A s u v (HX y x) := by
 cases y with
 | bB =>
  cases ry
  cases x with
  | bB => cases rx; exact ady _
  | bl b => cases rx; exact aeK b
  | int b => obtain ⟨t, rfl⟩ := rx; exact aeV b t
  | str b => obtain ⟨t, rfl⟩ := rx; exact aeW b t
  | _ => exact absurd (show false = true from fx) aas
 | bl a =>
  cases ry
  cases x with
  | bB => cases rx; exact aeL a
  | bl b => cases rx; exact aeM a b
  | int b => obtain ⟨t, rfl⟩ := rx; exact aeX a b t
  | str b => obtain ⟨t, rfl⟩ := rx; exact aeY a b t
  | _ => exact absurd (show false = true from fx) aas
 | int a =>
  obtain ⟨t', rfl⟩ := ry
  cases x with
  | bB => cases rx; exact aeZ a t'
  | bl b => cases rx; exact ae0 a t' b
  | int b => obtain ⟨t, rfl⟩ := rx; exact ae9 a t' b t
  | str b => obtain ⟨t, rfl⟩ := rx; exact adM a t' b t
  | _ => exact absurd (show false = true from fx) aas
 | str a =>
  obtain ⟨t', rfl⟩ := ry
  cases x with
  | bB => cases rx; exact ae1 a t'
  | bl b => cases rx; exact ae2 a t' b
  | int b => obtain ⟨t, rfl⟩ := rx; exact adN a t' b t
  | str b => obtain ⟨t, rfl⟩ := rx; exact afa a t' b t
  | _ => exact absurd (show false = true from fx) aas
 | _ => exact absurd (show false = true from fy) aas
def zE (x : V) (u : ZS) : Bool := match u with
 | .none => HX .bB x
 | .bool b => HX (.bl b) x
 | .int i _ => HX (.int i) x
 | .str z _ => HX (.str z) x
 | _ => false
theorem DR {x y : V} {u : ZS} (r : RelV y u) (f : mU y = true) : zE x u = HX y x := by
 cases y with
 | bB => cases r; rfl
 | bl b => cases r; rfl
 | int i => obtain ⟨t, rfl⟩ := r; rfl
 | str z => obtain ⟨t, rfl⟩ := r; rfl
 | _ => exact absurd (show false = true from f) aas
theorem mV {x : V} : ∀ {xs : List V} {us : List ZS}, Vals xs us → xs.all mU = true → us.any (zE x) = xs.any fun y => HX y x
 | _, _, .nil, _ => rfl
 | y :: xs, u :: us, .cons r t, f => by
  rw [ads, aaE] at f
  rw [adt, adt, DR r f.1, mV t f.2]
theorem jT {A : aaA} {s : ZU} {x : V} {v : ZS} (rx : RelV x v) (fx : mU x = true) : ∀ {xs : List V} {us : List ZS}, Vals xs us → xs.all mU = true → ∀ u ∈ us, abw A s u v (zE x u)
 | _, _, .nil, _ => fun u hu => by cases hu
 | y :: xs, u :: us, .cons r t, f => fun u' hu => by
  rw [ads, aaE] at f
  rcases aai.mp hu with rfl | hu
  ·rw [DR r f.1]; exact IZ r rx f.1 fx
  ·exact jT rx fx t f.2 u' hu
def PM (x : V) (xs : List V) : Bool := xs.any fun y => HX y x
def Mn (K : ZQ) (neg : Bool) : R2 := fun x y H Q => ∃ p xs, y = .ref p ∧ (aC K H p xs ∨ aK K H p xs) ∧ mU x = true ∧ xs.all mU = true ∧ Q (.bl (if neg then !PM x xs else PM x xs)) H
theorem ft : pT X (compareOp .In) (Mn X.K false) := by
 intro pins s σ H x y v u Q I rx ry h
 obtain ⟨p, xs, rfl, hq, fx, fs, q⟩ := h
 cases ry
 rcases hq with hq | hq
 ·obtain ⟨its, r, pl, hz⟩ := I.list hq
  refine SeqAt.in_listAt (zE x) pl.isList (fun w hw => jT rx fx r fs w (by simpa using hw)) ⟨.bl _, H, I, rfl, ?_⟩
  rw [show its.toArray.any (zE x) = its.any (zE x) by simp, mV r fs]
  exact q
 ·obtain ⟨its, r, pl, hz⟩ := I.tuple hq
  refine SeqAt.in_tupleAt (zE x) pl (fun w hw => jT rx fx r fs w (by simpa using hw)) ⟨.bl _, H, I, rfl, ?_⟩
  rw [show its.toArray.any (zE x) = its.any (zE x) by simp, mV r fs]
  exact q
theorem fh : pT X (compareOp .NotIn) (Mn X.K true) := by
 intro pins s σ H x y v u Q I rx ry h
 obtain ⟨p, xs, rfl, hq, fx, fs, q⟩ := h
 cases ry
 rcases hq with hq | hq
 ·obtain ⟨its, r, pl, hz⟩ := I.list hq
  refine afb (zE x) pl.isList (fun w hw => jT rx fx r fs w (by simpa using hw)) ⟨.bl _, H, I, rfl, ?_⟩
  rw [show its.toArray.any (zE x) = its.any (zE x) by simp, mV r fs]
  exact q
 ·obtain ⟨its, r, pl, hz⟩ := I.tuple hq
  refine SeqAt.notIn_tupleAt (zE x) pl (fun w hw => jT rx fx r fs w (by simpa using hw)) ⟨.bl _, H, I, rfl, ?_⟩
  rw [show its.toArray.any (zE x) = its.any (zE x) by simp, mV r fs]
  exact q
theorem aM : cK X (.builtin "len") (fun xs H Q => ∃ p ys, xs = [.ref p] ∧ (aC X.K H p ys ∨ aK X.K H p ys) ∧ Q (.int ys.length) H) := by
 intro pins s σ H xs us Q I r h
 obtain ⟨p, ys, rfl, hq, q⟩ := h
 obtain ⟨u, rfl, rx⟩ := vals1 r
 cases rx
 have hn := qe
 rcases hq with hq | hq
 ·obtain ⟨its, r', pl, hz⟩ := I.list hq
  have hlen := r'.length
  exact Calls.call_len_list pl.isList (by simp only [aag] <;> omega) ⟨.int ys.length, H, I.tok _, ⟨s.toks + 1, by rw [aag, hlen]⟩, q⟩
 ·obtain ⟨its, r', pl, hz⟩ := I.tuple hq
  have hlen := r'.length
  exact len_tuple pl (by simp only [aag] <;> omega) ⟨.int ys.length, H, I.tok _, ⟨s.toks + 1, by rw [aag, hlen]⟩, q⟩
theorem mW : cK X (.builtin "len") (fun xs H Q => ∃ z, xs = [.str z] ∧ z.length ≤ Z2 ∧ Q (.int z.length) H) := by
 intro pins s σ H xs us Q I r h
 obtain ⟨z, rfl, hz, q⟩ := h
 obtain ⟨u, rfl, t, rfl⟩ := vals1 r
 have hn := qe
 exact len_str (by omega) ⟨.int z.length, H, I.tok _, ⟨_, rfl⟩, q⟩
theorem dD : cK X (.type "list") (fun xs H Q => ∃ p ys, xs = [.ref p] ∧ (aC X.K H p ys ∨ aK X.K H p ys) ∧ ∀ l, H l = none → Q (.ref l) (upd H l (.lst ys))) := by
 intro pins s σ H xs us Q I r h
 obtain ⟨p, ys, rfl, hq, q⟩ := h
 obtain ⟨u, rfl, rx⟩ := vals1 r
 cases rx
 have fin : ∀ (its : List ZS), Vals ys its → ys.length ≤ Z2 → ∀ (h' : Heap) (c' : Nat), (∀ b o', s.heap.get? b = some o' → h'.get? b = some o') →
   h'.get? s.heap.objs.size = some { cls := .type "list", dict := none, data := .seq its.toArray c', slots := #[] } → EP X pins σ Q (.ref s.heap.objs.size) { s with heap := h' } := fun its r' hz h' c' kp e =>
  ⟨.ref s.heap.objs.size, _, I.laid (t' := s.toks) kp (Z0 _) (show ba X.prog X.w _ h' _ (.lst ys) from ⟨hz, its, c', r', e⟩), rfl, q _ (I.hok.fresh (Z0 _))⟩
 rcases hq with hq | hq
 ·obtain ⟨its, r', pl, hz⟩ := I.list hq
  have hlen := r'.length
  obtain ⟨o, ho, hc, n, hd⟩ := pl.isList
  exact call_list_seq p (.inl rfl) ho hc hd (fun h' c' kp e => fin its r' hz h' c' kp e) (by simp only [aag] <;> omega)
 ·obtain ⟨its, r', pl, hz⟩ := I.tuple hq
  have hlen := r'.length
  obtain ⟨o, ho, hc, n, hd⟩ := pl
  exact call_list_seq p (.inr rfl) ho hc hd (fun h' c' kp e => fin its r' hz h' c' kp e) (by simp only [aag] <;> omega)
theorem bJ : cK X (.type "tuple") (fun xs H Q => ∃ p ys, xs = [.ref p] ∧ ((aC X.K H p ys ∧ ∀ l, H l = none → Q (.ref l) (upd H l (.tup ys))) ∨ (aK X.K H p ys ∧ Q (.ref p) H))) := by
 intro pins s σ H xs us Q I r h
 obtain ⟨p, ys, rfl, h⟩ := h
 obtain ⟨u, rfl, rx⟩ := vals1 r
 cases rx
 rcases h with ⟨hq, q⟩ | ⟨hq, q⟩
 ·obtain ⟨its, r', pl, hz⟩ := I.list hq
  have hlen := r'.length
  refine call_tuple_list pl.isList (fun h' kp => ?_) (by simp only [aag] <;> omega)
  have I1 : Inv X pins σ H { s with heap := h' } := I.kept (t' := s.toks) kp
  have I2 : Inv X pins σ (upd H h'.objs.size (.tup ys)) { s with heap := h'.push { cls := .type "tuple", data := .seq its.toArray } } :=
   I1.laid (t' := s.toks) (fun b o e => ZV _ e) (Z0 _) (show ba X.prog X.w _ _ _ (.tup ys) from ⟨hz, its, r', IsTup.new _ _⟩)
  exact ⟨.ref h'.objs.size, _, I2, rfl, q _ (I1.hok.fresh (Z0 _))⟩
 ·obtain ⟨its, r', pl, hz⟩ := I.tuple hq
  exact call_tuple_same pl ⟨.ref p, H, I, rfl, q⟩
def Q5 (K : ZQ) (T : String) (x : V) (H : Hp) : Prop := match x with
 | .str _ => T = "str"
 | .int _ => T = "int"
 | .ref p => (T = "list" ∧ ∃ xs, aC K H p xs) ∨ (T = "tuple" ∧ ∃ o, K.lookup p = some o ∧ o.cls = .type "tuple" ∧ o.dict = none) ∨
   (T = "dict" ∧ ((∃ kvs, H p = some (.dK kvs)) ∨ ∃ kvs, H p = some (.dT kvs))) ∨ (T = "set" ∧ ∃ S n, H p = some (.set S n))
 | _ => False
theorem DS {pins : List (aac × Obj)} {σ : St} {H : Hp} {s : ZU} {T : String} {x : V} {v : ZS} (I : Inv X pins σ H s) (r : RelV x v) (ty : Q5 X.K T x H) :
  s.TypeIs v T ∧ ∀ a, v = .ref a → ∃ ob, s.heap.get? a = some ob ∧ ob.dict = none := by
 cases x with
 | str z =>
  obtain ⟨t, rfl⟩ := r
  cases (show T = "str" from ty)
  exact ⟨typeIs_str s z t, fun _ e => nomatch e⟩
 | int i =>
  obtain ⟨t, rfl⟩ := r
  cases (show T = "int" from ty)
  exact ⟨typeIs_int s i t, fun _ e => nomatch e⟩
 | ref p =>
  cases r
  rcases ty with ⟨rfl, xs, hq⟩ | ⟨rfl, o, hk, hc, hd⟩ | ⟨rfl, hk⟩ | ⟨rfl, S, n, hk⟩
  ·obtain ⟨its, _, pl, _⟩ := I.list hq
   refine ⟨pl.isList.typeIs, fun a e => ?_⟩
   cases e
   obtain ⟨o, n, e, c, hd, _⟩ := pl
   exact ⟨o, e, hd⟩
  ·refine ⟨⟨o, I.si p o hk, hc⟩, fun a e => ?_⟩
   cases e
   exact ⟨o, I.si _ o hk, hd⟩
  ·have z : ∃ o, s.heap.get? p = some o ∧ o.ExactDict := by
    rcases hk with ⟨kvs, hk⟩ | ⟨kvs, hk⟩
    ·obtain ⟨_, _, _, _, o, _, _, e, ex, _⟩ := I.hok p _ hk
     exact ⟨o, e, ex⟩
    ·obtain ⟨_, _, _, _, o, _, _, e, ex, _⟩ := I.hok p _ hk
     exact ⟨o, e, ex⟩
   obtain ⟨o, e, ex⟩ := z
   refine ⟨⟨o, e, ex.1⟩, fun a e2 => ?_⟩
   cases e2
   exact ⟨o, e, ex.2.1⟩
  ·obtain ⟨o, _, _, _, e, ex, _⟩ := I.hok p _ hk
   refine ⟨⟨o, e, ex.1⟩, fun a e2 => ?_⟩
   cases e2
   exact ⟨o, e, ex.2.1⟩
 | _ => exact abG ty
def I0 (K : ZQ) (T : String) (r : V → List V → Hp → VK → Prop) (to : TE) : TE := fun σ H Q => to σ H fun x H1 => Q5 K T x H1 ∧ r x [] H1 Q
def Wm (K : ZQ) (T : String) (r : V → List V → Hp → VK → Prop) (to : TE) (t : TA) : TE := fun σ H Q => to σ H fun x H1 => Q5 K T x H1 ∧ t σ H1 fun xs H2 => r x xs H2 Q
variable {o e : Expr} {es : List Expr} {to : TE} {t : TA} {name : Str} {apos cpos : Pos} {T id : String} {r : V → List V → Hp → VK → Prop}
theorem om (pa : PlainAttrs T) (slot : Slot T name id) (Q6 : typeOf (.builtin id) = pure (.type "method_descriptor")) (hm : Mm X id r) (ho : PE X o to)
  (DT : attributeBase o name X.env (eval o X.env) = eval o X.env := by rfl) (hline : (apos.endLine == cpos.line) = true := by rfl) : PE X (.Call (.Attribute o name apos) [] [] cpos) (I0 X.K T r to) := by
 intro pins s σ H Q I h
 refine wpAny_Call_method0_late DT hline (cJ (ho pins s σ H _ I h) fun v s1 ⟨x, H1, I1, r1, ty, q1⟩ => ?_)
 obtain ⟨h1, h2⟩ := DS I1 r1 ty
 exact ⟨T, id, pa, slot, Q6, h1, h2, ack rfl (PySem.evalArgs_none (hm pins s1 σ H1 x [] v [] Q I1 r1 .nil q1))⟩
theorem da (pa : PlainAttrs T) (slot : Slot T name id) (Q6 : typeOf (.builtin id) = pure (.type "method_descriptor")) (hm : Mm X id r) (ho : PE X o to) (ha : PA X (e :: es) t)
  (DT : attributeBase o name X.env (eval o X.env) = eval o X.env := by rfl)
  (hfew : ((backTo cpos (starEach (e :: es) X.env)).all (fun x => !x.1) && (backToKw cpos (keywordEach [] X.env)).all (fun x => x.1.isSome)
   && decide ((e :: es).length + ([] : List Keyword).length + (if ([] : List Keyword).isEmpty then 0 else 1) < 30)) = true := by rfl)
  (hline : (apos.endLine == cpos.line) = true := by rfl) (hs : starEach (e :: es) X.env = (false, eval e X.env) :: starEach es X.env := by rfl) (I8 : (backTo cpos (starEach es X.env)).any (·.1) = false := by rfl) :
  PE X (.Call (.Attribute o name apos) (e :: es) [] cpos) (Wm X.K T r to t) := by
 intro pins s σ H Q I h
 refine wpAny_Call_method_late DT hfew hline rfl (cJ (ho pins s σ H _ I h) fun v s1 ⟨x, H1, I1, r1, ty, q1⟩ => ?_)
 obtain ⟨h1, h2⟩ := DS I1 r1 ty
 refine ⟨T, id, pa, slot, Q6, h1, h2, ?_⟩
 have hA := ha cpos pins s1 σ H1 _ I1 q1
 rw [hs] at hA ⊢
 refine ack (by show (false || (backTo cpos (starEach es X.env)).any (·.1)) = false; rw [I8] <;> rfl) (acH ?_)
 exact cJ hA fun us s2 ⟨vs, H2, I2, r2, q2⟩ => hm pins s2 σ H2 x vs v us Q I2 r1 r2 q2
end
end L2
namespace L2
open PySem PySem.Spec PyProof.Rows
def Uw (X : Cx) (id : String) (r : V → List V → Hp → VK → Prop) : Prop :=
 ∀ (pins : List (aac × Obj)) (s : ZU) (σ : St) (H : Hp) (x : V) (xs : List V) (v : ZS) (us : List ZS) (Q : VK), Inv X pins σ H s → RelV x v → Vals xs us → r x xs H Q →
  aar (model X.prog X.w) X.A (call (.builtin id) (v :: us)) (EP X pins σ Q) X.xe s
theorem Vals.one : ∀ {x : V} {us : List ZS}, Vals [x] us → ∃ u, us = [u] ∧ RelV x u
 | _, _, .cons r .nil => ⟨_, rfl, r⟩
theorem Vals.dropLast {xs : List V} {us : List ZS} (h : Vals xs us) : Vals xs.dropLast us.dropLast := by
 induction h with
 | nil => exact .nil
 | cons r t ih =>
  cases t with
  | nil => exact .nil
  | cons q t' => exact .cons r ih
theorem Vals.eraseIdx : ∀ {xs : List V} {us : List ZS} (i : Nat), Vals xs us → Vals (xs.eraseIdx i) (us.eraseIdx i)
 | _, _, _, .nil => .nil
 | _, _, 0, .cons _ t => t
 | _, _, i + 1, .cons r t => .cons r (Vals.eraseIdx i t)
section
variable {X : Cx} {pins : List (aac × Obj)} {σ : St} {H : Hp} {s : ZU} {l b : aac} {xs ys zs : List V}
theorem Inv.Mo {its its' : List ZS} {n : Nat} {f : Array ZS → Array ZS} {t' : Nat} (I : Inv X pins σ H s) (hH : H l = some (.lst xs))
  (e : s.heap.get? l = some { cls := .type "list", data := .seq its.toArray n }) (hf : f its.toArray = its'.toArray) (hv : Vals ys its') (hz : ys.length ≤ Z2) :
  Inv X pins σ (upd H l (.lst ys)) { s with heap := s.heap.update l (abo f), toks := t' } := by
 have q := PySem.IsL.update e f
 rw [hf] at q
 refine I.write (x := l) (e := l) (by rw [hH]; exact trivial) (.inl rfl) (fun b' u hb hu => (abd s.heap (abo f) (acr hb)).trans hu) ⟨_, q⟩ ?_
 exact ⟨hz, its', _, hv, q⟩
theorem Inv.Q7 {its : List ZS} {t' : Nat} (I : Inv X pins σ H s) (hv : Vals ys its) (hz : ys.length ≤ Z2) :
  Inv X pins σ (upd H s.heap.objs.size (.lst ys)) { s with heap := s.heap.push { cls := .type "list", data := .seq its.toArray }, toks := t' } :=
 I.laid (fun _ _ q => ZV _ q) (Z0 _) ⟨hz, its, 0, hv, Z8 _ rfl⟩
theorem Inv.fresh (I : Inv X pins σ H s) : H s.heap.objs.size = none := I.hok.fresh (Z0 _)
theorem Inv.DU (I : Inv X pins σ H s) (hH : H l = some (.lst xs)) : xs.length ≤ Z2 ∧ ∃ (its : List ZS) (n : Nat), Vals xs its ∧ xs.length = its.length ∧ s.heap.get? l = some { cls := .type "list", data := .seq its.toArray n } := by
 obtain ⟨z, its, n, r, e⟩ := I.hok l _ hH
 exact ⟨z, its, n, r, r.length, e⟩
theorem DV {n : Nat} (h : n ≤ Z2) : acT n = false := by
 unfold acT
 exact decide_eq_false (by omega)
end
section
variable {X : Cx}
def GC : V → List V → Hp → VK → Prop := fun x vs H Q => ∃ l xs y, x = .ref l ∧ vs = [y] ∧ H l = some (.lst xs) ∧ xs.length < Z2 ∧ Q .bB (upd H l (.lst (xs ++ [y])))
theorem cR : Uw X "list.append" GC := by
 intro pins s σ H x vs v us Q I rx rv h
 obtain ⟨l, xs, y, rfl, rfl, hH, hz, q⟩ := h
 cases rx
 obtain ⟨u, rfl, ru⟩ := rv.one
 obtain ⟨z, its, n, r, hl, e⟩ := I.DU hH
 refine call_meets aaY ⟨_, e, rfl⟩ F.entry_list_append (F.args_list_append_2 _ _) (PySem.list_append l its.toArray n u (by rw [aag]; omega)) ⟨e, ?_⟩
 refine ⟨.bB, _, I.Mo (its' := its ++ [u]) hH e (by simp) (r.append (.cons ru .nil)) ?_, rfl, q⟩
 rw [Z6, abF]
 omega
def GD : V → List V → Hp → VK → Prop := fun x vs H Q => ∃ l b xs zs, x = .ref l ∧ vs = [.ref b] ∧ H l = some (.lst xs) ∧ H b = some (.lst zs) ∧ xs.length + zs.length ≤ Z2 ∧ Q .bB (upd H l (.lst (xs ++ zs)))
theorem LA : Uw X "list.extend" GD := by
 intro pins s σ H x vs v us Q I rx rv h
 obtain ⟨l, b, xs, zs, rfl, rfl, hH, hB, hz, q⟩ := h
 cases rx
 obtain ⟨u, rfl, ru⟩ := rv.one
 cases ru
 obtain ⟨z, its, n, r, hl, e⟩ := I.DU hH
 obtain ⟨z2, bM, n2, r2, qg, e2⟩ := I.DU hB
 have hsz : its.toArray.size + bM.toArray.size ≤ Z2 := by rw [aag, aag]; omega
 have Mp : ¬ (!its.toArray.isEmpty && acT (its.toArray.size + bM.toArray.size)) = true := by
  rw [DV hsz, aeS]
  exact aas
 refine call_meets F.slot_list_extend ⟨_, e, rfl⟩ F.entry_list_extend (F.args_list_extend_2 _ _)
  (AutoSeq1.list_extend_list_list_0 l its.toArray n b bM.toArray n2 Mp (by rw [aag]; omega) (by omega)) ⟨e, e2, ?_⟩
 refine ⟨.bB, _, I.Mo (its' := its ++ bM) hH e (by simp) (r.append r2) ?_, rfl, q⟩
 rw [Z6]
 omega
def Q8 : R2 := fun x y H Q => ∃ l b xs zs, x = .ref l ∧ y = .ref b ∧ H l = some (.lst xs) ∧ H b = some (.lst zs) ∧ xs.length + zs.length ≤ Z2 ∧ ∀ p, H p = none → Q (.ref p) (upd H p (.lst (xs ++ zs)))
theorem oo : pT X (binaryOp .Add) Q8 := by
 intro pins s σ H x y v u Q I rx ry h
 obtain ⟨l, b, xs, zs, rfl, rfl, hH, hB, hz, q⟩ := h
 cases rx
 cases ry
 obtain ⟨z, its, n, r, hl, e⟩ := I.DU hH
 obtain ⟨z2, bM, n2, r2, qg, e2⟩ := I.DU hB
 refine PySem.P.add_list e e2 ?_ (by rw [aag, aag]; omega)
 have ea : its.toArray ++ bM.toArray = (its ++ bM).toArray := by simp
 rw [ea]
 exact ⟨.ref _, _, I.Q7 (t' := s.toks) (r.append r2) (by rw [Z6]; omega), rfl, q _ I.fresh⟩
end
section
variable {prog : aao} {w : aaO} {A : aaA} {E : ZS → ZU → Prop} {s : ZU}
end
section
variable {X : Cx}
end
end L2
namespace Ux
open PySem PySem.W PySem.Calls PyProof.Rows
theorem pq {P : Params} {h : Heap} : ∀ (ns : List Int) (vs : List ZS), WellAll P h vs (ns.map WData.int) → IntsAre vs ns := by
 intro ns
 induction ns with
 | nil =>
  intro vs w
  rw [abO] at w
  cases w
  exact .nil
 | cons n ns ih =>
  intro vs w
  rw [aap] at w
  cases w with
  | cons a b =>
   cases a
   exact .cons _ _ (ih _ b)
theorem Cj {l : OpenLaw} {n : Nat} (hn : l.most = some n) {P : Params} {h : Heap} {args : List WData} {vals : List ZS}
  (hpre : l.row.toRowW.claim.pre args = true) (hwl : WellAll P h vals args) :
  ∃ a vs ns, vals = [aaC a] ∧ args = [WData.list (ns.map WData.int)] ∧ h.get? a = some { cls := .type "list", data := .seq vs.toArray } ∧ IntsAre vs ns ∧ ns.length ≤ n := by
 have Ck : WShape.hasAll [] args [.list .int] = true := (pre_splitW hpre).1
 have hc : l.pre.holds [] { args := args } = true := (pre_splitW hpre).2
 obtain ⟨d, r, rfl, h1, h2⟩ := hasAllW_cons Ck
 obtain rfl := hasAllW_nil h2
 obtain ⟨xs, rfl, h3⟩ := hasW_list h1
 obtain ⟨ns, rfl⟩ := items_int h3
 have hlen : ns.length ≤ n := by
  unfold OpenLaw.pre at hc
  have h4 : (WTm.not (.lt (.lit (.int (n : Int))) (.len (.arg 0)))).holds [] { args := [.list (ns.map .int)] } = true := by
   have h4 := (holds_andW hc).1
   rw [hn] at h4
   exact h4
  have h5 := condW_of h4 (w_not (w_lt w_lit (w_len_list (w_arg rfl))))
  rw [Lm9] at h5
  refine Nat.le_of_not_lt fun q => ?_
  have q' : (n : Int) < ((ns.length : Nat) : Int) := by omega
  first
   | (rw [decide_eq_true q'] at h5; exact absurd h5 (by decide))
   | (simp at h5; omega)
 cases hwl with
 | cons w1 w2 =>
  cases w2
  cases w1 with
  | list ho hall => exact ⟨_, _, ns, rfl, rfl, ho, pq ns _ hall, hlen⟩
theorem Cm (l : OpenLaw) (args : List WData) : l.row.toRowW.claim.post args (.bool true) args = true :=
 postW_of (r := l.row.toRowW) (X := (true == true))
  (show WShape.has [] (.bool true) .bool = true by first | rfl | decide | simp [WShape.has, WShape.arms, WShape.armsAll])
  (show (WTm.eq .res (.lit (.bool true))).value [] { args := args, res := some (.bool true), after := args } = some (.bool (true == true)) from w_eq_bool (w_res rfl) w_lit) rfl
theorem xw {l : OpenLaw} {n : Nat} {q : aao} {loose : List Str} {XP : (Str → Option ZS) → Heap → Prop} {YP : aaO → Heap → Prop} {d : DefRec}
  (hn : l.most = some n) (Mq : d.params.defaults = [])
  (call : ∀ (w : aaO) (s₀ s₁ : ZU) (mg mb : Str → Option ZS) (fa : aac) (o : Obj) (pm cd doc : ZS) (a : aac) (vs : List ZS) (ns : List Int),
   Ground q loose [] XP w s₀ mg mb s₁.heap → YP w s₁.heap →
   s₁.heap.get? fa = some o → o.data = .func (docDef d.name d.params d.body d.scope pm cd doc) → s₁.heap.CodeRec cd d.name → mg d.name = some (.ref fa) →
   s₁.heap.get? a = some { cls := .type "list", data := .seq vs.toArray } → IntsAre vs ns → ns.length ≤ n → s₁.gens = #[] →
   codeAny (model l.prog w) callerA (.call (.ref fa) ⟨[.ref a], []⟩) (fun r s' => r = .ok (.ret (.bool true)) ∧ OldK s₁.heap s'.heap ∧ s'.os = s₁.os ∧ AllBare s'.gens) s₁) :
  WalkO q loose XP YP l.row.toRowW d [] (fun f vs => PySem.call f vs) := by
 intro w s₀ s₁ mg mb G Y fa o pm cd doc dV kV ho hd hcd hD hmg hg args vals as hpre hlay hrd hwl hlo
 obtain rfl : dV = .none := Dflts.none hD Mq
 obtain rfl : kV = .none := Dflts.noKw hD
 obtain ⟨a, vs, ns, rfl, rfl, I9, hints, hlen⟩ := Cj hn hpre hwl
 refine enter_call (codeAny_mono (call w s₀ s₁ mg mb fa o pm cd doc a vs ns G Y ho (fd_plain hd) hcd hmg I9 hints hlen hg) fun r s' hq => ?_)
 obtain ⟨rfl, h2, h3, h4⟩ := hq
 exact ⟨.inl ⟨.bool true, .bool true, [], rfl, fun _ => rfl, .bool true, Cm l _, fun _ => ⟨afp, fun _ hm => (nomatch hm)⟩⟩, h2, h3, h4⟩
section
variable {prog : aao} {w : aaO} {A : aaA} {E : ZS → ZU → Prop} {s : ZU} {K : Frag}
def ledger (h : Heap) (L d : aac) : List (aac × Obj) := (aaz h.objs.size).filterMap fun a => if a = L ∨ a = d then none else (h.get? a).map fun o => (a, o)
end
end Ux
namespace L2
open PySem PySem.Spec PyProof.Rows
theorem uh : ∀ {vs : List ZS} {ns : List Int}, IntsAre vs ns → Vals (ns.map V.int) vs
 | _, _, .nil => .nil
 | _, _, .cons n t h => .cons ⟨t, rfl⟩ (uh h)
def Ja (H : Hp) : Prop := ∀ b, H b = none ∨ ∃ o xs, H b = some (.lO o (.lst xs))
theorem DW {P : aao} {w : aaO} {K : ZQ} {mg mb : Str → Option ZS} {CX : Dr} {k : Nat} {fa a : aac} {fd : aa0} {x : Str} {sp : Sp} {s₁ : ZU} {vs : List ZS} {ns : List Int}
  (KX : K.In s₁.heap) (hns : s₁.heap.Ns aaa mg) (hb : s₁.heap.Ns builtinsNs mb) (Wn : ∀ x : Str, x ≠ "__name__" → mb x = bootBuiltins x) (Q9 : s₁.heap.NoLimit) (hg : s₁.gens = #[])
  (ha : s₁.heap.get? a = some { cls := .type "list", data := .seq vs.toArray }) (hi : IntsAre vs ns) (hl : ns.length ≤ Z2) (hr : eJ k callerA)
  (F : ∀ base : Heap, K.In base → base.Ns aaa mg → bD P w K mg base CX k fa fd [x] sp) (Mr : ∀ (s : ZU) (u : ZS), BindsTo s fd ⟨[u], []⟩ [(x, u)])
  (F8 : ∀ H : Hp, Ja H → aC K H a (ns.map V.int) → sp [.ref a] H (fun v _ => v = .bl true) fun _ _ _ => False)
  (Ra : ∀ H e s', CX [] H s₁ (fun _ _ _ => False) e s' → False) :
  codeAny (model P w) callerA (.call (.ref fa) ⟨[.ref a], []⟩) (fun r s' => r = .ok (.ret (.bool true)) ∧ OldK s₁.heap s'.heap ∧ s'.os = s₁.os ∧ AllBare s'.gens) s₁ := by
 have rv := uh hi
 have Rb := hi.length
 have core : ∀ H : Hp, Ja H → aC K H a (ns.map V.int) → jO P w H s₁.heap → (∀ b, H b ≠ none → b = a) → (H a ≠ none → K.lookup a = none) →
   codeAny (model P w) callerA (.call (.ref fa) ⟨[.ref a], []⟩) (fun r s' => r = .ok (.ret (.bool true)) ∧ OldK s₁.heap s'.heap ∧ s'.os = s₁.os ∧ AllBare s'.gens) s₁ := by
  intro H hO hS hok hA hK
  have Bc : ∀ {b : aac} {o : Obj}, s₁.heap.get? b = some o → H b = none → (uV s₁.heap H).get? b = some o := fun e n => DE e n
  have Mj : ∀ {b : aac} {o : Obj} {es : Array DictEntry} {ep : Nat}, s₁.heap.get? b = some o → o.data = .dict es ep → H b = none := fun {b o es ep} e d => by
   cases q : H b with
   | none => rfl
   | some u =>
    have e' : b = a := hA b (by rw [q]; simp)
    subst e'
    rw [ha] at e; cases e
    have d' : Data.seq vs.toArray _ = Data.dict es ep := d
    cases d'
  have PN : ∀ {b : aac} {m : Str → Option ZS}, s₁.heap.Ns b m → (uV s₁.heap H).Ns b m := fun {b m} ⟨o, es, ep, e, d, r⟩ => ⟨o, es, ep, Bc e (Mj e d), d, r⟩
  have Uy : K.In (uV s₁.heap H) := fun b o e => Bc (KX b o e) (by
   cases q : H b with
   | none => rfl
   | some u =>
    have e' : b = a := hA b (by rw [q]; simp)
    subst e'
    rw [hK (by rw [q]; simp)] at e; cases e)
  have hM : Mod K mg (uV s₁.heap H) := ⟨Uy, PN hns, ⟨mb, PN hb, Wn⟩, let ⟨mc, h1, h2⟩ := Q9; ⟨mc, PN h1, h2⟩⟩
  have e0 : Gw P w K mg (uV s₁.heap H) callerA [] s₁ H := ⟨rfl, hM, fun b o e => Gn e, Nat.le_of_eq (B6 _ _), trivial, fun b hb => absurd (show b ∈ ([] : List aac) from hb) (by simp), hok, .of_eq hg⟩
  refine codeAny_mono ((F _ Uy (PN hns)).run callerA [] s₁ H ⟨[.ref a], []⟩ [.ref a] [.ref a] _ _ hr e0 (Mr s₁ (.ref a)) (.cons rfl .nil) (F8 H hO hS)) fun r s' h => ?_
  cases r with
  | error e => exact (Ra H e s' h).elim
  | ok fl =>
   cases fl with
   | next => exact abG h
   | brk => exact abG h
   | cont => exact abG h
   | ret u =>
    obtain ⟨v, H', os, bare, un, Rc, r', q⟩ := h
    have q' : v = .bl true := q
    subst q'
    obtain rfl : u = afl true := r'
    refine ⟨rfl, OldK.of_keep fun b o e => ?_, os, bare⟩
    cases q : H b with
    | none => exact un.keep b o e q (by intro z; exact absurd (show b ∈ ([] : List aac) from z) (by simp)) (by simp)
    | some u =>
     rcases hO b with z | ⟨ob, xs, z⟩
     ·rw [q] at z; cases z
     ·have z2 := un.jL b ob _ z
      obtain ⟨e1, _⟩ := hok b _ z
      obtain ⟨e2, _⟩ := Rc b _ z2
      rw [e] at e1; cases e1
      exact e2
 cases hk : K.lookup a with
 | some o =>
  have e := KX a o hk
  rw [ha] at e
  cases e
  refine core (fun _ => none) (fun _ => .inl rfl) (.inr ⟨_, vs.toArray, _, hk, rfl, rfl, rfl, by rw [aag, Rb]; exact hl, by simpa using rv⟩) (fun b u z => by have z' : (none : Option HO) = some u := z; cases z') (fun b z => absurd rfl z) fun z => absurd rfl z
 | none =>
  refine core (fun b => if b = a then some (.lO { cls := .type "list", data := .seq vs.toArray } (.lst (ns.map V.int))) else none) (fun b => ?_) (.inl (.inr ⟨{ cls := .type "list", data := .seq vs.toArray }, if_pos rfl⟩)) (fun b u z => ?_) (fun b z => ?_) fun _ => hk
  ·by_cases hb : b = a
   ·exact .inr ⟨_, _, if_pos hb⟩
   ·exact .inl (if_neg hb)
  ·by_cases hb : b = a
   ·have z' := (if_pos hb).symm.trans z
    cases z'
    subst hb
    exact ⟨ha, by rw [Lm9]; exact hl, vs, _, rv, ha⟩
   ·have z' := (if_neg hb).symm.trans z
    cases z'
  ·by_cases hb : b = a
   ·exact hb
   ·exact absurd (if_neg hb) z
end L2
namespace L2
open PySem PySem.Spec PyProof.Rows
abbrev Zb {K : ZQ} {h : Heap} (_ : K.In h) : ZQ := K
theorem GG {l : aey} {n k : Nat} {q : aao} {loose : List Str} {XP : (Str → Option ZS) → Heap → Prop} {YP : aaO → Heap → Prop} {d : DefRec} {K : Params → ZQ} {CX : aaO → Dr} {sp : aaO → Sp} {x : Str}
  (hn : l.most = some n) (GH : n ≤ Z2) (Mq : d.params.defaults = []) (hr : eJ k callerA)
  (hY : ∀ (w : aaO) (h : Heap), YP w h → (K w.params).In h)
  (F : ∀ (w : aaO) (mg : Str → Option ZS) (fa : aac) (h : Heap), (K w.params).In h → h.Ns aaa mg → mg d.name = some (.ref fa) →
   ∃ fd : aa0, (∀ (s : ZU) (u : ZS), BindsTo s fd ⟨[u], []⟩ [(x, u)]) ∧
    ∀ base : Heap, (K w.params).In base → base.Ns aaa mg → bD l.prog w (K w.params) mg base (CX w) k fa fd [x] (sp w))
  (F8 : ∀ (w : aaO) (H : Hp) (a : aac) (ns : List Int), ns.length ≤ n → Ja H → aC (K w.params) H a (ns.map V.int) → sp w [.ref a] H (fun v _ => v = .bl true) fun _ _ _ => False)
  (Ra : ∀ (w : aaO) (H : Hp) (s : ZU) (e : ZS) (s' : ZU), CX w [] H s (fun _ _ _ => False) e s' → False) :
  PySem.W.WalkO q loose XP YP l.row.toRowW d [] (fun f vs => PySem.call f vs) := by
 refine Ux.xw hn Mq fun w s₀ s₁ mg mb fa o pm cd doc a vs ns G Y ho hd hcd hmg I9 hints hlen hg => ?_
 have KX := hY w _ Y
 obtain ⟨fd, hb, hF⟩ := F w mg fa _ KX G.T.g hmg
 exact DW KX G.T.g G.T.b G.T.builtins G.T.nolimit hg I9 hints (aaM hlen GH) hr hF hb (fun H hO hS => F8 w H a ns hlen hO hS) fun H e s' => Ra w H s₁ e s'
end L2
namespace L2
open PySem PySem.Spec PyProof.Rows
def lD (s : Stmt) : Arguments := match s with
 | .FunctionDef _ a _ _ _ _ _ _ _ _ => a
 | _ => { posonlyargs := [], args := [], vararg := none, kwonlyargs := [], kw_defaults := [], kwarg := none, defaults := [] }
def gn (s : Stmt) : List Stmt := match s with
 | .FunctionDef _ _ b _ _ _ _ _ _ _ => b
 | _ => []
def ar (s : Stmt) : Scope := match s with
 | .FunctionDef _ _ _ _ _ _ sc _ _ _ => sc
 | _ => { kind := .function, names := [], isGenerator := false, isCoroutine := false }
abbrev jP : Dr := fun _ _ _ _ _ _ => False
abbrev E0 : XK := fun _ _ _ => False
theorem Ms {X : Cx} : Passes jP X E0 := fun _ _ _ _ _ _ _ h => h.elim
structure b6 (K : ZQ) (x qual : Str) (st : Stmt) (f : aac) (fd : aa0) : Prop where
 ex : ∃ (oc : ZS) (od : Option aac) (kV doc pm : ZS) (an : Option aac) (c0 ct : ZS) (Gx : Array (Option ZS)),
  fd = acu x qual (lD st) (gn st) (ar st) .none kV doc pm an c0 ct ∧ K.lookup f = some ⟨oc, od, .func fd, Gx⟩ ∧ adU K c0 qual = true
 kp : ab0 K (.ref f) = true
section
variable {P : aao} {w : aaO} {K : ZQ} {mg : Str → Option ZS} {base : Heap}
theorem b6.ok {x qual : Str} {st : Stmt} {f : aac} {fd : aa0} {N ps : List Str} {k : Nat} {sp : Sp} (F : b6 K x qual st f fd) (S : aB N ps (ar st)) (len : ∀ vs H Q E, sp vs H Q E → vs.length = ps.length)
  (mT : ∀ (c0 : ZS) (A : aaA) (outer : List Env) (s : ZU) (H : Hp) (vs : List V) (Q : VK) (E : XK), eJ k (A.deeper (envOfC qual (ar st) s.heap.objs.size f c0)) → sp vs H Q E →
   ∃ t, zi (zD jP P w K mg base N qual (ar st) f c0 A outer s H E).PF (gn st) t ∧ t { nx := fun _ H' => Q .bB H', rt := Q } (start N vs) H) : bD P w K mg base jP (k + 1) f fd ps sp := by
 obtain ⟨oc, od, kV, doc, pm, an, c0, ct, Gx, rfl, lk, hcd⟩ := F.ex
 refine HW lk hcd S len fun A outer s H vs Q E hr F8 => ?_
 obtain ⟨t, h, q⟩ := mT c0 A outer s H vs Q E hr F8
 exact ⟨t, h.PF, q⟩
theorem b6.binds {x qual : Str} {st : Stmt} {f : aac} {fd : aa0} {ps : List Str} (F : b6 K x qual st f fd)
  (h : ∀ (kV doc pm : ZS) (an : Option aac) (c0 ct : ZS) (us : List ZS), us.length = ps.length → bindArgs (acu x qual (lD st) (gn st) (ar st) .none kV doc pm an c0 ct) ⟨us, []⟩ = pure (ps.zip us)) : Binds K fd ps [] := by
 obtain ⟨oc, od, kV, doc, pm, an, c0, ct, Gx, rfl, lk, hcd⟩ := F.ex
 exact .all (h kV doc pm an c0 ct)
theorem aL {x qual : Str} {st : Stmt} {f : aac} {oc : ZS} {od an : Option aac} {Gx : Array (Option ZS)} {kV doc pm c0 ct : ZS} (l : K.lookup f = some ⟨oc, od, .func (acu x qual (lD st) (gn st) (ar st) .none kV doc pm an c0 ct), Gx⟩)
  (c : adU K c0 qual = true) (k : ab0 K (.ref f) = true) : b6 K x qual st f (acu x qual (lD st) (gn st) (ar st) .none kV doc pm an c0 ct) := ⟨⟨oc, od, kV, doc, pm, an, c0, ct, Gx, rfl, l, c⟩, k⟩
end
theorem Bd {A : aaA} {k : Nat} (hr : eJ k A) : A.units + 1 < cLine := Nat.lt_of_le_of_lt (Nat.add_le_add_left (by decide : 1 ≤ 64) _) hr.units
section
variable {X : Cx}
theorem pv (i : Nat) {x : Str} {pos : Pos} (hN : X.N[i]? = some x := by rfl) (hv : QG X.env.scope x := by first | exact aax rfl | exact ac2 (aax rfl) | exact ac2 (ac2 rfl)) (hd : (x == ("__debug__" : Str)) = false := by decide)
  (hcd : (x == ("__classdict__" : Str)) = false := by decide) : PE X (.Name x pos) (L6 i) := II hN hv hd hcd
end
theorem b5 {A B : Prop} (h : B) : if false = true then A else B := by
 rw [if_neg aas]
 exact h
theorem dc {A B : Prop} (h : A) : if true = true then A else B := by
 rw [if_pos rfl]
 exact h
theorem me {c A B : Prop} [Decidable c] (h1 : c → A) (h2 : ¬ c → B) : if c then A else B := by
 by_cases h : c
 ·rw [if_pos h]
  exact h1 h
 ·rw [if_neg h]
  exact h2 h
def af (H H' : Hp) : Prop := ∀ b o, H b = some o → H' b = some o
theorem af.refl (H : Hp) : af H H := fun _ _ h => h
theorem af.trans {H H1 H2 : Hp} (a : af H H1) (b : af H1 H2) : af H H2 := fun c o h => b c o (a c o h)
theorem af.free {H H' : Hp} (e : af H H') {l : aac} (h : H' l = Option.none) : H l = Option.none := by
 cases q : H l with
 | none => rfl
 | some o =>
  rw [e l o q] at h
  cases h
theorem af.seq {K : ZQ} {H H' : Hp} {a : aac} {xs : List V} (e : af H H') (h : aC K H a xs) : aC K H' a xs := by
 rcases h with (h | ⟨o, h⟩) | h
 ·exact .inl (.inl (e _ _ h))
 ·exact .inl (.inr ⟨o, e _ _ h⟩)
 ·exact .inr h
end L2
namespace L2
open PySem PySem.Spec PyProof.Rows
def bw (env : Env) : List (Str × NameKind) → List (Str × aac) → List (Str × aac)
 | [], cs => cs
 | (n, k) :: r, cs => if (k == abB) = true then bw env r ((n, (env.cells.lookup n).getD 0) :: cs) else bw env r cs
theorem gK {env : Env} : ∀ (names : List (Str × NameKind)) (cs : List (Str × aac)), (∀ y ∈ names, y.2 = .free → (env.cells.lookup y.1).isSome = true) →
  (forIn names cs (fun x (cs : List (Str × aac)) => (match x with | (name, kind) => if (kind == abB) = true then (do let a ← cellOf env name; pure (acv ((name, a) :: cs))) else pure (acv cs) : Sem (ForInStep (List (Str × aac))))) : Sem (List (Str × aac))) = pure (bw env names cs)
 | [], cs, _ => rfl
 | (n, k) :: r, cs, h => by
  have hr : ∀ y ∈ r, y.2 = .free → (env.cells.lookup y.1).isSome = true := fun y hy => h y (Z9 _ hy)
  rw [List.forIn_cons]
  by_cases hk : (k == abB) = true
  ·have e : k = .free := by simpa using hk
   have hs := h (n, k) Z5 e
   obtain ⟨a, ha⟩ := abH.mp hs
   simp only [hk, if_true, bw, cellOf, ha, abV, pure_bind]
   exact gK r _ hr
  ·simp only [hk, bw, pure_bind, Z7, if_false]
   exact gK r _ hr
theorem zF {env : Env} {scope : Scope} (h : ∀ y ∈ scope.names, y.2 = .free → (env.cells.lookup y.1).isSome = true) : closureFor scope env = pure (bw env scope.names []) := by
 have e := gK (env := env) scope.names [] h
 unfold closureFor
 simp only [bind_pure_comp, map_pure] at e ⊢
 rw [← e]
 simp
theorem mX {env : Env} : ∀ {names : List (Str × NameKind)} {cs : List (Str × aac)} {y : Str} {c : aac}, (∀ z ∈ names, z.2 = .free → (env.cells.lookup z.1).isSome = true) → (∀ y c, cs.lookup y = some c → env.cells.lookup y = some c) →
  (bw env names cs).lookup y = some c → env.cells.lookup y = some c
 | [], _, _, _, _, hc, h => hc _ _ h
 | (n, k) :: r, cs, y, c, hn, hc, h => by
  have hr : ∀ z ∈ r, z.2 = .free → (env.cells.lookup z.1).isSome = true := fun z hz => hn z (Z9 _ hz)
  unfold bw at h
  by_cases hk : (k == abB) = true
  ·rw [if_pos hk] at h
   have e : k = .free := by simpa using hk
   obtain ⟨a, ha⟩ := abH.mp (hn (n, k) Z5 e)
   refine mX hr (fun z d q => ?_) h
   rw [abk] at q
   cases hz : z == n with
   | true =>
    have ez : z = n := by simpa using hz
    rw [hz] at q
    simp only [ha, abV] at q
    have ha' : env.cells.lookup n = some a := ha
    rw [ez, ha']
    exact q
   | false =>
    rw [hz] at q
    exact hc z d q
  ·rw [if_neg hk] at h
   exact mX hr hc h
theorem mY {env : Env} : ∀ {names : List (Str × NameKind)} {cs : List (Str × aac)} {y : Str}, ((y, abB) ∈ names ∨ (cs.lookup y).isSome = true) → ((bw env names cs).lookup y).isSome = true
 | [], _, _, h => by
  rcases h with h | h
  ·cases h
  ·exact h
 | (n, k) :: r, cs, y, h => by
  unfold bw
  have key : ∀ a : aac, (cs.lookup y).isSome = true → (List.lookup y ((n, a) :: cs)).isSome = true := fun a q => by
   rw [abk]
   cases y == n with
   | true => rfl
   | false => exact q
  by_cases hk : (k == abB) = true
  ·rw [if_pos hk]
   refine mY ?_
   rcases h with h | h
   ·rcases aai.mp h with e | h
    ·cases e
     refine .inr ?_
     rw [abk]
     simp
    ·exact .inl h
   ·exact .inr (key _ h)
  ·rw [if_neg hk]
   refine mY ?_
   rcases h with h | h
   ·rcases aai.mp h with e | h
    ·cases e
     exact absurd (by simp) hk
    ·exact .inl h
   ·exact .inr h
def iK (X : Cx) (scope : Scope) (cl : List (Str × aac)) (N : List Str) (C : aac) (s₀ : ZU) (H₀ : Hp) (ex : List aac) : Cx where
 prog := X.prog
 w := X.w
 K := X.K
 mg := X.mg
 base := X.base
 A := X.A
 N := N
 s₀ := s₀
 H₀ := H₀
 env := compEnvC scope cl C X.env
 outer := X.stack
 stack := X.stack
 ex := ex
 fn := fun _ => false
 calm := X.calm
 pn := []
 xe := fun _ _ => False
def fe (X : Cx) (x : Str) (aJ : List Nat) : List Str := x :: aJ.map fun i => X.N.getD i (aae "")
def bT (σ : St) (o : Option V) (aJ : List Nat) : St := o :: aJ.map fun i => (σ[i]?).join
def qh (outer scope : Scope) (x : Str) (N : List Str) : Bool :=
 decide (scope.kind = .function) && scope.names.all (fun y => decide (y.2 ≠ .cell)) && scope.names.all (fun y => decide (y.2 = .local → scope.names.lookup y.1 = some .local)) && decide (scope.names.lookup x = some .local) &&
  scope.names.all (fun y => decide (y.2 = .free → (outer.names.lookup y.1 = some .cell ∨ outer.names.lookup y.1 = some .free))) && N.tail.all (fun y => decide (scope.names.lookup y = some .free)) && decide N.Nodup
structure DX (outer scope : Scope) (x : Str) (N : List Str) : Prop where
 kind : scope.kind = .function
 zG : ∀ y ∈ scope.names, y.2 ≠ .cell
 locs : ∀ y ∈ scope.names, y.2 = .local → scope.names.lookup y.1 = some .local
 Rf : scope.names.lookup x = some .local
 frees : ∀ y ∈ scope.names, y.2 = .free → (outer.names.lookup y.1 = some .cell ∨ outer.names.lookup y.1 = some .free)
 aJ : ∀ y ∈ N.tail, scope.names.lookup y = some .free
 nd : N.Nodup
theorem Cn {outer scope : Scope} {x : Str} {N : List Str} (h : qh outer scope x N = true) : DX outer scope x N := by
 unfold qh at h
 simp only [aaE, abg, decide_eq_true_eq] at h
 obtain ⟨⟨⟨⟨⟨⟨h1, h2⟩, h3⟩, h4⟩, h5⟩, h6⟩, h7⟩ := h
 exact ⟨h1, h2, h3, h4, h5, h6, h7⟩
theorem mZ {scope : Scope} {env : Env} {y : Str} {k' : NameKind} (h : (relabel scope env).names.lookup y = some k') : ∃ k, scope.names.lookup y = some k ∧ (k' = k ∨ (k = .free ∧ k' = .cell)) := by
 have go : ∀ (names : List (Str × NameKind)), (names.map fun (n, k) => if (k == abB && env.scope.kind == .function && env.kindOf n == some .cell) then (n, afc) else (n, k)).lookup y = some k' →
   ∃ k, names.lookup y = some k ∧ (k' = k ∨ (k = .free ∧ k' = .cell)) := by
  intro names
  induction names with
  | nil => intro h; simp at h
  | cons a r ih =>
   obtain ⟨n, k⟩ := a
   intro h
   rw [aap] at h
   by_cases hc : (k == abB && env.scope.kind == .function && env.kindOf n == some .cell) = true
   ·simp only [hc, if_true, abk] at h
    rw [abk]
    cases hy : y == n with
    | true =>
     rw [hy] at h
     have hk : k = .free := by
      simp only [aaE, beq_iff_eq] at hc
      exact hc.1.1
     exact ⟨k, rfl, .inr ⟨hk, (aaI h).symm⟩⟩
    | false =>
     rw [hy] at h
     exact ih h
   ·simp only [hc, Z7, if_false, abk] at h
    rw [abk]
    cases hy : y == n with
    | true =>
     rw [hy] at h
     exact ⟨k, rfl, .inl (aaI h).symm⟩
    | false =>
     rw [hy] at h
     exact ih h
 exact go scope.names h
theorem u9 {scope : Scope} {env : Env} {y : Str} (h : scope.names.lookup y = some .free) : (relabel scope env).names.lookup y = some .cell ∨ (relabel scope env).names.lookup y = some .free := by
 have go : ∀ (names : List (Str × NameKind)), names.lookup y = some .free → (names.map fun (n, k) => if (k == abB && env.scope.kind == .function && env.kindOf n == some .cell) then (n, afc) else (n, k)).lookup y = some .cell ∨
   (names.map fun (n, k) => if (k == abB && env.scope.kind == .function && env.kindOf n == some .cell) then (n, afc) else (n, k)).lookup y = some .free := by
  intro names
  induction names with
  | nil => intro h; simp at h
  | cons a r ih =>
   obtain ⟨n, k⟩ := a
   intro h
   rw [aap]
   rw [abk] at h
   by_cases hc : (k == abB && env.scope.kind == .function && env.kindOf n == some .cell) = true
   ·simp only [hc, if_true, abk]
    cases hy : y == n with
    | true => exact .inl rfl
    | false =>
     rw [hy] at h
     exact ih h
   ·simp only [hc, Z7, if_false, abk]
    cases hy : y == n with
    | true =>
     rw [hy] at h
     have h' : k = .free := aaI h
     exact .inr (by rw [h'])
    | false =>
     rw [hy] at h
     exact ih h
 exact go scope.names h
def LB (X : Cx) (ifs : List Expr) (t : TT) : Prop :=
 ∀ (pins : List (aac × Obj)) (s : ZU) (σ : St) (H : Hp) (Q : Bool → Hp → Prop), Inv X pins σ H s → t σ H Q →
  aar (model X.prog X.w) X.A (forIn ifs true fun c r => if r = true then do let ok ← isTrue c X.env (eval c X.env); pure (acv ok) else pure (acv r)) (TP X pins σ Q) X.xe s
def zH : TT := fun _ H Q => Q true H
theorem bz {X : Cx} : LB X [] zH := fun _ _ _ H _ I h => wpAny_tests_nil ⟨H, I, h⟩
theorem dE {X : Cx} {c : Expr} {t : TT} (h : PT X c t) : LB X [c] t := fun pins s σ H Q I hq => wpAny_tests_one (h pins s σ H Q I hq)
theorem va {prog : aao} {w : aaO} {A : aaA} {R : Result → ZU → Prop} {s : ZU} {elt target iter : Expr} {ifs : List Expr} {scope : Scope} {pos : Pos} {it acc : ZS} {env : Env} (I : Nat → ZU → Prop)
  (turn : ∀ n s, I n s → aar (model prog w) A (pyNext it) (fun r s₁ => match r with
   | none => R (.ok .next) s₁
   | some v => aar (model prog w) A (letOwnedTupleGo target it v) (fun _ Uz => aar (model prog w) A (assign target env v) (fun _ s₂ =>
     aar (model prog w) A (forIn ifs true fun c r => if r = true then do let ok ← isTrue c env (eval c env); pure (acv ok) else pure (acv r)) (fun ok s₃ =>
      if ok = true then aar (model prog w) A (eval elt env) (fun x s₄ =>
       aar (model prog w) A (call (.builtin "list.append") [acc, x]) (fun _ s₅ => ∃ m, m < n ∧ I m s₅) (fun _ _ => False) s₄) (fun _ _ => False) s₃
      else ∃ m, m < n ∧ I m s₃) (fun _ _ => False) s₂) (fun _ _ => False) Uz) (fun _ _ => False) s₁) (fun _ _ => False) s)
  (n : Nat) (h : I n s) : codeAny (model prog w) A (.compLoop (.ListComp elt [⟨target, iter, ifs, 0⟩] scope pos) 0 it acc env) R s := by
 refine codeAny_loop rfl I (fun n s hI => ?_) n h
 show aar _ A ((compTurn (.ListComp elt [⟨target, iter, ifs, 0⟩] scope pos) 0 it acc env).onRaise (fun x => do noteFrame x env; theTreesLotGoes x)) _ _ s
 refine wpAny_noted ?_
 rw [compTurn_list]
 refine ZR (wpAny_standAt (ZR (wpAny_mono (turn n s hI) (fun r s₁ h₁ => ?_) fun _ _ h' => h'.elim)))
 cases r with
 | none => exact ZW h₁
 | some v =>
  refine ZR (wpAny_mono h₁ (fun _ Uz Wo => ?_) fun _ _ h' => h'.elim)
  refine ZR (wpAny_mono Wo (fun _ s₂ h₂ => ZR (wpAny_mono h₂ (fun ok s₃ h₃ => ?_) fun _ _ h' => h'.elim)) fun _ _ h' => h'.elim)
  cases ok with
  | false => exact ZW ⟨rfl, h₃⟩
  | true =>
   exact ZR (ZR (wpAny_mono h₃ (fun x s₄ h₄ => ZR (wpAny_mono h₄ (fun _ s₅ h₅ => ZW (ZW ⟨rfl, h₅⟩)) fun _ _ h' => h'.elim)) fun _ _ h' => h'.elim))
def jU (tt : TT) (te : TE) (aJ : List Nat) (σ : St) (Q : VK) (J : It) (H1 : Hp) (D : aac) : Prop :=
 ∃ W : Nat → Nat → List V → Hp → Prop, (∃ m, W 0 m [] (upd H1 D (.lst []))) ∧ ∀ i m ys H, W i m ys H →
  H D = some (.lst ys) ∧ ys.length < Z2 ∧
  ((J.stop i H ∧ Q (.ref D) H) ∨ (J.go i H ∧ ∃ N : List V → Hp → Prop, (∀ zs H', N zs H' → ∃ m', m' < m ∧ W (i + 1) m' zs H') ∧ ∀ x H', J.IQ i H x H' → tt (bT σ (some x) aJ) H' fun b H2 =>
   if b = true then te (bT σ (some x) aJ) H2 fun y H3 => H3 D = some (.lst ys) ∧ N (ys ++ [y]) (upd H3 D (.lst (ys ++ [y])))
   else N ys H2))
def DY (wi : TI) (tt : TT) (te : TE) (aJ : List Nat) : TE := fun σ H Q => wi σ H fun J H1 => ∀ D, H1 D = none → jU tt te aJ σ Q J H1 D
section
variable {X : Cx}
theorem zI {scope : Scope} {x : Str} {aJ : List Nat} {pins : List (aac × Obj)} {σ : St} {H : Hp} {s3 : ZU} {h1 : Heap} {fp : List aac} {m : Str → Option ZS} {tk : Nat} (ok : DX X.env.scope scope x (fe X x aJ)) (I : Inv X pins σ H s3)
  (hf : ∀ b ∈ fp, su X pins H b) (fF : ∀ b ∈ fp, b < s3.heap.objs.size) (hn : h1.Ns s3.heap.objs.size m) (keep : ∀ b o, s3.heap.get? b = some o → h1.get? b = some o) :
  Inv (iK X scope (bw X.env scope.names []) (fe X x aJ) s3.heap.objs.size s3 H fp) [] (bT σ none aJ) H { s3 with heap := h1, toks := tk } := by
 have Be : ∀ z ∈ scope.names, z.2 = .free → (X.env.cells.lookup z.1).isSome = true := fun z hz zj => by
  obtain ⟨c, e⟩ := I.ok.has z.1 (by
   rcases ok.frees z hz zj with q | q
   ·exact .inl q
   ·exact .inr q)
  rw [e]; rfl
 have sub : ∀ y c, (bw X.env scope.names []).lookup y = some c → X.env.cells.lookup y = some c := fun y c h => mX Be (fun _ _ q => by simp at q) h
 have hC : H s3.heap.objs.size = none := I.hok.fresh (Z0 _)
 have Gr : ∀ y c, X.env.cells.lookup y = some c → c < s3.heap.objs.size := fun y c e => by
  obtain ⟨v, z⟩ := I.cell y c e
  exact z.lt
 refine ⟨⟨I.ok.mod, ?_, I.ok.glob, I.ok.blt, Z0 _, fun y z c e1 e2 => I.ok.inj y z c (sub _ _ e1) (sub _ _ e2), fun y hy => ?_, fun y c xo _ => ?_, I.ok.hd, I.ok.frames, .inl rfl, fun b hb => ⟨aam (fF b hb), fun y c e => (hf b hb).2.2.2.2.1 y c (sub _ _ e)⟩,
   I.bs, aaM I.ok.Gq I.sz, fun b o e hb => ?_, fun b hb xx => ?_, I.stack, I.uX⟩,
  rfl, I.bare, Un.kept keep, ⟨m, hn, fun i y v e1 e2 e3 => ?_⟩, fun y c e => ?_, hC, fun y c e => I.gj y c (sub _ _ e), fun p hp => absurd (show p ∈ ([] : List (aac × Obj)) from hp) (by simp), I.hok.kept keep, by simp [iK, fe, bT]⟩
 ·show (relabel scope X.env).kind = .function
  exact ok.kind
 ·have hy' : (relabel scope X.env).names.lookup y = some .cell ∨ (relabel scope X.env).names.lookup y = some .free := hy
  have fr : scope.names.lookup y = some .free := by
   rcases hy' with q | q
   ·obtain ⟨k, e, z⟩ := mZ q
    rcases z with z | ⟨z, _⟩
    ·exact absurd z.symm (ok.zG _ (abf e))
    ·rw [e, z]
   ·obtain ⟨k, e, z⟩ := mZ q
    rcases z with z | ⟨_, z⟩
    ·rw [e, z]
    ·cases z
  exact abH.mp (mY (.inl (abf fr)))
 ·exact absurd (show (fun _ => false) y = true from xo) (by simp)
 ·rcases (hf b hb).2.2.2.1 with z | z
  ·exact I.ok.B7 b o e z
  ·exact absurd (aaf (aab e) (aaM I.ok.Gq z)) (abW _)
 ·rcases aai.mp (I.uW b xx) with z | z
  ·exact (hf b hb).2.1 z
  ·exact (hf b hb).2.2.1 z
 ·have e1' : (fe X x aJ)[i]? = some y := e1
  cases i with
  | zero => simp [bT] at e2
  | succ i =>
   simp only [fe, ad6, aaK] at e1'
   simp only [bT, ad6, aaK] at e2
   cases hj : aJ[i]? with
   | none => rw [hj] at e2; cases e2
   | some j =>
    rw [hj] at e1' e2
    simp only [Option.map_some, Option.some.injEq] at e1' e2
    cases hσ : σ[j]? with
    | none => rw [hσ] at e2; cases e2
    | some o =>
     rw [hσ] at e2
     have e2' : o = some v := e2
     subst e2'
     have UA : j < X.N.length := by rw [← I.len]; exact (ZZ.mp hσ).1
     have eN : X.N[j]? = some y := by
      rw [Ge9 UA]
      rw [Gd9, Ge9 UA] at e1'
      exact congrArg some e1'
     have hy : scope.names.lookup y = some .free := ok.aJ y (by
      show y ∈ aJ.map fun i => X.N.getD i (aae "")
      exact Z1.mpr ⟨j, ab5 hj, e1'⟩)
     have hk := ok.frees (y, .free) (abf hy) rfl
     obtain ⟨m', _, hl⟩ := I.loc
     obtain ⟨u, r, q⟩ := hl j y v eN hσ (.inr hk)
     refine ⟨u, r, .inr ⟨u9 hy, ?_⟩⟩
     rcases q with ⟨k, _⟩ | ⟨_, c, e, z⟩
     ·have k' : X.env.scope.names.lookup y = some .local := k
      rw [k'] at hk
      rcases hk with hk | hk <;> cases hk
     ·obtain ⟨c', e'⟩ := abH.mp (mY (env := X.env) (cs := []) (.inl (abf hy)))
      have ec := sub _ _ e'
      rw [e] at ec
      cases ec
      obtain ⟨o, ho, hd⟩ := z
      exact ⟨c, e', o, keep c o ho, hd⟩
 ·obtain ⟨v, o, ho, hd⟩ := I.cell y c (sub _ _ e)
  exact ⟨v, o, keep c o ho, hd⟩
theorem ui {x : Str} {px pos p : Pos} {iter elt : Expr} {ifs : List Expr} {scope : Scope} {wi : TI} {tt : TT} {te : TE} {aJ : List Nat} {use : Option (ZS → Sem Unit)} {QQ : ZS → ZU → Prop}
  (hc : X.calm = true) (ho : qh X.env.scope scope x (fe X x aJ) = true) (hi : PI X (.Name x px) iter wi)
  (ht : ∀ cl C s₀ H₀ ex, LB (iK X scope cl (fe X x aJ) C s₀ H₀ ex) ifs tt) (he : ∀ cl C s₀ H₀ ex, PE (iK X scope cl (fe X x aJ) C s₀ H₀ ex) elt te)
  (hs : ∀ x, foldedSetIterable iter X.env x = pure x) {pins : List (aac × Obj)} {s : ZU} {σ : St} {H : Hp} {Q : VK} (I : Inv X pins σ H s) (h : DY wi tt te aJ σ H Q)
  (fin : ∀ (D C : aac) (H' : Hp) (s' : ZU) (m : Str → Option ZS), Inv X pins σ H' s' → Q (.ref D) H' → s'.heap.Ns C m → su X pins H' C → compPost (model X.prog X.w) X.A X.xe use QQ (.ref D) C (.ok .next) s') :
  aar (model X.prog X.w) X.A (comprehension (.ListComp elt [⟨.Name x px, iter, ifs, 0⟩] scope pos) scope X.env p (newList []) false (eval iter X.env) use) QQ X.xe s := by
 have ok := Cn ho
 have Be : ∀ z ∈ scope.names, z.2 = .free → (X.env.cells.lookup z.1).isSome = true := fun z hz zj => by
  obtain ⟨c, e⟩ := I.ok.has z.1 (by
   rcases ok.frees z hz zj with q | q
   ·exact .inl q
   ·exact .inr q)
  rw [e]; rfl
 refine wpAny_comprehension_free (cl := bw X.env scope.names []) (use := use) rfl hs (zF Be) ok.kind ok.locs (cJ (hi pins s σ H _ I h) fun v s1 h1 => cJ h1 fun QS s2 h2 => ?_)
 obtain ⟨it, fp, tn, J, H2, e, I2, T, bQ, f2, rd⟩ := h2
 subst e
 refine wpAny_newObj_type (wpAny_newFunctionEnv ok.zG (by intro y hy; simp at hy) (fun h₁ Jb Jc => ?_) ok.kind)
 dsimp only at Jb Jc ⊢
 have pU : H2 s2.heap.objs.size = none := I2.hok.fresh (Z0 _)
 obtain ⟨W, ⟨m0, w0⟩, turn⟩ := rd s2.heap.objs.size pU
 have Mt : ∀ b ∈ fp, b < s2.heap.objs.size := fun b hb => by
  obtain ⟨o, e, _⟩ := T.obj 0 _ bQ b hb
  exact aab e
 have hsz : (s2.heap.push { cls := .type "list", dict := none, data := .seq ([] : List ZS).toArray }).objs.size = s2.heap.objs.size + 1 := ab1 ..
 have I3 : Inv X pins σ (upd H2 s2.heap.objs.size (.lst [])) { s2 with heap := s2.heap.push { cls := .type "list", dict := none, data := .seq ([] : List ZS).toArray } } :=
  I2.laid (t' := s2.toks) (fun b u e => ZV _ e) (Z0 _) ⟨by simp, [], 0, .nil, Z8 _ rfl⟩
 have IS : tn 0 (s2.heap.push { cls := .type "list", dict := none, data := .seq ([] : List ZS).toArray }) := T.keep _ _ _ bQ fun b _ o e => ZV _ e
 generalize Zc : s2.heap.push { cls := .type "list", dict := none, data := .seq ([] : List ZS).toArray } = h3 at Jb Jc hsz I3 IS ⊢
 generalize Wq : upd H2 s2.heap.objs.size (.lst []) = H3 at I3 w0
 have Mu : ∀ b ∈ fp, b < h3.objs.size := fun b hb => by rw [hsz]; exact abR (Mt b hb)
 have f3 : ∀ b ∈ fp, su X pins H3 b := fun b hb => ⟨by rw [← Wq, aE (aam (Mt b hb))]; exact (f2 b hb).1, (f2 b hb).2⟩
 have keep : ∀ b o, h3.get? b = some o → h₁.get? b = some o := fun b o e => Jc.extBut b o (aam (aab e)) (ZV _ e)
 have I4 := zI (s3 := { s2 with heap := h3 }) (tk := s2.toks + ([] : List (Str × ZS)).length) ok I3 f3 Mu Jb keep
 have UB : tn 0 h₁ := T.keep _ _ _ IS fun b _ o e => keep b o e
 generalize zJ : iK X scope (bw X.env scope.names []) (fe X x aJ) ({ s2 with heap := h3 } : ZU).heap.objs.size { s2 with heap := h3 } H3 fp = X' at I4
 have eA : X'.A = X.A := by rw [← zJ] <;> rfl
 have eP : X'.prog = X.prog := by rw [← zJ] <;> rfl
 have ew : X'.w = X.w := by rw [← zJ] <;> rfl
 have eK : X'.K = X.K := by rw [← zJ] <;> rfl
 have ee : X'.env = compEnvC scope (bw X.env scope.names []) h3.objs.size X.env := by rw [← zJ] <;> rfl
 have ex : X'.xe = fun _ _ => False := by rw [← zJ] <;> rfl
 have eN : X'.N = fe X x aJ := by rw [← zJ] <;> rfl
 have ec : X'.calm = true := by rw [← zJ]; exact hc
 have Wr : X'.fs = gh X.stack := by rw [← zJ] <;> rfl
 have hT' : LB X' ifs tt := by rw [← zJ]; exact ht _ _ _ _ _
 have hE' : PE X' elt te := by rw [← zJ]; exact he _ _ _ _ _
 have leave : ∀ {σ' : St} {H' : Hp} {s' : ZU}, Inv X' [] σ' H' s' → Q (.ref s2.heap.objs.size) H' → compPost (model X.prog X.w) X.A X.xe use QQ (.ref s2.heap.objs.size) h3.objs.size (.ok .next) s' := fun {σ' H' s'} J q => by
  have un : Un (gh X.stack) fp H3 H' h3 s'.heap := by have z := J.base; rw [← zJ] at z; exact z
  have Ws : s'.os = s2.os := by have z := J.os; rw [← zJ] at z; exact z
  have hk : jO X.prog X.w H' s'.heap := by have z := J.hok; rw [eP, ew] at z; exact z
  have Jx := I3.L5 (s' := s') (ch := fp) Ws un hk J.bare fun b hb => ⟨(f3 b hb).2.2.2.1, (f3 b hb).2.1, (f3 b hb).2.2.2.2.1, (f3 b hb).2.2.2.2.2⟩
  obtain ⟨m, hn, _⟩ := J.loc
  have hn' : s'.heap.Ns h3.objs.size m := by rw [ee] at hn; exact hn
  have zj : H' h3.objs.size = none := by have z := J.free; rw [ee] at z; exact z
  exact fin _ _ H' s' m Jx q hn' (I3.Gs (Z0 _) zj)
 have zC : ∀ {H' : Hp}, (∀ b ∈ fp, H' b = none) → ∀ b ∈ fp, su X' [] H' b := fun {H'} hn b hb => by
  refine ⟨hn b hb, ?_, ?_, .inl ?_, fun y c e => ?_, fun p hp => ?_⟩
  ·rw [ee]; exact aam (Mu b hb)
  ·rw [Wr]
   intro z
   rcases aai.mp (I3.uW b z) with z | z
   ·exact (f3 b hb).2.1 z
   ·exact (f3 b hb).2.2.1 z
  ·rw [← zJ]; exact hb
  ·have e' : (bw X.env scope.names []).lookup y = some c := by rw [ee] at e; exact e
   exact (f3 b hb).2.2.2.2.1 y c (mX Be (fun _ _ q => by simp at q) e')
  ·rw [← zJ] at hp
   exact absurd (show p ∈ ([] : List (aac × Obj)) from hp) (by simp)
 have loop : ∀ s₃ : ZU, s₃ = { s2 with heap := h₁, toks := s2.toks + ([] : List (Str × ZS)).length } →
   codeAny (model X.prog X.w) X.A (.compLoop (.ListComp elt [⟨.Name x px, iter, ifs, 0⟩] scope pos) 0 (.ref it) (.ref s2.heap.objs.size) (compEnvC scope (bw X.env scope.names []) h3.objs.size X.env))
    (compPost (model X.prog X.w) X.A X.xe use QQ (.ref s2.heap.objs.size) h3.objs.size) s₃ := by
  rintro s₃ rfl
  refine va (fun n s' => ∃ i o H' ys, Inv X' [] (bT σ o aJ) H' s' ∧ tn i s'.heap ∧ (∀ b ∈ fp, H' b = none) ∧ W i n ys H') ?_ m0 ⟨0, none, H3, [], I4, UB, fun b hb => (f3 b hb).1, w0⟩
  rintro n s' ⟨i, o, H', ys, J, iF, UC, w'⟩
  obtain ⟨Zd, hlen, alt⟩ := turn i n ys H' w'
  rcases alt with ⟨stop, q⟩ | ⟨go, N, hN, step⟩
  ·have z := T.done X' eP ew eK ec i [] s' _ H' (fun _ _ => False) J (zC UC) iF stop
   rw [eA] at z
   refine cJ z fun r s4 ⟨hr, J4⟩ => ?_
   subst hr
   exact leave J4 q
  ·have z := T.item X' eP ew eK ec i [] s' _ H' (fun _ _ => False) J (zC UC) iF go
   rw [eA] at z
   refine cJ z fun r s4 ⟨u, hr, h4⟩ => ?_
   subst hr
   refine cJ h4 fun _ s5 ⟨xv, H5, J5, r5, y5, IT, QV⟩ => ?_
   have Wt := J5.pinned (zC QV) (T.obj _ _ IT)
   have lx : (relabel scope X.env).names.lookup x = some .local := lookup_relabel_local ok.Rf
   have hg : PG X' (.Name x px) (oN 0) := bx (by rw [eN]; exact ok.nd) (by rw [eN] <;> rfl) (by rw [ee]; exact .inl lx) (by rw [ee]; exact .inr lx)
   have zg := hg _ s5 _ H5 xv u (fun σ6 H6 => σ6 = bT σ (some xv) aJ ∧ H6 = H5) Wt r5 ⟨rfl, rfl⟩
   rw [eP, ew, eA, ee, ex] at zg
   refine cJ zg fun _ s6 ⟨σ6, H6, J6, q6⟩ => ?_
   obtain ⟨e6, Wu⟩ := q6
   subst e6 Wu
   have zt := hT' _ s6 _ _ _ J6 (step xv _ y5)
   rw [eP, ew, eA, ee, ex] at zt
   refine cJ zt fun b s7 ⟨H7, J7, q7⟩ => ?_
   have again : ∀ {H8 : Hp} {s8 : ZU} {xf : List V}, Inv X' ([] ++ qc fp s5.heap) (bT σ (some xv) aJ) H8 s8 → N xf H8 → ∃ m, m < n ∧ ∃ i o H' ys, Inv X' [] (bT σ o aJ) H' s8 ∧ tn i s8.heap ∧ (∀ b ∈ fp, H' b = none) ∧ W i m ys H' := fun {H8 s8 xf} J8 n8 => by
    obtain ⟨m', hm, w8⟩ := hN xf H8 n8
    refine ⟨m', hm, i + 1, some xv, H8, xf, J8.mS, T.keep _ _ _ IT fun b hb o e => (J8.pin (b, o) (aaD _ (aaD _ (iH hb e)))).1, fun b hb => ?_, w8⟩
    obtain ⟨o, e, d⟩ := T.obj _ _ IT b hb
    exact (J8.pin (b, o) (aaD _ (aaD _ (iH hb e)))).2.1
   cases b with
   | false => exact again J7 q7
   | true =>
    have ze := hE' _ s7 _ H7 _ J7 q7
    rw [eP, ew, eA, ee, ex] at ze
    refine cJ ze fun yv s8 ⟨y, H8, J8, r8, Wv, q8⟩ => ?_
    have za := cR (X := X') _ s8 _ H8 (.ref s2.heap.objs.size) [y] (.ref s2.heap.objs.size) [yv] (fun _ H9 => H9 = upd H8 s2.heap.objs.size (.lst (ys ++ [y]))) J8 rfl (.cons r8 .nil) ⟨_, ys, y, rfl, rfl, Wv, hlen, rfl⟩
    rw [eP, ew, eA, ex] at za
    refine cJ za fun _ s9 ⟨_, H9, J9, _, q9⟩ => ?_
    subst q9
    exact again J9 q8
 exact codeAny_compStart_list (loop _ rfl) (T.self _ 0 _ _ _ UB (loop _ rfl))
theorem bo {x : Str} {px pos : Pos} {iter elt : Expr} {ifs : List Expr} {scope : Scope} {wi : TI} {tt : TT} {te : TE} (aJ : List Nat)
  (hc : X.calm = true) (ho : qh X.env.scope scope x (fe X x aJ) = true) (hi : PI X (.Name x px) iter wi)
  (ht : ∀ cl C s₀ H₀ ex, LB (iK X scope cl (fe X x aJ) C s₀ H₀ ex) ifs tt) (he : ∀ cl C s₀ H₀ ex, PE (iK X scope cl (fe X x aJ) C s₀ H₀ ex) elt te)
  (hs : ∀ x, foldedSetIterable iter X.env x = pure x := by intro _; rfl) : PE X (.ListComp elt [⟨.Name x px, iter, ifs, 0⟩] scope pos) (DY wi tt te aJ) := by
 intro pins s σ H Q I h
 rw [eval_ListComp]
 refine ui (use := none) hc ho hi ht he hs I h fun D C H' s' m J q hn hf => ?_
 exact ⟨m, hn, fun h' sb => ⟨.ref D, H', J.turned (t' := s'.toks) (fun b o hb e => (sb.2 b hb).trans e) hf.1 hf.2.1 hf.2.2.2.1 hf.2.2.2.2.1 hf.2.2.2.2.2, rfl, q⟩⟩
theorem eG {i : Nat} {x y : Str} {px py pos Mv : Pos} {iter elt : Expr} {ifs : List Expr} {scope : Scope} {wi : TI} {tt : TT} {te : TE} (aJ : List Nat)
  (hN : X.N.Nodup) (Rg : X.N[i]? = some y) (hy : Loc X.env.scope y)
  (hc : X.calm = true) (ho : qh X.env.scope scope x (fe X x aJ) = true) (hi : PI X (.Name x px) iter wi)
  (ht : ∀ cl C s₀ H₀ ex, LB (iK X scope cl (fe X x aJ) C s₀ H₀ ex) ifs tt) (he : ∀ cl C s₀ H₀ ex, PE (iK X scope cl (fe X x aJ) C s₀ H₀ ex) elt te)
  (hsw : swapsWith (.ListComp elt [⟨.Name x px, iter, ifs, 0⟩] scope pos) (some (.Name y py)) Mv.line X.env = pure true := by rfl)
  (hs : ∀ x, foldedSetIterable iter X.env x = pure x := by intro _; rfl) (hf : X.fn y = true ∨ X.env.scope.names.lookup y = some .local := by first | exact .inl rfl | exact .inr rfl | assumption) :
  PS X (.Assign [.Name y py] (.ListComp elt [⟨.Name x px, iter, ifs, 0⟩] scope pos) Mv) (IP (DY wi tt te aJ) (oN i)) := by
 intro pins s σ H D I h
 rw [exec_Assign_Name_used _ _ _ _ hsw]
 refine ZR (wpAny_standAt (ZR ?_))
 show aar _ X.A (do let _ ← comprehension (.ListComp elt [⟨.Name x px, iter, ifs, 0⟩] scope pos) scope X.env _ (newList []) false (eval iter X.env) (some (assign (.Name y py) X.env))) _ _ s
 refine ZR (wpAny_mono (ui (QQ := fun _ s' => SP X pins D .next s') (use := some (assign (.Name y py) X.env)) hc ho hi ht he hs I h fun D' C H' s' m J q hn hf' => ?_) (fun _ s' hq => ZW (ZW hq)) fun _ _ e => e)
 refine wpAny_assign_Name (t8 (v := .ref D') J hN Rg hy rfl (fun s2 I2 xy => ?_) hf)
 obtain ⟨a, sb, ha⟩ := xy
 have hne : C ≠ a := by
  rcases ha with rfl | e
  ·exact hf'.2.1
  ·exact fun z => hf'.2.2.2.2.1 y a e z.symm
 exact ⟨m, hn.sameBut sb hne, fun Ze Ww => ⟨_, H', I2.turned (t' := s2.toks) (fun b o hb e => (Ww.2 b hb).trans e) hf'.1 hf'.2.1 hf'.2.2.2.1 hf'.2.2.2.2.1 hf'.2.2.2.2.2, q⟩⟩
end
section
variable {tt : TT} {te : TE} {aJ : List Nat} {σ : St} {H1 : Hp} {Q : VK}
theorem vb {J : It} {D : aac} (n : Nat) (hn : n < Z2) (at_ : Nat → V) (Pv : Nat → List V → Hp → Prop) (h0 : Pv 0 [] (upd H1 D (.lst [])))
  (hst : ∀ ys H, Pv n ys H → J.stop n H) (Co : ∀ i ys H, Pv i ys H → i < n → J.go i H) (hy : ∀ i ys H x H', Pv i ys H → i < n → J.IQ i H x H' → H' = H ∧ x = at_ i)
  (hD : ∀ i ys H, Pv i ys H → H D = some (.lst ys) ∧ ys.length ≤ i)
  (hs : ∀ i ys H, i < n → Pv i ys H → tt (bT σ (some (at_ i)) aJ) H fun b H2 =>
   if b = true then te (bT σ (some (at_ i)) aJ) H2 fun y H3 => H3 D = some (.lst ys) ∧ Pv (i + 1) (ys ++ [y]) (upd H3 D (.lst (ys ++ [y])))
   else Pv (i + 1) ys H2)
  (hd : ∀ ys H, Pv n ys H → Q (.ref D) H) : jU tt te aJ σ Q J H1 D := by
 refine ⟨fun i m ys H => m = n - i ∧ i ≤ n ∧ Pv i ys H, ⟨n, by simp, aaX _, h0⟩, ?_⟩
 rintro i m ys H ⟨rfl, hi, p⟩
 obtain ⟨Jd, hl⟩ := hD i ys H p
 refine ⟨Jd, by omega, ?_⟩
 by_cases fF : i < n
 ·refine .inr ⟨Co i ys H p fF, Pv (i + 1), fun zs H' q => ⟨n - (i + 1), by omega, rfl, fF, q⟩, fun x H' y => ?_⟩
  obtain ⟨e, e'⟩ := hy i ys H x H' p fF y
  subst e e'
  exact hs i ys _ fF p
 ·have e : i = n := by omega
  subst e
  exact .inl ⟨hst ys H p, hd ys H p⟩
theorem fI {lo : Int} {n : Nat} {D : aac} (hn : n < Z2) (Pv : Nat → List V → Hp → Prop) (h0 : Pv 0 [] (upd H1 D (.lst [])))
  (hD : ∀ i ys H, Pv i ys H → H D = some (.lst ys) ∧ ys.length ≤ i)
  (hs : ∀ i ys H, i < n → Pv i ys H → tt (bT σ (some (.int (lo + i))) aJ) H fun b H2 =>
   if b = true then te (bT σ (some (.int (lo + i))) aJ) H2 fun y H3 => H3 D = some (.lst ys) ∧ Pv (i + 1) (ys ++ [y]) (upd H3 D (.lst (ys ++ [y])))
   else Pv (i + 1) ys H2)
  (hd : ∀ ys H, Pv n ys H → Q (.ref D) H) : jU tt te aJ σ Q (HV lo n) H1 D :=
 vb (J := HV lo n) (Q := Q) (D := D) (H1 := H1) n hn (fun i => .int (lo + i)) Pv h0 (fun _ _ _ => Z0 _) (fun _ _ _ _ h => h) (fun _ _ _ _ _ _ _ y => y) hD hs hd
theorem ig {K : ZQ} {a : aac} {xs : List V} {D : aac} (hn : xs.length < Z2) (Pv : Nat → List V → Hp → Prop) (h0 : Pv 0 [] (upd H1 D (.lst [])))
  (hl : ∀ i ys H, Pv i ys H → aC K H a xs) (hD : ∀ i ys H, Pv i ys H → H D = some (.lst ys) ∧ ys.length ≤ i)
  (hs : ∀ i ys H, i < xs.length → Pv i ys H → tt (bT σ (some (xs.getD i .bB)) aJ) H fun b H2 =>
   if b = true then te (bT σ (some (xs.getD i .bB)) aJ) H2 fun y H3 => H3 D = some (.lst ys) ∧ Pv (i + 1) (ys ++ [y]) (upd H3 D (.lst (ys ++ [y])))
   else Pv (i + 1) ys H2)
  (hd : ∀ ys H, Pv xs.length ys H → Q (.ref D) H) : jU tt te aJ σ Q (DK K a) H1 D :=
 vb (J := DK K a) (Q := Q) (D := D) (H1 := H1) xs.length hn (fun i => xs.getD i .bB) Pv h0 (fun ys H p => ⟨xs, hl _ ys H p, Z0 _⟩)
  (fun i ys H p h => ⟨xs, xs[i], hl i ys H p, by simp [h]⟩) (fun i ys H x H' p h y => ⟨y.1, by
   have z := y.2 xs (hl i ys H p)
   rw [Gd9, z] <;> rfl⟩) hD hs hd
end
section
variable {X : Cx} {tg : Expr}
end
section
variable {X : Cx}
theorem qi {zs : List Str} : ∀ {us : List ZS}, Vals (zs.map V.str) us → StrsAre us zs := by
 induction zs with
 | nil => intro us r; rw [abO] at r; cases r; exact .nil
 | cons z zs ih =>
  intro us r
  rw [aap] at r
  cases r with
  | cons r1 r2 =>
   obtain ⟨t, e⟩ := r1
   subst e
   exact .cons z t (ih r2)
def rJoin (K : ZQ) : V → List V → Hp → VK → Prop := fun x vs H Q => ∃ sep l zs, x = .str sep ∧ vs = [.ref l] ∧ (aC K H l (zs.map V.str) ∨ aK K H l (zs.map V.str)) ∧ (zs.map (·.length)).sum + zs.length * sep.length ≤ 16777216 ∧ Q (.str (ad7 sep zs)) H
theorem cT : Mm X "str.join" (rJoin X.K) := by
 intro pins s σ H x vs v us Q I rx rv h
 obtain ⟨sep, l, zs, rfl, rfl, hq, hz, q⟩ := h
 obtain ⟨t, rfl⟩ := rx
 obtain ⟨u, rfl, ru⟩ := vals1 rv
 cases ru
 rcases hq with hq | hq
 ·obtain ⟨its, r', pl, _⟩ := I.list hq
  exact join_list (items := its.toArray) pl.isList (qi r') hz fun t' k => ⟨.str _, H, I.tok _, ⟨t', rfl⟩, q⟩
 ·obtain ⟨its, r', pl, _⟩ := I.tuple hq
  exact join_tuple (items := its.toArray) pl (qi r') hz fun t' k => ⟨.str _, H, I.tok _, ⟨t', rfl⟩, q⟩
theorem oO : cK X (.builtin "isinstance") (fun xs H Q => ∃ (x : V) (n : String) (t : ZS) (b : Bool), xs = [x, .ty n] ∧ oj X.K H x t ∧ acj X.K t (.type n) = some b ∧ Q (.bl b) H) := by
 intro pins s σ H xs us Q I r h
 obtain ⟨x, n, t, b, rfl, ty, e, q⟩ := h
 obtain ⟨u, u2, rfl, rx, ru⟩ := vals2 r
 have e2 : u2 = acS n := ru
 subst e2
 exact Cf I rx ty e fun tk => ⟨.bl b, H, I.tok _, rfl, q⟩
end
end L2
namespace L2
open PySem PySem.Spec PyProof.Rows
section
variable {X : Cx}
def Rh : V → Option Int → Option Int → Hp → VK → Prop := fun x lo hi H Q => ∃ z, x = .str z ∧ z.length ≤ Z2 ∧ Q (.str (adz z lo hi)) H
theorem part_of {v : ZS} {o : Option Int} (p : IsPart v o) : ∃ q : Option (Int × Tok), v = partValue q ∧ q.map (·.1) = o := by
 cases p with
 | none => exact ⟨none, rfl, rfl⟩
 | int i t => exact ⟨some (i, t), rfl, rfl⟩
theorem vc : Q2 X Rh := by
 intro pins s σ H x v vl vu lo hi sl Q I rx hs pl pu h
 obtain ⟨z, rfl, hz, q⟩ := h
 obtain ⟨t, rfl⟩ := rx
 obtain ⟨ql, rfl, el⟩ := part_of pl
 obtain ⟨qu, rfl, eu⟩ := part_of pu
 refine ⟨"str", _, F.slot_str_getitem.lookup, typeIs_str _ _ _, wpAny_getItem_str_slice (l := ql) (u := qu) (st := none) hs rfl ?_⟩
 have e : sliceMade z t ql qu none = if ((1 : Int) == 1 && (adA lo hi 1 z.length).length == z.length) = true then .val (.str z t) else .str ⟨((adA lo hi 1 z.length).filterMap (z.cps[·]?)).toArray⟩ := by
  unfold sliceMade slicePicked
  rw [el, eu]
  rfl
 rw [e]
 exact post_val_or_str ⟨aaM (Txt.slice_le z lo hi) hz, fun t' k => ⟨.str (adz z lo hi), H, I.tok _, ⟨t', rfl⟩, q⟩⟩
theorem DZ {z : Str} {j : Int} (h0 : 0 ≤ j) (h1 : j ≤ z.length) : (adz z none (some j)).cps.toList = z.cps.toList.take j.toNat := by
 have e := eq_of_beq (slice_closes_toL (x := z) h0 h1)
 rw [e]
 simp
theorem Cp {z : Str} {i j : Int} (h0 : 0 ≤ i) (h1 : i ≤ j) (h2 : j ≤ z.length) : (adz z (some i) (some j)).cps.toList = (z.cps.toList.drop i.toNat).take (j - i).toNat := by
 have e := eq_of_beq (slice_closesL (x := z) h0 h1 h2)
 rw [e]
end
inductive Dt where
 | bB | bl (b : Bool) | int (i : Int) | str (x : Str) | tup (ds : List Dt)
 deriving Inhabited
inductive cC (K : ZQ) (H : Hp) : Dt → V → Prop
 | bB : cC K H .bB .bB
 | bl (b : Bool) : cC K H (.bl b) (.bl b)
 | int (i : Int) : cC K H (.int i) (.int i)
 | str (x : Str) : cC K H (.str x) (.str x)
 | tup {ds : List Dt} {xs : List V} {a : aac} (h : aK K H a xs) (l : ds.length = xs.length) (r : ∀ (i : Nat) (h1 : i < ds.length) (h2 : i < xs.length), cC K H ds[i] xs[i]) : cC K H (.tup ds) (.ref a)
mutual
def Dt.deep : Dt → Nat
 | .tup ds => Dt.bU ds + 1
 | _ => 0
def Dt.bU : List Dt → Nat
 | [] => 0
 | d :: r => max (Dt.deep d) (Dt.bU r)
end
theorem cz : ∀ {ds : List Dt} {i : Nat} (h : i < ds.length), (ds[i]).deep ≤ Dt.bU ds
 | d :: r, 0, _ => by
  show d.deep ≤ max (Dt.deep d) (Dt.bU r)
  omega
 | d :: r, i + 1, h => by
  have z := cz (ds := r) (i := i) (by simpa using h)
  show (r[i]'(by simpa using h)).deep ≤ max (Dt.deep d) (Dt.bU r)
  omega
mutual
def oq : Dt → Dt → Bool
 | .bB, .bB => true
 | .bl a, .bl b => a == b
 | .bl a, .int b => (if a then 1 else 0) == b
 | .int a, .bl b => a == (if b then 1 else 0)
 | .int a, .int b => a == b
 | .str a, .str b => a == b
 | .tup a, .tup b => lP a b
 | _, _ => false
def lP : List Dt → List Dt → Bool
 | [], [] => true
 | a :: r, b :: q => oq a b && lP r q
 | _, _ => false
end
theorem iM : ∀ (a b : List Dt), ((aaz (min a.length b.length)).all (fun i => oq (a.getD i .bB) (b.getD i .bB)) && a.length == b.length) = lP a b
 | [], [] => by unfold lP; rfl
 | [], b :: q => by unfold lP; simp
 | a :: r, [] => by unfold lP; simp
 | a :: r, b :: q => by
  have ih := iM r q
  rw [lP, ← ih]
  have e : min (a :: r).length (b :: q).length = min r.length q.length + 1 := by simp only [aal]; omega
  rw [e, aep, ads, List.all_map]
  have e2 : ((a :: r).length == (b :: q).length) = (r.length == q.length) := by simp
  rw [e2, Bool.and_assoc]
  rfl
theorem xA {K : ZQ} {H : Hp} {X : Cx} {pins : List (aac × Obj)} {σ : St} {s : ZU} (I : Inv X pins σ H s) (hK : X.K = K) :
  ∀ (n : Nat) {d e : Dt} {x : V}, d.deep ≤ n → cC K H d x → cC K H e x → oq d e = true := by
 subst hK
 intro n
 induction n with
 | zero =>
  intro d e x hd h1 h2
  cases h1 with
  | bB => cases h2; rfl
  | bl a => cases h2; show (a == a) = true; exact beq_self_eq_true a
  | int a => cases h2; show (a == a) = true; exact beq_self_eq_true a
  | str a => cases h2; show (a == a) = true; exact beq_self_eq_true a
  | tup h l r => exact absurd hd (by simp [Dt.deep])
 | succ n ih =>
  intro d e x hd h1 h2
  cases h1 with
  | @tup ds xs a h l r =>
   cases h2 with
   | @tup es ys b h' l' r' =>
    have hx : xs = ys := I.oi h h'
    subst hx
    show lP ds es = true
    rw [← iM, aaE, abg]
    refine ⟨fun j hj => ?_, by rw [l, l']; simp⟩
    have hj' := aaT.mp hj
    have g1 : ds.getD j .bB = ds[j]'(by omega) := by simp [Gd9, (show j < ds.length by omega)]
    have g2 : es.getD j .bB = es[j]'(by omega) := by simp [Gd9, (show j < es.length by omega)]
    rw [g1, g2]
    refine ih ?_ (r j (by omega) (by omega)) (r' j (by omega) (by omega))
    have z := cz (ds := ds) (i := j) (by omega)
    have hd' : Dt.bU ds + 1 ≤ n + 1 := hd
    omega
  | bB => exact ih (by simp [Dt.deep]) .bB h2
  | bl a => exact ih (by simp [Dt.deep]) (.bl a) h2
  | int a => exact ih (by simp [Dt.deep]) (.int a) h2
  | str a => exact ih (by simp [Dt.deep]) (.str a) h2
theorem jV {K : ZQ} {H : Hp} {X : Cx} {pins : List (aac × Obj)} {σ : St} {s : ZU} (I : Inv X pins σ H s) (hK : X.K = K) :
  ∀ (n : Nat) (A : aaA) {d e : Dt} {x y : V} {u v : ZS}, d.deep ≤ n → A.units + n < cLine → cC K H d x → cC K H e y → RelV x u → RelV y v → abw A s u v (oq d e) := by
 subst hK
 intro n
 induction n with
 | zero =>
  intro A d e x y u v hd hu h1 h2 ru rv
  cases h1 with
  | bB =>
   cases ru
   cases h2 with
   | bB => cases rv; exact ady _
   | bl b => cases rv; exact aeK b
   | int b => obtain ⟨t, rfl⟩ := rv; exact aeV b t
   | str b => obtain ⟨t, rfl⟩ := rv; exact aeW b t
   | tup h l r => cases rv; obtain ⟨its, _, p, _⟩ := I.tuple h; exact SeqAt.EqAt.none_tuple p (by omega)
  | bl a =>
   cases ru
   cases h2 with
   | bB => cases rv; exact aeL a
   | bl b => cases rv; exact aeM a b
   | int b => obtain ⟨t, rfl⟩ := rv; exact aeX a b t
   | str b => obtain ⟨t, rfl⟩ := rv; exact aeY a b t
   | tup h l r => cases rv; obtain ⟨its, _, p, _⟩ := I.tuple h; exact SeqAt.EqAt.bool_tuple a p (by omega)
  | int a =>
   obtain ⟨t', rfl⟩ := ru
   cases h2 with
   | bB => cases rv; exact aeZ a t'
   | bl b => cases rv; exact ae0 a t' b
   | int b => obtain ⟨t, rfl⟩ := rv; exact ae9 a t' b t
   | str b => obtain ⟨t, rfl⟩ := rv; exact adM a t' b t
   | tup h l r => cases rv; obtain ⟨its, _, p, _⟩ := I.tuple h; exact SeqAt.EqAt.int_tuple a t' p (by omega)
  | str a =>
   obtain ⟨t', rfl⟩ := ru
   cases h2 with
   | bB => cases rv; exact ae1 a t'
   | bl b => cases rv; exact ae2 a t' b
   | int b => obtain ⟨t, rfl⟩ := rv; exact adN a t' b t
   | str b => obtain ⟨t, rfl⟩ := rv; exact afa a t' b t
   | tup h l r => cases rv; obtain ⟨its, _, p, _⟩ := I.tuple h; exact SeqAt.EqAt.str_tuple a t' p (by omega)
  | tup h l r => exact absurd hd (by simp [Dt.deep])
 | succ n ih =>
  intro A d e x y u v hd hu h1 h2 ru rv
  cases h1 with
  | @tup ds xs a h l r =>
   cases ru
   obtain ⟨its, r1, p1, _⟩ := I.tuple h
   cases h2 with
   | bB => cases rv; exact SeqAt.EqAt.tuple_none p1 (by omega)
   | bl b => cases rv; exact SeqAt.EqAt.tuple_bool b p1 (by omega)
   | int b => obtain ⟨t, rfl⟩ := rv; exact SeqAt.EqAt.tuple_int b t p1 (by omega)
   | str b => obtain ⟨t, rfl⟩ := rv; exact SeqAt.EqAt.tuple_str b t p1 (by omega)
   | @tup es ys b h' l' r' =>
    cases rv
    obtain ⟨bM, r2, p2, _⟩ := I.tuple h'
    have sy := r1.length
    have sP := r2.length
    have key : SeqAt.RcAt A s (.ref a) (.ref b) ((aaz (min its.toArray.size bM.toArray.size)).all (fun i => oq (ds.getD i .bB) (es.getD i .bB)) && its.toArray.size == bM.toArray.size) := by
     refine SeqAt.RcAt.tuples p1 p2 (by omega) fun j j1 j2 => ?_
     have PQ : j < its.length := by simpa using j1
     have PR : j < bM.length := by simpa using j2
     have hx := r j (by omega) (by omega)
     have hy := r' j (by omega) (by omega)
     obtain ⟨u1, e1, q1⟩ := r1.get (i := j) (x := xs[j]) (by simp)
     obtain ⟨u2, e2, q2⟩ := r2.get (i := j) (x := ys[j]) (by simp)
     have c1 : its.toArray[j] = u1 := by
      have z := ZZ.mp e1
      simpa using z.2
     have c2 : bM.toArray[j] = u2 := by
      have z := ZZ.mp e2
      simpa using z.2
     rw [c1, c2]
     have g1 : ds.getD j .bB = ds[j] := by simp [Gd9, (show j < ds.length by omega)]
     have g2 : es.getD j .bB = es[j] := by simp [Gd9, (show j < es.length by omega)]
     rw [g1, g2]
     refine ih A.in1 ?_ (by show A.units + 1 + n < cLine; omega) hx hy q1 q2
     have z := cz (ds := ds) (i := j) (by omega)
     have hd' : Dt.bU ds + 1 ≤ n + 1 := hd
     omega
    have e0 : ((aaz (min its.toArray.size bM.toArray.size)).all (fun i => oq (ds.getD i .bB) (es.getD i .bB)) && its.toArray.size == bM.toArray.size) = oq (.tup ds) (.tup es) := by
     rw [aag, aag, ← sy, ← sP, ← l, ← l']
     rw [iM]
     rfl
    rw [e0] at key
    by_cases hab : a = b
    ·subst hab
     have hx : xs = ys := I.oi h h'
     subst hx
     have ed : oq (.tup ds) (.tup es) = true := xA I rfl (n + 1) hd (.tup h l r) (.tup h' l' r')
     rw [ed]
     exact ady _
    ·exact afd hab key
  | bB => exact ih A (by simp [Dt.deep]) (by omega) .bB h2 ru rv
  | bl a => exact ih A (by simp [Dt.deep]) (by omega) (.bl a) h2 ru rv
  | int a => exact ih A (by simp [Dt.deep]) (by omega) (.int a) h2 ru rv
  | str a => exact ih A (by simp [Dt.deep]) (by omega) (.str a) h2 ru rv
def Rj (K : ZQ) : R2 := fun x y H Q => ∃ d e, cC K H d x ∧ cC K H e y ∧ d.deep ≤ 20 ∧ (∃ ds, d = .tup ds) ∧ (∃ es, e = .tup es) ∧ Q (.bl (oq d e)) H
theorem Je {X : Cx} (hu : X.A.units + 64 < cLine) : pT X (compareOp .Eq) (Rj X.K) := by
 intro pins s σ H x y v u Q I rx ry h
 obtain ⟨d, e, h1, h2, hd, ⟨ds, rfl⟩, ⟨es, rfl⟩, q⟩ := h
 cases h1 with
 | @tup _ xs a g1 l1 r1 =>
  cases h2 with
  | @tup _ ys b g2 l2 r2 =>
   cases rx
   cases ry
   obtain ⟨its, uj, p1, _⟩ := I.tuple g1
   obtain ⟨bM, um, p2, _⟩ := I.tuple g2
   have sy := uj.length
   have sP := um.length
   refine SeqAt.eq_tupleAt (e := fun i => oq (ds.getD i .bB) (es.getD i .bB)) p1 p2 (by omega) (fun j j1 j2 => ?_) ?_
   ·have PQ : j < its.length := by simpa using j1
    have PR : j < bM.length := by simpa using j2
    obtain ⟨u1, e1, q1⟩ := uj.get (i := j) (x := xs[j]) (by simp)
    obtain ⟨u2, e2, q2⟩ := um.get (i := j) (x := ys[j]) (by simp)
    have c1 : its.toArray[j] = u1 := by
     have z := ZZ.mp e1
     simpa using z.2
    have c2 : bM.toArray[j] = u2 := by
     have z := ZZ.mp e2
     simpa using z.2
    rw [c1, c2]
    have g1 : ds.getD j .bB = ds[j] := by simp [Gd9, (show j < ds.length by omega)]
    have g2 : es.getD j .bB = es[j] := by simp [Gd9, (show j < es.length by omega)]
    rw [g1, g2]
    refine jV I rfl 20 X.A.in1 ?_ (by show X.A.units + 1 + 20 < cLine; omega) (r1 j (by omega) (by omega)) (r2 j (by omega) (by omega)) q1 q2
    have z := cz (ds := ds) (i := j) (by omega)
    have hd' : Dt.bU ds + 1 ≤ 20 := hd
    omega
   ·refine ⟨.bl _, H, I, rfl, ?_⟩
    rw [aag, aag, ← sy, ← sP, ← l1, ← l2, iM]
    exact q
theorem cC.mono {K : ZQ} {H H' : Hp} (e : ∀ a xs, aK K H a xs → aK K H' a xs) {d : Dt} {x : V} (h : cC K H d x) : cC K H' d x := by
 induction h with
 | bB => exact .bB
 | bl b => exact .bl b
 | int i => exact .int i
 | str z => exact .str z
 | tup h l r ih => exact .tup (e _ _ h) l ih
theorem aK.same {K : ZQ} {H H' : Hp} (e : af H H') {a : aac} {xs : List V} (h : aK K H a xs) : aK K H' a xs := by
 rcases h with (h | ⟨o, h⟩) | h
 ·exact .inl (.inl (e _ _ h))
 ·exact .inl (.inr ⟨o, e _ _ h⟩)
 ·exact .inr h
theorem cC.same {K : ZQ} {H H' : Hp} (e : af H H') {d : Dt} {x : V} (h : cC K H d x) : cC K H' d x := h.mono fun _ _ q => q.same e
end L2
namespace L2
open PySem PySem.Spec PyProof.Rows
structure Rk (P : aao) (w : aaO) (outer : List Env) (H : Hp) (s : ZU) (x : aac) (cls : ZS) (H' : Hp) (s' : ZU) : Prop where
 os : s'.os = s.os
 bare : AllBare s'.gens
 ex : ∃ (B : Heap) (a0 : ZS), afu B outer x cls a0 s'.heap ∧ jO P w H' B ∧ (∀ b o, s.heap.get? b = some o → H b = none → b ∉ gh outer → B.get? b = some o) ∧
  (∀ b o, s.heap.get? b = some o → b ∉ gh outer → ∃ o', B.get? b = some o')
 slot : ∀ b o, s.heap.get? b = some o → H b = none → b ∈ gh outer → ∃ sl, s'.heap.get? b = some { o with slots := sl }
 free : ∀ b o, s.heap.get? b = some o → H b = none → H' b = none
 jQ : ∀ b xs, H b = some (.tup xs) → H' b = some (.tup xs)
 jL : ∀ b o u, H b = some (.lO o u) → H' b = some (.lO o u)
 jR : ∀ b ps, H b = some (.F7 ps) → ∃ more, H' b = some (.F7 (ps ++ more))
def zm (P : aao) (w : aaO) : Dr := fun outer H s E e s' => ∃ (x : aac) (cls : ZS) (H' : Hp), e = .ref x ∧ Rk P w outer H s x cls H' s' ∧ E cls none H'
section
variable {P : aao} {w : aaO} {K : ZQ} {mg : Str → Option ZS} {base : Heap} {N : List Str} {qual : Str} {scope : Scope} {f : aac} {cd : ZS} {A : aaA} {outer : List Env} {s₀ : ZU} {H₀ : Hp} {E : XK}
abbrev iG (P : aao) (w : aaO) (K : ZQ) (mg : Str → Option ZS) (base : Heap) (N : List Str) (qual : Str) (scope : Scope) (f : aac) (cd : ZS) (A : aaA) (outer : List Env) (s : ZU) (H : Hp) (E : XK) : Cx :=
 zD (zm P w) P w K mg base N qual scope f cd A outer s H E
theorem qj (env : Env) (l : List Env) {a : aac} (h : env.frame = some a) : gh (env :: l) = a :: gh l := by
 unfold gh
 rw [abU, h]
theorem xB {h h' : Heap} {l : List Env} {B : Heap} (sm : h.UpToSlots h') (fl : h.FunFrames B l) {b : aac} {o : Obj} (hb : b ∈ gh l) (e : h.get? b = some o) : ∃ sl, h'.get? b = some { o with slots := sl } := by
 obtain ⟨_, o', e', hd⟩ := fl.mem hb
 rw [e] at e'
 cases e'
 exact sm b o e hd
theorem Mw : Passes (zm P w) (iG P w K mg base N qual scope f cd A outer s₀ H₀ E) E := by
 intro pins σ H s e s' I h
 obtain ⟨x, cls, H', rfl, F, hE⟩ := h
 obtain ⟨B, a0, fl, hok, kp, th⟩ := F.ex
 have zj : (iG P w K mg base N qual scope f cd A outer s₀ H₀ E).env.frame = some s₀.heap.objs.size := rfl
 have st : gh (iG P w K mg base N qual scope f cd A outer s₀ H₀ E).stack = s₀.heap.objs.size :: gh outer := qj _ _ zj
 have old : ∀ b o, s₀.heap.get? b = some o → b ∉ gh outer → b ∉ gh (iG P w K mg base N qual scope f cd A outer s₀ H₀ E).stack := fun b o q hb hm => by
  rw [st] at hm
  rcases aai.mp hm with z | z
  ·exact aam (aab q) z
  ·exact hb z
 refine wpAny_leaves_onW (L := s₀.heap.objs.size) I.ok.frames zj fl fun h1 Wx Rm => ?_
 refine ⟨x, cls, H', rfl, ⟨F.os.trans I.os, F.bare, ⟨B, a0, Wx, hok, fun b o q n hb => ?_, fun b o q hb => ?_⟩, fun b o q n hb => ?_, fun b o q n => ?_, fun b xs q => F.jQ b xs (I.base.jQ b xs q), fun b o u q => F.jL b o u (I.base.jL b o u q), fun b ps q => ?_⟩, hE⟩
 ·exact kp b o (I.base.keep b o q n hb (by intro z; cases z)) (I.base.free b o q n (by intro z; cases z)) (old b o q hb)
 ·obtain ⟨o', q'⟩ := I.base.there b o q (by intro z; cases z)
  exact th b o' q' (old b o q hb)
 ·obtain ⟨sl, q1⟩ := I.base.slot b o q n hb (by intro z; cases z)
  obtain ⟨F9, q2⟩ := F.slot b _ q1 (I.base.free b o q n (by intro z; cases z)) (by rw [st]; exact Z9 _ hb)
  obtain ⟨Mx, q3⟩ := xB (l := (iG P w K mg base N qual scope f cd A outer s₀ H₀ E).stack) Rm fl.2.2.1 (by rw [st]; exact Z9 _ hb) q2
  exact ⟨Mx, q3⟩
 ·obtain ⟨o', q'⟩ := I.base.there b o q (by intro z; cases z)
  exact F.free b o' q' (I.base.free b o q n (by intro z; cases z))
 ·obtain ⟨m1, e1⟩ := I.base.jR b ps q
  obtain ⟨m2, e2⟩ := F.jR b _ e1
  exact ⟨m1 ++ m2, by rw [e2, acZ]⟩
theorem xC {pins : List (aac × Obj)} {σ : St} {H : Hp} {s : ZU} {h1 : Heap} {e : aac} {cls : ZS} {vs : List ZS} (I : Inv (iG P w K mg base N qual scope f cd A outer s₀ H₀ E) pins σ H s) (hx : Heap.MadeExcOf s.heap h1 e cls vs) (hE : E cls none H) :
  (iG P w K mg base N qual scope f cd A outer s₀ H₀ E).xe (.ref e) { s with heap := h1 } := by
 have zj : (iG P w K mg base N qual scope f cd A outer s₀ H₀ E).env.frame = some s₀.heap.objs.size := rfl
 have st : gh (iG P w K mg base N qual scope f cd A outer s₀ H₀ E).stack = s₀.heap.objs.size :: gh outer := qj _ _ zj
 have old : ∀ b o, s₀.heap.get? b = some o → b ∉ gh outer → b ∉ gh (iG P w K mg base N qual scope f cd A outer s₀ H₀ E).stack := fun b o q hb hm => by
  rw [st] at hm
  rcases aai.mp hm with z | z
  ·exact aam (aab q) z
  ·exact hb z
 have LC : ∀ env ∈ (iG P w K mg base N qual scope f cd A outer s₀ H₀ E).stack, ∀ b, env.frame = some b → b ∈ gh (iG P w K mg base N qual scope f cd A outer s₀ H₀ E).stack := fun env he b hb => ac1.mpr ⟨env, he, hb⟩
 have hB : (ac0 s.heap (gh (iG P w K mg base N qual scope f cd A outer s₀ H₀ E).stack)).StaysIn s.heap := fun b o q => ae6 _ q
 have get : ∀ b o, s.heap.get? b = some o → b ∉ gh (iG P w K mg base N qual scope f cd A outer s₀ H₀ E).stack → (ac0 s.heap (gh (iG P w K mg base N qual scope f cd A outer s₀ H₀ E).stack)).get? b = some o := fun b o q hb => aeU _ q hb
 refine wpAny_leaves_madeW (base := ac0 s.heap (gh (iG P w K mg base N qual scope f cd A outer s₀ H₀ E).stack)) (h := s.heap) (L := s₀.heap.objs.size) I.ok.frames zj hB (PySem.W.funFrames_hide I.stack LC) hx fun h2 t fl ht hn sm => ?_
 have hok : jO P w H (ac0 s.heap (gh (iG P w K mg base N qual scope f cd A outer s₀ H₀ E).stack)) := fun b o q => by
  refine (I.hok b o q).zy (fun c u hc r => get c u r fun hm => ?_) (fun _ r => r) fun _ _ r => r
  have z := I.uX c hm
  rcases hc with rfl | hc
  ·rw [q] at z; cases z
  ·rw [hc] at z; cases z
 refine ⟨e, cls, H, rfl, ⟨I.os, I.bare, ⟨_, _, fl, hok, fun b o q n hb => ?_, fun b o q hb => ?_⟩, fun b o q n hb => ?_, fun b o q n => I.base.free b o q n (by intro z; cases z), I.base.jQ, I.base.jL, I.base.jR⟩, hE⟩
 ·exact get b o (I.base.keep b o q n hb (by intro z; cases z)) (old b o q hb)
 ·obtain ⟨o', q'⟩ := I.base.there b o q (by intro z; cases z)
  exact ⟨o', get b o' q' (old b o q hb)⟩
 ·obtain ⟨sl, q1⟩ := I.base.slot b o q n hb (by intro z; cases z)
  have q2 := hx.keeps b _ q1
  have UD : b ∈ gh (iG P w K mg base N qual scope f cd A outer s₀ H₀ E).stack := by rw [st]; exact Z9 _ hb
  obtain ⟨_, o3, e3, hd⟩ := I.stack.mem UD
  rw [q1] at e3
  cases e3
  obtain ⟨Mx, q3⟩ := sm b _ q2 hd
  exact ⟨Mx, q3⟩
end
theorem Jf {K : ZQ} {h : Heap} {C : aac} {UE : List ZS} {newId : String} (X : K.In h) (q : abX K C UE newId = true) :
  ∃ (bm : List ZS) (Nn : aac) (n1 n2 : Str) (bs : List ZS) (hd : Bool) (sn : List Str) (sub : List ZS) (ab : Bool) (col : Option Bool) (dd : Option aac) (k0 k1 k2 k3 k5 : Option ZS) (mN : Str → Option ZS),
   h.get? C = some (excClassObj n1 n2 C Nn bs bm hd sn sub ab col dd k0 k1 k2 k3 k5 newId) ∧ h.Ns Nn mN ∧ mN "__init__" = none ∧ OwnTail h UE bm := by
 unfold abX at q
 split at q
 ·rename_i dd Rn sl look
  split at q
  ·rename_i C1 bm k0 k1 k2 k3 nn k5 My Wy
   simp only [aaE, beq_iff_eq, Bool.not_eq_true'] at q
   obtain ⟨⟨⟨⟨⟨q1, q2⟩, q3⟩, q4⟩, q5⟩, q6⟩ := q
   subst q1
   subst q2
   obtain ⟨c1, c2, c3, c4, c5, c6, c7, c8, c9, Wz, Zf⟩ := Rn
   dsimp only at My q3 q5 q6
   subst My
   subst q3
   obtain ⟨WA⟩ := sl
   have es : WA = [k0, k1, k2, k3, some (.builtin nn), k5] := Wy
   subst es
   exact ⟨bm, c4, c1, c5, c2, c6, c7, c8, c9, Wz, dd, k0, k1, k2, k3, k5, _, X _ _ look, .of_isNs (PySem.W.isNs_of_in X q5), PySem.W.nsMap_none_of_in X q5 q6, PySem.W.tail_of_in X q4⟩
  ·cases q
 ·cases q
abbrev Jg : List ZS := [.type "ValueError", .type "Exception", .type "BaseException", .type "object"]
abbrev zK : String := "ValueError.__new__"
section
variable {P : aao} {w : aaO} {K : ZQ} {mg : Str → Option ZS} {base : Heap} {N : List Str} {qual : Str} {scope : Scope} {f : aac} {cd : ZS} {A : aaA} {outer : List Env} {s₀ : ZU} {H₀ : Hp} {E : XK}
def Jh (C : aac) (E : XK) (ta : TA) : TS := fun _ σ H => ta σ H fun vs H1 => vs.length ≤ Z2 ∧ E (.ref C) none H1
theorem qk {C : aac} {x : Str} {np cpos pos : Pos} {e : Expr} {es : List Expr} {t : TA} (ex : abX K C Jg zK = true) (hm : mg x = some (.ref C)) (hg : Gl (iG P w K mg base N qual scope f cd A outer s₀ H₀ E) x)
  (ha : PA (iG P w K mg base N qual scope f cd A outer s₀ H₀ E) (e :: es) t) (xr : (x == ("__debug__" : Str)) = false := by decide)
  (he : starEach (e :: es) (iG P w K mg base N qual scope f cd A outer s₀ H₀ E).env = (false, eval e (iG P w K mg base N qual scope f cd A outer s₀ H₀ E).env) :: starEach es (iG P w K mg base N qual scope f cd A outer s₀ H₀ E).env := by rfl)
  (hpl : (backTo cpos (starEach es (iG P w K mg base N qual scope f cd A outer s₀ H₀ E).env)).any (·.1) = false := by rfl) :
  PS (iG P w K mg base N qual scope f cd A outer s₀ H₀ E) (.Raise (some (.Call (.Name x np) (e :: es) [] cpos)) none pos) (Jh C E t) := by
 intro pins s σ H D I h
 obtain ⟨bm, Nn, n1, n2, bs, hd, sn, sub, ab, col, dd, k0, k1, k2, k3, k5, mN, gC, gN, gi, gT⟩ := Jf I.mod.L1 ex
 refine wpAny_Raise_call_subU (C := C) (nm := n1) (q := n2) (N := Nn) (bs := bs) (bm := bm) (hdct := hd) (sn := sn) (sub := sub) (ab := ab) (col := col) (dd := dd) (k0 := k0) (k1 := k1) (k2 := k2) (k3 := k3) (k5 := k5) (mN := mN)
  adI (by decide +kernel) adI (gT.hasType (by decide +kernel)) (I.ok.hd rfl) (by rw [he]; show (false || (backTo cpos (starEach es (iG P w K mg base N qual scope f cd A outer s₀ H₀ E).env)).any (·.1)) = false; rw [hpl]; rfl) gi (mR I hg hm ⟨rfl, ?_⟩ xr)
 have hA := ha cpos pins s σ H _ I h
 rw [he] at hA ⊢
 refine acH (cJ hA fun us s2 ⟨vs, H2, I2, r2, hz, q2⟩ => ⟨rfl, ?_, I2.bk _ _ gC, gN.keeps I2.bk, gT.keeps I2.bk, fun h' x' hx => xC I2 hx q2⟩)
 show us.length ≤ Z2
 rw [← r2.length]
 exact hz
theorem b6.Mz {x qual : Str} {st : Stmt} {f : aac} {fd : aa0} {N ps : List Str} {k : Nat} {sp : Sp} (F : b6 K x qual st f fd) (S : aB N ps (ar st)) (len : ∀ vs H Q E, sp vs H Q E → vs.length = ps.length)
  (mT : ∀ (c0 : ZS) (A : aaA) (outer : List Env) (s : ZU) (H : Hp) (vs : List V) (Q : VK) (E : XK), eJ k (A.deeper (envOfC qual (ar st) s.heap.objs.size f c0)) → sp vs H Q E →
   ∃ t, zi (iG P w K mg base N qual (ar st) f c0 A outer s H E) (gn st) t ∧ t { nx := fun _ H' => Q .bB H', rt := Q } (start N vs) H) : bD P w K mg base (zm P w) (k + 1) f fd ps sp := by
 obtain ⟨oc, od, kV, doc, pm, an, c0, ct, Gx, rfl, lk, hcd⟩ := F.ex
 refine HW lk hcd S len fun A outer s H vs Q E hr F8 => ?_
 exact mT c0 A outer s H vs Q E hr F8
theorem jW : PassesOwn (model P w) (iG P w K mg base N qual scope f cd A outer s₀ H₀ E).A (iG P w K mg base N qual scope f cd A outer s₀ H₀ E).env (iG P w K mg base N qual scope f cd A outer s₀ H₀ E).xe := by
 intro e s' h
 have z := PassesOwn.leaving (M := model P w) (A := (iG P w K mg base N qual scope f cd A outer s₀ H₀ E).A) (env := (iG P w K mg base N qual scope f cd A outer s₀ H₀ E).env) (Q₁ := fun e s'' => zm P w outer H₀ s₀ E e s'') (E₁ := fun e' s'' => zm P w outer H₀ s₀ E e' s'')
 exact z e s' h
end
theorem Inv.land {X : Cx} {pins fD : List (aac × Obj)} {σ : St} {H H' : Hp} {s s' : ZU} {h6 : Heap} {x : aac} {cls : ZS} (I : Inv X fD σ H s) (hp : ∀ p ∈ pins, p ∈ X.pn ++ fD) (hex : X.ex = []) (xo : ∀ y, X.fn y = true)
  (hst : X.stack = X.env :: X.outer ∧ X.env.frame = some X.env.locals) (F : Rk X.prog X.w X.stack H s x cls H' s') {B : Heap} {a0 : ZS} (fl : afu B X.stack x cls a0 s'.heap) (hok : jO X.prog X.w H' B)
  (kp : ∀ b o, s.heap.get? b = some o → H b = none → b ∉ gh X.stack → B.get? b = some o) (th : ∀ b o, s.heap.get? b = some o → b ∉ gh X.stack → ∃ o', B.get? b = some o') (sm : s'.heap.UpToSlots h6) (hB : B.StaysIn h6) :
  Inv X pins σ H' { s' with heap := h6 } := by
 have GI : gh X.stack = X.env.locals :: X.fs := by rw [hst.1]; exact qj _ _ hst.2
 have Zg : ∀ b : aac, b ∉ X.ex := fun b z => by rw [hex] at z; cases z
 have PU : ∀ b, b ≠ X.env.locals → b ∉ X.fs → b ∉ gh X.stack := fun b h1 h2 hm => by
  rw [GI] at hm
  rcases aai.mp hm with z | z
  ·exact h1 z
  ·exact h2 z
 have L3 : ∀ b o, X.s₀.heap.get? b = some o → b ≠ X.env.locals := fun b o e => aam (aaf (aab e) I.ok.above)
 have cnf : ∀ y c, X.env.cells.lookup y = some c → c ∉ X.fs := fun y c e hm => by
  obtain ⟨_, o, ho, _⟩ := I.ok.oh.mem hm
  exact absurd (aaf (aab ho) (I.ok.IF y c (xo y) e)) (abW _)
 have cellK : ∀ y c v, X.env.cells.lookup y = some c → s.heap.IsCell c v → h6.IsCell c v := fun y c v e ⟨o, ho, hd⟩ => ⟨o, hB _ _ (kp c o ho (I.gj y c e) (PU c (I.Gr y c e) (cnf y c e))), hd⟩
 refine ⟨I.ok, F.os.trans I.os, F.bare, ⟨fun b o e n hb hx => ?_, fun b o e n hb hx => ?_, fun b o e n hx => ?_, fun b o e hx => ?_, fun b xs e => F.jQ b xs (I.base.jQ b xs e), fun b o u e => F.jL b o u (I.base.jL b o u e), fun b ps e => ?_⟩, ?_, fun y c e => ?_, ?_, fun y c e => ?_, fun p WB => ?_, hok.kept hB, I.len⟩
 ·exact hB _ _ (kp b o (I.base.keep b o e n hb hx) (I.base.free b o e n hx) (PU b (L3 b o e) hb))
 ·obtain ⟨sl, e1⟩ := I.base.slot b o e n hb hx
  have hm : b ∈ gh X.stack := by rw [GI]; exact Z9 _ hb
  obtain ⟨F9, e2⟩ := F.slot b _ e1 (I.base.free b o e n hx) hm
  obtain ⟨Mx, e3⟩ := xB sm fl.2.2.1 hm e2
  exact ⟨Mx, e3⟩
 ·obtain ⟨o', e1⟩ := I.base.there b o e hx
  exact F.free b o' e1 (I.base.free b o e n hx)
 ·obtain ⟨o', e1⟩ := I.base.there b o e hx
  by_cases hb : b ∈ X.fs
  ·have hm : b ∈ gh X.stack := by rw [GI]; exact Z9 _ hb
   obtain ⟨_, o2, e2, hd⟩ := fl.2.2.1.mem hm
   obtain ⟨sl, e3⟩ := sm b o2 e2 hd
   exact ⟨_, e3⟩
  ·obtain ⟨o2, e2⟩ := th b o' e1 (PU b (L3 b o e) hb)
   exact ⟨o2, hB _ _ e2⟩
 ·obtain ⟨m1, e1⟩ := I.base.jR b ps e
  obtain ⟨m2, e2⟩ := F.jR b _ e1
  exact ⟨m1 ++ m2, by rw [e2, acZ]⟩
 ·obtain ⟨m, hn, hl⟩ := I.loc
  have hm : X.env.locals ∈ gh X.stack := by rw [GI]; exact Z5
  have Bf : s'.heap.Ns X.env.locals m := by
   obtain ⟨o, es, ep, ho, r⟩ := hn
   obtain ⟨sl, e⟩ := F.slot _ o ho I.free hm
   exact ⟨_, es, ep, e, r⟩
  refine ⟨m, sm.ns Bf, fun i y v e1 e2 e3 => ?_⟩
  obtain ⟨u, r, l⟩ := hl i y v e1 e2 e3
  refine ⟨u, r, ?_⟩
  rcases l with l | ⟨k, c, e, z⟩
  ·exact .inl l
  ·exact .inr ⟨k, c, e, cellK y c _ e z⟩
 ·obtain ⟨v, z⟩ := I.cell y c e
  exact ⟨v, cellK y c v e z⟩
 ·obtain ⟨m, ⟨o, _, _, ho, _⟩, _⟩ := I.loc
  exact F.free _ o ho I.free
 ·obtain ⟨v, o, ho, _⟩ := I.cell y c e
  exact F.free c o ho (I.gj y c e)
 ·have Ro : p ∈ X.pn ++ fD := (ZY.mp WB).elim (fun z => ab4 _ z) (hp p)
  obtain ⟨e, n, ne, nf, d⟩ := I.pin p Ro
  exact ⟨hB _ _ (kp p.1 p.2 e n (PU p.1 ne nf)), F.free p.1 p.2 e n, ne, nf, d⟩
theorem Cx.Ok.cx {X : Cx} (ok : X.Ok) {A' : aaA} {cm : Bool} {pn : List (aac × Obj)} {xe : ZS → ZU → Prop} (hf : A'.frames = X.A.frames) (hh : cm = true → A'.handled = none) :
  Cx.Ok { X with A := A', calm := cm, pn := pn, xe := xe } :=
 ⟨ok.mod, ok.kind, ok.glob, ok.blt, ok.above, ok.inj, ok.has, ok.IF, hh, hf.trans ok.frames, ok.A5, ok.QH, ok.bs, ok.Gq, ok.B7, ok.DF, ok.oh, ok.IG⟩
theorem Inv.cx {X : Cx} {pins fD : List (aac × Obj)} {σ : St} {H : Hp} {s : ZU} (I : Inv X pins σ H s) {A' : aaA} {cm : Bool} {pn : List (aac × Obj)} {xe : ZS → ZU → Prop} (hf : A'.frames = X.A.frames) (hh : cm = true → A'.handled = none)
  (hp : ∀ p ∈ pn ++ fD, p ∈ X.pn ++ pins) : Inv { X with A := A', calm := cm, pn := pn, xe := xe } fD σ H s :=
 ⟨I.ok.cx hf hh, I.os, I.bare, I.base, I.loc, I.cell, I.free, I.gj, fun p q => I.pin p (hp p q), I.hok, I.len⟩
abbrev Ji (X : Cx) (pn : List (aac × Obj)) : Cx := { X with pn := X.pn ++ pn }
abbrev m4 (X : Cx) (pn : List (aac × Obj)) (R : ZS → St → Hp → Prop) : Cx :=
 { X with pn := X.pn ++ pn, xe := fun e s' => ∃ (fD : List (aac × Obj)) (σ : St) (H : Hp) (s : ZU) (H' : Hp) (x : aac) (cls : ZS), Inv (Ji X pn) fD σ H s ∧ e = .ref x ∧ Rk X.prog X.w X.stack H s x cls H' s' ∧ R cls σ H' }
abbrev m5 (X : Cx) (x : aac) : Cx := { X with A := X.A.mark (some (.ref x)), calm := false, xe := fun _ _ => False }
section
variable {X : Cx} {k : Nat} {f C : aac} {fd : aa0} {ps : List Str} {sp : Sp} {xq : List V} {ds : List ZS} {x : Str} {p pos : Pos} {e : Expr} {es : List Expr} {t : TA} {pn : List (aac × Obj)} {R : ZS → St → Hp → Prop}
def D0 (sp : Sp) (xq : List V) (R : ZS → St → Hp → Prop) (t : TA) : TE := fun σ H Q => t σ H fun vs H1 => sp (vs ++ xq) H1 Q fun cls _ H' => R cls σ H'
theorem GJ {pins : List (aac × Obj)} {σ : St} {H : Hp} {s : ZU} {Q : VK} {us : List ZS} {vs : List V} (F : bD X.prog X.w X.K X.mg X.base (zm X.prog X.w) k f fd ps sp) (hr : eJ k X.A) (hb : Binds X.K fd ps ds) (hd : Vals xq ds)
  (I : Inv (m4 X pn R) pins σ H s) (r : Vals vs us) (h : sp (vs ++ xq) H Q fun cls _ H' => R cls σ H') : aar (model X.prog X.w) X.A (call (.ref f) us) (EP (m4 X pn R) pins σ Q) (m4 X pn R).xe s := by
 have r2 : Vals (vs ++ xq) (us ++ ds) := r.append hd
 have hl : (us ++ ds).length = ps.length := by rw [← r2.length]; exact F.len _ _ _ _ h
 refine wpAny_call (codeAny_mono (F.run X.A X.stack s H ⟨us, []⟩ (us ++ ds) (vs ++ xq) Q _ hr I.Mi (hb s us I.si hl) r2 h) fun r s' hq => ?_)
 cases r with
 | error e =>
  obtain ⟨x, cls, H', ee, F', hE⟩ := hq
  exact ⟨pins, σ, H, s, H', x, cls, I.cx rfl I.ok.hd fun _ q => q, ee, F', hE⟩
 | ok fl =>
  cases fl with
  | ret u => exact I.after hq
  | next => exact abG hq
  | brk => exact abG hq
  | cont => exact abG hq
theorem D1 (F : bD X.prog X.w X.K X.mg X.base (zm X.prog X.w) k f fd ps sp) (hr : eJ k X.A) (hg : Gl X x) (hm : X.mg x = some (.ref f)) (hk : ab0 X.K (.ref f) = true) (hb : Binds X.K fd ps ds) (hd : Vals xq ds)
  (ha : PA (m4 X pn R) (e :: es) t) (xr : (x == ("__debug__" : Str)) = false := by decide) (he : starEach (e :: es) X.env = (false, eval e X.env) :: starEach es X.env := by rfl) (hpl : (backTo pos (starEach es X.env)).any (·.1) = false := by rfl) :
  PE (m4 X pn R) (.Call (.Name x p) (e :: es) [] pos) (D0 sp xq R t) := by
 intro pins s σ H Q I h
 refine wpAny_Call_Name_kw (mR I hg hm ?_ xr)
 refine ae8 (h₀ := X.base) I.ok.mod.L1 hk (cJ (ha pos pins s σ H _ I h) fun us s1 ⟨vs, H1, I1, r, q⟩ => ⟨I1.si, ?_⟩) he hpl
 exact GJ F hr hb hd I1 r q
end
theorem ba.has {P : aao} {w : aaO} {H : Hp} {h : Heap} {a : aac} {o : HO} (x : ba P w H h a o) : ∃ u, h.get? a = some u := by
 cases o with
 | lst xs => obtain ⟨_, _, _, _, e⟩ := x; exact ⟨_, e⟩
 | tup xs => obtain ⟨_, _, _, o, e, _⟩ := x; exact ⟨_, e⟩
 | dK kvs => obtain ⟨_, _, _, _, o, _, _, e, _⟩ := x; exact ⟨_, e⟩
 | dT kvs => obtain ⟨_, _, _, _, o, _, _, e, _⟩ := x; exact ⟨_, e⟩
 | set S n => obtain ⟨o, _, _, _, e, _⟩ := x; exact ⟨_, e⟩
 | ins C dx fs => obtain ⟨_, _, _, e, _⟩ := x; exact ⟨_, e⟩
 | own y => obtain ⟨_, e⟩ := x; exact ⟨_, e⟩
 | xd fs => obtain ⟨_, ⟨_, _, _, e, _⟩, _⟩ := x; exact ⟨_, e⟩
 | Px lo hi => obtain ⟨_, _, _, e⟩ := x; exact ⟨_, e⟩
 | lO ob u => obtain ⟨e, _⟩ := x; exact ⟨_, e⟩
 | F7 ps => exact ⟨_, (show h.get? a = some _ from x)⟩
 | met f y => exact ⟨_, (show h.get? a = some _ from x)⟩
 | ext φ => obtain ⟨_, ⟨_, e⟩, _⟩ := x; exact ⟨_, e⟩
structure Lit (X : Cx) (pins : List (aac × Obj)) (σ : St) (H : Hp) (x : aac) (cls : ZS) (B : Heap) (a0 : ZS) (s : ZU) : Prop where
 fl : afu B X.stack x cls a0 s.heap
 land : ∀ h', s.heap.UpToSlots h' → B.StaysIn h' → Inv X pins σ H { s with heap := h' }
 fr : H x = none
def PH (X : Cx) (hs : List ExceptHandler) (th : ZS → TS) : Prop :=
 ∀ (pins : List (aac × Obj)) (s : ZU) (σ : St) (H : Hp) (D : Ends) (x : aac) (cls : ZS) (B : Heap) (a0 : ZS), Lit X pins σ H x cls B a0 s → th cls D σ H → aar (model X.prog X.w) X.A (handleBy (.ref x) X.env hs) (SP X pins D) X.xe s
def tH (K : ZQ) (C : ZS) (ts : TS) (tr : ZS → TS) : ZS → TS := fun cls D σ H => ∃ b, aeT K cls C = some b ∧ (b = true → ts D σ H) ∧ (b = false → tr cls D σ H)
def WC : ZS → TS := fun _ _ _ _ => False
theorem Jj {X : Cx} : PH X [] WC := fun _ _ _ _ _ _ _ _ _ _ h => abG h
theorem SP.cx {X X' : Cx} {pins fD : List (aac × Obj)} {D : Ends} {f : Flow} {s : ZU} (h : SP X pins D f s) (hI : ∀ σ H, Inv X pins σ H s → Inv X' fD σ H s) : SP X' fD D f s := by
 cases f with
 | next => obtain ⟨σ, H, I, q⟩ := h; exact ⟨σ, H, hI _ _ I, q⟩
 | brk => obtain ⟨σ, H, I, q⟩ := h; exact ⟨σ, H, hI _ _ I, q⟩
 | cont => obtain ⟨σ, H, I, q⟩ := h; exact ⟨σ, H, hI _ _ I, q⟩
 | ret u => obtain ⟨v, σ, H, I, r, q⟩ := h; exact ⟨v, σ, H, hI _ _ I, r, q⟩
theorem GK {X : Cx} {C : ZS} {nm : Str} {np pos : Pos} {b₀ : Stmt} {body : List Stmt} {rest : List ExceptHandler} {ts : TS} {tr : ZS → TS} (hg : Gl X nm) (hm : X.mg nm = some C) (hs : ∀ a, zi (m5 X a) (b₀ :: body) ts) (hr : PH X rest tr)
  (xr : (nm == ("__debug__" : Str)) = false := by decide) : PH X (.ExceptHandler (some (.Name nm np)) none (b₀ :: body) pos :: rest) (tH X.K C ts tr) := by
 intro pins s σ H D x cls B a0 L h
 obtain ⟨b, eb, ht, hf⟩ := h
 have I : Inv X pins σ H s := L.land s.heap (Heap.UpToSlots.of_keeps fun _ _ q => q) L.fl.1
 have Is : Inv (m5 X x) pins σ H s := I.cx rfl (fun z => nomatch z) fun _ q => q
 obtain ⟨oe, he, hc⟩ := L.fl.there
 have lt : PySem.W.Looks (model X.prog X.w) s.heap (typeOf (.ref x)) cls := by
  subst hc
  exact (PySem.W.Looks.ld he).andThen .now
 refine wpAny_handleBy_cons (codeAny_handlers_test (mR (X := m5 X x) Is hg hm ((PySem.W.exm_one I.si lt eb).here ?_) xr)) (by intro q; cases q)
 cases b with
 | false => exact hr pins s σ H D x cls B a0 L (hf rfl)
 | true =>
  refine codeAny_handlers_suite (lands_againW L.fl fun h' WD sm => ?_)
  have I' : Inv (m5 X x) pins σ H { s with heap := h' } := (L.land h' sm WD.1).cx rfl (fun z => nomatch z) fun _ q => q
  refine wpAny_mono (hs x pins _ σ H D I' (ht rfl)) (fun fw s2 q => ?_) fun _ _ z => abG z
  exact SP.cx q fun _ _ J => J.cx (X := m5 X x) rfl I.ok.hd fun _ q => q
def Rp (tb : (ZS → St → Hp → Prop) → TS) (th : ZS → TS) : TS := fun D σ H => tb (fun cls σ' H' => th cls D σ' H') D σ H
theorem Jk {X : Cx} {body : List Stmt} {h₀ : ExceptHandler} {hs : List ExceptHandler} {pos : Pos} {tb : (ZS → St → Hp → Prop) → TS} {th : ZS → TS} (hb : ∀ pn R, zi (m4 X pn R) body (tb R)) (hh : PH X (h₀ :: hs) th)
  (hst : X.stack = X.env :: X.outer := by rfl) (zj : X.env.frame = some X.env.locals := by rfl) (hex : X.ex = [] := by rfl) (xo : ∀ y, X.fn y = true := by intro y; rfl) : PS X (.Try body (h₀ :: hs) [] [] pos) (Rp tb th) := by
 intro pins s σ H D I h
 refine wpAny_Try_except (wpAny_mono (hb pins _ [] s σ H D (I.cx rfl I.ok.hd fun p q => by rw [abt] at q; exact q) h) (fun fw s1 q => ?_) fun e s1 q => ?_)
 ·have q' : SP X pins D fw s1 := SP.cx q fun σ' H' J => J.cx (X := m4 X pins _) (A' := X.A) rfl I.ok.hd fun p z => by rw [abt]; exact z
  cases fw with
  | next => exact wpAny_execs_nil q'
  | brk => exact q'
  | cont => exact q'
  | ret u => exact q'
 ·obtain ⟨fD, σ', H1, s0, H', x, cls, I', rfl, F, hR⟩ := q
  obtain ⟨B, a0, fl, hok, kp, tr⟩ := F.ex
  refine wpAny_looks_onW (base := B) (outer := X.outer) (L := X.env.locals) (cls := cls) (a0 := a0) (by rw [I.ok.frames, hst]) zj (by rw [← hst]; exact fl) fun h1 held Rm => ?_
  refine wpAny_landsW held fun h2 WE Bg => ?_
  have hfr' : H' x = none := by
   cases e : H' x with
   | none => rfl
   | some o =>
    obtain ⟨u, hu⟩ := ba.has (hok x o e)
    rw [fl.2.1] at hu
    cases hu
  refine hh pins _ σ' H' D x cls B a0 ⟨by rw [hst]; exact WE, fun h3 MA IS => ?_, hfr'⟩ hR
  have J : Inv (Ji X pins) [] σ' H' { s1 with heap := h3 } := Inv.land (X := Ji X pins) I' (fun p z => nomatch z) hex xo ⟨hst, zj⟩ F fl hok kp tr ((Rm.trans Bg).trans MA) IS
  exact J.cx rfl I.ok.hd fun p z => by rw [abt]; exact z
end L2
namespace L2
open PySem PySem.Spec PyProof.Rows
def cA (P : aao) (w : aaO) (K : ZQ) (mg : Str → Option ZS) (base : Heap) (x : Str) (k : Nat) (ps : List Str) (sp : Sp) : Prop :=
 ∃ f fd, bD P w K mg base jP k f fd ps sp ∧ Binds K fd ps [] ∧ ab0 K (.ref f) = true ∧ mg x = some (.ref f)
section
variable {X : Cx} {k : Nat} {C : aac} {ps : List Str} {sp : Sp} {x m : Str} {p pos apos : Pos} {e o : Expr} {es : List Expr} {ta : TE} {t : TA}
theorem aq (c : cA X.prog X.w X.K X.mg X.base x k ps sp) (hr : eJ k X.A) (hg : Gl X x) (ha : PA X (e :: es) t) (xr : (x == ("__debug__" : Str)) = false := by decide) (he : starEach (e :: es) X.env = (false, eval e X.env) :: starEach es X.env := by rfl) (hpl : (backTo pos (starEach es X.env)).any (·.1) = false := by rfl) :
  PE X (.Call (.Name x p) (e :: es) [] pos) (DO sp [] E0 t) := by
 obtain ⟨f, fd, F, b, kp, mg⟩ := c
 exact Bb F hr hg mg kp b .nil Ms ha xr he hpl
def zL : V → List V → Hp → VK → Prop := fun x vs H Q => ∃ z, x = .str z ∧ vs = [] ∧ Q (.bl (ae3 z)) H
theorem fJ : Mm X "str.isupper" zL := by
 intro pins s σ H x xs v us Q I rx rs h
 obtain ⟨z, rfl, rfl, q⟩ := h
 obtain ⟨t, rfl⟩ := (show ∃ t, v = acq z t from rx)
 cases rs
 exact SC.isupper ⟨.bl (ae3 z), H, I, rfl, q⟩
end
end L2
namespace L2
open PySem PySem.Spec PyProof.Rows
section
variable {X : Cx}
end
end L2
namespace L2
open PySem PySem.Spec PyProof.Rows
end L2
namespace L2
open PySem PySem.Spec PyProof.Rows
theorem pV {tt : TT} {te : TE} {aJ : List Nat} {σ : St} {H1 : Hp} {Q : VK} {K : ZQ} {a : aac} {xs : List V} {D : aac} (hn : xs.length < Z2) (pU : H1 D = none) (hl : aC K H1 a xs) (kp : V → Bool) (f : V → V)
  (ht : ∀ x H' R, x ∈ xs → af H1 H' → (∀ jG, af H' jG → R (kp x) jG) → tt (bT σ (some x) aJ) H' R)
  (he : ∀ x H' R, x ∈ xs → kp x = true → af H1 H' → (∀ jG, af H' jG → R (f x) jG) → te (bT σ (some x) aJ) H' R)
  (hd : ∀ H', af H1 H' → H' D = some (.lst ((xs.filter kp).map f)) → Q (.ref D) H') : jU tt te aJ σ Q (DK K a) H1 D := by
 refine ig (K := K) (a := a) (xs := xs) hn (fun i ys H' => af H1 H' ∧ H' D = some (.lst ys) ∧ ys = ((xs.take i).filter kp).map f) ⟨fun b o e => by rw [aE (bg e pU)]; exact e, ae, rfl⟩
  (fun i ys H' p => p.1.seq hl) (fun i ys H' p => ⟨p.2.1, ?_⟩) (fun i ys H' hi p => ?_) (fun ys H' p => ?_)
 ·rw [p.2.2, Lm9]
  refine aaM (aat _ _) ?_
  rw [aah]
  omega
 ·have hx : xs.getD i .bB = xs[i] := by rw [Gd9, Ge9 hi]; rfl
  rw [hx]
  have hm : xs[i] ∈ xs := ZT hi
  have step : ∀ b, kp xs[i] = b → ((xs.take (i + 1)).filter kp).map f = ((xs.take i).filter kp).map f ++ (if b = true then [f xs[i]] else []) := fun b hb => by
   rw [Z4 hi, abI, aaj]
   cases b with
   | true => rw [if_pos rfl]; simp [hb]
   | false => rw [if_neg (by decide)]; simp [hb]
  refine ht _ _ _ hm p.1 fun H2 s2 => ?_
  cases hb : kp xs[i] with
  | true =>
   refine dc ?_
   refine he _ _ _ hm hb (af.trans p.1 s2) fun H3 s3 => ?_
   refine ⟨s3 _ _ (s2 _ _ p.2.1), fun b o e => ?_, ae, ?_⟩
   ·rw [aE (bg e pU)]
    exact s3 _ _ (s2 _ _ (p.1 _ _ e))
   ·rw [step true hb, if_pos rfl, p.2.2]
  | false =>
   refine b5 ⟨af.trans p.1 s2, s2 _ _ p.2.1, ?_⟩
   rw [step false hb, if_neg (by decide), abt]
   exact p.2.2
 ·rw [p.2.2, aau] at p
  exact hd H' p.1 p.2.1
end L2
namespace HT
open PySem PySem.Spec PyProof.Rows
section
variable {prog : aao} {w : aaO} {A : aaA} {E : ZS → ZU → Prop} {s : ZU}
end
end HT
namespace L2
open PySem PySem.Spec PyProof.Rows
section
variable {X : Cx}
theorem D6 {xs : List V} {k : Nat} (h : k ≤ xs.length) : jM xs (some (k : Int)) none = xs.drop k := by
 unfold jM
 rw [HT.lC, HT.DP, aez h, aaV]
 rw [abL]
 omega
end
end L2
namespace L2
open PySem PySem.Spec PyProof.Rows
section
variable {X : Cx}
end
end L2
namespace L2
open PySem PySem.Spec PyProof.Rows
section
variable {X : Cx} {K : ZQ} {o e : Expr} {f : Str} {pos : Pos} {ta : TE}
def MB (K : ZQ) : List V → Hp → VK → Prop := fun xs H Q => ∃ p ys, xs = [.ref p] ∧ (aC K H p ys ∨ aK K H p ys) ∧ Q (.int ys.length) H
theorem zM (hK : X.K = K) : cK X (.builtin "len") (MB K) := by
 subst hK
 exact aM
end
end L2
namespace L2
open PySem PySem.Spec PyProof.Rows
section
variable {κ : Type} [DecidableEq κ]
def eL (kvs : List (κ × V)) (k : κ) : Option V := (kvs.find? fun kv => decide (kv.1 = k)).map (·.2)
def putK (kvs : List (κ × V)) (k : κ) (v : V) : List (κ × V) :=
 if (kvs.any fun kv => decide (kv.1 = k)) = true then kvs.map (fun kv => if kv.1 = k then (kv.1, v) else kv) else kvs ++ [(k, v)]
theorem qm {p : κ × V} {r : List (κ × V)} {k : κ} (e : p.1 = k) : eL (p :: r) k = some p.2 := by simp [eL, aaP, e]
theorem qo {p : κ × V} {r : List (κ × V)} {k : κ} (e : ¬ p.1 = k) : eL (p :: r) k = eL r k := by simp [eL, aaP, e]
theorem m6 (k : κ) : ∀ kvs : List (κ × V), (kvs.any fun kv => decide (kv.1 = k)) = (eL kvs k).isSome
 | [] => rfl
 | p :: r => by
  rw [adt]
  by_cases e : p.1 = k
  ·simp only [qm e, decide_eq_true e, Bool.true_or, Option.isSome_some]
  ·rw [qo e, decide_eq_false e, Bool.false_or]; exact m6 k r
theorem gr (kvs : List (κ × V)) (k : κ) (v : V) : (putK kvs k v).length ≤ kvs.length + 1 := by
 unfold putK
 split
 ·rw [Lm9]; omega
 ·rw [Z6, aal, aaQ]; omega
theorem xD {kvs : List (κ × V)} {k : κ} (v : V) (h : eL kvs k = none) : putK kvs k v = kvs ++ [(k, v)] := by
 unfold putK
 rw [m6, h]
 exact if_neg (by decide)
theorem ma.ou {o : Option V} {u : Option ZS} (r : ma o u) : o.isSome = u.isSome := by
 cases o with
 | none => cases u with
  | none => rfl
  | some _ => exact (show False from r).elim
 | some _ => cases u with
  | none => exact (show False from r).elim
  | some _ => rfl
theorem ma.getD {o : Option V} {u : Option ZS} {d : V} {d' : ZS} (r : ma o u) (rd : RelV d d') : RelV (o.getD d) (u.getD d') := by
 cases o with
 | none => cases u with
  | none => exact rd
  | some _ => exact (show False from r).elim
 | some _ => cases u with
  | none => exact (show False from r).elim
  | some _ => exact r
theorem KV.val {kvs : List (κ × V)} {vs : List (κ × ZS)} (r : KV kvs vs) (k : κ) : ma (eL kvs k) (valueAt vs k) := by
 unfold KV at r
 induction r with
 | nil => exact acB
 | @cons p q ps qs h t ih =>
  obtain ⟨h1, h2⟩ := h
  by_cases e : p.1 = k
  ·have e' : q.1 = k := h1.symm.trans e
   have b : valueAt (q :: qs) k = some q.2 := by simp [valueAt, aaP, e']
   rw [qm e, b]; exact h2
  ·have e' : ¬ q.1 = k := fun z => e (h1.trans z)
   have b : valueAt (q :: qs) k = valueAt qs k := by simp [valueAt, aaP, e']
   rw [qo e, b]; exact ih
theorem KV.any {kvs : List (κ × V)} {vs : List (κ × ZS)} (r : KV kvs vs) (k : κ) : (kvs.any fun kv => decide (kv.1 = k)) = vs.any fun kv => decide (kv.1 = k) := by
 unfold KV at r
 induction r with
 | nil => rfl
 | cons h t ih => rw [adt, adt, ih, h.1]
theorem KV.Jl {kvs : List (κ × V)} {vs : List (κ × ZS)} (r : KV kvs vs) (k : κ) {y : V} {u : ZS} (ry : RelV y u) :
  KV (kvs.map fun kv => if kv.1 = k then (kv.1, y) else kv) (vs.map fun kv => if kv.1 = k then (kv.1, u) else kv) := by
 unfold KV at r ⊢
 induction r with
 | nil => exact .nil
 | @cons p q ps qs h t ih =>
  rw [aap, aap]
  refine .cons ?_ ih
  obtain ⟨h1, h2⟩ := h
  by_cases e : p.1 = k
  ·rw [if_pos e, if_pos (h1.symm.trans e)]; exact ⟨h1, ry⟩
  ·rw [if_neg e, if_neg (fun z => e (h1.trans z))]; exact ⟨h1, h2⟩
theorem KV.put {kvs : List (κ × V)} {vs : List (κ × ZS)} (r : KV kvs vs) (k : κ) {y : V} {u : ZS} (ry : RelV y u) : KV (putK kvs k y) (stored vs k u) := by
 unfold putK stored
 rw [r.any k]
 by_cases e : (vs.any fun kv => decide (kv.1 = k)) = true
 ·rw [if_pos e, if_pos e]; exact r.Jl k ry
 ·rw [if_neg e, if_neg e]; exact Paired.snoc r ⟨rfl, ry⟩
theorem KV.keys {kvs : List (κ × V)} {vs : List (κ × ZS)} (r : KV kvs vs) : kvs.map (·.1) = vs.map (·.1) := by
 unfold KV at r
 induction r with
 | nil => rfl
 | cons h t ih => rw [aap, aap, ih, h.1]
theorem KV.length {kvs : List (κ × V)} {vs : List (κ × ZS)} (r : KV kvs vs) : kvs.length = vs.length := aad r
end
theorem oP {P : aao} {w : aaO} {k : Key} {u : ZS} (r : RelV (kV k) u) : (aF P w).is k u = true := by
 cases k with
 | inl i => obtain ⟨t, e⟩ := (show ∃ t, u = adv i t from r); subst e; exact xk P w i t
 | inr x => obtain ⟨t, e⟩ := (show ∃ t, u = acq x t from r); subst e; exact xl P w x t
theorem uo {P : aao} {w : aaO} : ∀ {ks : List Key} {us : List ZS}, Vals (ks.map kV) us → ItemsAre (aF P w) ks us
 | [], _, r => by rw [abO] at r; cases r; exact .nil
 | k :: ks, _, r => by
  rw [aap] at r
  cases r with
  | cons h t => exact .cons (oP h) (uo t)
abbrev KT (H : Hp) : List (List Key × V) → List (List Key × aac × ZS) → Prop := Paired fun p q => p.1 = q.1 ∧ H q.2.1 = some (.tup (p.1.map kV)) ∧ RelV p.2 q.2.2
theorem KT.val {H : Hp} {kvs : List (List Key × V)} {xs : List (List Key × aac × ZS)} (r : KT H kvs xs) (k : List Key) : ma (eL kvs k) ((atKey xs k).map (·.2)) := by
 induction r with
 | nil => exact acB
 | @cons p q ps qs h t ih =>
  obtain ⟨h1, _, h2⟩ := h
  by_cases e : p.1 = k
  ·have e' : q.1 = k := h1.symm.trans e
   have b : atKey (q :: qs) k = some q.2 := by simp [atKey, aaP, e']
   rw [qm e, b]; exact h2
  ·have e' : ¬ q.1 = k := fun z => e (h1.trans z)
   have b : atKey (q :: qs) k = atKey qs k := by simp [atKey, aaP, e']
   rw [qo e, b]; exact ih
theorem KT.Jl {H : Hp} {kvs : List (List Key × V)} {xs : List (List Key × aac × ZS)} (r : KT H kvs xs) (k : List Key) {y : V} {u : ZS} (ry : RelV y u) :
  KT H (kvs.map fun kv => if kv.1 = k then (kv.1, y) else kv) (xs.map (putAt k u)) := by
 induction r with
 | nil => exact .nil
 | @cons p q ps qs h t ih =>
  rw [aap, aap]
  refine .cons ?_ ih
  obtain ⟨h1, h2, h3⟩ := h
  unfold putAt
  by_cases e : p.1 = k
  ·rw [if_pos e, if_pos (h1.symm.trans e)]; exact ⟨h1, h2, ry⟩
  ·rw [if_neg e, if_neg (fun z => e (h1.trans z))]; exact ⟨h1, h2, h3⟩
theorem KT.put {H : Hp} {kvs : List (List Key × V)} {xs : List (List Key × aac × ZS)} (r : KT H kvs xs) (k : List Key) {b : aac} {y : V} {u : ZS} (hb : H b = some (.tup (k.map kV))) (ry : RelV y u) :
  KT H (putK kvs k y) (storedH xs k b u) := by
 have e : (kvs.any fun kv => decide (kv.1 = k)) = (atKey xs k).isSome := by
  rw [m6, (r.val k).ou, afq]
 unfold putK storedH
 rw [e]
 by_cases q : (atKey xs k).isSome = true
 ·rw [if_pos q, if_pos q]; exact r.Jl k ry
 ·rw [if_neg q, if_neg q]; exact Paired.snoc r ⟨rfl, hb, ry⟩
theorem KT.keeps {H H' : Hp} {kvs : List (List Key × V)} {xs : List (List Key × aac × ZS)} (r : KT H kvs xs) (ht : ∀ b ys, H b = some (.tup ys) → H' b = some (.tup ys)) : KT H' kvs xs :=
 Paired.sk r fun _ _ z => ⟨z.1, ht _ _ z.2.1, z.2.2⟩
section
variable {P : aao} {w : aaO} {H : Hp} {h : Heap} {a : aac}
theorem HY {u : HO} (ok : jO P w H h) (e : Rd H a u) : ba P w H h a u := e.ok ok
theorem uq {kvs : List (Key × V)} (ok : jO P w H h) (e : Rd H a (.dK kvs)) : kvs.length ≤ Z2 ∧ (a == sysModules) = false ∧ ∃ vs, KV kvs vs ∧ h.DictOf (aF P w) a vs :=
 show ba P w H h a (.dK kvs) from HY ok e
theorem xE {kvs : List (Key × V)} (ok : jO P w H h) (e : H a = some (.dK kvs)) : kvs.length ≤ Z2 ∧ (a == sysModules) = false ∧ ∃ vs, KV kvs vs ∧ h.DictOf (aF P w) a vs := uq ok (.inl e)
theorem qp {ks : List Key} (ok : jO P w H h) (e : H a = some (.tup (ks.map kV))) : (tupleKind (aF P w)).is h ks a := by
 obtain ⟨_, its, r, o, h1, h2, n, h3⟩ := (show ba P w H h a (.tup (ks.map kV)) from ok a _ e)
 exact ⟨o, its.toArray, n, h1, h2, h3, by simpa using uo r⟩
theorem ur {kvs : List (List Key × V)} (ok : jO P w H h) (e : Rd H a (.dT kvs)) : kvs.length ≤ Z2 ∧ (a == sysModules) = false ∧
  ∃ xs, KT H kvs xs ∧ h.DictOfH (tupleKind (aF P w)) a xs := by
 obtain ⟨z, y, xs, r, o, es, ep, h1, h2, h3, h4, h5⟩ := (show ba P w H h a (.dT kvs) from HY ok e)
 refine ⟨z, y, xs, r, o, es, ep, h1, h2, h3, h4, fun x hx => ?_, h5⟩
 have all : ∀ {l : List (List Key × V)} {m : List (List Key × aac × ZS)}, KT H l m → ∀ x ∈ m, (tupleKind (aF P w)).is h x.1 x.2.1 := by
  intro l m q
  induction q with
  | nil => intro x hx; exact nomatch hx
  | @cons p q ps qs hq t ih =>
   intro x hx
   rcases aai.mp hx with e | hx
   ·subst e
    exact qp ok (by rw [← hq.1]; exact hq.2.1)
   ·exact ih x hx
 exact all r x hx
theorem MC {kvs : List (List Key × V)} (ok : jO P w H h) (e : H a = some (.dT kvs)) : kvs.length ≤ Z2 ∧ (a == sysModules) = false ∧
  ∃ xs, KT H kvs xs ∧ h.DictOfH (tupleKind (aF P w)) a xs := ur ok (.inl e)
end
def mf (H : Hp) (a : aac) (y : V) (r : Option V) : Prop :=
 (∃ kvs k, Rd H a (.dK kvs) ∧ y = kV k ∧ r = eL kvs k) ∨ ∃ kvs k b, Rd H a (.dT kvs) ∧ y = .ref b ∧ H b = some (.tup (k.map kV)) ∧ r = eL kvs k
def D7 (H : Hp) (a : aac) (y v : V) (H' : Hp) : Prop :=
 (∃ kvs k, H a = some (.dK kvs) ∧ y = kV k ∧ kvs.length < Z2 ∧ H' = upd H a (.dK (putK kvs k v))) ∨
 ∃ kvs k b, H a = some (.dT kvs) ∧ y = .ref b ∧ H b = some (.tup (k.map kV)) ∧ kvs.length < Z2 ∧ H' = upd H a (.dT (putK kvs k v))
theorem mf.k {H : Hp} {a : aac} {kvs : List (Key × V)} {k : Key} (e : H a = some (.dK kvs)) : mf H a (kV k) (eL kvs k) := .inl ⟨kvs, k, .inl e, rfl, rfl⟩
theorem D7.k {H : Hp} {a : aac} {kvs : List (Key × V)} {k : Key} {v : V} (e : H a = some (.dK kvs)) (hl : kvs.length < Z2) : D7 H a (kV k) v (upd H a (.dK (putK kvs k v))) := .inl ⟨kvs, k, e, rfl, hl, rfl⟩
section
variable {X : Cx} {pins : List (aac × Obj)} {σ : St} {H : Hp} {s : ZU} {a : aac} {y v : V} {u r : ZS} {o : Option V} {A : aaA} {E : ZS → ZU → Prop}
theorem Inv.big (I : Inv X pins σ H s) : sysModules < s.heap.objs.size := by
 have h : aaa < s.heap.objs.size := (I.mod.glob.keeps I.bk).lt
 exact afv (by decide) h
theorem Cq {Q : ZS → ZU → Prop} (hu : A.units + 1 < cLine) (I : Inv X pins σ H s) (g : mf H a y (some v)) (ry : RelV y u) (h : ∀ w' s', Inv X pins σ H s' → RelV v w' → Q w' s') :
  aar (model X.prog X.w) A (getItem (.ref a) u) Q E s := by
 rcases g with ⟨kvs, k, e, ey, l⟩ | ⟨kvs, k, b, e, ey, eb, l⟩
 ·subst ey
  obtain ⟨z, hd, vs, rel, dd⟩ := uq I.hok e
  obtain ⟨w', hw, DQ⟩ := ma.some_of (v := v) (o := valueAt vs k) (by rw [l]; exact rel.val k)
  exact wpAny_getItem_of (oP ry) dd.mapOf hw (h w' _ (I.tok _) DQ)
 ·subst ey
  cases (show u = aaC b from ry)
  obtain ⟨z, hd, xs, rel, dd⟩ := ur I.hok e
  obtain ⟨w', hw, DQ⟩ := ma.some_of (v := v) (o := (atKey xs k).map (·.2)) (by rw [l]; exact rel.val k)
  obtain ⟨p, hp, qr⟩ := aa1.mp hw
  refine wpAny_getItem_heap (tupleKind_room_in1 hu) (qp I.hok eb) dd hp ?_
  rw [qr]
  exact h w' _ (I.tok _) DQ
theorem GL {Q : ZS → ZU → Prop} (hu : A.units + 1 < cLine) (I : Inv X pins σ H s) (g : mf H a y o) (ry : RelV y u) (h : ∀ s', Inv X pins σ H s' → Q (.bool (!o.isSome)) s') :
  aar (model X.prog X.w) A (compareOp .NotIn u (.ref a)) Q E s := by
 rcases g with ⟨kvs, k, e, ey, l⟩ | ⟨kvs, k, b, e, ey, eb, l⟩
 ·subst ey
  obtain ⟨z, hd, vs, rel, dd⟩ := uq I.hok e
  refine wpAny_notIn_of (oP ry) hd dd.mapOf ?_
  rw [← (rel.val k).ou, ← l]
  exact h _ (I.tok _)
 ·subst ey
  cases (show u = aaC b from ry)
  obtain ⟨z, hd, xs, rel, dd⟩ := ur I.hok e
  refine wpAny_notIn_heap (tupleKind_room_in1 hu) (qp I.hok eb) hd dd ?_
  have q := (rel.val k).ou
  rw [afq] at q
  rw [← q, ← l]
  exact h _ (I.tok _)
theorem vd {h' : Heap} {t' : Nat} {ob : HO} (I : Inv X pins σ H s) (mu : LZ (H a)) (hs : acb a s.heap h') (he : ∃ q, h'.get? a = some q) (new : ba X.prog X.w (upd H a ob) h' a ob) :
  Inv X pins σ (upd H a ob) { s with heap := h', toks := t' } :=
 I.write (x := a) (e := a) mu (.inl rfl) (fun b q hb z => (hs.2 b hb).trans z) he new
theorem D8 {P : aao} {w : aaO} {H' : Hp} {h' : Heap} {kvs : List (Key × V)} {vs : List (Key × ZS)} (z : kvs.length ≤ Z2) (hd : (a == sysModules) = false) (rel : KV kvs vs) (dd : h'.DictOf (aF P w) a vs) :
  ba P w H' h' a (.dK kvs) := ⟨z, hd, vs, rel, dd⟩
theorem Cr {H' : Hp} {Q : Unit → ZU → Prop} (hu : A.units + 1 < cLine) (I : Inv X pins σ H s) (g : D7 H a y v H') (ry : RelV y u) (rv : RelV v r) (h : ∀ s', Inv X pins σ H' s' → Q () s') :
  aar (model X.prog X.w) A (setItem (.ref a) u r) Q E s := by
 rcases g with ⟨kvs, k, e, ey, l, eH⟩ | ⟨kvs, k, b, e, ey, eb, l, eH⟩
 ·subst ey eH
  obtain ⟨z, hd, vs, rel, dd⟩ := xE I.hok e
  have hz : vs.length ≤ Z2 := by rw [← rel.length]; exact z
  have hl : (putK kvs k v).length ≤ Z2 := by have := gr kvs k v; omega
  refine wpAny_setItem_pairs (hsz := hz) (oP ry) dd fun h' Jm hs => h _ ?_
  have he : ∃ q, h'.get? a = some q := let ⟨q, _, _, hq, _⟩ := Jm; ⟨q, hq⟩
  exact vd I (by rw [e]; exact acB) hs he (D8 hl hd (rel.put k rv) Jm)
 ·subst ey eH
  cases (show u = aaC b from ry)
  obtain ⟨z, hd, xs, rel, dd⟩ := MC I.hok e
  have hz : xs.length ≤ Z2 := by rw [← aad rel]; exact z
  have hl : (putK kvs k v).length ≤ Z2 := by have := gr kvs k v; omega
  refine wpAny_setItem_heap (hsz := hz) (tupleKind_room_in1 hu) (qp I.hok eb) dd fun h' Jm hs => h _ ?_
  obtain ⟨q, es, ep, hq, h2, h3, h4, _, h5⟩ := Jm
  refine vd I (by rw [e]; exact acB) hs ⟨q, hq⟩ ⟨hl, hd, _, (rel.put k eb rv).keeps fun c ys ec => ?_, q, es, ep, hq, h2, h3, h4, h5⟩
  rw [aE (xm ec e (fun z => nomatch z))]
  exact ec
end
section
variable {X : Cx} {pins : List (aac × Obj)} {σ : St} {H : Hp} {s : ZU} {a : aac} {kvs : List (Key × V)} {k : Key} {u : ZS} {A : aaA} {E : ZS → ZU → Prop}
end
def MD (i : Expr) : Prop := ∀ ov iv, subscripted i false ov iv = operate [ov, iv] (getItem ov iv)
theorem GN {prog : aao} {w : aaO} {A : aaA} {E : ZS → ZU → Prop} {s : ZU} {env : Env} {value slice : Expr} {pos : Pos} {T id : String} {Q : ZS → ZU → Prop}
  (hl : typeLookup (.type T) "__getitem__" = pure (some (.builtin id))) (hs : MD slice)
  (h : aar (model prog w) A (eval value env) (fun o s₁ => aar (model prog w) A (eval slice env) (fun i s₂ => s₂.TypeIs o T ∧ aar (model prog w) A (getItem o i) Q E s₂) E s₁) E s) :
  aar (model prog w) A (eval (.Subscript value slice pos) env) Q E s := by
 refine Subscript_ (wpAny_mono h (fun o s₁ h₁ => wpAny_mono h₁ (fun i s₂ h₂ => ?_) fun _ _ x => x) fun _ _ x => x)
 obtain ⟨hT, h₂⟩ := h₂
 unfold subscriptTail
 refine ZR ?_
 rw [getitemInPython_of_ne hT.not_modules]
 refine ZR (wpAny_specialOf hT hl ?_)
 have fin : aar (model prog w) A (subscripted slice false o i) (fun r s₃ => aar (model prog w) A (letTemporaryGo value o r >>= fun _ => pure r) Q E s₃) E s₂ := by
  rw [hs o i]
  exact wpAny_operating (wpAny_mono h₂ (fun r s₃ h₃ => ZR (wpAny_letTemporaryGo (ZW h₃))) fun _ _ x => x)
 first
  | exact ZW (ZR fin)
  | exact ZR (ZW (ZR fin))
  | exact ZR fin
theorem xF {X : Cx} {pins : List (aac × Obj)} {σ : St} {H : Hp} {s : ZU} {a : aac} {y : V} {o : Option V} (I : Inv X pins σ H s) (g : mf H a y o) : s.TypeIs (.ref a) "dict" := by
 rcases g with ⟨kvs, k, e, _, _⟩ | ⟨kvs, k, b, e, _, _, _⟩
 ·obtain ⟨_, _, vs, _, dd⟩ := uq I.hok e
  exact dd.typeIs
 ·obtain ⟨_, _, xs, _, dd⟩ := ur I.hok e
  exact dd.typeIs
def ME (td ty : TE) : TE := fun σ H Q => td σ H fun x H1 => ty σ H1 fun y H2 => ∃ a v, x = .ref a ∧ mf H2 a y (some v) ∧ Q v H2
def GO (ty td : TE) : TE := fun σ H Q => ty σ H fun y H1 => td σ H1 fun x H2 => ∃ a o, x = .ref a ∧ mf H2 a y o ∧ Q (.bl (!o.isSome)) H2
def MF (td ty tv : TE) : TS := fun D σ H => tv σ H fun v H1 => td σ H1 fun x H2 => ty σ H2 fun y H3 => ∃ a H4, x = .ref a ∧ D7 H3 a y v H4 ∧ D.nx σ H4
section
variable {X : Cx} {o i e value : Expr} {pos pos' Mg : Pos} {td ty tv : TE}
theorem Bh (hu : X.A.units + 1 < cLine) (ho : PE X o td) (hi : PE X i ty) (hs : MD i) : PE X (.Subscript o i pos) (ME td ty) := by
 intro pins s σ H Q I h
 refine GN PySem.F.slot_dict_getitem.lookup hs (cJ (ho pins s σ H _ I h) fun u s1 ⟨x, H1, I1, rx, q1⟩ => cJ (hi pins s1 σ H1 _ I1 q1) fun iv s2 ⟨y, H2, I2, ry, a, v, ex, g, q2⟩ => ?_)
 subst ex
 obtain rfl : u = aaC a := rx
 exact ⟨xF I2 g, Cq hu I2 g ry fun w' s3 I3 DQ => ⟨v, H2, I3, DQ, q2⟩⟩
theorem Ct (hu : X.A.units + 1 < cLine) (hi : PE X i ty) (ho : PE X o td) : PC X .NotIn i o (GO ty td) := by
 intro pins s σ H Q I h
 refine cJ (hi pins s σ H _ I h) fun iv s1 ⟨y, H1, I1, ry, q1⟩ => cJ (ho pins s1 σ H1 _ I1 q1) fun u s2 ⟨x, H2, I2, rx, a, ov, ex, g, q2⟩ => ?_
 subst ex
 obtain rfl : u = aaC a := rx
 exact GL hu I2 g ry fun s3 I3 => ⟨.bl (!ov.isSome), H2, I3, rfl, q2⟩
theorem GP (hu : X.A.units + 1 < cLine) (ho : PE X o td) (hi : PE X i ty) (hv : PE X value tv) (hs : swapsWith value (some (.Subscript o i pos')) pos.line X.env = pure false) :
  PS X (.Assign [.Subscript o i pos'] value pos) (MF td ty tv) := by
 intro pins s σ H D I h
 refine wpAny_Assign_Subscript (cJ (hv pins s σ H _ I h) fun r s1 ⟨v, H1, I1, rv, q1⟩ => cJ (ho pins s1 σ H1 _ I1 q1) fun u s2 ⟨x, H2, I2, rx, q2⟩ => cJ (hi pins s2 σ H2 _ I2 q2) fun iv s3 ⟨y, H3, I3, ry, a, H4, ex, g, q3⟩ => ?_) hs
 subst ex
 obtain rfl : u = aaC a := rx
 exact Cr hu I3 g ry rv fun s4 I4 => ⟨σ, H4, I4, q3⟩
end
section
variable {X : Cx} {pos : Pos}
end
abbrev VV : List (V × V) → List (ZS × ZS) → Prop := Paired fun p q => RelV p.1 q.1 ∧ RelV p.2 q.2
def du (kvs more : List (Key × V)) : List (Key × V) := more.foldl (fun acc kv => putK acc kv.1 kv.2) kvs
structure M1 (X : Cx) (o : Expr) (m : Str) (apos : Pos) (e : Expr) (cpos : Pos) : Prop where
 base : attributeBase o m X.env (eval o X.env) = eval o X.env
 few : ((backTo cpos (starEach [e] X.env)).all (fun x => !x.1) && (backToKw cpos (keywordEach [] X.env)).all (fun x => x.1.isSome)
  && decide (([e] : List Expr).length + ([] : List Keyword).length + (if ([] : List Keyword).isEmpty then 0 else 1) < 30)) = true
 line : (apos.endLine == cpos.line) = true
 trees : backTo cpos (starEach [e] X.env) = [(false, eval e X.env)]
structure M2 (X : Cx) (o : Expr) (m : Str) (apos : Pos) (e f : Expr) (cpos : Pos) : Prop where
 base : attributeBase o m X.env (eval o X.env) = eval o X.env
 few : ((backTo cpos (starEach [e, f] X.env)).all (fun x => !x.1) && (backToKw cpos (keywordEach [] X.env)).all (fun x => x.1.isSome)
  && decide (([e, f] : List Expr).length + ([] : List Keyword).length + (if ([] : List Keyword).isEmpty then 0 else 1) < 30)) = true
 line : (apos.endLine == cpos.line) = true
 trees : backTo cpos (starEach [e, f] X.env) = [(false, eval e X.env), (false, eval f X.env)]
def Jn (H : Hp) (a : aac) : Prop := (∃ kvs, Rd H a (.dK kvs)) ∨ ∃ kvs, Rd H a (.dT kvs)
theorem Bi {X : Cx} {pins : List (aac × Obj)} {σ : St} {H : Hp} {s : ZU} {a : aac} (I : Inv X pins σ H s) (d : Jn H a) :
  s.TypeIs (.ref a) "dict" ∧ (∀ b, aaC a = .ref b → ∃ ob, s.heap.get? b = some ob ∧ ob.dict = none) ∧ (a == sysModules) = false := by
 rcases d with ⟨kvs, e⟩ | ⟨kvs, e⟩
 ·obtain ⟨_, hd, vs, _, dd⟩ := uq I.hok e
  refine ⟨dd.typeIs, fun b q => ?_, hd⟩
  cases q
  obtain ⟨ob, _, _, h1, h2, _⟩ := dd
  exact ⟨ob, h1, h2.2.1⟩
 ·obtain ⟨_, hd, xs, _, dd⟩ := ur I.hok e
  refine ⟨dd.typeIs, fun b q => ?_, hd⟩
  cases q
  obtain ⟨ob, _, _, h1, h2, _⟩ := dd
  exact ⟨ob, h1, h2.2.1⟩
section
variable {X : Cx} {pins : List (aac × Obj)} {σ : St} {H : Hp} {s : ZU} {a : aac} {y d : V} {u r : ZS} {o : Option V} {A : aaA} {E : ZS → ZU → Prop}
theorem Jo {Q : ZS → ZU → Prop} (hu : A.units + 1 < cLine) (I : Inv X pins σ H s) (g : mf H a y o) (ry : RelV y u) (rd : RelV d r) (h : ∀ w' s', Inv X pins σ H s' → RelV (o.getD d) w' → Q w' s') :
  aar (model X.prog X.w) A (call (.builtin "dict.get") [.ref a, u, r]) Q E s := by
 rcases g with ⟨kvs, k, e, ey, l⟩ | ⟨kvs, k, b, e, ey, eb, l⟩
 ·subst ey
  obtain ⟨z, hd, vs, rel, dd⟩ := uq I.hok e
  refine call_meetsIn adl dd.typeIs aeq (ad8 _ _ _) (meets_dict_get_default (aF X.prog X.w) a (oP ry) hd r) ⟨_, dd.mapOf, h _ _ (I.tok _) ?_⟩
  rw [l]
  exact (rel.val k).getD rd
 ·subst ey
  cases (show u = aaC b from ry)
  obtain ⟨z, hd, xs, rel, dd⟩ := ur I.hok e
  refine call_meetsIn adl dd.typeIs aeq (ad8 _ _ _) (meetsH_dict_get_default (tupleKind (aF X.prog X.w)) a b hd r) ⟨tupleKind_room_in1 hu, k, xs, qp I.hok eb, dd, h _ _ (I.tok _) ?_⟩
  rw [l]
  exact (rel.val k).getD rd
end
def Jp (td ty tx : TE) : TE := fun σ H Q => td σ H fun x H1 => ∃ a, x = .ref a ∧ Jn H1 a ∧ ty σ H1 fun y H2 => tx σ H2 fun z H3 => ∃ o, mf H3 a y o ∧ Q (o.getD z) H3
section
variable {X : Cx} {o e f : Expr} {apos cpos : Pos} {td ty tx : TE}
theorem qv (hu : X.A.units + 1 < cLine) (ho : PE X o td) (he : PE X e ty) (hf : PE X f tx) (m : M2 X o "get" apos e f cpos) : PE X (.Call (.Attribute o "get" apos) [e, f] [] cpos) (Jp td ty tx) := by
 intro pins s σ H Q I h
 refine wpAny_Call_method m.base m.few m.line ac3 adl PySem.F.type_dict_get (cJ (ho pins s σ H _ I h) fun u s1 ⟨x, H1, I1, rx, a, ex, d, q1⟩ => ?_)
 subst ex
 obtain rfl : u = aaC a := rx
 obtain ⟨t1, t2, _⟩ := Bi I1 d
 refine ⟨t1, t2, ?_⟩
 rw [m.trees]
 refine ack rfl (acH (acn (cJ (he pins s1 σ H1 _ I1 q1) fun iv s2 ⟨y, H2, I2, ry, q2⟩ =>
  acn (cJ (hf pins s2 σ H2 _ I2 q2) fun fv s3 ⟨z, H3, I3, rz, ov, g, q3⟩ => adZ ?_))))
 exact Jo hu I3 g ry rz fun w' s4 I4 DQ => ⟨_, H3, I4, DQ, q3⟩
end
section
variable {X : Cx} {pins : List (aac × Obj)} {σ : St} {H : Hp} {s : ZU} {a : aac} {kvs : List (Key × V)} {A : aaA} {E : ZS → ZU → Prop}
end
section
variable {X : Cx} {pins : List (aac × Obj)} {σ : St} {H : Hp} {s : ZU} {a : aac} {y : V} {u : ZS} {A : aaA} {E : ZS → ZU → Prop}
end
end L2
namespace L2
open PySem PySem.Spec PyProof.Rows
section
variable {X : Cx}
end
section
variable {κ : Type} [DecidableEq κ]
theorem GQ {kvs : List (κ × V)} {k : κ} {v : V} (h : eL kvs k = some v) : k ∈ kvs.map (·.1) := by
 have q : (kvs.any fun kv => decide (kv.1 = k)) = true := by
  rw [m6, h]
  all_goals rfl
 obtain ⟨p, hp, e⟩ := abb.mp q
 exact Z1.mpr ⟨p, hp, of_decide_eq_true e⟩
end
end L2
namespace L2
open PySem PySem.Spec PyProof.Rows
theorem Jq {prog : aao} {w : aaO} {A : aaA} {E : ZS → ZU → Prop} {s : ZU} {a : aac} {o : Obj} {xs : Array ZS} {k : Nat} {Q : Option ZS → ZU → Prop}
  (hx : s.heap.get? a = some o) (hc : o.cls = .type "list") (MG : o.data = .seq xs k) (hd : o.dict = none) (hA : A.handled = none)
  (h : ∀ h' tk e, Heap.NewExcOf s.heap h' e "AttributeError" → Q none { s with heap := h', toks := tk }) :
  aar (model prog w) A (getAttr? (.ref a) "keys") Q E s := by
 obtain ⟨c, Zh, dat, sl⟩ := o
 simp only at hc MG hd
 subst hc MG hd
 obtain ⟨hp, g, d, tk, os⟩ := s
 have hT : ∀ tk', (⟨hp, g, d, tk', os⟩ : ZU).TypeIs (.ref a) "list" := fun _ => ⟨_, hx, rfl⟩
 have f1 := sub_AttributeError
 have f3 := acd.lookup
 have f4 := acd.bind (.ref a)
 have f5 := am_list_getattr_none
 have hmiss : typeLookup (.type "list") "keys" = pure none := by rw [typeLookup_type, builtinLookup_eq_fast]; kernel_rfl
 unfold getAttr? getAttrBy? getAttrBy
 repeat (any_goals (first | assumption | exact hT _ | ((with_reducible show aar _ _ (call (afe "list.__getattribute__") _ _) _ _ _); refine call_meets acd (hT _) am_entry_list_getattribute (PySem.F.args_list_getattribute_2 _ _) (meets_getattribute_miss_list a xs k sl "keys" _ hmiss (by decide +kernel) (by decide)) ⟨hx, hA, fun h' tk' e hx' => ?_⟩) | wp_step))
 obtain ⟨t', u', he⟩ := hx'.there
 show aar _ _ (getattributeRaised _ _ _ _ _ _ _) _ _ _
 unfold getattributeRaised
 repeat (any_goals (first | assumption | wp_step))
 exact h _ _ _ hx'.of
end L2
namespace L2
open PySem PySem.Spec PyProof.Rows
theorem entry_dul : entryFor table "dict.update.loop" = some Builtin.«dict.update.loop» := entryFor_of_tree (by kernel_rfl)
theorem plain_dul : plainId "dict.update.loop" = true := by decide +kernel
theorem paired_at {α β : Type} {F : α → β → Prop} : ∀ {l1 : List α} {l2 : List β}, Paired F l1 l2 → ∀ i (h1 : i < l1.length) (h2 : i < l2.length), F l1[i] l2[i]
 | _, _, .cons h _, 0, _, _ => h
 | _, _, .cons _ t, i + 1, h1, h2 => paired_at t i (by simpa using h1) (by simpa using h2)
theorem iN : ∀ (ps : List (Key × V)), (du [] ps).length ≤ ps.length := by
 have key : ∀ (ps acc : List (Key × V)), (du acc ps).length ≤ acc.length + ps.length := by
  intro ps
  induction ps with
  | nil => intro acc; exact Z0 _
  | cons p r ih =>
   intro acc
   have z := ih (putK acc p.1 p.2)
   have z2 : (putK acc p.1 p.2).length ≤ acc.length + 1 := gr acc p.1 p.2
   show (du (putK acc p.1 p.2) r).length ≤ _
   rw [aal]
   omega
 intro ps
 have z := key ps []
 simpa using z
section
variable {X : Cx} {pins : List (aac × Obj)} {σ : St} {H : Hp} {s : ZU} {a it l : aac} {ys : List V} {its : List ZS} {ps : List (Key × V)}
def gu (K : ZQ) (H : Hp) (ps : List (Key × V)) (ys : List V) : Prop := Paired (fun (p : Key × V) (y : V) => ∃ t, y = .ref t ∧ aK K H t [kV p.1, p.2]) ps ys
theorem GR {A : aaA} {R : Result → ZU → Prop} (I : Inv X pins σ H s) (hh : A.handled = none) (hl : s.heap.IsList l its.toArray) (rv : Vals ys its) (hP : gu X.K H ps ys) (hlen : ps.length ≤ 100000)
  (ha : s.heap.objs.size ≤ a) (zN : s.heap.objs.size ≤ it) (hne : a ≠ it)
  (fin : ∀ h' tk vs, (∀ b o, s.heap.get? b = some o → h'.get? b = some o) → h'.DictOf (aF X.prog X.w) a vs → KV (du [] ps) vs → R (.ok (.ret .none)) { s with heap := h', toks := tk }) :
  ∀ (k i : Nat) (h' : Heap) (tk : Nat) (vs : List (Key × ZS)), its.length - i = k → i ≤ its.length → (∀ b o, s.heap.get? b = some o → h'.get? b = some o) → h'.IsListIter it l i → h'.DictOf (aF X.prog X.w) a vs → KV (du [] (ps.take i)) vs →
   aar (model X.prog X.w) A.in1 (Builtin.«dict.update.loop» ⟨[.ref a, .ref it, rawInt (i : Int), .none], []⟩) (fun fin s' => match fin with | .done f => R (.ok f) s' | .again c' => c'.quiet = true ∧ codeAny (model X.prog X.w) A c' R s') (fun e s' => R (.error e) s') { s with heap := h', toks := tk } := by
 have qx := rv.length
 have qg := aad hP
 have lt : ∀ b o, s.heap.get? b = some o → b ≠ a ∧ b ≠ it := fun b o q => by
  exact ⟨aam (aaf (aab q) ha), aam (aaf (aab q) zN)⟩
 obtain ⟨ol, zq, qy⟩ := id hl
 intro k
 induction k with
 | zero =>
  intro i h' tk vs hk hi kp hit hD hK
  obtain rfl : i = its.length := by omega
  unfold Builtin.«dict.update.loop»
  dsimp only [rawInt]
  refine ZR (wpAny_pyNext_list_end (s := { s with heap := h', toks := tk }) (A := A.in1) hh hit (show h'.IsList l its.toArray from ⟨ol, kp _ _ zq, qy⟩) (by simp) fun h2 m7 => ?_)
  dsimp only
  have lQ : h2.DictOf (aF X.prog X.w) a vs := hD.extBut m7 hne
  show aar _ _ (acU a [] >>= _) _ _ _
  refine ZR (ZW (ZW ?_))
  exact fin h2 tk vs (fun b o q => m7 b o (lt b o q).2 (kp b o q)) lQ (by rw [← qx, ← qg, aau] at hK; exact hK)
 | succ k ih =>
  intro i h' tk vs hk hi kp hit hD hK
  have GS : i < its.length := by omega
  have Jr : i < ps.length := by omega
  unfold Builtin.«dict.update.loop»
  dsimp only [rawInt]
  refine ZR (wpAny_pyNext_list_item (s := { s with heap := h', toks := tk }) (x := its[i]) hit (show h'.IsList l its.toArray from ⟨ol, kp _ _ zq, qy⟩) (by simp [GS]) fun h1 oQ xy => ?_)
  dsimp only
  have D9 : ∀ b o, s.heap.get? b = some o → h1.get? b = some o := fun b o q => (xy.2 b (lt b o q).2).trans (kp b o q)
  have I1 : Inv X pins σ H { s with heap := h1, toks := tk } := I.kept D9
  have LD : h1.DictOf (aF X.prog X.w) a vs := hD.sameBut xy hne
  obtain ⟨u1, f1, q1⟩ := rv.get (i := i) (x := ys[i]'(by omega)) (by simp)
  have eu : its[i] = u1 := (ZZ.mp f1).2
  obtain ⟨t, et, hq⟩ : ∃ t, ys[i]'(by omega) = .ref t ∧ aK X.K H t [kV (ps[i]).1, (ps[i]).2] := by
   have z := hP
   unfold gu at z
   exact paired_at z i Jr (by omega)
  rw [et] at q1
  have Js : its[i] = .ref t := by rw [eu]; exact q1
  rw [Js]
  obtain ⟨WH, rt, pl, _⟩ := I1.tuple hq
  obtain ⟨uk, uv, rfl, rk, Rq⟩ := vals2 rt
  obtain ⟨ot, MH, Jt, n, Ds⟩ := id pl
  have Rr : ad9 { s with heap := h1, toks := tk } (.ref t) "tuple" := ⟨ot, MH, Jt⟩
  refine ZR (wpAny_holding (ZR ?_))
  have Bj : ∀ {E' : ZS → ZU → Prop} {Q' : List ZS → ZU → Prop}, Q' [uk, uv] { s with heap := h1, toks := tk } → aar (model X.prog X.w) A.in1 (acm (.ref t)) Q' E' { s with heap := h1, toks := tk } := fun {E' Q'} hq' => by
   unfold acm
   refine ZR (wpAny_typeOf Rr ?_)
   rw [if_pos (by decide)]
   refine ZR (wpAny_seqItems MH Ds (ZW ?_))
   exact hq'
  refine wpAny_tryCatch (Bj ?_)
  dsimp only
  have hsz : vs.length ≤ Z2 := by
   have z := hK.length
   have z2 := iN (ps.take i)
   rw [aah] at z2
   exact aaM (show vs.length ≤ 100000 by omega) (show 100000 ≤ Z2 by rw [aak]; decide)
  refine wpAny_holding (wpAny_dictSet_pairs (hsz := hsz) (oP rk) LD fun h2 lQ pz => ?_)
  have Ea : ∀ b o, s.heap.get? b = some o → h2.get? b = some o := fun b o q => (pz.2 b (lt b o q).1).trans (D9 b o q)
  have zO : h2.IsListIter it l (i + 1) := by
   obtain ⟨o, ho, r⟩ := oQ
   exact ⟨o, (pz.2 it (acr hne)).trans ho, r⟩
  refine ZW ?_
  refine ⟨plainId_quiet plain_dul _, codeAny_builtin entry_dul ?_⟩
  rw [aaR plain_dul _]
  refine ih (i + 1) h2 (tk + 1) _ (by omega) (by omega) Ea zO lQ ?_
  rw [Z4 Jr]
  unfold du
  rw [abh]
  exact hK.put _ Rq
theorem pC (hc : X.calm = true) : cK X (.type "dict") (fun xs H Q => ∃ (l : aac) (ys : List V) (ps : List (Key × V)), xs = [.ref l] ∧ H l = some (.lst ys) ∧ gu X.K H ps ys ∧ ps.length ≤ 100000 ∧ ∀ d, H d = none → Q (.ref d) (upd H d (.dK (du [] ps)))) := by
 intro pins s σ H xs us Q I r h
 obtain ⟨l, ys, ps, rfl, hl, hP, hlen, q⟩ := h
 obtain ⟨u, rfl, ru⟩ := vals1 r
 cases (show u = aaC l from ru)
 have hh := I.ok.hd hc
 obtain ⟨hz, its, n, rv, hg⟩ := (show ba X.prog X.w H s.heap l (.lst ys) from I.hok l _ hl)
 have hf : H s.heap.objs.size = none := I.hok.fresh (Z0 _)
 refine callType_codes (Q₁ := fun obj s₁ => obj = .ref s.heap.objs.size ∧ s₁ = { s with heap := s.heap.push { cls := .type "dict", data := .dict #[] } }) ac9 (acF _) ac4 (kt_code_dict_new _ ⟨rfl, rfl⟩) ?_
 rintro obj s₁ ⟨rfl, rfl⟩
 have qz : (s.heap.push { cls := .type "dict", data := .dict #[] }).DictOf (aF X.prog X.w) s.heap.objs.size [] := aeA s.heap
 refine ⟨qz.typeIs, acV _ _, ?_⟩
 unfold Builtin.«dict.__init__»
 refine ZR ?_
 unfold acW
 refine ZR (wpAny_notOrdered_dict qz.typeIs ?_)
 show aar _ _ (pure (s.heap.objs.size, [aaC l])) _ _ _
 refine ZW ?_
 show aar _ _ (abu "dict.__init__" s.heap.objs.size (.ref l) [] .none) _ _ _
 unfold abu
 have zP : (s.heap.push { cls := .type "dict", data := .dict #[] }).get? l = some { cls := .type "list", data := .seq its.toArray n } := ZV _ hg
 refine ZR (wpAny_typeOf (T := "list") ⟨_, zP, rfl⟩ ?_)
 rw [if_pos (by decide)]
 refine ZR (Jq zP rfl rfl rfl hh fun h1 GU e hx => ?_)
 rw [if_pos (show (none : Option ZS).isNone = true from rfl)]
 refine ZR (wpAny_rule ?_)
 have GV := hx.keeps _ _ zP
 have hd2 : h1.DictOf (aF X.prog X.w) s.heap.objs.size [] := by
  obtain ⟨o, es, ep, ho, r⟩ := qz
  exact ⟨o, es, ep, hx.keeps _ _ ho, r⟩
 have pD : s.heap.objs.size < h1.objs.size := by
  obtain ⟨o, es, ep, ho, r⟩ := hd2
  exact aab ho
 have Eb : h1.IsList l its.toArray := ⟨_, GV, rfl, n, rfl⟩
 refine ZR (wpAny_pyIter_list (s := { s with heap := h1, toks := GU }) Eb ?_)
 refine ZW ⟨plainId_quiet plain_dul _, codeAny_builtin entry_dul ?_⟩
 rw [aaR plain_dul _]
 have GW : ∀ b o, s.heap.get? b = some o → (h1.push { cls := .type "list_iterator", data := .fields #[.ref l, .int 0 0] }).get? b = some o := fun b o q => ZV _ (hx.keeps _ _ (ZV _ q))
 refine GR (A := X.A.in1) (its := its) (a := s.heap.objs.size) (it := h1.objs.size) I hh ⟨_, hg, rfl, n, rfl⟩ rv hP hlen (Z0 _) (adO pD) (aam pD) (fun h' tk vs kp hD hK => ?_)
  its.length 0 (h1.push { cls := .type "list_iterator", data := .fields #[.ref l, .int 0 0] }) GU [] (by omega) (aaX _) GW ⟨_, Z8 _ rfl, rfl, rfl⟩ (hd2.push _) .nil
 refine ⟨rfl, .ref s.heap.objs.size, upd H s.heap.objs.size (.dK (du [] ps)), I.laid (t' := tk) kp (Z0 _) ?_, rfl, q _ hf⟩
 refine ⟨aaM (iN ps) (aaM hlen (by rw [aak]; decide)), ?_, vs, hK, hD⟩
 exact beq_eq_false_iff_ne.mpr (adj I.big)
end
end L2
namespace L2
open PySem PySem.Spec PyProof.Rows
section
variable {X : Cx}
theorem HZ {P : aao} {w : aaO} {k : Key} {u : ZS} (r : (aF P w).is k u = true) : RelV (kV k) u := by
 rcases bI (k := k) (v := u) r with ⟨i, t, rfl, rfl⟩ | ⟨x, t, rfl, rfl⟩
 ·exact ⟨t, rfl⟩
 ·exact ⟨t, rfl⟩
theorem Bl : ∀ {xs : List V} {us : List ZS}, us.length = xs.length → (∀ (j : Nat) (v : ZS), us[j]? = some v → ∃ x, xs[j]? = some x ∧ RelV x v) → Vals xs us
 | [], [], _, _ => .nil
 | x :: xs, u :: us, hl, h => by
  obtain ⟨y, e, r⟩ := h 0 u rfl
  cases e
  exact .cons r (Bl (by simpa using hl) fun j v e => h (j + 1) v (by simpa using e))
theorem qA (hc : X.calm = true) : cK X (.type "list") (fun xs H Q => ∃ (d : aac) (kvs : List (Key × V)), xs = [.ref d] ∧ H d = some (.dK kvs) ∧ ∀ l, H l = none → Q (.ref l) (upd H l (.lst (kvs.map fun p => kV p.1)))) := by
 intro pins s σ H xs us Q I r h
 obtain ⟨d, kvs, rfl, hd, q⟩ := h
 obtain ⟨u, rfl, ru⟩ := vals1 r
 cases (show u = aaC d from ru)
 obtain ⟨hz, lo, vs, hK, hD⟩ := xE I.hok hd
 obtain ⟨o, es, ep, ho, rr⟩ := hD
 have hf : H s.heap.objs.size = none := I.hok.fresh (Z0 _)
 have hl := hK.length
 refine PySem.W.kdl_call (PySem.W.kdl_dict (knd := aF X.prog X.w) (kvs := vs) (ep := ep) lo) (I.ok.hd hc) ⟨o, es, ho, rr⟩ (by omega) fun h' tk acc c' kp hg hacc => ?_
 refine ⟨.ref s.heap.objs.size, upd H s.heap.objs.size (.lst (kvs.map fun p => kV p.1)), I.laid (t' := tk) kp (Z0 _) ?_, rfl, q _ hf⟩
 refine ⟨by rw [Lm9]; exact hz, acc.toList, c', Bl ?_ fun j v e => ?_, by simpa using hg⟩
 ·rw [Lm9, aaZ, hacc.1, hl]
 ·obtain ⟨k, x, e1, e2⟩ := hacc.2 j v (by rw [← adm]; exact e)
  have ek : (kvs.map (·.1))[j]? = some k := by
   rw [hK.keys, aaK, e1]
   rfl
  rw [aaK] at ek
  cases e3 : kvs[j]? with
  | none => rw [e3] at ek; cases ek
  | some p =>
   rw [e3] at ek
   have e4 : p.1 = k := aaI ek
   exact ⟨kV p.1, by rw [aaK, e3]; rfl, by rw [e4]; exact HZ e2⟩
end
end L2
namespace cI
open PySem
abbrev gL : Str := "abcdefghijklmnopqrstuvwxyz"
abbrev eB : Str := "ABCDEFGHIJKLMNOPQRSTUVWXYZ"
abbrev Ju : Str := "0123456789"
def m8 (c : Nat) : Bool := decide (c ∈ gL.cps.toList) || (decide (c ∈ eB.cps.toList) || decide (c ∈ Ju.cps.toList))
def shut (cur : List Nat) (r : List (List Nat)) : List (List Nat) := if cur = [] then r else cur :: r
def Bm : List Nat → List Nat → List (List Nat)
 | [], cur => shut cur []
 | c :: r, cur => if m8 c = true then Bm r (cur ++ [c]) else shut cur (if c = 32 then Bm r [] else [c] :: Bm r [])
def toks (l : List Nat) : List (List Nat) := Bm l []
def aP (p : List Nat) : Bool := decide (1 ≤ p.length) && (decide (p.length ≤ 12) && p.all m8)
def Ia : List (List Nat) → Option (List (List Nat) × Nat)
 | n :: m :: r => if aP n = true then (if m = [41] then some ([n], 2) else if m = [44] then (Ia r).map fun q => (n :: q.1, q.2 + 2) else none) else none
 | _ => none
def between : List (List Nat) → List (List Nat)
 | [] => []
 | [a] => [a, [41]]
 | a :: r => a :: [44] :: between r
end cI
namespace Bk
open PySem L2 cI
abbrev Cs := List Nat
abbrev S (p : Cs) : Str := ⟨p.toArray⟩
abbrev tx (p : Cs) : V := .str (S p)
theorem aZ (p : Cs) : (S p).cps.toList = p := by simp
theorem ve (x : Str) : S x.cps.toList = x := by cases x; simp
theorem bc (p : Cs) : (S p).length = p.length := by simp [Str.length]
theorem ow (x : Str) : x.cps.toList.length = x.length := by simp [Str.length]
theorem eM {a b : Cs} (h : S a = S b) : a = b := by
 have e := congrArg (fun s : Str => s.cps.toList) h
 simpa using e
structure Fc where
 k : Cs
 as : List Cs
structure Kd where
 n : Cs
 c : Nat
 l : Bool
structure Lk where
 same : Bool
 l : Cs
 r : Cs
structure Rl where
 title : Cs
 take : List Fc
 keep : List Fc
 Ec : List Lk
 put : List Fc
 tell : List (Cs × Cs)
structure Kp (H0 H H' : Hp) : Prop where
 new : ∀ b o, H0 b = none → H b = some o → H' b = some o
 tup : ∀ b xs, H b = some (.tup xs) → H' b = some (.tup xs)
 lO : ∀ b o u, H b = some (.lO o u) → H' b = some (.lO o u)
 LF : ∀ b, H' b = none → H b = none
theorem Kp.trans {H0 H H1 H2 : Hp} (a : Kp H0 H H1) (b : Kp H0 H1 H2) : Kp H0 H H2 :=
 ⟨fun c o n h => b.new c o n (a.new c o n h), fun c xs h => b.tup c xs (a.tup c xs h), fun c o u h => b.lO c o u (a.lO c o u h), fun c h => a.LF c (b.LF c h)⟩
theorem Kp.same {H0 H H' : Hp} (s : af H H') : Kp H0 H H' := ⟨fun b o _ h => s b o h, fun b xs h => s b _ h, fun b o u h => s b _ h, fun b h => by
 cases e : H b with
 | none => rfl
 | some o => rw [s b o e] at h; cases h⟩
theorem Kp.upd {H0 H : Hp} {l : aac} {o o' u0 : HO} (h0 : H0 l = some u0) (h : H l = some o) (nt : ∀ xs, o ≠ .tup xs) (nf : ∀ ob u, o ≠ .lO ob u) : Kp H0 H (upd H l o') := by
 refine ⟨fun b u n e => ?_, fun b xs e => ?_, fun b ob u e => ?_, fun b e => ?_⟩
 ·rw [aE (fun z => by rw [z, h0] at n; cases n)]; exact e
 ·rw [aE (fun z => by rw [z, h] at e; exact nt xs (aaI e))]; exact e
 ·rw [aE (fun z => by rw [z, h] at e; exact nf ob u (aaI e))]; exact e
 ·by_cases z : b = l
  ·rw [z, ae] at e; cases e
  ·rw [aE z] at e; exact e
theorem Kp.b7 {H0 H1 H H' : Hp} (k : Kp H0 H H') (d : ∀ b, H1 b = none → H0 b = none) : Kp H1 H H' := ⟨fun b o n h => k.new b o (d b n) h, k.tup, k.lO, k.LF⟩
theorem aK.keep {K : ZQ} {H0 H H' : Hp} (k : Kp H0 H H') {a : aac} {xs : List V} (h : aK K H a xs) : aK K H' a xs := by
 rcases h with (h | ⟨o, h⟩) | h
 ·exact .inl (.inl (k.tup _ _ h))
 ·exact .inl (.inr ⟨o, k.lO _ _ _ h⟩)
 ·exact .inr h
def Fact (K : ZQ) (H : Hp) (f : Fc) (v : V) : Prop := ∃ t t2, v = .ref t ∧ aK K H t [tx f.k, .ref t2] ∧ aK K H t2 (f.as.map tx)
def Kind (K : ZQ) (H : Hp) (k : Kd) (v : V) : Prop := ∃ t, v = .ref t ∧ aK K H t [tx k.n, .int k.c, .bl k.l]
def Pair (K : ZQ) (H : Hp) (p : Cs × Cs) (v : V) : Prop := ∃ t, v = .ref t ∧ aK K H t [tx p.1, tx p.2]
theorem Fact.keep {K : ZQ} {H0 H H' : Hp} {f : Fc} {v : V} (k : Kp H0 H H') (h : Fact K H f v) : Fact K H' f v := by
 obtain ⟨t, t2, e, h1, h2⟩ := h
 exact ⟨t, t2, e, aK.keep k h1, aK.keep k h2⟩
def zr (α : Type) (R : Hp → α → V → Prop) (H0 H : Hp) (v : V) (xs : List α) : Prop := ∃ l vs, v = .ref l ∧ H0 l = none ∧ H l = some (.lst vs) ∧ Paired (R H) xs vs
theorem zr.b7 {α : Type} {R : Hp → α → V → Prop} {H0 H1 H : Hp} {v : V} {xs : List α} (d : ∀ b, H1 b = none → H0 b = none) (h : zr α R H1 H v xs) : zr α R H0 H v xs := by
 obtain ⟨l, vs, e, n, h1, h2⟩ := h
 exact ⟨l, vs, e, d l n, h1, h2⟩
def UG (C : aac) (H0 H : Hp) (v : V) (F : List (Str × V) → Prop) : Prop := ∃ a dx fs, v = .ref a ∧ H0 a = none ∧ H a = some (.ins C dx fs) ∧ F fs
structure Cl where
 same : aac
 unlike : aac
 rule : aac
 book : aac
def Cl.look (c : Cl) (b : Bool) : aac := if b = true then c.same else c.unlike
def Bn (c : Cl) (H0 H : Hp) (k : Lk) (v : V) : Prop := UG (c.look k.same) H0 H v fun fs => fs.lookup ("left" : Str) = some (tx k.l) ∧ fs.lookup ("right" : Str) = some (tx k.r) ∧ fs.lookup ("holds" : Str) = none ∧ fs.lookup ("word" : Str) = none
def great (x : Cs) : Bool := decide (x.headD 0 ∈ eB.cps.toList)
def once : List Cs → List Cs → List Cs
 | [], acc => acc
 | x :: r, acc => once r (if x ∈ acc then acc else acc ++ [x])
def opens (fs : List Fc) : List Cs := once ((fs.flatMap (·.as)).filter great) []
def Facts (K : ZQ) := zr Fc (Fact K)
def Pairs (K : ZQ) := zr (Cs × Cs) (Pair K)
def Kinds (K : ZQ) := zr Kd (Kind K)
def MI (H0 H : Hp) (v : V) (xs : List Cs) : Prop := ∃ l, v = .ref l ∧ H0 l = none ∧ H l = some (.lst (xs.map tx))
def Looks (c : Cl) (H0 H : Hp) (v : V) (xs : List Lk) : Prop := ∃ l vs, v = .ref l ∧ H0 l = none ∧ H l = some (.lst vs) ∧ Paired (Bn c H0 H) xs vs
structure Bo (K : ZQ) (c : Cl) (H0 H : Hp) (r : Rl) (fs : List (Str × V)) : Prop where
 title : fs.lookup ("title" : Str) = some (tx r.title)
 taken : ∃ v, fs.lookup ("taken" : Str) = some v ∧ Facts K H0 H v r.take
 kept : ∃ v, fs.lookup ("kept" : Str) = some v ∧ Facts K H0 H v r.keep
 Ec : ∃ v, fs.lookup ("looks" : Str) = some v ∧ Looks c H0 H v r.Ec
 given : ∃ v, fs.lookup ("given" : Str) = some v ∧ Facts K H0 H v r.put
 told : ∃ v, fs.lookup ("told" : Str) = some v ∧ Pairs K H0 H v r.tell
 names : ∃ v, fs.lookup ("names" : Str) = some v ∧ MI H0 H v (opens (r.take ++ r.keep))
 calls : fs.lookup ("calls" : Str) = none
def xG (K : ZQ) (c : Cl) (H0 H : Hp) (r : Rl) (v : V) : Prop := UG c.rule H0 H v (Bo K c H0 H r)
def Rules (K : ZQ) (c : Cl) (H0 H : Hp) (v : V) (xs : List Rl) : Prop := ∃ l vs, v = .ref l ∧ H0 l = none ∧ H l = some (.lst vs) ∧ Paired (xG K c H0 H) xs vs
structure UH (K : ZQ) (c : Cl) (H0 H : Hp) (ks : List Kd) (rs : List Rl) (fs : List (Str × V)) : Prop where
 kinds : ∃ v, fs.lookup ("kinds" : Str) = some v ∧ Kinds K H0 H v ks
 rules : ∃ v, fs.lookup ("rules" : Str) = some v ∧ Rules K c H0 H v rs
def gM (p : Cs) : Bool := aP p && decide (p.headD 0 ∈ gL.cps.toList)
inductive xH : List Cs → Fc → Prop
 | bare {k : Cs} (hk : gM k = true) : xH [k] ⟨k, []⟩
 | empty {k : Cs} (hk : gM k = true) : xH [k, [40], [41]] ⟨k, []⟩
 | args {k : Cs} {as : List Cs} (hk : gM k = true) (h0 : as ≠ []) (h : ∀ a ∈ as, aP a = true) : xH (k :: [40] :: between as) ⟨k, as⟩
inductive GX : List Cs → List Fc → Prop
 | one {ps : List Cs} {f : Fc} (h : xH ps f) : GX ps [f]
 | more {ps r : List Cs} {f : Fc} {fs : List Fc} (h : xH ps f) (t : GX r fs) : GX (ps ++ [44] :: r) (f :: fs)
def glue (m : Cs) : List (List Cs) → List Cs
 | [] => []
 | [q] => q
 | q :: r => q ++ m :: glue m r
end Bk
namespace Bk
open PySem L2 cI
theorem lE {x : Str} (h : 1 ≤ x.length) : ug x.cps.toList (0 : Int) = some (x.cps.toList.headD 0) := by
 have e := ow x
 cases q : x.cps.toList with
 | nil => rw [q] at e; simp at e; omega
 | cons a r => exact fg (j := 0) rfl
theorem sz {n : Nat} (h : n ≤ 100000) : n ≤ Z2 := by rw [aak]; omega
theorem n0 {n : Nat} (h : n ≤ 100000) : n < Z2 := by rw [aak]; omega
theorem aj {H : Hp} {p : aac} (h : H p = none) (o : HO) : af H (upd H p o) := fun b u q => by rw [aE (bg q h)]; exact q
theorem af.a8 {H H' : Hp} {p : aac} (e : af H H') (h : H p = none) (o : HO) : af H (upd H' p o) := fun b u q => by
 rw [aE (bg q h)]
 exact e b u q
theorem mid {a b : Int} (h : 0 < b) : 0 ≤ a % b ∧ a % b < b := ⟨acw a (by omega), adQ a h⟩
theorem getD_get {l : List Nat} {i : Nat} (h : i < l.length) : l[i]? = some (l.getD i 0) := by
 rw [Gd9, Ge9 h]
 rfl
theorem zQ {x : Str} {i : Int} (h0 : 0 ≤ i) (h1 : i < x.length) : ug x.cps.toList i = some (x.cps.toList.getD i.toNat 0) := by
 have hl := ow x
 have hk : i.toNat < x.cps.toList.length := by omega
 have z := fg (xs := x.cps.toList) (j := i.toNat) (v := x.cps.toList.getD i.toNat 0) (getD_get hk)
 rw [show ((i.toNat : Nat) : Int) = i by omega] at z
 exact z
def lF : Sp := fun vs H Q _ => ∃ p : Cs, vs = [tx p] ∧ p ≠ [] ∧ p.length ≤ 1000 ∧ Q (.bl (great p)) H
def WI (m : Str) (c : Nat) : Bool := m8 c || (decide (c ∈ m.cps.toList) || c == 32)
inductive zR : List Cs → Cs → List Cs → Nat → Prop
 | bare {k : Cs} {r : List Cs} (hk : gM k = true) (h : r.getD 0 [] ≠ [40]) : zR (k :: r) k [] 1
 | empty {k : Cs} {r : List Cs} (hk : gM k = true) : zR (k :: [40] :: [41] :: r) k [] 3
 | args {k : Cs} {r as : List Cs} {n : Nat} (hk : gM k = true) (h0 : r.getD 0 [] ≠ [41]) (h : Ia r = some (as, n)) : zR (k :: [40] :: r) k as (n + 2)
theorem GY {x : Str} {p n : Nat} (h : p + n ≤ x.length) : adz x (some (p : Int)) (some ((p + n : Nat) : Int)) = S ((x.cps.toList.drop p).take n) := by
 have e := Cp (z := x) (i := p) (j := ((p + n : Nat) : Int)) (by omega) (by omega) (by omega)
 rw [← ve (adz x (some (p : Int)) (some ((p + n : Nat) : Int))), e, show ((p : Int)).toNat = p by omega, show (((p + n : Nat) : Int) - (p : Int)).toNat = n by omega]
theorem lG {p : Cs} (h : aP p = true) : 1 ≤ p.length ∧ p.length ≤ 12 := by
 unfold aP at h
 simp only [aaE, decide_eq_true_eq] at h
 exact ⟨h.1, h.2.1⟩
end Bk
namespace Bk
open PySem L2 cI
def told (p : Cs) : Bool := match p.dropWhile (· == 32) with
 | [] => false
 | c :: _ => !(c == 35)
abbrev MJ : Str := "(),:;="
abbrev cs (s : Str) : Cs := s.cps.toList
abbrev Cu : Cs := [112, 97, 115, 115, 105, 110, 103]
abbrev Cv : Cs := [108, 97, 115, 116, 105, 110, 103]
abbrev Jv : Cs := [114, 117, 108, 101]
abbrev Jw : Cs := [116, 97, 107, 101]
abbrev Jy : Cs := [107, 101, 101, 112]
abbrev Jz : Cs := [108, 111, 111, 107]
abbrev MK : Cs := [112, 117, 116]
abbrev JA : Cs := [116, 101, 108, 108]
def ML (k : Kd) : List Cs := [if k.l = true then Cv else Cu, k.n, [48 + k.c]]
end Bk
namespace Bk
open PySem L2 cI
theorem fK {tt : TE} {aJ : List Nat} {σ : St} {H1 : Hp} {Q : VK} {K : ZQ} {a : aac} {xs : List V} {D : aac} {β : Type} (bs : List β) (Out : Hp → Hp → β → V → Prop)
  (keep : ∀ H0 H H' b y, Kp H0 H H' → Out H0 H b y → Out H0 H' b y) (b7 : ∀ H0 H2 H b y, (∀ c, H2 c = none → H0 c = none) → Out H2 H b y → Out H0 H b y)
  (hn : xs.length < Z2) (pU : H1 D = none) (hl : aC K H1 a xs) (hb : bs.length = xs.length)
  (he : ∀ (i : Nat) x b H' R, xs[i]? = some x → bs[i]? = some b → af H1 H' → (∀ y jG, af H' jG → Out H' jG b y → R y jG) → tt (bT σ (some x) aJ) H' R)
  (hd : ∀ H' ys, af H1 H' → H' D = some (.lst ys) → Paired (Out H1 H') bs ys → Q (.ref D) H') : jU zH tt aJ σ Q (DK K a) H1 D := by
 have s0 : af H1 (upd H1 D (.lst [])) := aj pU _
 have JB : ∀ c, upd H1 D (.lst []) c = none → H1 c = none := fun c h => s0.free h
 refine ig (K := K) (a := a) (xs := xs) hn (fun i ys H' => af H1 H' ∧ H' D = some (.lst ys) ∧ (∀ c, H' c = none → upd H1 D (.lst []) c = none) ∧ Paired (Out (upd H1 D (.lst [])) H') (bs.take i) ys) ⟨s0, ae, fun _ h => h, .nil⟩
  (fun i ys H' p => p.1.seq hl) (fun i ys H' p => ⟨p.2.1, ?_⟩) (fun i ys H' hi p => ?_) (fun ys H' p => ?_)
 ·have z := aad p.2.2.2
  rw [aah] at z
  omega
 ·have hx : xs.getD i .bB = xs[i] := by rw [Gd9, Ge9 hi]; rfl
  rw [hx]
  have fb : i < bs.length := by omega
  refine he i xs[i] bs[i] H' _ (Ge9 hi) (Ge9 fb) p.1 fun y H2 s2 ho => ?_
  have lQ := s2 _ _ p.2.1
  have kp : Kp (upd H1 D (.lst [])) H2 (upd H2 D (.lst (ys ++ [y]))) := Kp.upd ae lQ (by intro xs z; cases z) (by intro o u z; cases z)
  refine ⟨lQ, af.a8 (af.trans p.1 s2) pU _, ae, fun c h => ?_, ?_⟩
  ·have h2 := kp.LF c h
   exact p.2.2.1 c (s2.free h2)
  ·rw [Z4 fb]
   refine (L2.Paired.sk p.2.2.2 fun b v z => keep _ _ _ _ _ kp (keep _ _ _ _ _ (Kp.same s2) z)).snoc ?_
   exact keep _ _ _ _ _ kp (b7 _ _ _ _ _ p.2.2.1 ho)
 ·have z := p.2.2.2
  rw [aaV (by omega)] at z
  exact hd H' ys p.1 p.2.1 (L2.Paired.sk z fun b v h => b7 _ _ _ _ _ (fun c h => by
   by_cases e : c = D
   ·rw [e]; exact pU
   ·exact JB c h) h)
theorem ao {α β : Type} {R R' : α → β → Prop} : ∀ {l1 : List α} {l2 : List β}, Paired R l1 l2 → (∀ a b, b ∈ l2 → R a b → R' a b) → Paired R' l1 l2
 | _, _, .nil, _ => .nil
 | _, _, .cons r t, h => .cons (h _ _ Z5 r) (ao t fun a b hb => h a b (Z9 _ hb))
abbrev JC : Cs := [115, 97, 109, 101]
abbrev Ed : Cs := [117, 110, 108, 105, 107, 101]
def MM (k : Lk) : List Cs := [k.l, if k.same = true then JC else Ed, k.r]
def MN (p : Cs × Cs) : List Cs := [p.1, [61], p.2]
structure WJ (K : ZQ) (C : aac) : Prop where
 cl : Ly K C
 nL : fG K C "left"
 nR : fG K C "right"
end Bk
namespace Bk
open PySem L2 cI
inductive Pt where
 | fs (l : List Fc)
 | lk (l : List Lk)
 | pr (l : List (Cs × Cs))
def oy (K : ZQ) (c : Cl) (H0 H : Hp) (v : V) : Pt → Prop
 | .fs l => Facts K H0 H v l
 | .lk l => Looks c H0 H v l
 | .pr l => Pairs K H0 H v l
theorem Bn.b7 {c : Cl} {H0 H1 H : Hp} {x : Lk} {v : V} (d : ∀ b, H1 b = none → H0 b = none) (h : Bn c H1 H x v) : Bn c H0 H x v := by
 obtain ⟨a, dx, fs, e, n, r⟩ := h
 exact ⟨a, dx, fs, e, d a n, r⟩
theorem Looks.b7 {c : Cl} {H0 H1 H : Hp} {xs : List Lk} {v : V} (d : ∀ b, H1 b = none → H0 b = none) (h : Looks c H1 H v xs) : Looks c H0 H v xs := by
 obtain ⟨l, vs, e, n, h1, h2⟩ := h
 exact ⟨l, vs, e, d l n, h1, L2.Paired.sk h2 fun _ _ z => z.b7 d⟩
theorem oy.b7 {K : ZQ} {c : Cl} {H0 H1 H : Hp} {v : V} (d : ∀ b, H1 b = none → H0 b = none) : ∀ {p : Pt}, oy K c H1 H v p → oy K c H0 H v p
 | .fs _, h => zr.b7 d h
 | .lk _, h => Looks.b7 d h
 | .pr _, h => zr.b7 d h
def wordAt : Nat → Cs
 | 0 => Jw
 | 1 => Jy
 | 2 => Jz
 | 3 => MK
 | _ => JA
inductive Bp : Nat → List Cs → Pt → Prop
 | fs {n : Nat} {ps : List Cs} {l : List Fc} (hn : n = 0 ∨ n = 1 ∨ n = 3) (h : GX ps l) : Bp n ps (.fs l)
 | lk {l : List Lk} (h0 : l ≠ []) (hl : l.length ≤ 1000) (h : ∀ k ∈ l, aP k.l = true ∧ aP k.r = true) : Bp 2 (glue [44] (l.map MM)) (.lk l)
 | pr {l : List (Cs × Cs)} (h0 : l ≠ []) (hl : l.length ≤ 1000) (h : ∀ k ∈ l, aP k.1 = true ∧ aP k.2 = true) : Bp 4 (glue [44] (l.map MN)) (.pr l)
structure Pr where
 n : Nat
 ps : List Cs
 p : Pt
def UI : Nat → List Pr → Prop
 | _, [] => True
 | m, x :: r => m ≤ x.n ∧ x.n < 5 ∧ UI (x.n + 1) r
structure MO (title : Cs) (L : List Pr) : Prop where
 tt : gM title = true
 ne : L ≠ []
 inc : UI 0 L
 ok : ∀ x ∈ L, Bp x.n x.ps x.p
 hd : ∃ x ∈ L, x.n = 0 ∨ x.n = 1
 no : ∀ x ∈ L, [59] ∉ x.ps
def JD (title : Cs) (L : List Pr) : List Cs := Jv :: title :: [58] :: glue [59] (L.map fun x => wordAt x.n :: x.ps)
theorem Cw {kvs : List (Key × V)} {k : Key} (h : ∀ p ∈ kvs, p.1 ≠ k) : eL kvs k = none := by
 cases e : eL kvs k with
 | none => rfl
 | some v =>
  obtain ⟨p, hp, hk⟩ := Z1.mp (GQ e)
  exact absurd hk (h p hp)
end Bk
namespace Bk
open PySem L2 cI
def JE (f : Fc) : Prop := gM f.k = true ∧ f.as.length ≤ 20000 ∧ ∀ a ∈ f.as, aP a = true
def Ee (n : Nat) (L : List Pr) : Option Pr := L.find? fun x => x.n == n
def JF (n : Nat) (L : List Pr) : List Fc := match Ee n L with
 | some ⟨_, _, .fs l⟩ => l
 | _ => []
def Rt (L : List Pr) : List Lk := match Ee 2 L with
 | some ⟨_, _, .lk l⟩ => l
 | _ => []
def Ru (L : List Pr) : List (Cs × Cs) := match Ee 4 L with
 | some ⟨_, _, .pr l⟩ => l
 | _ => []
def MP (title : Cs) (L : List Pr) : Rl := ⟨title, JF 0 L, JF 1 L, Rt L, JF 3 L, Ru L⟩
structure WK (K : ZQ) (C : aac) : Prop where
 cl : Ly K C
 n1 : fG K C "title"
 n2 : fG K C "taken"
 n3 : fG K C "kept"
 n4 : fG K C "looks"
 n5 : fG K C "given"
 n6 : fG K C "told"
 n7 : fG K C "names"
structure WL (K : ZQ) (C : aac) : Prop where
 cl : Ly K C
 n1 : fG K C "kinds"
 n2 : fG K C "rules"
structure Rv (r : Rl) : Prop where
 heads : ∀ f ∈ r.take ++ r.keep, JE f
 few : (r.take ++ r.keep).length ≤ 20000
 WM : ((r.take ++ r.keep).flatMap (·.as)).length ≤ 20000
theorem dw {α β : Type} {R : α → β → Prop} : ∀ {a1 a2 : List α} {b1 b2 : List β}, Paired R a1 b1 → Paired R a2 b2 → Paired R (a1 ++ a2) (b1 ++ b2)
 | _, _, _, _, .nil, h => h
 | _, _, _, _, .cons r t, h => .cons r (dw t h)
end Bk
namespace Bk
open PySem L2 cI
theorem dF (a : Cs) (l : List Cs) : PM (tx a) (l.map tx) = decide (a ∈ l) := by
 unfold PM
 rw [List.any_map, acs, abb, decide_eq_true_eq]
 constructor
 ·rintro ⟨x, hx, h⟩
  have e : (S x == S a) = true := h
  rw [eM (eq_of_beq e)] at hx
  exact hx
 ·intro h
  exact ⟨a, h, (show (S a == S a) = true from beq_self_eq_true _)⟩
theorem de (l : List Cs) : (l.map tx).all mU = true := by
 rw [List.all_map, abg]
 intro x _
 rfl
theorem ij {tt : TT} {te : TE} {aJ : List Nat} {σ : St} {H1 : Hp} {Q : VK} {K : ZQ} {a : aac} {xs : List V} {D : aac} {β γ : Type} (bs : List β) (kp : β → Bool) (g : β → γ) (Out : Hp → Hp → γ → V → Prop)
  (keep : ∀ H0 H H' b y, Kp H0 H H' → Out H0 H b y → Out H0 H' b y) (b7 : ∀ H0 H2 H b y, (∀ c, H2 c = none → H0 c = none) → Out H2 H b y → Out H0 H b y)
  (hn : xs.length < Z2) (pU : H1 D = none) (hl : aC K H1 a xs) (hb : bs.length = xs.length)
  (ht : ∀ (i : Nat) x b H' R, xs[i]? = some x → bs[i]? = some b → af H1 H' → (∀ jG, af H' jG → R (kp b) jG) → tt (bT σ (some x) aJ) H' R)
  (he : ∀ (i : Nat) x b H' R, xs[i]? = some x → bs[i]? = some b → kp b = true → af H1 H' → (∀ y jG, af H' jG → Out H' jG (g b) y → R y jG) → te (bT σ (some x) aJ) H' R)
  (hd : ∀ H' ys, af H1 H' → H' D = some (.lst ys) → Paired (Out H1 H') ((bs.filter kp).map g) ys → Q (.ref D) H') : jU tt te aJ σ Q (DK K a) H1 D := by
 have s0 : af H1 (upd H1 D (.lst [])) := aj pU _
 have JB : ∀ c, upd H1 D (.lst []) c = none → H1 c = none := fun c h => s0.free h
 refine ig (K := K) (a := a) (xs := xs) hn (fun i ys H' => af H1 H' ∧ H' D = some (.lst ys) ∧ (∀ c, H' c = none → upd H1 D (.lst []) c = none) ∧ Paired (Out (upd H1 D (.lst [])) H') (((bs.take i).filter kp).map g) ys) ⟨s0, ae, fun _ h => h, .nil⟩
  (fun i ys H' p => p.1.seq hl) (fun i ys H' p => ⟨p.2.1, ?_⟩) (fun i ys H' hi p => ?_) (fun ys H' p => ?_)
 ·have z := aad p.2.2.2
  rw [Lm9] at z
  have z2 := aat kp (bs.take i)
  rw [aah] at z2
  omega
 ·have hx : xs.getD i .bB = xs[i] := by rw [Gd9, Ge9 hi]; rfl
  rw [hx]
  have fb : i < bs.length := by omega
  refine ht i xs[i] bs[i] H' _ (Ge9 hi) (Ge9 fb) p.1 fun UJ JG => ?_
  have LD := JG _ _ p.2.1
  have JH : ∀ c, UJ c = none → upd H1 D (.lst []) c = none := fun c h => p.2.2.1 c (JG.free h)
  cases hk : kp bs[i] with
  | false =>
   refine b5 ⟨af.trans p.1 JG, LD, JH, ?_⟩
   rw [Z4 fb, abI]
   have e : [bs[i]].filter kp = [] := by simp [hk]
   rw [e, abt]
   exact L2.Paired.sk p.2.2.2 fun b v z => keep _ _ _ _ _ (Kp.same JG) z
  | true =>
   refine dc ?_
   refine he i xs[i] bs[i] UJ _ (Ge9 hi) (Ge9 fb) hk (af.trans p.1 JG) fun y H2 s2 ho => ?_
   have lQ := s2 _ _ LD
   have Ea : Kp (upd H1 D (.lst [])) H2 (upd H2 D (.lst (ys ++ [y]))) := Kp.upd ae lQ (by intro xs z; cases z) (by intro o u z; cases z)
   refine ⟨lQ, af.a8 (af.trans (af.trans p.1 JG) s2) pU _, ae, fun c h => ?_, ?_⟩
   ·exact JH c (s2.free (Ea.LF c h))
   ·rw [Z4 fb, abI]
    have e : [bs[i]].filter kp = [bs[i]] := by simp [hk]
    rw [e, aaj]
    refine (L2.Paired.sk p.2.2.2 fun b v z => keep _ _ _ _ _ Ea (keep _ _ _ _ _ (Kp.same (af.trans JG s2)) z)).snoc ?_
    exact keep _ _ _ _ _ Ea (b7 _ _ _ _ _ JH ho)
 ·have z := p.2.2.2
  rw [aaV (by omega)] at z
  exact hd H' ys p.1 p.2.1 (L2.Paired.sk z fun b v h => b7 _ _ _ _ _ (fun c h => by
   by_cases e : c = D
   ·rw [e]; exact pU
   ·exact JB c h) h)
theorem uu : ∀ {l : List Cs} {ys : List V}, Paired (fun b y => y = tx b) l ys → ys = l.map tx
 | _, _, .nil => rfl
 | _, _, .cons r t => by rw [r, uu t]; rfl
def Rw (k : Kd) : Prop := gM k.n = true ∧ k.c ≤ 4
structure Rx (K : ZQ) (c : Cl) (H0 H : Hp) (lk lr : aac) (ks : List Kd) (rs : List Rl) (kvs UK : List V) : Prop where
 hk : H lk = some (.lst kvs)
 pk : Paired (Kind K H) ks kvs
 hr : H lr = some (.lst UK)
 pr : Paired (xG K c H0 H) rs UK
 ne : lk ≠ lr
 ok : ∃ u, H0 lk = some u
 or : ∃ u, H0 lr = some u
 LF : ∀ b, H b = none → H0 b = none
 fk : ks.length ≤ 10000
 fr : rs.length ≤ 10000
theorem xG.b7 {K : ZQ} {c : Cl} {H0 H1 H : Hp} {r : Rl} {v : V} (d : ∀ b, H1 b = none → H0 b = none) (h : xG K c H1 H r v) : xG K c H0 H r v := by
 obtain ⟨a, dx, fs, e, n, h1, ⟨t1, ⟨v2, e2, h2⟩, ⟨v3, e3, h3⟩, ⟨v4, e4, h4⟩, ⟨v5, e5, h5⟩, ⟨v6, e6, h6⟩, ⟨v7, e7, h7⟩, h8⟩⟩ := h
 refine ⟨a, dx, fs, e, d a n, h1, ⟨t1, ⟨v2, e2, zr.b7 d h2⟩, ⟨v3, e3, zr.b7 d h3⟩, ⟨v4, e4, Looks.b7 d h4⟩, ⟨v5, e5, zr.b7 d h5⟩, ⟨v6, e6, zr.b7 d h6⟩, ⟨v7, e7, ?_⟩, h8⟩⟩
 obtain ⟨l, el, nl, hl⟩ := h7
 exact ⟨l, el, d l nl, hl⟩
theorem oy.apart {K : ZQ} {c : Cl} {H0 H : Hp} {v : V} {x : aac} {o : HO} (hx : H x = none) {p : Pt} (h : oy K c H0 H v p) : oy K c (upd H0 x o) H v p := by
 have key : ∀ b u, H b = some u → H0 b = none → upd H0 x o b = none := fun b u e n => by rw [aE (bg e hx)]; exact n
 cases p with
 | fs l =>
  obtain ⟨l, vs, e, n, h1, h2⟩ := h
  exact ⟨l, vs, e, key _ _ h1 n, h1, h2⟩
 | pr l =>
  obtain ⟨l, vs, e, n, h1, h2⟩ := h
  exact ⟨l, vs, e, key _ _ h1 n, h1, h2⟩
 | lk l =>
  obtain ⟨l, vs, e, n, h1, h2⟩ := h
  exact ⟨l, vs, e, key _ _ h1 n, h1, L2.Paired.sk h2 fun k y z => by
   obtain ⟨a, dx, fs, e, n, z1, z2⟩ := z
   exact ⟨a, dx, fs, e, key _ _ z1 n, z1, z2⟩⟩
theorem Bo.b7 {K : ZQ} {c : Cl} {H0 H1 H : Hp} {r : Rl} {fs : List (Str × V)} (d : ∀ b, H1 b = none → H0 b = none) (h : Bo K c H1 H r fs) : Bo K c H0 H r fs := by
 obtain ⟨t1, ⟨v2, e2, h2⟩, ⟨v3, e3, h3⟩, ⟨v4, e4, h4⟩, ⟨v5, e5, h5⟩, ⟨v6, e6, h6⟩, ⟨v7, e7, h7⟩, h8⟩ := h
 refine ⟨t1, ⟨v2, e2, zr.b7 d h2⟩, ⟨v3, e3, zr.b7 d h3⟩, ⟨v4, e4, Looks.b7 d h4⟩, ⟨v5, e5, zr.b7 d h5⟩, ⟨v6, e6, zr.b7 d h6⟩, ⟨v7, e7, ?_⟩, h8⟩
 obtain ⟨l, el, nl, hl⟩ := h7
 exact ⟨l, el, d l nl, hl⟩
def Ef (ks : List Kd) (f : Fc) : Prop := ∃ k ∈ ks, k.n = f.k ∧ f.as.length = k.c
def qB (K : ZQ) : Sp := fun vs H Q _ => ∃ (ll lf : aac) (mP : List V) (ls : List Cs) (fs : List Fc), vs = [.ref ll, .ref lf] ∧ H ll = some (.lst (ls.map tx)) ∧ H lf = some (.lst mP) ∧ Paired (Fact K H) fs mP ∧ (∀ f ∈ fs, f.k ∉ ls) ∧ Q .bB H
def zS (r : Rl) : List Cs := (r.Ec.flatMap fun k => [k.l, k.r]) ++ ((r.put.flatMap (·.as)) ++ (r.tell.flatMap fun p => [p.1, p.2]))
structure JI (ks : List Kd) (r : Rl) : Prop where
 fits : ∀ f ∈ r.take ++ r.keep ++ r.put, Ef ks f
 takes : ∀ f ∈ r.take, f.k ∉ (ks.filter (·.l)).map (·.n)
 calls : r.take = [] → ∀ f ∈ r.put, f.k ∈ (ks.filter (·.l)).map (·.n)
 WN : ∀ a ∈ zS r, great a = true → a ∈ opens (r.take ++ r.keep)
 names : ∀ a ∈ zS r, aP a = true
 few : (zS r).length ≤ 20000
 WQ : (r.take ++ r.keep ++ r.put).length ≤ 20000
theorem iO : ∀ (ps acc : List (Key × V)), ((acc ++ ps).map (·.1)).Nodup → du acc ps = acc ++ ps
 | [], acc, _ => by show acc = acc ++ []; rw [abt]
 | p :: r, acc, h => by
  have hn : eL acc p.1 = none := Cw fun q hq e => by
   rw [aaj, aap, acC] at h
   exact h.2.2 q.1 (Z1.mpr ⟨q, hq, rfl⟩) p.1 Z5 e
  have ih := iO r (acc ++ [p]) (by rw [abS]; exact h)
  show du (putK acc p.1 p.2) r = _
  rw [xD _ hn, ih, abS]
  rfl
def m9 (k : Kd) : Key × V := (abi (S k.n), .int k.c)
theorem oR {K : ZQ} {H : Hp} : ∀ {ks : List Kd} {ys : List V}, Paired (fun (k : Kd) (y : V) => ∃ t, y = .ref t ∧ aK K H t [tx k.n, .int k.c]) ks ys → gu K H (ks.map m9) ys
 | _, _, .nil => .nil
 | _, _, .cons r t => .cons r (oR t)
theorem xI {ks : List Kd} (h : (ks.map (·.n)).Nodup) : ((ks.map m9).map (·.1)).Nodup := by
 rw [aaJ]
 have e : ((fun p : Key × V => p.1) ∘ m9) = (fun n : Cs => (abi (S n) : Key)) ∘ (fun k : Kd => k.n) := rfl
 rw [e, ← aaJ]
 exact abT.mpr (afr (fun hne e => hne (eM (adw e))) h)
end Bk
namespace Bk
open PySem L2 cI
inductive It where
 | kind (k : Kd)
 | rule (title : Cs) (L : List Pr)
def It.ps : It → List Cs
 | .kind k => ML k
 | .rule t L => JD t L
def GZ : List It → List Kd
 | [] => []
 | .kind k :: r => k :: GZ r
 | .rule _ _ :: r => GZ r
def G0 : List It → List Rl
 | [] => []
 | .kind _ :: r => G0 r
 | .rule t L :: r => MP t L :: G0 r
def Ry : It → Prop
 | .kind k => Rw k
 | .rule t L => MO t L ∧ Rv (MP t L)
structure UL (ls : List Cs) (its : List (Cs × It)) : Prop where
 lines : ls.filter told = its.map (·.1)
 ok : ∀ x ∈ its, x.1.all (WI MJ) = true ∧ toks x.1 = x.2.ps ∧ Ry x.2
 nk : ((GZ (its.map (·.2))).map (·.n)).Nodup
 nr : ((G0 (its.map (·.2))).map (·.title)).Nodup
 good : ∀ r ∈ G0 (its.map (·.2)), JI (GZ (its.map (·.2))) r
 few : its.length < 10000
end Bk
namespace L2
open PySem PySem.Spec PyProof.Rows
section
variable {X : Cx}
end
end L2
namespace L2
open PySem PySem.Spec PyProof.Rows
theorem vf {X : Cx} : cK X (.builtin "isinstance") (fun xs H Q => ∃ (a : aac) (ys : List V) (n : String) (b : Bool), xs = [.ref a, .ty n] ∧ aK X.K H a ys ∧ acj X.K (.type "tuple") (.type n) = some b ∧ Q (.bl b) H) := by
 intro pins s σ H xs us Q I r h
 obtain ⟨a, ys, n, b, rfl, g, e, q⟩ := h
 obtain ⟨u, u2, rfl, rx, ru⟩ := vals2 r
 have e2 : u2 = acS n := ru
 subst e2
 cases (show u = aaC a from rx)
 obtain ⟨its, _, ⟨o, h1, h2, _⟩, _⟩ := I.tuple g
 exact abe ae7 I.si ⟨o, h1, h2⟩ e (fun z => nomatch z) fun tk => ⟨.bl b, H, I.tok _, rfl, q⟩
end L2
namespace Bk
open PySem L2 cI
abbrev pF : Str := "abcdefghijklmnopqrstuvwxyz0123456789ABCDEFGHIJKLMNOPQRSTUVWXYZ"
abbrev LG : Str := "abcdefghijklmnopqrstuvwxyz0123456789"
theorem lR (a b : List Nat) : S a ++ S b = S (a ++ b) := by
 rw [← ve (S a ++ S b), abz, aZ, aZ]
theorem JJ (cs : List Nat) : ad7 (aae "") (cs.map fun c => S [c]) = S cs := by
 show ade (aae "") _ = _
 rw [acx]
 have e := PyProof.Rows.join_nil_signs (S cs)
 unfold PyProof.Rows.signs at e
 rw [aZ] at e
 exact e
theorem iP : ∀ {as : List (List Nat)} {B : Nat}, (∀ a ∈ as, a.length ≤ B) → ((as.map S).map (·.length)).sum ≤ as.length * B
 | [], _, _ => by simp
 | a :: r, B, h => by
  have z := h a (by simp)
  have ih := iP (as := r) (B := B) fun x hx => h x (Z9 _ hx)
  rw [aap, aap, ace, bc, aal, Nat.add_mul]
  omega
theorem Eg : pF.cps.toList.all m8 = true := by decide +kernel
theorem ng : pF.length = 62 := by decide +kernel
def zT (K : ZQ) : Sp := fun vs H Q _ => ∃ (a : aac) (ns : List Int) (k : Int), vs = [.ref a, .int k] ∧ aC K H a (ns.map V.int) ∧ 0 ≤ k ∧ ∀ v : Int, Q (.int v) H
def uw : Sp := fun vs H Q _ => ∃ c k : Int, vs = [.int c, .int k] ∧ 0 ≤ k ∧ k ≤ 100 ∧ ∀ (v : Int) (H' : Hp), af H H' → 0 ≤ v → Q (.int v) H'
def Good (fs : List Nat) (z : List Nat) : Prop := aP z = true ∧ z.headD 0 ∈ fs
def nh : Sp := fun vs H Q _ => ∃ (c : Int) (n : Nat) (fs : List Nat), vs = [.int c, .int n, tx fs] ∧ n ≤ 10 ∧ 10 ≤ fs.length ∧ fs.length ≤ 62 ∧ fs.all m8 = true ∧ fs.Nodup ∧
 ∀ (l : aac) (zs : List (List Nat)) (H' : Hp), af H H' → H l = none → H' l = some (.lst (zs.map tx)) → zs.length = n → (∀ z ∈ zs, Good fs z) → zs.Nodup → Q (.ref l) H'
def iQ (fs : List Nat) : Sp := fun vs H Q _ => ∃ (c : Int) (n : Nat), vs = [.int c, .int n] ∧ n ≤ 10 ∧
 ∀ (l : aac) (zs : List (List Nat)) (H' : Hp), af H H' → H l = none → H' l = some (.lst (zs.map tx)) → zs.length = n → (∀ z ∈ zs, Good fs z) → zs.Nodup → Q (.ref l) H'
def Bq (K : ZQ) : Sp := fun vs H Q _ => ∃ (a : aac) (ns : List Int), vs = [.ref a] ∧ aC K H a (ns.map V.int) ∧ ns.length ≤ 63 ∧ ∀ H', Q (.bl true) H'
theorem vg {fs : List Nat} {c : Nat} {r : List Nat} (hc : c ∈ fs) (hf : fs.all m8 = true) (hr : r.all m8 = true) (hl : r.length ≤ 11) : Good fs ([c] ++ r) := by
 refine ⟨?_, hc⟩
 show aP (c :: r) = true
 unfold aP
 rw [abg] at hf
 have z : (c :: r).all m8 = true := by rw [ads, hf c hc, hr]; rfl
 rw [z]
 simp
 omega
theorem sign_of {x : Str} {i : Int} (h0 : 0 ≤ i) (h1 : i < x.length) : ∃ c, ug x.cps.toList i = some c ∧ c ∈ x.cps.toList := by
 have hl := ow x
 exact ⟨_, zQ h0 h1, ab5 (getD_get (by omega))⟩
theorem qC {T : List Nat} {n : Nat} (h : n ≤ T.length) : adz (S T) none (some (n : Int)) = S (T.take n) := by
 have e := DZ (z := S T) (j := (n : Int)) (by omega) (by rw [bc]; omega)
 rw [← ve (adz (S T) none (some (n : Int))), e, aZ, show ((n : Int)).toNat = n by omega]
theorem fc {α : Type} {n : Nat} {g : Nat → α} (h : ∀ i j, i < n → j < n → g i = g j → i = j) : ((aaz n).map g).Nodup := by
 rw [List.nodup_iff_pairwise_ne, abT]
 refine acX ?_ (List.nodup_range (n := n))
 intro a b ha hb hne e
 exact hne (h a b (aaT.mp ha) (aaT.mp hb) e)
theorem qD {l : List Nat} (h : l.Nodup) {i j : Nat} (hi : i < l.length) (hj : j < l.length) (e : l.getD i 0 = l.getD j 0) : i = j := by
 rw [Gd9, Gd9, Ge9 hi, Ge9 hj] at e
 have e : l[i] = l[j] := e
 have p := ab2.mp h
 rcases adf i j with z | z | z
 ·exact absurd e (p i j hi hj z)
 ·exact z
 ·exact absurd e.symm (p j i hj hi z)
theorem Br {a : Int} {m i j : Nat} (hi : i < m) (hj : j < m) (e : ((a + (0 + (i : Int))) % (m : Int)).toNat = ((a + (0 + (j : Int))) % (m : Int)).toNat) : i = j := by
 have m0 : (0 : Int) < m := by omega
 have h1 := acw (a + (0 + (i : Int))) (b := (m : Int)) (by omega)
 have h2 := acw (a + (0 + (j : Int))) (b := (m : Int)) (by omega)
 have e' : (a + (0 + (i : Int))) % (m : Int) = (a + (0 + (j : Int))) % (m : Int) := by omega
 have e3 : ((i : Int) - (j : Int)) % (m : Int) = 0 := by
  have z := Int.emod_eq_emod_iff_emod_sub_eq_zero.mp e'
  have z2 : a + (0 + (i : Int)) - (a + (0 + (j : Int))) = (i : Int) - (j : Int) := by omega
  rw [z2] at z
  exact z
 obtain ⟨k, hk⟩ := Int.dvd_of_emod_eq_zero e3
 have Ga : k = 0 := by
  rcases Int.lt_trichotomy k 0 with h | h | h
  ·have : (m : Int) * k ≤ -(m : Int) := by
    have := adp (show k ≤ -1 by omega) (Int.le_of_lt m0)
    omega
   omega
  ·exact h
  ·have : (m : Int) ≤ (m : Int) * k := by
    have := adp (show 1 ≤ k by omega) (Int.le_of_lt m0)
    omega
   omega
 rw [Ga] at hk
 omega
theorem ni {K : ZQ} {t : ZS} : acj K t t = some true := by
 unfold acj
 rw [if_pos (beq_self_eq_true t)]
end Bk
namespace Bk
open PySem L2 cI
def qE (c : Nat) : List Cs → Cs
 | [] => []
 | [a] => a
 | a :: r => a ++ c :: qE c r
theorem ux (c : Nat) : ∀ (ls : List Str), (adR ⟨#[c]⟩ ls).cps.toList = qE c (ls.map fun s => s.cps.toList)
 | [] => rfl
 | [a] => rfl
 | a :: b :: r => by
  have ih := ux c (b :: r)
  show ((a ++ (⟨#[c]⟩ : Str)) ++ adR ⟨#[c]⟩ (b :: r)).cps.toList = _
  rw [abz, abz, ih]
  show (a.cps.toList ++ [c]) ++ _ = a.cps.toList ++ c :: _
  simp
theorem vh (c : Nat) (ls : List Cs) : ad7 ⟨#[c]⟩ (ls.map S) = S (qE c ls) := by
 show ade ⟨#[c]⟩ _ = _
 rw [acx, ← ve (adR ⟨#[c]⟩ (ls.map S)), ux, aaJ]
 have e : ((fun s : Str => s.cps.toList) ∘ S) = id := by
  funext p
  exact aZ p
 rw [e, abA]
end Bk
namespace Bk
open PySem L2 cI
end Bk
namespace Bk
open PySem L2 cI
end Bk
namespace L2
open PySem PySem.Spec PyProof.Rows
section
variable {X : Cx} {pins : List (aac × Obj)} {σ : St} {H : Hp} {s : ZU} {h' : Heap}
end
end L2
namespace L2
open PySem PySem.Spec PyProof.Rows
section
variable {prog : aao} {w : aaO} {A : aaA} {E : ZS → ZU → Prop} {s : ZU}
end
section
variable {X : Cx}
end
end L2
namespace L2
open PySem PySem.Spec PyProof.Rows
section
variable {X : Cx}
end
end L2
namespace L2
open PySem PySem.Spec PyProof.Rows
structure PV (outer scope : Scope) (x : Str) (N : List Str) : Prop where
 kind : scope.kind = .function
 one : scope.names.filter (fun y => y.2 == .cell) = [(x, .cell)]
 locs : ∀ y ∈ scope.names, y.2 = .local → scope.names.lookup y.1 = some .local
 Rf : scope.names.lookup x = some .cell
 frees : ∀ y ∈ scope.names, y.2 = .free → (outer.names.lookup y.1 = some .cell ∨ outer.names.lookup y.1 = some .free)
 aJ : ∀ y ∈ N.tail, scope.names.lookup y = some .free
 nd : N.Nodup
section
variable {X : Cx}
end
end L2
namespace L2
open PySem PySem.Spec PyProof.Rows
structure PX (outer scope : Scope) (xs : List Str) (N : List Str) : Prop where
 kind : scope.kind = .function
 zG : ∀ y ∈ scope.names, y.2 ≠ .cell
 locs : ∀ y ∈ scope.names, y.2 = .local → scope.names.lookup y.1 = some .local
 Rf : ∀ x ∈ xs, scope.names.lookup x = some .local
 frees : ∀ y ∈ scope.names, y.2 = .free → (outer.names.lookup y.1 = some .cell ∨ outer.names.lookup y.1 = some .free)
 aJ : ∀ y ∈ N.drop xs.length, scope.names.lookup y = some .free
 nd : N.Nodup
section
variable {X : Cx}
end
end L2
namespace L2
open PySem PySem.Spec PyProof.Rows
section
variable {X : Cx}
end
end L2
namespace L2
open PySem PySem.Spec PyProof.Rows
section
variable {X : Cx} {pins : List (aac × Obj)} {σ : St}
end
end L2
namespace L2
open PySem PySem.Spec PyProof.Rows
section
variable {X : Cx}
end
end L2
namespace L2
open PySem PySem.Spec PyProof.Rows
end L2
namespace L2
open PySem PySem.W PyProof.Rows
def df {α : Type} (lt : Nat → Nat → Bool) (n : Nat) : KasT α → (α → Prop) → Prop
 | .ret a, Q => Q a
 | .ask i j k, Q => i < n ∧ j < n ∧ df lt n (k (lt i j)) Q
theorem df.mono {α : Type} {lt : Nat → Nat → Bool} {n : Nat} {Q Q' : α → Prop} (hq : ∀ a, Q a → Q' a) : ∀ {t : KasT α}, df lt n t Q → df lt n t Q'
 | .ret _, h => hq _ h
 | .ask _ _ _, ⟨h1, h2, h3⟩ => ⟨h1, h2, df.mono hq h3⟩
theorem df.bind {α β : Type} {lt : Nat → Nat → Bool} {n : Nat} {f : α → KasT β} {Q : β → Prop} : ∀ {t : KasT α}, df lt n t (fun a => df lt n (f a) Q) → df lt n (t.bind f) Q
 | .ret _, h => h
 | .ask _ _ _, ⟨h1, h2, h3⟩ => ⟨h1, h2, df.bind h3⟩
theorem df.wp {α : Type} {lt : Nat → Nat → Bool} {n : Nat} {Q : α → Prop} {cmp : Nat → Nat → (Bool → ZU → Prop) → ZU → Prop} {R : α → ZU → Prop} {s : ZU} (hc : ∀ i j C, i < n → j < n → C (lt i j) s → cmp i j C s) (hq : ∀ a, Q a → R a s) :
  ∀ {t : KasT α}, df lt n t Q → t.kasWp cmp R s
 | .ret _, h => hq _ h
 | .ask _ _ _, ⟨h1, h2, h3⟩ => hc _ _ _ h1 h2 (df.wp hc hq h3)
structure WO (lt : Nat → Nat → Bool) : Prop where
 vk : ∀ a b, lt a b = true → lt b a = false
 tr : ∀ a b c, lt b a = false → lt c b = false → lt c a = false
theorem WO.Eh {lt : Nat → Nat → Bool} (W : WO lt) (a : Nat) : lt a a = false := by
 cases h : lt a a with
 | false => rfl
 | true => have := W.vk a a h; rw [h] at this; exact this
theorem WO.up {lt : Nat → Nat → Bool} (W : WO lt) {a b c : Nat} (h1 : lt a b = true) (h2 : lt c b = false) : lt a c = true := by
 cases h : lt a c with
 | true => rfl
 | false => have := W.tr b c a h2 h; rw [h1] at this; exact this.symm
def vm (lt : Nat → Nat → Bool) (p : Array Nat) (m : Nat) : Prop := ∀ i j, i < j → j < m → lt (p.getD j 0) (p.getD i 0) = false
def Du (lt : Nat → Nat → Bool) (p : Array Nat) (m : Nat) : Prop := ∀ i j, i < j → j < m → lt (p.getD i 0) (p.getD j 0) = false
def Arr (n : Nat) (p : Array Nat) : Prop := p.size = n ∧ p.toList.Perm (aaz n)
theorem Arr.lt {n : Nat} {p : Array Nat} (h : Arr n p) {k : Nat} (hk : k < n) : p.getD k 0 < n := by
 have hs : k < p.size := by rw [h.1]; exact hk
 have e : p.getD k 0 = p[k] := by simp [abp, hs]
 rw [e]
 have m : p[k] ∈ p.toList := by simp
 exact aaT.mp (h.2.mem_iff.mp m)
theorem Arr.of {n : Nat} {p q : Array Nat} (h : Arr n p) (hp : q.Perm p) : Arr n q := ⟨hp.size_eq.trans h.1, (Array.perm_iff_toList_perm.mp hp).trans h.2⟩
theorem eO {p : Array Nat} {i j : Nat} (hj : j ≤ p.size) (k : Nat) : (kas_rev p i j).getD k 0 = if i ≤ k ∧ k < j then p.getD (i + j - 1 - k) 0 else p.getD k 0 := by
 rw [aav, aav, aav]
 unfold kas_rev
 rw [getElem?_mirror_all hj k]
 split <;> rfl
theorem xJ {p : Array Nat} {src d : Nat} (hs : src < p.size) (hd : d ≤ src) (k : Nat) : (bubble p src d).getD k 0 = if k = src - d then p.getD src 0 else if src - d < k ∧ k ≤ src then p.getD (k - 1) 0 else p.getD k 0 := by
 rw [aav, aav, aav, aav]
 rw [getElem?_bubble hs d hd k]
 split
 ·rfl
 ·split <;> rfl
theorem Arr.rev {n : Nat} {p : Array Nat} (h : Arr n p) (i j : Nat) : Arr n (kas_rev p i j) := h.of (mirror_perm _ _ _ _)
theorem Arr.WR {n : Nat} {p : Array Nat} (h : Arr n p) (i j : Nat) : Arr n (bubble p i j) := h.of (bubble_perm _ _ _)
section
variable {lt : Nat → Nat → Bool} {n : Nat} (W : WO lt)
include W
theorem vm.more {p : Array Nat} {m : Nat} (h : vm lt p m) (h1 : 1 ≤ m) (hl : lt (p.getD m 0) (p.getD (m - 1) 0) = false) : vm lt p (m + 1) := fun i j Bs hj => by
 by_cases e : j = m
 ·subst e
  by_cases e2 : i = j - 1
  ·subst e2; exact hl
  ·exact W.tr _ _ _ (h i (j - 1) (by omega) (by omega)) hl
 ·exact h i j Bs (by omega)
theorem Du.more {p : Array Nat} {m : Nat} (h : Du lt p m) (h1 : 1 ≤ m) (hl : lt (p.getD (m - 1) 0) (p.getD m 0) = false) : Du lt p (m + 1) := fun i j Bs hj => by
 by_cases e : j = m
 ·subst e
  by_cases e2 : i = j - 1
  ·subst e2; exact hl
  ·exact W.tr _ _ _ hl (h i (j - 1) (by omega) (by omega))
 ·exact h i j Bs (by omega)
theorem zU {p : Array Nat} (hp : Arr n p) : ∀ (f m : Nat), 1 ≤ m → m + f ≤ n → vm lt p m →
  df lt n (kas_asc p f m) (fun r => m ≤ r ∧ r ≤ m + f ∧ vm lt p r ∧ (r < m + f → lt (p.getD r 0) (p.getD (r - 1) 0) = true))
 | 0, m, _, _, h => ⟨Z0 _, Z0 _, h, fun z => absurd z (by omega)⟩
 | f + 1, m, h1, h2, h => by
  refine ⟨hp.lt (by omega), hp.lt (by omega), ?_⟩
  cases e : lt (p.getD m 0) (p.getD (m - 1) 0) with
  | true => exact ⟨Z0 _, by omega, h, fun _ => e⟩
  | false =>
   show df lt n (kas_asc p f (m + 1)) _
   exact (zU hp f (m + 1) (by omega) (by omega) (h.more W h1 e)).mono fun r ⟨a, b, c, d⟩ => ⟨by omega, by omega, c, fun z => d (by omega)⟩
def PY (lt : Nat → Nat → Bool) (p : Array Nat) (a b : Nat) : Prop := ∀ i j, a ≤ i → i < b → a ≤ j → j < b → lt (p.getD i 0) (p.getD j 0) = false
omit W in
theorem Du.rev {p : Array Nat} {a m : Nat} (hm : m ≤ p.size) (h : Du lt p m) (he : PY lt p a m) : Du lt (kas_rev p a m) m := fun i j Bs hj => by
 rw [eO hm, eO hm]
 by_cases h1 : a ≤ i
 ·rw [if_pos ⟨h1, by omega⟩, if_pos ⟨by omega, hj⟩]
  exact he _ _ (by omega) (by omega) (by omega) (by omega)
 ·rw [if_neg (by omega)]
  by_cases h2 : a ≤ j
  ·rw [if_pos ⟨h2, hj⟩]
   exact h _ _ (by omega) (by omega)
  ·rw [if_neg (by omega)]
   exact h i j Bs hj
theorem pW : ∀ (f : Nat) (p : Array Nat) (m q : Nat), Arr n p → q + 1 ≤ m → m + f = n → Du lt p m → PY lt p (m - (q + 1)) m →
  df lt n (kas_desc f p m q) (fun r => Arr n r.1 ∧ r.2.1 ≤ n ∧ r.2.2 + 1 ≤ r.2.1 ∧ Du lt r.1 r.2.1 ∧ PY lt r.1 (r.2.1 - (r.2.2 + 1)) r.2.1)
 | 0, p, m, q, hp, hq, hm, h, he => ⟨hp, by show m ≤ n; omega, hq, h, he⟩
 | f + 1, p, m, q, hp, hq, hm, h, he => by
  refine ⟨hp.lt (by omega), hp.lt (by omega), ?_⟩
  have hsz : m ≤ p.size := by rw [hp.1]; omega
  cases e : lt (p.getD m 0) (p.getD (m - 1) 0) with
  | true =>
   show df lt n (if q > 0 then _ else _) _
   split
   ·have hr := h.rev hsz he
    have e1 : (kas_rev p (m - (q + 1)) m).getD m 0 = p.getD m 0 := by rw [eO hsz, if_neg (by omega)]
    have hl : lt ((kas_rev p (m - (q + 1)) m).getD (m - 1) 0) ((kas_rev p (m - (q + 1)) m).getD m 0) = false := by
     rw [e1, eO hsz, if_pos ⟨by omega, by omega⟩]
     have e2 : m - (q + 1) + m - 1 - (m - 1) = m - (q + 1) := by omega
     rw [e2]
     exact W.tr _ _ _ (W.vk _ _ e) (he (m - (q + 1)) (m - 1) (by omega) (by omega) (by omega) (by omega))
    refine pW f _ (m + 1) 0 (hp.rev _ _) (by omega) (by omega) (hr.more W (by omega) hl) fun i j a1 a2 a3 a4 => ?_
    obtain rfl : i = j := by omega
    exact W.Eh _
   ·refine pW f p (m + 1) 0 hp (by omega) (by omega) (h.more W (by omega) (W.vk _ _ e)) fun i j a1 a2 a3 a4 => ?_
    obtain rfl : i = j := by omega
    exact W.Eh _
  | false =>
   show df lt n (.ask (p.getD (m - 1) 0) (p.getD m 0) _) _
   refine ⟨hp.lt (by omega), hp.lt (by omega), ?_⟩
   cases e2 : lt (p.getD (m - 1) 0) (p.getD m 0) with
   | true => exact ⟨hp, by show m ≤ n; omega, hq, h, he⟩
   | false =>
    show df lt n (kas_desc f p (m + 1) (q + 1)) _
    refine pW f p (m + 1) (q + 1) hp (by omega) (by omega) (h.more W (by omega) e2) fun i j a1 a2 a3 a4 => ?_
    by_cases c1 : i = m
    ·subst c1
     by_cases c2 : j = i
     ·subst c2; exact W.Eh _
     ·exact W.tr _ _ _ (he j (i - 1) (by omega) (by omega) (by omega) (by omega) |> fun z => he (i - 1) j (by omega) (by omega) (by omega) (by omega)) e
    ·by_cases c2 : j = m
     ·subst c2
      exact W.tr _ _ _ e2 (he i (j - 1) (by omega) (by omega) (by omega) (by omega))
     ·exact he i j (by omega) (by omega) (by omega) (by omega)
theorem xK {p : Array Nat} {m : Nat} (hp : Arr n p) (h1 : 1 ≤ m) (hm : m ≤ n) (h : Du lt p m) : df lt n (kas_tail3 m n p) (fun r => Arr n r.2 ∧ 1 ≤ r.1 ∧ r.1 ≤ n ∧ vm lt r.2 r.1) := by
 have hsz : m ≤ p.size := by rw [hp.1]; exact hm
 have hr : vm lt (kas_rev p 0 m) m := fun i j Bs hj => by
  rw [eO hsz, eO hsz, if_pos ⟨by omega, hj⟩, if_pos ⟨by omega, by omega⟩]
  exact h _ _ (by omega) (by omega)
 refine df.bind ((zU W (hp.rev 0 m) (n - m) m h1 (by omega) hr).mono fun r ⟨a, b, c, _⟩ => ?_)
 exact ⟨hp.rev 0 m, by show 1 ≤ r; omega, by show r ≤ n; omega, c⟩
theorem oS {p : Array Nat} {m : Nat} (hp : Arr n p) (hm : m + 1 ≤ n) (h : Du lt p (m + 1)) : df lt n (kas_descPart m n p) (fun r => Arr n r.2 ∧ 1 ≤ r.1 ∧ r.1 ≤ n ∧ vm lt r.2 r.1) := by
 refine df.bind ((pW W (n - (m + 1)) p (m + 1) 0 hp (by omega) (by omega) h fun i j a1 a2 a3 a4 => ?_).mono fun r ⟨a, b, c, d, e⟩ => ?_)
 ·obtain rfl : i = j := by omega
  exact W.Eh _
 ·split
  ·exact xK W (a.rev _ _) (by omega) b (d.rev (by rw [a.1]; exact b) e)
  ·exact xK W a (by omega) b d
theorem Ei {p : Array Nat} (hp : Arr n p) (h1 : 1 ≤ n) : df lt n (kas_count n p) (fun r => Arr n r.2 ∧ 1 ≤ r.1 ∧ r.1 ≤ n ∧ vm lt r.2 r.1) := by
 refine df.bind ((zU W hp (n - 1) 1 (Z0 _) (by omega) fun i j a b => absurd a (by omega)).mono fun m ⟨a, b, c, d⟩ => ?_)
 split
 ·exact ⟨hp, a, by show m ≤ n; omega, c⟩
 ·rename_i hne
  have hne' : m ≠ n := fun z => hne (beq_iff_eq.mpr z)
  have hd := d (by omega)
  split
  ·refine ⟨hp.lt (by omega), hp.lt (by omega), ?_⟩
   cases e : lt (p.getD 0 0) (p.getD (m - 1) 0) with
   | true => exact ⟨hp, a, by show m ≤ n; omega, c⟩
   | false =>
    show df lt n (kas_descPart m n (kas_rev p 0 m)) _
    have hsz : m ≤ p.size := by rw [hp.1]; omega
    have all : PY lt p 0 m := fun i j _ hi _ hj => by
     have z1 : lt (p.getD (m - 1) 0) (p.getD j 0) = false := by
      by_cases cj : j = m - 1
      ·subst cj; exact W.Eh _
      ·exact c j (m - 1) (by omega) (by omega)
     have z2 : lt (p.getD i 0) (p.getD 0 0) = false := by
      by_cases ci : i = 0
      ·subst ci; exact W.Eh _
      ·exact c 0 i (by omega) hi
     exact W.tr _ _ _ (W.tr _ _ _ z1 e) z2
    have hf : Du lt (kas_rev p 0 m) m := Du.rev hsz (fun i j Bs hj => all i j (by omega) (by omega) (by omega) hj) all
    refine oS W (hp.rev 0 m) (by omega) (hf.more W a ?_)
    rw [eO hsz, eO hsz, if_pos ⟨by omega, by omega⟩, if_neg (by omega)]
    have e2 : 0 + m - 1 - (m - 1) = 0 := by omega
    rw [e2]
    exact W.tr _ _ _ (W.vk _ _ hd) e
  ·obtain rfl : m = 1 := by omega
   refine oS W hp (by omega) fun i j Bs hj => ?_
   obtain rfl : i = 0 := by omega
   obtain rfl : j = 1 := by omega
   exact W.vk _ _ hd
theorem qF {p : Array Nat} {k : Nat} (hp : Arr n p) (hk : k < n) (h : vm lt p k) : ∀ (f l r : Nat), l ≤ r → r ≤ k → r - l ≤ f → (∀ i, i < l → lt (p.getD k 0) (p.getD i 0) = false) → (∀ i, r ≤ i → i < k → lt (p.getD k 0) (p.getD i 0) = true) →
  df lt n (kas_place p k f l r) (fun x => x ≤ k ∧ (∀ i, i < x → lt (p.getD k 0) (p.getD i 0) = false) ∧ ∀ i, x ≤ i → i < k → lt (p.getD k 0) (p.getD i 0) = true)
 | 0, l, r, a, b, c, d, e => by
  obtain rfl : l = r := by omega
  exact ⟨b, d, e⟩
 | f + 1, l, r, a, b, c, d, e => by
  show df lt n (if l ≥ r then _ else _) _
  split
  ·obtain rfl : l = r := by omega
   exact ⟨b, d, e⟩
  ·refine ⟨hp.lt hk, hp.lt (by omega), ?_⟩
   cases q : lt (p.getD k 0) (p.getD ((l + r) / 2) 0) with
   | true =>
    refine qF hp hk h f l ((l + r) / 2) (by omega) (by omega) (by omega) d fun i h1 h2 => ?_
    by_cases c1 : i = (l + r) / 2
    ·subst c1; exact q
    ·exact W.up q (h _ i (by omega) h2)
   | false =>
    refine qF hp hk h f ((l + r) / 2 + 1) r (by omega) b (by omega) (fun i h1 => ?_) e
    by_cases c1 : i = (l + r) / 2
    ·subst c1; exact q
    ·exact W.tr _ _ _ (h i ((l + r) / 2) (by omega) (by omega)) q
theorem Ej : ∀ (f : Nat) (p : Array Nat) (k : Nat), Arr n p → k + f = n → vm lt p k → df lt n (kas_bin f p k) (fun q => Arr n q ∧ vm lt q n)
 | 0, p, k, hp, hk, h => by
  obtain rfl : k = n := by omega
  exact ⟨hp, h⟩
 | f + 1, p, k, hp, hk, h => by
  refine df.bind ((qF W hp (by omega) h k 0 k (aaX _) (Z0 _) (by omega) (fun i z => absurd z (by omega)) fun i z1 z2 => absurd z1 (by omega)).mono fun l ⟨a, b, c⟩ => ?_)
  have hs : k < p.size := by rw [hp.1]; omega
  refine Ej f _ (k + 1) (hp.WR _ _) (by omega) fun i j Bs hj => ?_
  have e : k - (k - l) = l := by omega
  rw [xJ hs (by omega), xJ hs (by omega), e]
  by_cases j1 : j = l
  ·rw [if_pos j1, if_neg (by omega), if_neg (by omega)]
   exact b i (by omega)
  ·rw [if_neg j1]
   by_cases j2 : l < j ∧ j ≤ k
   ·rw [if_pos j2]
    by_cases i1 : i = l
    ·rw [if_pos i1]
     exact W.vk _ _ (c (j - 1) (by omega) (by omega))
    ·rw [if_neg i1]
     by_cases i2 : l < i ∧ i ≤ k
     ·rw [if_pos i2]; exact h _ _ (by omega) (by omega)
     ·rw [if_neg i2]; exact h _ _ (by omega) (by omega)
   ·rw [if_neg j2, if_neg (by omega), if_neg (by omega)]
    exact h i j Bs (by omega)
theorem G1 (h1 : 1 ≤ n) : df lt n (kas_sort n) (fun p => Arr n p ∧ vm lt p n) := by
 have h0 : Arr n (adn (aaz n)) := ⟨by simp, by simp⟩
 refine df.bind ((Ei W h0 h1).mono fun r ⟨a, b, c, d⟩ => ?_)
 have hm : max r.1 1 = r.1 := by omega
 split
 ·rw [hm]
  exact Ej W _ _ _ a (by omega) d
 ·have e : r.1 = n := by omega
  rw [e] at d
  exact ⟨a, d⟩
end
end L2
namespace L2
open PySem PySem.W PySem.Calls PyProof.Rows
section
variable {prog : aao} {w : aaO} {A : aaA} {E : ZS → ZU → Prop} {s : ZU}
theorem lT {a : aac} {vs : List ZS} {n : Nat} {κ : SortKind} {lt : Nat → Nat → Bool} {P : PySem.Fin → ZU → Prop} (W : WO lt) (ho : s.heap.get? a = some (seqObj "list" vs.toArray n)) (Bt : vs.length < 64)
  (hk : 2 ≤ vs.length → ∀ h', (∀ b o, b ≠ a → s.heap.get? b = some o → h'.get? b = some o) → ∀ Q : SortKind → ZU → Prop, Q κ { s with heap := h' } → aar (model prog w) A (keyKind' vs.toArray) Q (fun _ _ => False) { s with heap := h' })
  (hc : ∀ h', (∀ b o, b ≠ a → s.heap.get? b = some o → h'.get? b = some o) → ∀ i j (C : Bool → ZU → Prop), i < vs.length → j < vs.length → C (lt i j) { s with heap := h' } →
   aar (model prog w) A (keyLt' κ (vs.getD i aa4) (vs.getD j aa4)) C (fun _ _ => False) { s with heap := h' })
  (fin : ∀ p h' c, Arr vs.length p → vm lt p vs.length → (∀ b o, b ≠ a → s.heap.get? b = some o → h'.get? b = some o) → h'.get? a = some (seqObj "list" (adn (p.toList.map fun i => vs.getD i aa4)) c) → P (.done (.ret .none)) { s with heap := h' }) :
  aar (model prog w) A (Builtin.«list.sort» ⟨[.ref a], []⟩) P E s := by
 have ha : a < s.heap.objs.size := aab ho
 obtain ⟨e1, Gb⟩ : ∃ e1, (s.heap.update a (abo fun _ => (#[] : Array ZS))).get? a = some (seqObj "list" #[] e1) := ⟨_, get?_update_seq ho fun _ => #[]⟩
 have MQ : (((s.heap.update a (abo fun _ => (#[] : Array ZS))).push (seqObj "tuple" vs.toArray 0)).push (seqObj "list" #[] 0)).get? a = some (seqObj "list" #[] e1) := by
  rw [ab7 _ _ _ (by rw [size_push', acN]; exact aam (abR ha)), ab7 _ _ _ (by rw [acN]; exact aam ha)]
  exact Gb
 have keep : ∀ b o, b ≠ a → s.heap.get? b = some o → (((s.heap.update a (abo fun _ => (#[] : Array ZS))).push (seqObj "tuple" vs.toArray 0)).push (seqObj "list" #[] 0)).get? b = some o := fun b o hb q => by
  have fF : b < s.heap.objs.size := aab q
  rw [ab7 _ _ _ (by rw [size_push', acN]; exact aam (abR fF)), ab7 _ _ _ (by rw [acN]; exact aam fF), adB _ _ _ _ hb]
  exact q
 have MR : ∀ p (arr : Array ZS), Arr vs.length p → vm lt p vs.length → arr = adn (p.toList.map fun i => vs.getD i aa4) → P (.done (.ret .none)) { s with heap := ((((s.heap.update a (abo fun _ => (#[] : Array ZS))).push (seqObj "tuple" vs.toArray 0)).push (seqObj "list" #[] 0))).update a (abo fun _ => arr) } := fun p arr h1 h2 h3 => by
  subst h3
  refine fin p _ _ h1 h2 (fun b o hb q => ?_) (get?_update_seq MQ fun _ => _)
  rw [adB _ _ _ _ hb]
  exact keep b o hb q
 rw [list_sort_plain]
 refine ZR (listItems_at ho rfl ?_)
 refine ZR (listUpdate_at ho rfl ?_ (by rw [aag, aak]; omega) (aaX _))
 refine ZR (seqEpoch_at Gb rfl ?_)
 refine ZR (wpAny_newTuple ?_ (by show vs.length ≤ _; rw [aak]; omega))
 refine ZR (wpAny_newList ?_ (aaX _))
 refine wpAny_holding ?_
 show aar (model prog w) A _ P E { s with heap := ((s.heap.update a (abo fun _ => (#[] : Array ZS))).push (seqObj "tuple" vs.toArray 0)).push (seqObj "list" #[] 0) }
 dsimp only
 by_cases h2 : vs.toArray.size < 2
 ·rw [if_pos h2, if_pos h2]
  refine ZR (ZW ?_)
  rw [StateT.run_pure]
  refine ZR (ZW ?_)
  dsimp only
  have hr : (aaz vs.length).map (fun i => vs.getD i aa4) = vs := by
   apply acg (by simp)
   intro i a1 a2
   simp [a2]
  refine ZR (seqEpoch_at MQ rfl ?_)
  refine ZR (listUpdate_at MQ rfl ?_ (hsz2 := by rw [aa7]; show (pairsOf vs).size ≤ _; rw [pairsOf_size, aak]; omega))
  simp only [bne_self_eq_false, Z7, if_false]
  refine ZW (MR (adn (aaz vs.length)) _ ⟨by simp, by simp⟩ (fun i j h1 h3 => ?_) ?_)
  ·rw [aag] at h2; omega
  ·show Array.map (·.2) (pairsOf vs) = _
   apply Array.toList_inj.mp
   rw [aej, pairsOf_toList]
   show _ = (aaz vs.length).map (fun i => vs.getD i aa4)
   rw [hr]
   exact List.map_snd_zip (by simp)
 ·rw [if_neg h2, if_neg h2]
  rw [aag] at h2
  refine ZR (wpAny_mono (hk (by omega) _ keep _ ?_) (fun κ' s' hq => hq) fun _ _ x => x.elim)
  refine ZR (wpAny_mono (kat_run (κ := κ) (Q := fun iF s' => ∃ p : Array Nat, arrOf iF = p.map (kas_item (vs.toArray.zip vs.toArray)) ∧ failedOf iF = none ∧ Arr vs.length p ∧ vm lt p vs.length ∧ s' = { s with heap := ((s.heap.update a (abo fun _ => (#[] : Array ZS))).push (seqObj "tuple" vs.toArray 0)).push (seqObj "list" #[] 0) })
   (G := fun p s' => Arr vs.length p ∧ vm lt p vs.length ∧ s' = { s with heap := ((s.heap.update a (abo fun _ => (#[] : Array ZS))).push (seqObj "tuple" vs.toArray 0)).push (seqObj "list" #[] 0) })
   rfl (by omega) Bt (fun p' iF s' a1 a2 a3 a4 => ⟨p', a2, a3, a4.1, a4.2.1, a4.2.2⟩) ((G1 W (n := vs.length) (by omega)).wp (fun i j C h3 h4 h5 => hc _ keep i j C h3 h4 h5) fun p hp => ⟨hp.1, hp.2, rfl⟩)) ?_ fun _ _ e => e)
  rintro ⟨⟨⟩, iF⟩ s' ⟨p, WS, hf, hp, Rz, rfl⟩
  dsimp only
  have RA := kat_snds (ks := vs) rfl WS
  have hsz : (adn (p.toList.map fun i => vs.getD i aa4)).size = vs.length := by rw [aag, Lm9, aaZ, hp.1]
  rw [RA]
  refine ZR (seqEpoch_at MQ rfl ?_)
  refine ZR (listUpdate_at MQ rfl ?_ (aaX _) (aaM (Nat.le_of_eq hsz) (by rw [aak]; omega)))
  rw [hf]
  simp only [bne_self_eq_false, Z7, if_false]
  exact ZW (MR p _ hp Rz rfl)
theorem zV {l : aac} {vs : List ZS} {κ : SortKind} {lt : Nat → Nat → Bool} {Q : ZS → ZU → Prop} (W : WO lt) (hl : s.heap.IsList l vs.toArray) (Bt : vs.length < 64)
  (hk : 2 ≤ vs.length → ∀ h', (∀ b o, s.heap.get? b = some o → h'.get? b = some o) → ∀ Q : SortKind → ZU → Prop, Q κ { s with heap := h' } → aar (model prog w) A.in1.in1 (keyKind' vs.toArray) Q (fun _ _ => False) { s with heap := h' })
  (hc : ∀ h', (∀ b o, s.heap.get? b = some o → h'.get? b = some o) → ∀ i j (C : Bool → ZU → Prop), i < vs.length → j < vs.length → C (lt i j) { s with heap := h' } →
   aar (model prog w) A.in1.in1 (keyLt' κ (vs.getD i aa4) (vs.getD j aa4)) C (fun _ _ => False) { s with heap := h' })
  (fin : ∀ p D h' c, Arr vs.length p → vm lt p vs.length → (∀ b o, s.heap.get? b = some o → h'.get? b = some o) → s.heap.objs.size ≤ D → h'.get? D = some (seqObj "list" (adn (p.toList.map fun i => vs.getD i aa4)) c) → Q (.ref D) { s with heap := h' }) :
  aar (model prog w) A (call (.builtin "sorted") [.ref l]) Q E s := by
 refine acJ kind_sorted plain_sorted entry_sorted (args_sorted1 _) ?_
 unfold Builtin.«sorted»
 refine ZR (m := checkCount "sorted" 1 1 _) (ZW ?_)
 refine ZR (collect_list hl ?_ (by rw [aak]; omega))
 refine ZR (wpAny_newList ?_ (by rw [aak]; omega))
 have hsz : ((s.heap.push (seqObj "list" #[] 0)).update s.heap.objs.size (abo (· ++ vs.toArray))).objs.size = s.heap.objs.size + 1 := by
  rw [acN, size_push']
 have PB : (((s.heap.push (seqObj "list" #[] 0)).update s.heap.objs.size (abo (· ++ vs.toArray))).push (seqObj "list" vs.toArray 0)).get? (s.heap.objs.size + 1) = some (seqObj "list" vs.toArray 0) := by
  rw [← hsz]; exact Z8 _ rfl
 have keep : ∀ b o, s.heap.get? b = some o → (((s.heap.push (seqObj "list" #[] 0)).update s.heap.objs.size (abo (· ++ vs.toArray))).push (seqObj "list" vs.toArray 0)).get? b = some o := fun b o q => by
  have fF : b < s.heap.objs.size := aab q
  rw [ab7 _ _ _ (by rw [hsz]; exact aam (abR fF)), adB _ _ _ _ (aam fF), ab7 _ _ _ (aam fF)]
  exact q
 have nD : ∀ b o, s.heap.get? b = some o → b ≠ s.heap.objs.size + 1 := fun b o q => aam (abR (aab q))
 show aar _ _ _ _ _ { s with heap := ((s.heap.push (seqObj "list" #[] 0)).update s.heap.objs.size (abo (· ++ vs.toArray))).push (seqObj "list" vs.toArray 0) }
 rw [hsz]
 refine ZR (wpAny_holding (wpAny_call_entry slot_list_sort ⟨_, PB, rfl⟩ entry_list_sort ?body (args_list_sort _)))
 case body =>
  refine lT (κ := κ) (lt := lt) (s := { s with heap := ((s.heap.push (seqObj "list" #[] 0)).update s.heap.objs.size (abo (· ++ vs.toArray))).push (seqObj "list" vs.toArray 0) }) W PB Bt
   (fun h2 h' k => hk h2 h' fun b o q => k b o (nD b o q) (keep b o q)) (fun h' k => hc h' fun b o q => k b o (nD b o q) (keep b o q)) fun p h' c hp hr k e => ?_
  exact ⟨_, rfl, ZW ⟨_, rfl, fin p _ h' c hp hr (fun b o q => k b o (nD b o q) (keep b o q)) (Nat.le_succ _) e⟩⟩
end
end L2
namespace L2
open PySem PySem.W PySem.Calls PyProof.Rows
inductive Tr where
 | int (i : Int) | str (x : Str) | tup (l : List Tr)
 deriving Inhabited
mutual
def Tr.toD : Tr → Dt
 | .int i => .int i
 | .str x => .str x
 | .tup l => .tup (Tr.toDs l)
def Tr.toDs : List Tr → List Dt
 | [] => []
 | a :: r => a.toD :: Tr.toDs r
end
theorem toDs_length : ∀ (l : List Tr), (Tr.toDs l).length = l.length
 | [] => by unfold Tr.toDs; rfl
 | a :: r => by unfold Tr.toDs; simp [toDs_length r]
theorem toDs_get : ∀ (l : List Tr) (i : Nat) (h : i < l.length) (h' : i < (Tr.toDs l).length), (Tr.toDs l)[i] = (l[i]).toD
 | a :: r, 0, _, _ => by simp [Tr.toDs]
 | a :: r, i + 1, h, h' => by
  have := toDs_get r i (by simpa using h) (by rw [toDs_length]; simpa using h)
  simp only [Tr.toDs, aer]
  exact this
def eqT (a b : Tr) : Bool := oq a.toD b.toD
mutual
theorem vn : ∀ (a b : Tr), oq a.toD b.toD = true ↔ a = b
 | .int a, .int b => by simp [Tr.toD, oq]
 | .int a, .str b => by simp [Tr.toD, oq]
 | .int a, .tup b => by simp [Tr.toD, oq]
 | .str a, .int b => by simp [Tr.toD, oq]
 | .str a, .str b => by simp [Tr.toD, oq]
 | .str a, .tup b => by simp [Tr.toD, oq]
 | .tup a, .int b => by simp [Tr.toD, oq]
 | .tup a, .str b => by simp [Tr.toD, oq]
 | .tup a, .tup b => by
  have h := xM a b
  simp only [Tr.toD, oq, Tr.tup.injEq]
  exact h
theorem xM : ∀ (a b : List Tr), lP (Tr.toDs a) (Tr.toDs b) = true ↔ a = b
 | [], [] => by simp [Tr.toDs, lP]
 | [], b :: q => by simp [Tr.toDs, lP]
 | a :: r, [] => by simp [Tr.toDs, lP]
 | a :: r, b :: q => by
  have h1 := vn a b
  have h2 := xM r q
  simp only [Tr.toDs, lP, aaE, List.cons.injEq, h1, h2]
end
theorem nj {a b : Tr} (h : eqT a b = true) : a = b := (vn a b).mp h
theorem jX (a : Tr) : eqT a a = true := (vn a a).mpr rfl
theorem mh {a b : Tr} (h : a ≠ b) : eqT a b = false := by
 cases e : eqT a b with
 | false => rfl
 | true => exact absurd (nj e) h
mutual
def bR : Tr → Tr → Bool
 | .int a, .int b => decide (a < b)
 | .int _, _ => true
 | .str a, .str b => decide (a.cps.toList < b.cps.toList)
 | .str _, .tup _ => true
 | .str _, .int _ => false
 | .tup a, .tup b => dy a b
 | .tup _, _ => false
def dy : List Tr → List Tr → Bool
 | [], [] => false
 | [], _ :: _ => true
 | _ :: _, [] => false
 | a :: r, b :: q => if eqT a b = true then dy r q else bR a b
end
mutual
theorem nq : ∀ (a : Tr), bR a a = false
 | .int a => by simp [bR]
 | .str a => by simp [bR]
 | .tup a => by simp only [bR]; exact xN a
theorem xN : ∀ (a : List Tr), dy a a = false
 | [] => by simp [dy]
 | a :: r => by
  simp only [dy, jX, if_true]
  exact xN r
end
theorem G2 {a b : Str} (h : a ≠ b) : a.cps.toList < b.cps.toList ∨ b.cps.toList < a.cps.toList := by
 by_cases h1 : a.cps.toList < b.cps.toList
 ·exact .inl h1
 ·by_cases h2 : b.cps.toList < a.cps.toList
  ·exact .inr h2
  ·have e := List.le_antisymm (List.not_lt.mp h2) (List.not_lt.mp h1)
   exact absurd (by cases a; cases b; simpa using e) h
mutual
theorem pX : ∀ (a b : Tr), a ≠ b → bR a b = true ∨ bR b a = true
 | .int a, .int b, h => by
  have h' : a ≠ b := fun e => h (by rw [e])
  simp only [bR, decide_eq_true_eq]
  omega
 | .int a, .str b, h => by simp [bR]
 | .int a, .tup b, h => by simp [bR]
 | .str a, .int b, h => by simp [bR]
 | .str a, .str b, h => by
  have h' : a ≠ b := fun e => h (by rw [e])
  simp only [bR, decide_eq_true_eq]
  exact G2 h'
 | .str a, .tup b, h => by simp [bR]
 | .tup a, .int b, h => by simp [bR]
 | .tup a, .str b, h => by simp [bR]
 | .tup a, .tup b, h => by
  simp only [bR]
  exact xO a b fun e => h (by rw [e])
theorem xO : ∀ (a b : List Tr), a ≠ b → dy a b = true ∨ dy b a = true
 | [], [], h => absurd rfl h
 | [], b :: q, h => by simp [dy]
 | a :: r, [], h => by simp [dy]
 | a :: r, b :: q, h => by
  simp only [dy]
  by_cases e : a = b
  ·subst e
   simp only [jX, if_true]
   exact xO r q fun z => h (by rw [z])
  ·rw [mh e, mh (acr e)]
   simp only [Z7, if_false]
   exact pX a b e
end
mutual
theorem ik : ∀ (a b c : Tr), bR a b = true → bR b c = true → bR a c = true
 | .int a, .int b, .int c, h1, h2 => by simp only [bR, decide_eq_true_eq] at *; omega
 | .int a, _, .str c, h1, h2 => by simp [bR]
 | .int a, _, .tup c, h1, h2 => by simp [bR]
 | .int a, .str b, .int c, h1, h2 => by simp [bR] at h2
 | .int a, .tup b, .int c, h1, h2 => by simp [bR] at h2
 | .str a, .int b, c, h1, h2 => by simp [bR] at h1
 | .str a, .str b, .int c, h1, h2 => by simp [bR] at h2
 | .str a, .str b, .str c, h1, h2 => by simp only [bR, decide_eq_true_eq] at *; exact List.lt_trans h1 h2
 | .str a, .str b, .tup c, h1, h2 => by simp [bR]
 | .str a, .tup b, .int c, h1, h2 => by simp [bR] at h2
 | .str a, .tup b, .str c, h1, h2 => by simp [bR] at h2
 | .str a, .tup b, .tup c, h1, h2 => by simp [bR]
 | .tup a, .int b, c, h1, h2 => by simp [bR] at h1
 | .tup a, .str b, c, h1, h2 => by simp [bR] at h1
 | .tup a, .tup b, .int c, h1, h2 => by simp [bR] at h2
 | .tup a, .tup b, .str c, h1, h2 => by simp [bR] at h2
 | .tup a, .tup b, .tup c, h1, h2 => by
  simp only [bR] at *
  exact qG a b c h1 h2
theorem qG : ∀ (a b c : List Tr), dy a b = true → dy b c = true → dy a c = true
 | [], [], _, h1, _ => by simp [dy] at h1
 | [], _ :: _, [], _, h2 => by simp [dy] at h2
 | [], _ :: _, _ :: _, _, _ => by simp [dy]
 | _ :: _, [], _, h1, _ => by simp [dy] at h1
 | _ :: _, _ :: _, [], _, h2 => by simp [dy] at h2
 | a :: r, b :: q, c :: t, h1, h2 => by
  simp only [dy] at h1 h2 ⊢
  by_cases e1 : a = b
  ·subst e1
   simp only [jX, if_true] at h1
   by_cases e2 : a = c
   ·subst e2
    simp only [jX, if_true] at h2 ⊢
    exact qG r q t h1 h2
   ·rw [mh e2] at h2 ⊢
    exact h2
  ·rw [mh e1] at h1
   simp only [Z7, if_false] at h1
   by_cases e2 : b = c
   ·subst e2
    rw [mh e1]
    exact h1
   ·rw [mh e2] at h2
    simp only [Z7, if_false] at h2
    have h3 := ik a b c h1 h2
    have e3 : a ≠ c := fun z => by
     subst z
     have := nq a
     rw [h3] at this
     cases this
    rw [mh e3]
    exact h3
end
theorem vo (f : Nat → Tr) : WO (fun i j => bR (f i) (f j)) := by
 have vk : ∀ a b, bR a b = true → bR b a = false := fun a b h => by
  cases e : bR b a with
  | false => rfl
  | true => have z := ik a b a h e; rw [nq] at z; cases z
 refine ⟨fun a b h => vk _ _ h, fun a b c h1 h2 => ?_⟩
 cases e : bR (f c) (f a) with
 | false => rfl
 | true =>
  by_cases e1 : f a = f b
  ·rw [e1] at e; rw [e] at h2; cases h2
  ·rcases pX _ _ e1 with q | q
   ·rw [ik _ _ _ e q] at h2; cases h2
   ·rw [q] at h1; cases h1
theorem zW {a b : List Tr} (p : a.Perm b) (ha : a.Pairwise fun x y => bR y x = false) (hb : b.Pairwise fun x y => bR y x = false) : a = b :=
 List.Perm.eq_of_pairwise (fun x y _ _ h1 h2 => by
  by_cases e : x = y
  ·exact e
  ·rcases pX _ _ e with q | q
   ·rw [q] at h2; cases h2
   ·rw [q] at h1; cases h1) ha hb p
end L2
namespace L2
open PySem PySem.W PySem.Calls PyProof.Rows
def xP (A : aaA) (s : ZU) (u v : ZS) (b : Bool) : Prop :=
 ∀ (prog : aao) (w : aaO) (E : ZS → ZU → Prop) (Q : ZS → ZU → Prop), Q (.bool b) s → aar (model prog w) A (richCompare .Lt u v) Q E s
inductive Ge (A : aaA) (s : ZU) : List ZS → List ZS → Bool → Prop
 | nn : Ge A s [] [] false
 | nc {w : ZS} {ws : List ZS} : Ge A s [] (w :: ws) true
 | cn {v : ZS} {vs : List ZS} : Ge A s (v :: vs) [] false
 | eq {v w : ZS} {vs ws : List ZS} {r : Bool} (e : abw A s v w true) (h : Ge A s vs ws r) : Ge A s (v :: vs) (w :: ws) r
 | ne {v w : ZS} {vs ws : List ZS} {r : Bool} (e : abw A s v w false) (h : xP A s v w r) : Ge A s (v :: vs) (w :: ws) r
section
open PySem.SeqAt
open PySem.AutoSeq1 (wpAny_loadPart')
open PySem.MeetsSeq PySem.MeetsSeq2 PySem.MeetsSeq3
theorem vp (l b : aac) (items iR : Array ZS) (n n2 : Nat) (dd RB : Option aac) (sl F9 : Array (Option ZS)) (r : Bool) :
  Meets (Builtin.«tuple.__lt__» ⟨[.ref l, .ref b], []⟩)
   (fun A R s => s.heap.get? l = some { cls := .type "tuple", dict := dd, data := .seq items n, slots := sl } ∧ s.heap.get? b = some { cls := .type "tuple", dict := RB, data := .seq iR n2, slots := F9 } ∧
    Ge A.in1 s items.toList iR.toList r ∧ R (.ok (.ret (.bool r))) s) :=
 .of_wp fun prog w A R s h => by
  obtain ⟨hp, g, d, tk, os⟩ := s; obtain ⟨hl, hb, hd, h⟩ := h
  have f2 := AutoSeq1.sub_tuple_tuple
  wp_walk using wpAny_loadPart' hl, wpAny_loadPart' hb, wpAny_forIn_list _ (fun rest b s' => b.1 = none ∧ s' = ⟨hp, g, d, tk, os⟩ ∧ ∃ (vs ws : List ZS), rest = vs.zip ws ∧
   Ge A.in1 ⟨hp, g, d, tk, os⟩ vs ws r ∧ vs.length + iR.size = ws.length + items.size) _
  case turn =>
   rintro ⟨y, x⟩ rest b s' ⟨hb', rfl, vs, ws, hz, RC, hlen⟩
   cases RC with
   | nn => cases hz
   | nc => cases hz
   | cn => rw [List.zip_nil_right] at hz; cases hz
   | @eq v w' vs' ws' _ e hr =>
    rw [abY] at hz
    injection hz with RD hrest
    injection RD with hy hx
    subst hy hx
    simp only [aal] at hlen
    refine ZR (e prog w _ _ ?_)
    wp_walk
    exact ⟨rfl, rfl, _, _, hrest, hr, by omega⟩
   | @ne v w' vs' ws' _ e hr =>
    rw [abY] at hz
    injection hz with RD hrest
    injection RD with hy hx
    subst hy hx
    refine ZR (e prog w _ _ ?_)
    have Rz := hr prog w
    wp_walk using Rz
    exact ⟨_, rfl, by simpa using h⟩
  case fin =>
   rintro ⟨b1, b2⟩ s' ⟨hb', rfl, vs, ws, hz, RC, hlen⟩
   simp only at hb'
   subst hb'
   have hv : r = decide (items.size < iR.size) := by
    cases RC with
    | nn => simp only [aaQ] at hlen; exact (decide_eq_false (by omega)).symm
    | nc => simp only [aaQ, aal] at hlen; exact (decide_eq_true (by omega)).symm
    | cn => simp only [aaQ, aal] at hlen; exact (decide_eq_false (by omega)).symm
    | eq e hr => rw [abY] at hz; cases hz
    | ne e hr => rw [abY] at hz; cases hz
   rw [hv] at h
   wp_walk
   exact ⟨_, rfl, by simpa [Builtin.Tuple.tupleCompareSizes] using h⟩
  case h =>
   exact ⟨rfl, rfl, items.toList, iR.toList, rfl, hd, by simp; omega⟩
end
theorem zX {A : aaA} {s : ZU} {l b : aac} {items iR : Array ZS} {r : Bool} (hl : IsTup s.heap l items) (hb : IsTup s.heap b iR) (hu : A.units < cLine) (hd : Ge A.in1 s items.toList iR.toList r) : xP A s (.ref l) (.ref b) r := by
 intro prog w E Q h
 obtain ⟨⟨cls, dd, data, sl⟩, ho, hc, n, xg⟩ := id hl
 obtain ⟨⟨WT, RB, data2, F9⟩, Ib, G3, n2, hd2⟩ := id hb
 simp only at hc xg G3 hd2
 subst hc xg G3 hd2
 exact richCompare_meets_room (op := .Lt) ⟨_, ho, rfl⟩ ⟨_, Ib, rfl⟩ PySem.F.slot_tuple_lt PySem.F.entry_tuple_lt (PySem.F.args_tuple_lt_2 _ _) (vp l b items iR n n2 dd RB sl F9 r)
  ⟨ho, Ib, hd, show afl r ≠ Value.notImplemented ∧ Q (.bool r) s from ⟨(fun x => nomatch x), h⟩⟩ hu
end L2
namespace L2
open PySem PySem.W PySem.Calls PyProof.Rows
mutual
def oU : Tr → Tr → Bool
 | .int _, .int _ => true
 | .str _, .str _ => true
 | .tup a, .tup b => nu a b
 | _, _ => false
def nu : List Tr → List Tr → Bool
 | a :: r, b :: q => oU a b && nu r q
 | _, _ => true
end
theorem Ek {A : aaA} {s : ZU} : ∀ (a b : List Tr) (vs ws : List ZS), vs.length = a.length → ws.length = b.length → nu a b = true →
  (∀ j (h1 : j < a.length) (h2 : j < b.length) (h3 : j < vs.length) (h4 : j < ws.length), abw A s vs[j] ws[j] (eqT a[j] b[j]) ∧ (oU a[j] b[j] = true → xP A s vs[j] ws[j] (bR a[j] b[j]))) → Ge A s vs ws (dy a b)
 | [], [], [], [], _, _, _, _ => by simp only [dy]; exact .nn
 | [], b :: q, [], w :: ws, _, _, _, _ => by simp only [dy]; exact .nc
 | a :: r, [], v :: vs, [], _, _, _, _ => by simp only [dy]; exact .cn
 | a :: r, b :: q, v :: vs, w :: ws, l1, l2, hs, h => by
  simp only [nu, aaE] at hs
  obtain ⟨h0, h0'⟩ := h 0 (by simp) (by simp) (by simp) (by simp)
  have h0 : abw A s v w (eqT a b) := h0
  have h0' : oU a b = true → xP A s v w (bR a b) := h0'
  simp only [dy]
  cases e : eqT a b with
  | true =>
   rw [e] at h0
   simp only [if_true]
   exact .eq h0 (Ek r q vs ws (by simpa using l1) (by simpa using l2) hs.2 fun j a1 a2 a3 a4 => h (j + 1) (by simpa using a1) (by simpa using a2) (by simpa using a3) (by simpa using a4))
  | false =>
   rw [e] at h0
   simp only [Z7, if_false]
   exact .ne h0 (h0' hs.1)
 | [], [], _ :: _, _, l, _, _, _ => by simp at l
 | [], [], [], _ :: _, _, l, _, _ => by simp at l
 | [], _ :: _, _ :: _, _, l, _, _, _ => by simp at l
 | [], _ :: _, [], [], _, l, _, _ => by simp at l
 | _ :: _, _, [], _, l, _, _, _ => by simp at l
 | _ :: _, [], _ :: _, _ :: _, _, l, _, _ => by simp at l
 | _ :: _, _ :: _, _ :: _, [], _, l, _, _ => by simp at l
theorem JK {K : ZQ} {H : Hp} {X : Cx} {pins : List (aac × Obj)} {σ : St} {s : ZU} (I : Inv X pins σ H s) (hK : X.K = K) :
  ∀ (n : Nat) (A : aaA) {a b : Tr} {x y : V} {u v : ZS}, a.toD.deep ≤ n → A.units + n + 20 < cLine → oU a b = true → cC K H a.toD x → cC K H b.toD y → RelV x u → RelV y v → xP A s u v (bR a b) := by
 subst hK
 intro n
 induction n with
 | zero =>
  intro A a b x y u v hd hu hs h1 h2 ru rv
  cases a with
  | int i =>
   cases b with
   | int j =>
    simp only [Tr.toD] at h1 h2
    cases h1; cases h2
    obtain ⟨t, rfl⟩ := ru
    obtain ⟨t', rfl⟩ := rv
    simp only [bR]
    exact fun prog w E Q h => (PyProof.Rows.lt_int h : aar (model prog w) A (compareOp .Lt _ _) Q E s)
   | str j => simp [oU] at hs
   | tup j => simp [oU] at hs
  | str i =>
   cases b with
   | int j => simp [oU] at hs
   | str j =>
    simp only [Tr.toD] at h1 h2
    cases h1; cases h2
    obtain ⟨t, rfl⟩ := ru
    obtain ⟨t', rfl⟩ := rv
    simp only [bR]
    exact fun prog w E Q h => (ae4 h : aar (model prog w) A (compareOp .Lt _ _) Q E s)
   | tup j => simp [oU] at hs
  | tup i => simp only [Tr.toD, Dt.deep] at hd; omega
 | succ n ih =>
  intro A a b x y u v hd hu hs h1 h2 ru rv
  cases a with
  | int i => exact ih A (by simp [Tr.toD, Dt.deep]) (by omega) hs h1 h2 ru rv
  | str i => exact ih A (by simp [Tr.toD, Dt.deep]) (by omega) hs h1 h2 ru rv
  | tup i =>
   cases b with
   | int j => simp [oU] at hs
   | str j => simp [oU] at hs
   | tup j =>
    simp only [Tr.toD] at h1 h2 hd
    simp only [oU] at hs
    cases h1 with
    | @tup ds xs p h l r =>
     cases h2 with
     | @tup es ys q h' l' r' =>
      cases ru; cases rv
      obtain ⟨its, r1, p1, _⟩ := I.tuple h
      obtain ⟨bM, r2, p2, _⟩ := I.tuple h'
      have sy := r1.length
      have sP := r2.length
      simp only [bR]
      have k1 := toDs_length i
      have k2 := toDs_length j
      refine zX p1 p2 (by omega) ?_
      rw [acP, acP]
      refine Ek i j its bM (by omega) (by omega) hs fun c c1 c2 c3 c4 => ?_
      have hx := r c (by omega) (by omega)
      have hy := r' c (by omega) (by omega)
      rw [toDs_get i c c1] at hx
      rw [toDs_get j c c2] at hy
      obtain ⟨u1, e1, q1⟩ := r1.get (i := c) (x := xs[c]'(by omega)) (by simp)
      obtain ⟨u2, e2, q2⟩ := r2.get (i := c) (x := ys[c]'(by omega)) (by simp)
      have g1 : its[c] = u1 := (ZZ.mp e1).2
      have g2 : bM[c] = u2 := (ZZ.mp e2).2
      rw [g1, g2]
      have z := cz (ds := Tr.toDs i) (i := c) (by omega)
      rw [toDs_get i c c1] at z
      have hd' : Dt.bU (Tr.toDs i) + 1 ≤ n + 1 := hd
      exact ⟨jV I rfl n A.in1 (by omega) (by show A.units + 1 + n < cLine; omega) hx hy q1 q2, fun Ck => ih A.in1 (by omega) (by show A.units + 1 + n + 20 < cLine; omega) Ck hx hy q1 q2⟩
end L2
namespace L2
open PySem PySem.W PySem.Calls PyProof.Rows
section
variable {prog : aao} {w : aaO} {A : aaA} {E : ZS → ZU → Prop} {s : ZU} {Q : Bool → ZU → Prop}
theorem oV : ∀ (a b : List Tr) (vs ws : List ZS) (i : Nat), 0 < i → vs.length = a.length → ws.length = b.length → nu a b = true →
  (∀ j (h1 : j < a.length) (h2 : j < b.length) (h3 : j < vs.length) (h4 : j < ws.length), abw A s vs[j] ws[j] (eqT a[j] b[j]) ∧ (oU a[j] b[j] = true → xP A s vs[j] ws[j] (bR a[j] b[j]))) →
  ∀ fin, fin = decide (vs.length < ws.length) → Q (dy a b) s → KatLex prog w A true fin Q (vs.zip ws) i s
 | [], [], [], [], i, _, _, _, _, _, fin, hf, h => by simp only [dy] at h; simp at hf; subst hf; exact kat_nil h
 | [], b :: q, [], w' :: ws, i, _, _, _, _, _, fin, hf, h => by simp only [dy] at h; simp at hf; subst hf; exact kat_nil h
 | a :: r, [], v :: vs, [], i, _, _, _, _, _, fin, hf, h => by simp only [dy] at h; simp at hf; subst hf; exact kat_nil h
 | a :: r, b :: q, v :: vs, w' :: ws, i, hi, l1, l2, hs, hx, fin, hf, h => by
  simp only [nu, aaE] at hs
  obtain ⟨h0, h0'⟩ := hx 0 (by simp) (by simp) (by simp) (by simp)
  have h0 : abw A s v w' (eqT a b) := h0
  have h0' : oU a b = true → xP A s v w' (bR a b) := h0'
  simp only [dy] at h
  rw [abY]
  refine kat_cons (h0 prog w _ _ ?_)
  cases e : eqT a b with
  | true =>
   rw [e] at h
   simp only [if_true] at h
   exact kat_yes (oV r q vs ws (i + 1) (by omega) (by simpa using l1) (by simpa using l2) hs.2 (fun j a1 a2 a3 a4 => hx (j + 1) (by simpa using a1) (by simpa using a2) (by simpa using a3) (by simpa using a4)) fin (by simpa using hf) h)
  | false =>
   rw [e] at h
   simp only [Z7, if_false] at h
   refine kat_no ?_
   have ei : (true && i == 0) = false := by
    simp only [aff, beq_eq_false_iff_ne]
    omega
   rw [ei]
   exact kat_one _ _ (h0' hs.1 prog w _ _ h)
 | [], [], _ :: _, _, _, _, l, _, _, _, _, _, _ => by simp at l
 | [], [], [], _ :: _, _, _, _, l, _, _, _, _, _ => by simp at l
 | [], _ :: _, _ :: _, _, _, _, l, _, _, _, _, _, _ => by simp at l
 | [], _ :: _, [], [], _, _, _, l, _, _, _, _, _ => by simp at l
 | _ :: _, _, [], _, _, _, l, _, _, _, _, _, _ => by simp at l
 | _ :: _, [], _ :: _, _ :: _, _, _, _, l, _, _, _, _, _ => by simp at l
 | _ :: _, _ :: _, _ :: _, [], _, _, _, l, _, _, _, _, _ => by simp at l
theorem zY {a b : Tr} {r q : List Tr} {v w' : ZS} {vs ws : List ZS} (l1 : vs.length = r.length) (l2 : ws.length = q.length) (hs : nu (a :: r) (b :: q) = true)
  (h1 : (∃ x y t u, a = .str x ∧ b = .str y ∧ v = .str x t ∧ w' = .str y u) ∨ (∃ x y t u, a = .int x ∧ b = .int y ∧ v = .int x t ∧ w' = .int y u)) (h0 : abw A s v w' (eqT a b))
  (hx : ∀ j (h1 : j < r.length) (h2 : j < q.length) (h3 : j < vs.length) (h4 : j < ws.length), abw A s vs[j] ws[j] (eqT r[j] q[j]) ∧ (oU r[j] q[j] = true → xP A s vs[j] ws[j] (bR r[j] q[j])))
  {fin : Bool} (hf : fin = decide (vs.length < ws.length)) (h : Q (dy (a :: r) (b :: q)) s) : KatLex prog w A true fin Q ((v :: vs).zip (w' :: ws)) 0 s := by
 simp only [nu, aaE] at hs
 simp only [dy] at h
 rw [abY]
 refine kat_cons (h0 prog w _ _ ?_)
 cases e : eqT a b with
 | true =>
  rw [e] at h
  simp only [if_true] at h
  exact kat_yes (oV r q vs ws 1 (by omega) l1 l2 hs.2 hx fin hf h)
 | false =>
  rw [e] at h
  simp only [Z7, if_false] at h
  refine kat_no ?_
  show aar (model prog w) A (oneLt' true v w') Q _ s
  rcases h1 with ⟨x, y, t, u, rfl, rfl, rfl, rfl⟩ | ⟨x, y, t, u, rfl, rfl, rfl, rfl⟩
  ·simp only [bR] at h
   exact oneLt_str h
  ·simp only [bR] at h
   exact oneLt_int h
end
def sj : Tr → Nat
 | .tup (.str _ :: _) => 1
 | .tup (.int _ :: _) => 2
 | _ => 0
theorem MS {t : Tr} (h : sj t = 1) : ∃ x r, t = .tup (.str x :: r) := by
 match t, h with
 | .tup (.str x :: r), _ => exact ⟨x, r, rfl⟩
 | .tup (.int _ :: _), h => simp [sj] at h
 | .tup (.tup _ :: _), h => simp [sj] at h
 | .tup [], h => simp [sj] at h
 | .int _, h => simp [sj] at h
 | .str _, h => simp [sj] at h
theorem MT {t : Tr} (h : sj t = 2) : ∃ x r, t = .tup (.int x :: r) := by
 match t, h with
 | .tup (.str x :: r), h => simp [sj] at h
 | .tup (.int x :: r), _ => exact ⟨x, r, rfl⟩
 | .tup (.tup _ :: _), h => simp [sj] at h
 | .tup [], h => simp [sj] at h
 | .int _, h => simp [sj] at h
 | .str _, h => simp [sj] at h
def Ts (K : ZQ) (H : Hp) (ts : List Tr) (ys : List V) : Prop := ts.length = ys.length ∧ ∀ (i : Nat) (h1 : i < ts.length) (h2 : i < ys.length), cC K H (ts[i]).toD ys[i]
def aI (ts : List Tr) : List Tr := ts.mergeSort fun x y => !bR y x
theorem Cy (a b : Tr) : ((!bR b a) || (!bR a b)) = true := by
 cases h : bR b a with
 | false => rfl
 | true =>
  have z : bR a b = false := (vo fun i => if i = 0 then b else a).vk 0 1 h
  rw [z]; rfl
theorem aY (ts : List Tr) : (aI ts).Perm ts := List.mergeSort_perm _ _
theorem oW (ts : List Tr) : (aI ts).Pairwise fun x y => bR y x = false := by
 have h := List.pairwise_mergeSort (le := fun x y => !bR y x) (fun a b c h1 h2 => by
  simp only [Bool.not_eq_true'] at *
  exact (vo fun i => if i = 0 then a else if i = 1 then b else c).tr 0 1 2 h1 h2) Cy ts
 exact h.imp fun z => by simpa using z
theorem vq {ts RE : List Tr} (p : RE.Perm ts) (h : RE.Pairwise fun x y => bR y x = false) : RE = aI ts := zW (p.trans (aY ts).symm) h (oW ts)
theorem fL {a b : List Tr} (p : a.Perm b) : aI a = aI b := vq ((aY a).trans p) (oW a)
def JL (K : ZQ) : List V → Hp → VK → Prop := fun xs H Q => ∃ a ys ts k, xs = [.ref a] ∧ aC K H a ys ∧ Ts K H ts ys ∧ ys.length < 64 ∧ (k = 1 ∨ k = 2) ∧ (∀ t ∈ ts, sj t = k ∧ t.toD.deep ≤ 18) ∧ (∀ t ∈ ts, ∀ u ∈ ts, oU t u = true) ∧
 ∀ p xf, H p = none → Ts K H (aI ts) xf → Q (.ref p) (upd H p (.lst xf))
theorem mi {h : Heap} : ∀ {vs fs : List ZS}, vs.length = fs.length → (∀ i (h1 : i < vs.length) (h2 : i < fs.length), ∃ a o xs n, vs[i] = .ref a ∧ h.get? a = some o ∧ o.cls = .type "tuple" ∧ o.data = .seq xs n ∧ xs[0]? = some fs[i]) → KatTups h vs fs
 | [], [], _, _ => .nil
 | [], _ :: _, l, _ => by simp at l
 | _ :: _, [], l, _ => by simp at l
 | v :: vs, f :: fs, l, hh => by
  obtain ⟨a, o, xs, n, e, e1, e2, e3, e4⟩ := hh 0 (by simp) (by simp)
  have e : v = .ref a := e
  have e4 : xs[0]? = some f := e4
  subst e
  exact .cons e1 e2 e3 e4 (mi (by simpa using l) fun i h1 h2 => hh (i + 1) (by simpa using h1) (by simpa using h2))
theorem qH {ys : List V} {its : List ZS} (r : Vals ys its) : ∀ (p : List Nat), Vals (p.map fun i => ys.getD i .bB) (p.map fun i => its.getD i aa4)
 | [] => .nil
 | i :: p => by
  refine .cons ?_ (qH r p)
  cases e : ys[i]? with
  | none =>
   have e2 := r.none_of e
   simp only [Gd9, e, e2, aei]
   rfl
  | some x =>
   obtain ⟨u, e2, q⟩ := r.get e
   simp only [Gd9, e, e2, abV]
   exact q
section
variable {X : Cx}
theorem nv {k : Nat} (hk : k = 1 ∨ k = 2) {t : Tr} (ht : sj t = k) : ∃ a r, t = .tup (a :: r) ∧ ((k = 1 ∧ ∃ x, a = .str x) ∨ (k = 2 ∧ ∃ x, a = .int x)) := by
 rcases hk with rfl | rfl
 ·obtain ⟨x, r, rfl⟩ := MS ht
  exact ⟨_, r, rfl, .inl ⟨rfl, x, rfl⟩⟩
 ·obtain ⟨x, r, rfl⟩ := MT ht
  exact ⟨_, r, rfl, .inr ⟨rfl, x, rfl⟩⟩
theorem ny {pins : List (aac × Obj)} {σ : St} {H : Hp} {s : ZU} (I : Inv X pins σ H s) {a : Tr} {r : List Tr} {x : V} {vx : ZS} (h : cC X.K H (Tr.tup (a :: r)).toD x) (rx : RelV x vx) :
  ∃ (p : aac) (y : V) (ys : List V) (v : ZS) (vs : List ZS), vx = .ref p ∧ IsTup s.heap p (v :: vs).toArray ∧ cC X.K H a.toD y ∧ RelV y v ∧ ys.length = r.length ∧ vs.length = r.length ∧ Vals ys vs ∧ ∀ j (h1 : j < r.length) (h2 : j < ys.length), cC X.K H (r[j]).toD ys[j] := by
 simp only [Tr.toD, Tr.toDs] at h
 cases h with
 | @tup ds xs p g l rr =>
  cases rx
  obtain ⟨its, r1, p1, _⟩ := I.tuple g
  have kl := toDs_length r
  match xs, its, l, r1, p1, rr with
  | y :: ys, v :: vs, l, .cons q1 q2, p1, rr =>
   have hl : ys.length = r.length := by simp only [aal] at l; omega
   refine ⟨p, y, ys, v, vs, rfl, p1, rr 0 (by simp) (by simp), q1, hl, by rw [← q2.length]; exact hl, q2, fun j h1 h2 => ?_⟩
   have z := rr (j + 1) (by simp only [aal]; omega) (by simp only [aal]; omega)
   simp only [aer] at z
   rw [toDs_get r j h1] at z
   exact z
  | [], _, l, _, _, _ => simp at l
theorem Bu {pins : List (aac × Obj)} {σ : St} {H : Hp} {s : ZU} (I : Inv X pins σ H s) {A : aaA} (hA : A.units + 45 < cLine) {k : Nat} (hk : k = 1 ∨ k = 2) {t u : Tr} {x y : V} {vx vy : ZS} (ht : sj t = k) (hu : sj u = k) (dt : t.toD.deep ≤ 18) (hs : oU t u = true)
  (h1 : cC X.K H t.toD x) (h2 : cC X.K H u.toD y) (rx : RelV x vx) (ry : RelV y vy) {prog : aao} {w : aaO} {C : Bool → ZU → Prop} {E : ZS → ZU → Prop} (hC : C (bR t u) s) : aar (model prog w) A (keyLt' (tuples' true) vx vy) C E s := by
 obtain ⟨a, r, rfl, ka⟩ := nv hk ht
 obtain ⟨b, q, rfl, kb⟩ := nv hk hu
 obtain ⟨p1, y1, RF, v1, RG, rfl, t1, d1, e1, l1, m1, w1, g1⟩ := ny I h1 rx
 obtain ⟨p2, y2, WU, v2, WV, rfl, t2, d2, e2, l2, m2, w2, g2⟩ := ny I h2 ry
 obtain ⟨o1, Gb, _, n1, xQ⟩ := t1
 obtain ⟨o2, Ib, _, n2, hd2⟩ := t2
 simp only [oU] at hs
 simp only [bR] at hC
 have xg : a.toD.deep ≤ 17 ∧ Dt.bU (Tr.toDs r) ≤ 17 := by
  simp only [Tr.toD, Tr.toDs, Dt.deep, Dt.bU] at dt
  omega
 refine kat_lt Gb xQ Ib hd2 ?_
 rw [acP, acP]
 refine zY (a := a) (b := b) (r := r) (q := q) m1 m2 hs ?_ (jV I rfl 17 A xg.1 (by omega) d1 d2 e1 e2) (fun j c1 c2 c3 c4 => ?_) (by simp) hC
 ·rcases ka with ⟨rfl, x0, rfl⟩ | ⟨rfl, x0, rfl⟩
  ·rcases kb with ⟨_, y0, rfl⟩ | ⟨z, _⟩
   ·simp only [Tr.toD] at d1 d2
    cases d1; cases d2
    obtain ⟨t1, rfl⟩ := e1
    obtain ⟨t2, rfl⟩ := e2
    exact .inl ⟨x0, y0, t1, t2, rfl, rfl, rfl, rfl⟩
   ·cases z
  ·rcases kb with ⟨z, _⟩ | ⟨_, y0, rfl⟩
   ·cases z
   ·simp only [Tr.toD] at d1 d2
    cases d1; cases d2
    obtain ⟨t1, rfl⟩ := e1
    obtain ⟨t2, rfl⟩ := e2
    exact .inr ⟨x0, y0, t1, t2, rfl, rfl, rfl, rfl⟩
 ·obtain ⟨u1, f1, q1⟩ := w1.get (i := j) (x := RF[j]'(by omega)) (by simp)
  obtain ⟨u2, f2, q2⟩ := w2.get (i := j) (x := WU[j]'(by omega)) (by simp)
  have z1 : RG[j] = u1 := (ZZ.mp f1).2
  have z2 : WV[j] = u2 := (ZZ.mp f2).2
  rw [z1, z2]
  have zz := cz (ds := Tr.toDs r) (i := j) (by rw [toDs_length]; exact c1)
  rw [toDs_get r j c1] at zz
  exact ⟨jV I rfl 17 A (by omega) (by omega) (g1 j c1 (by omega)) (g2 j c2 (by omega)) q1 q2, fun Ck => JK I rfl 17 A (by omega) (by omega) Ck (g1 j c1 (by omega)) (g2 j c2 (by omega)) q1 q2⟩
theorem fi (hu : X.A.units + 64 < cLine) : cK X (.builtin "sorted") (JL X.K) := by
 intro pins s σ H xs us Q I rx h
 obtain ⟨a, ys, ts, k, rfl, hq, ⟨hl, hT⟩, Bt, hk, hd, Ck, q⟩ := h
 obtain ⟨u, rfl, ru⟩ := vals1 rx
 cases ru
 obtain ⟨its, r, pl, hz⟩ := I.list hq
 have hlen := r.length
 have at_ : ∀ i (hi : i < its.length), ∃ u, its[i] = u ∧ RelV (ys[i]'(by omega)) u := fun i hi => by
  obtain ⟨u1, f1, q1⟩ := r.get (i := i) (x := ys[i]'(by omega)) (by simp)
  exact ⟨u1, (ZZ.mp f1).2, q1⟩
 refine zV (κ := tuples' true) (lt := fun i j => bR (ts.getD i (.int 0)) (ts.getD j (.int 0))) (vo _) pl.isList (by omega) (fun h2 h' kp Q' hQ => ?_) (fun h' kp i j C hi hj hC => ?_) fun p D h' c hp hr kp hD e => ?_
 ·have I' : Inv X pins σ H { s with heap := h' } := I.kept (t' := s.toks) kp
  have hf : ∀ i : _root_.Fin its.length, ∃ f : ZS, (∃ a o xs n, its[i.1] = .ref a ∧ h'.get? a = some o ∧ o.cls = .type "tuple" ∧ o.data = .seq xs n ∧ xs[0]? = some f) ∧ ((k = 1 → typeOf f = pure (.type "str")) ∧ (k = 2 → typeOf f = pure (.type "int"))) := fun ⟨i, hi⟩ => by
   obtain ⟨u, eu, ru⟩ := at_ i hi
   have hm := (hd _ (ZT (show i < ts.length by omega))).1
   obtain ⟨c, cs, ec, kc⟩ := nv hk hm
   have MU := hT i (by omega) (by omega)
   rw [ec] at MU
   obtain ⟨p1, y1, RF, v1, RG, e1, ⟨o1, Gb, Gf, n1, xQ⟩, d1, rv, _⟩ := ny I' MU ru
   refine ⟨v1, ⟨p1, o1, _, n1, by show its[i] = _; rw [eu, e1], Gb, Gf, xQ, by simp⟩, ?_⟩
   rcases kc with ⟨rfl, x, rfl⟩ | ⟨rfl, x, rfl⟩
   ·simp only [Tr.toD] at d1
    cases d1
    obtain ⟨t1, rfl⟩ := rv
    exact ⟨fun _ => rfl, fun z => by cases z⟩
   ·simp only [Tr.toD] at d1
    cases d1
    obtain ⟨t1, rfl⟩ := rv
    exact ⟨(fun z => by cases z), fun _ => rfl⟩
  obtain ⟨f, hf⟩ := aek.mp hf
  have kt : KatTups h' its (List.ofFn f) := mi (by simp) fun i h1 h2 => by
   rw [List.getElem_ofFn]
   exact (hf ⟨i, h1⟩).1
  rcases hk with rfl | rfl
  ·refine kat_kind (s := { s with heap := h' }) (T := .type "str") kt (by simp; omega) (fun v hv => ?_) (by decide) ?_
   ·obtain ⟨i, rfl⟩ := (aea (f := f) (a := v)).mp hv
    exact aeb ((hf i).2.1 rfl)
   ·exact hQ
  ·refine kat_kind (s := { s with heap := h' }) (T := .type "int") kt (by simp; omega) (fun v hv => ?_) (by decide) ?_
   ·obtain ⟨i, rfl⟩ := (aea (f := f) (a := v)).mp hv
    exact aeb ((hf i).2.2 rfl)
   ·exact hQ
 ·have I' : Inv X pins σ H { s with heap := h' } := I.kept (t' := s.toks) kp
  obtain ⟨u1, RH, RI⟩ := at_ i hi
  obtain ⟨u2, Js, RJ⟩ := at_ j hj
  have g1 : its.getD i aa4 = u1 := by rw [← RH]; simp [hi]
  have g2 : its.getD j aa4 = u2 := by rw [← Js]; simp [hj]
  have i1 : i < ts.length := by omega
  have j1 : j < ts.length := by omega
  have t1 : ts.getD i (.int 0) = ts[i] := by simp [i1]
  have t2 : ts.getD j (.int 0) = ts[j] := by simp [j1]
  rw [g1, g2]
  have hC : C (bR (ts.getD i (.int 0)) (ts.getD j (.int 0))) _ := hC
  rw [t1, t2] at hC
  exact Bu I' (A := X.A.in1.in1) (by show X.A.units + 1 + 1 + 45 < cLine; omega) hk (hd _ (ZT i1)).1 (hd _ (ZT j1)).1 (hd _ (ZT i1)).2 (Ck _ (ZT i1) _ (ZT j1)) (hT i i1 (by omega)) (hT j j1 (by omega)) RI RJ hC
 ·have hpl : p.toList.Perm (aaz its.length) := hp.2
  have e1 : (aaz its.length).map (fun i => ts.getD i (.int 0)) = ts := by
   apply acg (by simp; omega)
   intro i a1 a2
   simp [a2]
  have El : p.toList.map (fun i => ts.getD i (.int 0)) = aI ts := by
   refine vq ?_ ?_
   ·have z := hpl.map (fun i => ts.getD i (.int 0))
    rw [e1] at z
    exact z
   ·rw [abT, ab2]
    intro i j hi hj Bs
    have hi' : i < p.size := by simpa using hi
    have hj' : j < p.size := by simpa using hj
    have z := hr i j Bs (by rw [← hp.1]; exact hj')
    have g1 : p.getD i 0 = p.toList[i] := by simp [abp, hi']
    have g2 : p.getD j 0 = p.toList[j] := by simp [abp, hj']
    rw [g1, g2] at z
    exact z
  have hv := qH r p.toList
  refine ⟨.ref D, upd H D (.lst (p.toList.map fun i => ys.getD i .bB)), I.laid (t' := s.toks) kp hD ⟨?_, _, c, hv, e⟩, rfl, q D _ (I.hok.fresh hD) ?_⟩
  ·rw [Lm9, aaZ, hp.1]; omega
  ·rw [← El]
   refine ⟨by simp, fun i h1 h2 => ?_⟩
   rw [Z3, Z3]
   have hi : i < p.toList.length := by simpa using h1
   have hb : p.toList[i] < its.length := aaT.mp (hpl.mem_iff.mp (ZT hi))
   have b1 : p.toList[i] < ts.length := by omega
   have b2 : p.toList[i] < ys.length := by omega
   have g1 : ts.getD p.toList[i] (.int 0) = ts[p.toList[i]] := by rw [Gd9, Ge9 b1, abV]
   have g2 : ys.getD p.toList[i] .bB = ys[p.toList[i]] := by rw [Gd9, Ge9 b2, abV]
   rw [g1, g2]
   exact hT _ b1 b2
end
end L2
namespace L2
open PySem PySem.Spec PyProof.Rows
section
variable {X : Cx} {pins : List (aac × Obj)} {σ : St} {H H' : Hp} {s : ZU}
theorem Inv.MV {h' : Heap} {t' : Nat} (I : Inv X pins σ H s) (k : ∀ b u, s.heap.get? b = some u → h'.get? b = some u) (hH : ∀ b, b < s.heap.objs.size → H' b = H b) (hok : jO X.prog X.w H' h') : Inv X pins σ H' { s with heap := h', toks := t' } :=
 I.un ⟨fun b o e _ _ _ => k b o e, fun b o e _ _ _ => ⟨o.slots, k b o e⟩, fun b o e n _ => (hH b (aab e)).trans n, fun b o e _ => ⟨o, k b o e⟩, fun b xs e => (hH b (I.hok.lt e)).trans e, fun b o u e => (hH b (I.hok.lt e)).trans e,
  fun b ps e => ⟨#[], by rw [hH b (I.hok.lt e), e, Array.append_empty]⟩⟩ hok
end
section
variable {X : Cx} {o e f : Expr} {td ty tx : TE} {apos cpos : Pos}
def MW (td ty tx : TE) : TE := fun σ H Q => td σ H fun x H1 => ∃ a, x = .ref a ∧ Jn H1 a ∧ ty σ H1 fun y H2 => tx σ H2 fun z H3 => ∃ kvs k, H3 a = some (.dK kvs) ∧ y = kV k ∧ kvs.length < Z2 ∧
 (∀ v, eL kvs k = some v → Q v H3) ∧ (eL kvs k = none → Q z (upd H3 a (.dK (putK kvs k z))))
theorem G4 (ho : PE X o td) (he : PE X e ty) (hf : PE X f tx) (m : M2 X o "setdefault" apos e f cpos) : PE X (.Call (.Attribute o "setdefault" apos) [e, f] [] cpos) (MW td ty tx) := by
 intro pins s σ H Q I h
 refine wpAny_Call_method m.base m.few m.line ac3 adu PySem.F.type_dict_setdefault (cJ (ho pins s σ H _ I h) fun u s1 ⟨x, H1, I1, rx, a, ex, d, q1⟩ => ?_)
 subst ex
 obtain rfl : u = aaC a := rx
 obtain ⟨t1, t2, _⟩ := Bi I1 d
 refine ⟨t1, t2, ?_⟩
 rw [m.trees]
 refine ack rfl (acH (acn (cJ (he pins s1 σ H1 _ I1 q1) fun iv s2 ⟨y, H2, I2, ry, q2⟩ =>
  acn (cJ (hf pins s2 σ H2 _ I2 q2) fun fv s3 ⟨z, H3, I3, rz, kvs, k, ek, ey, hl, h1, h2⟩ => adZ ?_))))
 subst ey
 obtain ⟨hz, hd, vs, rel, dd⟩ := xE I3.hok ek
 have hz' : vs.length ≤ Z2 := by rw [← rel.length]; exact hz
 have hv := rel.val k
 refine call_meetsIn adu dd.typeIs PySem.F.entry_dict_setdefault (PySem.F.args_dict_setdefault_3 _ _ _) (kt_meets_setdefault (aF X.prog X.w) a (oP ry) hd fv) ⟨vs, dd, hz', fun v e1 => ?_, fun e1 h' Jm hs => ?_⟩
 ·rw [e1] at hv
  cases e2 : eL kvs k with
  | none => rw [e2] at hv; exact hv.elim
  | some w =>
   rw [e2] at hv
   exact ⟨w, H3, I3.tok _, hv, h1 w e2⟩
 ·rw [e1] at hv
  cases e2 : eL kvs k with
  | some w => rw [e2] at hv; exact hv.elim
  | none =>
   have hq : ∃ q, h'.get? a = some q := let ⟨q, _, _, hq, _⟩ := Jm; ⟨q, hq⟩
   have hl' : (putK kvs k z).length ≤ Z2 := by have := gr kvs k z; omega
   exact ⟨z, _, vd I3 (by rw [ek]; exact acB) hs hq (D8 hl' hd (rel.put k rz) Jm), rz, h2 e2⟩
def vr (a d : aac) : HO := .ext fun h => h.get? a = some { cls := .type "dict_items", data := .fields #[.ref d] }
def JM : V → List V → Hp → VK → Prop := fun x vs H Q => ∃ d kvs, x = .ref d ∧ vs = [] ∧ H d = some (.dK kvs) ∧ ∀ p, H p = none → Q (.ref p) (upd H p (vr p d))
theorem Em : Mm X "dict.items" JM := by
 intro pins s σ H x vs v us Q I rx rv h
 obtain ⟨d, kvs, rfl, rfl, hd, q⟩ := h
 cases rx
 cases rv
 obtain ⟨hz, lo, kv, rel, dd⟩ := xE I.hok hd
 refine call_meetsIn aec dd.typeIs PySem.F.entry_dict_items (PySem.F.args_dict_items_1 _) (meets_dict_items (aF X.prog X.w) d lo) ⟨⟨kv, dd⟩, ?_⟩
 have e : (s.heap.push { cls := .type "dict_items", data := .fields #[.ref d] }).get? s.heap.objs.size = some { cls := .type "dict_items", data := .fields #[.ref d] } := Z8 _ rfl
 exact ⟨.ref s.heap.objs.size, _, I.laid (o := vr s.heap.objs.size d) (t' := s.toks) (fun b u z => ZV _ z) (Z0 _) (show ba _ _ _ _ _ (.ext _) from ⟨e, ⟨_, e⟩, fun h1 h2 z k => k _ z⟩), rfl, q _ (I.hok.fresh (Z0 _))⟩
theorem Paired.at2 {α β : Type} {F : α → β → Prop} : ∀ {l₁ : List α} {l₂ : List β}, Paired F l₁ l₂ → ∀ (j : Nat) (h1 : j < l₁.length) (h2 : j < l₂.length), F l₁[j] l₂[j]
 | _, _, .nil, j, h1, _ => by simp at h1
 | _, _, .cons r t, 0, _, _ => r
 | _, _, .cons r t, j + 1, h1, h2 => Paired.at2 t j (by simpa using h1) (by simpa using h2)
open PySem.W in
theorem Cz {pins : List (aac × Obj)} {σ : St} {H : Hp} {s : ZU} {ts : List Tr} {ys : List V} {its : List ZS} {k : Nat} {prog : aao} {w : aaO} {A : aaA} {E : ZS → ZU → Prop} {Q' : SortKind → ZU → Prop} (I' : Inv X pins σ H s)
  (r : Vals ys its) (hT : Ts X.K H ts ys) (hd : ∀ t ∈ ts, sj t = k) (hk : k = 1 ∨ k = 2) (h2 : 2 ≤ its.length) (hQ : Q' (tuples' true) s) : aar (model prog w) A (keyKind' its.toArray) Q' E s := by
 have hlen := r.length
 have hl := hT.1
 have hf : ∀ i : _root_.Fin its.length, ∃ f : ZS, (∃ a o xs n, its[i.1] = .ref a ∧ s.heap.get? a = some o ∧ o.cls = .type "tuple" ∧ o.data = .seq xs n ∧ xs[0]? = some f) ∧ ((k = 1 → typeOf f = pure (.type "str")) ∧ (k = 2 → typeOf f = pure (.type "int"))) := fun ⟨i, hi⟩ => by
  obtain ⟨u, f1, ru⟩ := r.get (i := i) (x := ys[i]'(by omega)) (by simp)
  have eu : its[i] = u := (ZZ.mp f1).2
  have hm := hd _ (ZT (show i < ts.length by omega))
  obtain ⟨c, cs, ec, kc⟩ := nv hk hm
  have MU := hT.2 i (by omega) (by omega)
  rw [ec] at MU
  obtain ⟨p1, y1, RF, v1, RG, e1, ⟨o1, Gb, Gf, n1, xQ⟩, d1, rv, _⟩ := ny I' MU ru
  refine ⟨v1, ⟨p1, o1, _, n1, by show its[i] = _; rw [eu, e1], Gb, Gf, xQ, by simp⟩, ?_⟩
  rcases kc with ⟨rfl, x, rfl⟩ | ⟨rfl, x, rfl⟩
  ·simp only [Tr.toD] at d1
   cases d1
   obtain ⟨t1, rfl⟩ := rv
   exact ⟨fun _ => rfl, fun z => by cases z⟩
  ·simp only [Tr.toD] at d1
   cases d1
   obtain ⟨t1, rfl⟩ := rv
   exact ⟨(fun z => by cases z), fun _ => rfl⟩
 obtain ⟨f, hf⟩ := aek.mp hf
 have kt : KatTups s.heap its (List.ofFn f) := mi (by simp) fun i h1 h2 => by
  rw [List.getElem_ofFn]
  exact (hf ⟨i, h1⟩).1
 rcases hk with rfl | rfl
 ·refine kat_kind (T := .type "str") kt (by simp; omega) (fun v hv => ?_) (by decide) hQ
  obtain ⟨i, rfl⟩ := (aea (f := f) (a := v)).mp hv
  exact aeb ((hf i).2.1 rfl)
 ·refine kat_kind (T := .type "int") kt (by simp; omega) (fun v hv => ?_) (by decide) hQ
  obtain ⟨i, rfl⟩ := (aea (f := f) (a := v)).mp hv
  exact aeb ((hf i).2.2 rfl)
open PySem.W in
theorem En {K : ZQ} {H : Hp} {ts : List Tr} {ys : List V} {p : Array Nat} (hT : Ts K H ts ys) (hp : Arr ts.length p) (hr : vm (fun i j => bR (ts.getD i (.int 0)) (ts.getD j (.int 0))) p ts.length) : Ts K H (aI ts) (p.toList.map fun i => ys.getD i .bB) := by
 have hpl : p.toList.Perm (aaz ts.length) := hp.2
 have hl := hT.1
 have e1 : (aaz ts.length).map (fun i => ts.getD i (.int 0)) = ts := by
  apply acg (by simp)
  intro i a1 a2
  simp [a2]
 have El : p.toList.map (fun i => ts.getD i (.int 0)) = aI ts := by
  refine vq ?_ ?_
  ·have z := hpl.map (fun i => ts.getD i (.int 0))
   rw [e1] at z
   exact z
  ·rw [abT, ab2]
   intro i j hi hj Bs
   have hi' : i < p.size := by simpa using hi
   have hj' : j < p.size := by simpa using hj
   have z := hr i j Bs (by rw [← hp.1]; exact hj')
   have g1 : p.getD i 0 = p.toList[i] := by simp [abp, hi']
   have g2 : p.getD j 0 = p.toList[j] := by simp [abp, hj']
   rw [g1, g2] at z
   exact z
 rw [← El]
 refine ⟨by simp, fun i h1 h2 => ?_⟩
 rw [Z3, Z3]
 have hi : i < p.toList.length := by simpa using h1
 have b1 : p.toList[i] < ts.length := aaT.mp (hpl.mem_iff.mp (ZT hi))
 have b2 : p.toList[i] < ys.length := by omega
 have g1 : ts.getD p.toList[i] (.int 0) = ts[p.toList[i]] := by rw [Gd9, Ge9 b1, abV]
 have g2 : ys.getD p.toList[i] .bB = ys[p.toList[i]] := by rw [Gd9, Ge9 b2, abV]
 rw [g1, g2]
 exact hT.2 _ b1 b2
open PySem.W in
theorem Bv {pins : List (aac × Obj)} {σ : St} {H : Hp} {s : ZU} {A : aaA} {E : ZS → ZU → Prop} {ts : List Tr} {ys : List V} {its : List ZS} {k : Nat} {P : PySem.Fin → ZU → Prop} (hu : A.units + 45 < cLine) (I : Inv X pins σ H s) (r : Vals ys its) (hT : Ts X.K H ts ys) (Bt : its.length < 64) (hk : k = 1 ∨ k = 2)
  (hd : ∀ t ∈ ts, sj t = k ∧ t.toD.deep ≤ 18) (Ck : ∀ t ∈ ts, ∀ u ∈ ts, oU t u = true)
  (fin : ∀ xf s', Inv X pins σ (upd H s.heap.objs.size (.lst xf)) s' → Ts X.K H (aI ts) xf → P (.done (.ret .none)) s') :
  aar (model X.prog X.w) A (Builtin.«list.sort» ⟨[.ref s.heap.objs.size], []⟩) P E { s with heap := s.heap.push (seqObj "list" its.toArray 0) } := by
 have hlen := r.length
 have hl := hT.1
 have nD : ∀ b o, s.heap.get? b = some o → b ≠ s.heap.objs.size := fun b o q => aam (aab q)
 have GW : ∀ b o, s.heap.get? b = some o → (s.heap.push (seqObj "list" its.toArray 0)).get? b = some o := fun b o q => ZV _ q
 have at_ : ∀ i (hi : i < its.length), ∃ u, its[i] = u ∧ RelV (ys[i]'(by omega)) u := fun i hi => by
  obtain ⟨u1, f1, q1⟩ := r.get (i := i) (x := ys[i]'(by omega)) (by simp)
  exact ⟨u1, (ZZ.mp f1).2, q1⟩
 refine lT (κ := tuples' true) (lt := fun i j => bR (ts.getD i (.int 0)) (ts.getD j (.int 0))) (vo _) (Z8 _ rfl) Bt (fun h2 h' kp Q' hQ => ?_) (fun h' kp i j C hi hj hC => ?_) fun p h' c hp hr kp e => ?_
 ·exact Cz (I.kept (t' := s.toks) fun b o q => kp b o (nD b o q) (GW b o q)) r hT (fun t ht => (hd t ht).1) hk h2 hQ
 ·have I' : Inv X pins σ H { s with heap := h' } := I.kept (t' := s.toks) fun b o q => kp b o (nD b o q) (GW b o q)
  obtain ⟨u1, RH, RI⟩ := at_ i hi
  obtain ⟨u2, Js, RJ⟩ := at_ j hj
  have g1 : its.getD i aa4 = u1 := by rw [← RH]; simp [hi]
  have g2 : its.getD j aa4 = u2 := by rw [← Js]; simp [hj]
  have i1 : i < ts.length := by omega
  have j1 : j < ts.length := by omega
  have t1 : ts.getD i (.int 0) = ts[i] := by simp [i1]
  have t2 : ts.getD j (.int 0) = ts[j] := by simp [j1]
  rw [g1, g2]
  have hC : C (bR (ts.getD i (.int 0)) (ts.getD j (.int 0))) _ := hC
  rw [t1, t2] at hC
  exact Bu I' hu hk (hd _ (ZT i1)).1 (hd _ (ZT j1)).1 (hd _ (ZT i1)).2 (Ck _ (ZT i1) _ (ZT j1)) (hT.2 i i1 (by omega)) (hT.2 j j1 (by omega)) RI RJ hC
 ·have el : its.length = ts.length := by omega
  rw [el] at hp hr
  refine fin (p.toList.map fun i => ys.getD i .bB) _ (I.laid (t' := s.toks) (fun b o q => kp b o (nD b o q) (GW b o q)) (Z0 _) ⟨?_, _, c, qH r p.toList, e⟩) (En hT hp hr)
  rw [Lm9, aaZ, hp.1, aak]
  omega
def xR (p : Str × Tr) : Tr := .tup [.str p.1, p.2]
def JN (K : ZQ) : List V → Hp → VK → Prop := fun xs H Q => ∃ r d kvs, ∃ ps : List (Str × Tr), xs = [.ref r] ∧ H r = some (vr r d) ∧ H d = some (.dK kvs) ∧ kvs.length < 64 ∧ kvs.length = ps.length ∧
 (∀ (i : Nat) (h1 : i < kvs.length) (h2 : i < ps.length), (kvs[i]).1 = .inr (ps[i]).1 ∧ cC K H (ps[i]).2.toD (kvs[i]).2 ∧ (ps[i]).2.toD.deep ≤ 17) ∧ (∀ p ∈ ps, ∀ q ∈ ps, oU p.2 q.2 = true) ∧
 ∀ p xf H', af H H' → H' p = none → Ts K H' (aI (ps.map xR)) xf → Q (.ref p) (upd H' p (.lst xf))
theorem vt (hu : X.A.units + 64 < cLine) (hc : X.calm = true) : cK X (.builtin "sorted") (JN X.K) := by
 intro pins s σ H xs us Q I rx h
 obtain ⟨r, d, kvs, ps, rfl, hr, hd, Bt, hl, hT, Ck, q⟩ := h
 obtain ⟨u, rfl, ru⟩ := vals1 rx
 cases ru
 obtain ⟨hz, lo, vs, rel, dd⟩ := xE I.hok hd
 obtain ⟨od, es, ep, e1, e2, e3, e4⟩ := dd
 have hr' : s.heap.get? r = some { cls := .type "dict_items", data := .fields #[.ref d] } := (show ba X.prog X.w H s.heap r (.ext _) from I.hok r _ hr).1
 have UM : vs.length = kvs.length := rel.length.symm
 refine acJ kind_sorted plain_sorted entry_sorted (args_sorted1 _) ?_
 unfold Builtin.«sorted»
 refine ZR (m := checkCount "sorted" 1 1 _) (ZW ?_)
 refine ZR (PySem.W.kdx_collect (A := X.A.in1) (knd := aF X.prog X.w) (kvs := vs) (ep := ep) (d := d) (I.ok.hd hc) ⟨_, hr', rfl, rfl⟩ ⟨od, es, e1, e2, e3, e4⟩ (by rw [UM]; exact hz) fun h' tk as kp PZ hG => ?_)
 have nd : as.Nodup := hG.rise.imp fun z => aam z
 have hla' : as.length = kvs.length := by omega
 let H1 : Hp := fun b => if h : as.idxOf b < kvs.length then some (.tup [kV (kvs[as.idxOf b]).1, (kvs[as.idxOf b]).2]) else H b
 have zZ : ∀ j (h1 : j < as.length) (h2 : j < kvs.length), H1 as[j] = some (.tup [kV (kvs[j]).1, (kvs[j]).2]) := fun j h1 h2 => by
  have e := nd.idxOf_getElem j h1
  show (if h : as.idxOf as[j] < kvs.length then some (HO.tup [kV (kvs[as.idxOf as[j]]).1, (kvs[as.idxOf as[j]]).2]) else H as[j]) = _
  have fF : as.idxOf as[j] < kvs.length := by rw [e]; exact h2
  rw [dif_pos fF]
  simp only [e]
 have z6 : ∀ b, b < s.heap.objs.size → H1 b = H b := fun b hb => by
  have hn : b ∉ as := fun hm => Nat.lt_asymm (hG.above b hm) hb
  have e : as.idxOf b = as.length := List.idxOf_eq_length hn
  show (if h : as.idxOf b < kvs.length then _ else H b) = H b
  rw [dif_neg (by rw [e]; omega)]
 have same : af H H1 := fun b o e => (z6 b (I.hok.lt e)).trans e
 have Eo : jO X.prog X.w H1 h' := fun b o e => by
  by_cases hb : as.idxOf b < kvs.length
  ·have RK : as.idxOf b < as.length := by omega
   have eb : as[as.idxOf b] = b := List.getElem_idxOf RK
   have e1 := zZ _ RK hb
   rw [eb, e] at e1
   have e1 := aaI e1
   subst e1
   obtain ⟨key, k, x, f1, f2, f3⟩ := hG.pairs (as.idxOf b) b (by rw [Ge9 RK, eb])
   obtain ⟨f4, f5⟩ := ZZ.mp f1
   have z := Paired.at2 rel (as.idxOf b) hb f4
   rw [f5] at z
   refine ⟨by rw [aak]; simp, [key, x], .cons ?_ (.cons z.2 .nil), ⟨_, f3, rfl, 0, rfl⟩⟩
   rw [z.1]
   exact HZ f2
  ·have e1 : H1 b = H b := by
    show (if h : as.idxOf b < kvs.length then _ else H b) = H b
    rw [dif_neg hb]
   rw [e1] at e
   exact (I.hok b o e).zy (fun c u _ z => kp c u z) (fun c z => same c _ z) fun c xs z => same c _ z
 have I1 : Inv X pins σ H1 { s with heap := h', toks := tk } := I.MV kp z6 Eo
 have UN : Ts X.K H1 (ps.map xR) (as.map V.ref) := ⟨by simp; omega, fun i h1 h2 => by
  rw [Z3, Z3]
  have i1 : i < ps.length := by simpa using h1
  have i2 : i < as.length := by simpa using h2
  obtain ⟨k1, k2, _⟩ := hT i (by omega) i1
  have e := zZ i i2 (by omega)
  show cC X.K H1 (Tr.toD (.tup [.str (ps[i]).1, (ps[i]).2])) (.ref as[i])
  simp only [Tr.toD, Tr.toDs]
  refine .tup (.inl (.inl e)) rfl fun j j1 j2 => ?_
  match j, j1, j2 with
  | 0, _, _ =>
   show cC X.K H1 (.str (ps[i]).1) (kV (kvs[i]).1)
   rw [k1]
   exact .str _
  | 1, _, _ => exact k2.same same⟩
 have WW : Vals (as.map V.ref) (as.map aaC) := by
  clear UN Eo zZ hla' PZ hG z6 same I1 nd
  induction as with
  | nil => exact .nil
  | cons a r ih => exact .cons rfl ih
 refine ZR (wpAny_newList ?_ (by rw [Lm9, PZ, UM]; exact hz))
 have mT : ∀ E', aar (model X.prog X.w) X.A.in1.in1 (Builtin.«list.sort» ⟨[.ref h'.objs.size], []⟩) _ E' { s with heap := h'.push (seqObj "list" (as.map aaC).toArray 0), toks := tk } := fun E' =>
  Bv (s := { s with heap := h', toks := tk }) (k := 1) (ts := ps.map xR) (P := fun fin s' => fin = .done (.ret .none) ∧ EP X pins σ Q (.ref h'.objs.size) s') (E := E') (by show X.A.units + 1 + 1 + 45 < cLine; omega) I1 WW UN (by simp; omega) (.inl rfl)
   (fun t ht => by
    obtain ⟨q0, RL, rfl⟩ := Z1.mp ht
    obtain ⟨i, hi, rfl⟩ := aa2.mp RL
    refine ⟨rfl, ?_⟩
    have z := (hT i (by omega) hi).2.2
    show (Tr.toD (.tup [.str (ps[i]).1, (ps[i]).2])).deep ≤ 18
    simp only [Tr.toD, Tr.toDs, Dt.deep, Dt.bU]
    omega)
   (fun t ht u RM => by
    obtain ⟨q0, RL, rfl⟩ := Z1.mp ht
    obtain ⟨q1, RN, rfl⟩ := Z1.mp RM
    have z := Ck _ RL _ RN
    simp only [xR, oU, nu, aaE, Bool.and_true, aff]
    exact z)
   fun xf s' I2 El => ⟨rfl, .ref h'.objs.size, _, I2, rfl, q _ _ H1 same (I1.hok.fresh (Z0 _)) El⟩
 refine ZR (wpAny_holding (wpAny_call_entry slot_list_sort ⟨_, Z8 _ rfl, rfl⟩ entry_list_sort ?body (args_list_sort _)))
 case body =>
  refine wpAny_mono (mT _) (fun fin s' z => ?_) fun _ _ z => z
  obtain ⟨rfl, z⟩ := z
  exact ⟨_, rfl, ZW ⟨_, rfl, z⟩⟩
end
end L2
namespace d9
open PySem
def Ri (xs : Array Nat) : Prop := ∀ i j, i < j → j < xs.size → xs.getD i 0 < xs.getD j 0
theorem getD_in (xs : Array Nat) {i : Nat} (h : i < xs.size) (a b : Nat) : xs.getD i a = xs.getD i b := by simp [abp, h]
theorem vv (xs : Array Nat) (hr : Ri xs) (j : Nat) : ∀ (fuel lo hi : Nat), lo ≤ hi → hi ≤ xs.size → hi - lo ≤ fuel → (∀ i, i < lo → xs.getD i 0 < j) → (∀ i, hi ≤ i → i < xs.size → j ≤ xs.getD i 0) →
  (adg xs j fuel lo hi ≤ xs.size ∧ (∀ i, i < adg xs j fuel lo hi → xs.getD i 0 < j) ∧ ∀ i, adg xs j fuel lo hi ≤ i → i < xs.size → j ≤ xs.getD i 0)
 | 0, lo, hi, h1, h2, h3, h4, h5 => by
  obtain rfl : lo = hi := by omega
  exact ⟨h2, h4, h5⟩
 | fuel + 1, lo, hi, h1, h2, h3, h4, h5 => by
  unfold adg
  by_cases hl : lo < hi
  ·rw [if_pos hl]
   have hm : (lo + hi) / 2 < xs.size := by omega
   have e : xs.getD ((lo + hi) / 2) j = xs.getD ((lo + hi) / 2) 0 := getD_in xs hm _ _
   dsimp only
   rw [e]
   by_cases hc : xs.getD ((lo + hi) / 2) 0 < j
   ·rw [if_pos hc]
    refine vv xs hr j fuel ((lo + hi) / 2 + 1) hi (by omega) h2 (by omega) (fun i hi' => ?_) h5
    by_cases ei : i = (lo + hi) / 2
    ·rw [ei]; exact hc
    ·exact afv (hr i _ (by omega) hm) hc
   ·rw [if_neg hc]
    refine vv xs hr j fuel lo ((lo + hi) / 2) (by omega) (by omega) (by omega) h4 fun i GS WX => ?_
    by_cases ei : i = (lo + hi) / 2
    ·rw [ei]; omega
    ·have := hr _ i (show (lo + hi) / 2 < i by omega) WX
     omega
  ·rw [if_neg hl]
   obtain rfl : lo = hi := by omega
   exact ⟨h2, h4, h5⟩
theorem iS (xs : Array Nat) (hr : Ri xs) (j : Nat) : aaH xs j ≤ xs.size ∧ (∀ i, i < aaH xs j → xs.getD i 0 < j) ∧ ∀ i, aaH xs j ≤ i → i < xs.size → j ≤ xs.getD i 0 :=
 vv xs hr j xs.size 0 xs.size (aaX _) (Z0 _) (by omega) (fun i h => absurd h (by omega)) fun i h1 h2 => absurd h1 (by omega)
structure Tb (t : aaB) : Prop where
 ri : Ri t.place
 nd : t.dummies = #[]
theorem il {t : aaB} (T : Tb t) {i : Nat} (hi : i < t.place.size) : t.slot (t.place.getD i 0) = .live i := by
 have b := iS t.place T.ri (t.place.getD i 0)
 have e : aaH t.place (t.place.getD i 0) = i := by
  rcases adf (aaH t.place (t.place.getD i 0)) i with h | h | h
  ·have z := b.2.2 _ (Z0 _) (by omega)
   have y := T.ri _ i h hi
   omega
  ·exact h
  ·have z := b.2.1 i h
   omega
 unfold SetTable.slot
 rw [e]
 have e2 : t.place[i]? = some (t.place.getD i 0) := by simp [abp, hi]
 dsimp only
 rw [e2]
 simp
theorem mj {t : aaB} (T : Tb t) (j : Nat) : (∃ i, i < t.place.size ∧ t.place.getD i 0 = j ∧ t.slot j = .live i) ∨ ((∀ i, i < t.place.size → t.place.getD i 0 ≠ j) ∧ t.slot j = .empty) := by
 by_cases h : ∃ i, i < t.place.size ∧ t.place.getD i 0 = j
 ·obtain ⟨i, h1, h2⟩ := h
  exact .inl ⟨i, h1, h2, by rw [← h2]; exact il T h1⟩
 ·refine .inr ⟨fun i h1 h2 => h ⟨i, h1, h2⟩, ?_⟩
  have hn : ∀ i, i < t.place.size → t.place.getD i 0 ≠ j := fun i h1 h2 => h ⟨i, h1, h2⟩
  unfold SetTable.slot
  dsimp only
  have e1 : (t.place[aaH t.place j]? == some j) = false := by
   cases e : t.place[aaH t.place j]? with
   | none => rfl
   | some y =>
    obtain ⟨h1, h2⟩ := Array.getElem?_eq_some_iff.mp e
    have z := hn _ h1
    have e3 : t.place.getD (aaH t.place j) 0 = y := by simp [abp, h1, h2]
    rw [e3] at z
    simpa using z
  rw [e1]
  have e2 : aeB t.dummies j = false := by rw [T.nd]; simp [aeB]
  rw [e2]
  rfl
end d9
namespace d9
def xh : Nat → Nat → Nat
 | 0, s => s
 | r + 1, s => 5 * xh r s + 1
def T5 : Nat → Nat
 | 0 => 0
 | r + 1 => 5 * T5 r + 1
theorem qI : ∀ r s, xh r s = 5 ^ r * s + T5 r
 | 0, s => by simp [xh, T5]
 | r + 1, s => by
  rw [xh, qI r s, T5, acy, Nat.mul_add, ← Nat.mul_assoc, afw 5 (5 ^ r), Nat.add_assoc]
theorem z7 : ∀ r, 4 * T5 r + 1 = 5 ^ r
 | 0 => rfl
 | r + 1 => by
  have := z7 r
  rw [T5, acy, ← this]
  omega
theorem vw : ∀ a b s, xh (a + b) s = xh a (xh b s)
 | 0, b, s => by simp [xh]
 | a + 1, b, s => by
  rw [show a + 1 + b = (a + b) + 1 by omega, xh, xh, vw a b s]
theorem JO (a b : Nat) : T5 (a + b) = 5 ^ a * T5 b + T5 a := by
 have h := vw a b 0
 rw [qI, qI a, qI b] at h
 simpa using h
theorem Ep : ∀ k, ∃ o, T5 (2 ^ k) = 2 ^ k * (2 * o + 1)
 | 0 => ⟨0, rfl⟩
 | k + 1 => by
  obtain ⟨o, h⟩ := Ep k
  have e : 2 ^ (k + 1) = 2 ^ k + 2 ^ k := by rw [acy]; omega
  rw [e, JO, ← z7]
  refine ⟨2 * T5 (2 ^ k) * o + T5 (2 ^ k) + o, ?_⟩
  generalize T5 (2 ^ k) = T at *
  generalize 2 ^ k = M at *
  have h3 : (4 * T + 1) * T + T = (2 * (2 * T + 1)) * T := by grind
  rw [h3]
  have h4 : (2 * (2 * T + 1)) * T = (2 * (2 * T + 1)) * (M * (2 * o + 1)) := by rw [← h]
  rw [h4]
  grind
theorem cover : ∀ (k s j : Nat), j < 2 ^ k → ∃ r, r < 2 ^ k ∧ xh r s % 2 ^ k = j
 | 0, s, j, h => ⟨0, by simp, by simp at h; subst h; simp [Nat.mod_one]⟩
 | k + 1, s, j, h => by
  have e : 2 ^ (k + 1) = 2 * 2 ^ k := by rw [acy]; omega
  have hM : 0 < 2 ^ k := Nat.two_pow_pos k
  obtain ⟨r, hr, hj⟩ := cover k s (j % 2 ^ k) (adh _ hM)
  obtain ⟨o, ho⟩ := Ep k
  have hB : xh (2 ^ k + r) s = xh r s + 2 ^ k * ((2 * o + 1) * (4 * xh r s + 1)) := by
   rw [vw, qI (2 ^ k), ← z7, ho]
   generalize xh r s = A
   generalize 2 ^ k = M
   grind
  rw [e] at h ⊢
  obtain ⟨A, hA⟩ : ∃ A, xh r s = A := ⟨_, rfl⟩
  rw [hA] at hB hj
  generalize 2 ^ k = M at *
  have a1 := Nat.div_add_mod A M
  have j1 := Nat.div_add_mod j M
  rw [hj] at a1
  generalize j % M = c at *
  have hc : c < M := by
   rw [← hj]; exact adh _ hM
  have hp : j / M = 0 ∨ j / M = 1 := by
   have : j / M < 2 := Nat.div_lt_of_lt_mul (by rw [afw]; exact h)
   revert this
   generalize j / M = p
   intro this
   omega
  have key : ∀ q x, x = 2 * M * q + j → x % (2 * M) = j := fun q x e => by
   rw [e, Nat.mul_add_mod]
   exact ael h
  obtain ⟨q, hq⟩ : ∃ q, A / M = 2 * q ∨ A / M = 2 * q + 1 := ⟨A / M / 2, by generalize A / M = z; omega⟩
  generalize A / M = a at *
  generalize j / M = p at *
  obtain ⟨u, hu⟩ : ∃ u, (2 * o + 1) * (4 * A + 1) = 2 * u + 1 := ⟨4 * A * o + o + 2 * A, by grind⟩
  rw [hu] at hB
  rcases hq with rfl | rfl <;> rcases hp with rfl | rfl
  ·exact ⟨r, by omega, key q _ (by grind)⟩
  ·exact ⟨M + r, by omega, key (q + u) _ (by grind)⟩
  ·exact ⟨M + r, by omega, key (q + u + 1) _ (by grind)⟩
  ·exact ⟨r, by omega, key q _ (by grind)⟩
end d9
namespace d9
open PySem
def cg (t : aaB) : Nat → abP → abP
 | 0, p => p
 | n + 1, p => cg t n (t.advance p)
theorem iT (t : aaB) : ∀ a b p, cg t (a + b) p = cg t b (cg t a p)
 | 0, b, p => by simp [cg]
 | a + 1, b, p => by rw [show a + 1 + b = (a + b) + 1 by omega, cg, cg, iT t a b]
def start (mask i pb : Nat) (d : Option Nat) : abP := { j := i, more := aay mask i - i, i := i, perturb := pb, dummy := d }
theorem nz (t : aaB) : ∀ (more j i pb : Nat) (d : Option Nat), cg t (more + 1) { j := j, more := more, i := i, perturb := pb, dummy := d } = start t.mask (aa9 t.mask i pb).1 (aa9 t.mask i pb).2 d
 | 0, j, i, pb, d => by
  simp only [cg, ach]
  rfl
 | more + 1, j, i, pb, d => by
  rw [cg]
  have e : t.advance { j := j, more := more + 1, i := i, perturb := pb, dummy := d } = { j := j + 1, more := more, i := i, perturb := pb, dummy := d } := by
   simp [ach]
  rw [e]
  exact nz t more (j + 1) i pb d
def lp (mask : Nat) : Nat → Nat × Nat → Nat × Nat
 | 0, x => x
 | q + 1, x => aa9 mask (lp mask q x).1 (lp mask q x).2
theorem starts (t : aaB) (d : Option Nat) (i pb : Nat) : ∀ q, ∃ n, n ≤ 10 * q ∧ cg t n (start t.mask i pb d) = start t.mask (lp t.mask q (i, pb)).1 (lp t.mask q (i, pb)).2 d
 | 0 => ⟨0, Z0 _, rfl⟩
 | q + 1 => by
  obtain ⟨n, h1, h2⟩ := starts t d i pb q
  have hr : aay t.mask (lp t.mask q (i, pb)).1 - (lp t.mask q (i, pb)).1 ≤ 9 := by
   unfold aay
   split <;> omega
  refine ⟨n + (aay t.mask (lp t.mask q (i, pb)).1 - (lp t.mask q (i, pb)).1 + 1), by omega, ?_⟩
  rw [iT, h2, start, nz]
  rfl
theorem Ic (mask : Nat) (x : Nat × Nat) : ∀ q, (lp mask q x).2 = x.2 / 32 ^ q
 | 0 => by simp [lp]
 | q + 1 => by
  rw [lp, aa9, Ic mask x q, acy, Nat.div_div_eq_div_mul]
theorem G5 {mask : Nat} {x : Nat × Nat} (h : x.2 < 2 ^ 64) {q : Nat} (hq : 13 ≤ q) : (lp mask q x).2 = 0 := by
 rw [Ic]
 apply Nat.div_eq_of_lt
 calc x.2 < 2 ^ 64 := h
  _ ≤ 32 ^ 13 := by decide
  _ ≤ 32 ^ q := aeN (by decide) hq
theorem z8 {mask : Nat} {x : Nat × Nat} (h : x.2 < 2 ^ 64) : ∀ r, (lp mask (13 + r) x).1 % (mask + 1) = xh r (lp mask 13 x).1 % (mask + 1)
 | 0 => rfl
 | r + 1 => by
  have e : lp mask (13 + (r + 1)) x = aa9 mask (lp mask (13 + r) x).1 (lp mask (13 + r) x).2 := rfl
  rw [e, aa9, G5 h (by omega)]
  show ((lp mask (13 + r) x).1 * 5 + 1 + 0 / 32) % (mask + 1) % (mask + 1) = _
  rw [Nat.mod_mod, xh]
  simp only [Nat.zero_div, afx]
  rw [Nat.add_mod, Nat.mul_mod, z8 h r, ← Nat.mul_mod, ← Nat.add_mod, afw]
theorem JP (t : aaB) {k : Nat} (hk : t.mask + 1 = 2 ^ k) (h : Int) {j : Nat} (hj : j ≤ t.mask) : ∃ n, n ≤ 10 * (t.mask + 14) ∧ (cg t n (t.probeStart h)).j = j := by
 have e : t.probeStart h = start t.mask (aaS h % (t.mask + 1)) (aaS h) none := rfl
 have hb : aaS h < 2 ^ 64 := by
  unfold aaS
  have h1 := adQ h (show (0 : Int) < 2 ^ 64 by decide)
  have h2 := acw h (show (2 ^ 64 : Int) ≠ 0 by decide)
  omega
 let x : Nat × Nat := (aaS h % (t.mask + 1), aaS h)
 obtain ⟨r, hr, hx⟩ := cover k (lp t.mask 13 x).1 j (by omega)
 rw [← hk] at hx hr
 have h1 := z8 (mask := t.mask) (x := x) hb r
 have h2 : (lp t.mask (13 + r) x).1 < t.mask + 1 := by
  rw [show 13 + r = (12 + r) + 1 by omega, lp, aa9]
  exact adh _ (aeC _)
 rw [ael h2, hx] at h1
 obtain ⟨n, h3, h4⟩ := starts t none x.1 x.2 (13 + r)
 refine ⟨n, by omega, ?_⟩
 rw [e]
 show (cg t n (start t.mask x.1 x.2 none)).j = j
 rw [h4]
 exact h1
theorem Aa {t : aaB} (T : Tb t) (hf : t.place.size ≤ t.mask) : ∃ j, j ≤ t.mask ∧ t.slot j = .empty := by
 refine abc fun ip => ?_
 have all : ∀ j, j ≤ t.mask → ∃ i, i < t.place.size ∧ t.place.getD i 0 = j := fun j hj => by
  rcases mj T j with ⟨i, h1, h2, _⟩ | ⟨_, h2⟩
  ·exact ⟨i, h1, h2⟩
  ·exact absurd ⟨j, hj, h2⟩ ip
 have up : ∀ j, j ≤ t.mask → ∀ i, i < t.place.size → t.place.getD i 0 = j → j ≤ i := by
  intro j
  induction j with
  | zero => intro _ i _ _; omega
  | succ j ih =>
   intro hj i hi e
   obtain ⟨i', hi', e'⟩ := all j (by omega)
   have := ih (by omega) i' hi' e'
   rcases adf i i' with q | q | q
   ·have := T.ri i i' q hi'; omega
   ·subst q; omega
   ·omega
 obtain ⟨i, hi, e⟩ := all t.mask (Z0 _)
 have := up _ (Z0 _) i hi e
 omega
theorem first (P : Nat → Prop) (n : Nat) (h : P n) : ∃ m, m ≤ n ∧ P m ∧ ∀ i, i < m → ¬ P i := by
 induction n using Nat.strongRecOn with
 | ind n ih =>
  by_cases q : ∃ i, i < n ∧ P i
  ·obtain ⟨i, h1, h2⟩ := q
   obtain ⟨m, a, b, c⟩ := ih i h1 h2
   exact ⟨m, by omega, b, c⟩
  ·exact ⟨n, Z0 _, h, fun i hi hp => q ⟨i, hi, hp⟩⟩
theorem way {t : aaB} (T : Tb t) {k : Nat} (hk : t.mask + 1 = 2 ^ k) (hf : t.place.size ≤ t.mask) (h : Int) (hit : Nat → Prop) :
  ∃ n, n ≤ 10 * (t.mask + 14) ∧ (t.slot (cg t n (t.probeStart h)).j = .empty ∨ ∃ i, i < t.place.size ∧ t.slot (cg t n (t.probeStart h)).j = .live i ∧ hit i) ∧
   ∀ m, m < n → ∃ i, i < t.place.size ∧ t.slot (cg t m (t.probeStart h)).j = .live i ∧ ¬ hit i := by
 obtain ⟨j, hj, he⟩ := Aa T hf
 obtain ⟨n, hn, e⟩ := JP t hk h hj
 obtain ⟨m, hm, hp, hb⟩ := first (fun n => t.slot (cg t n (t.probeStart h)).j = .empty ∨ ∃ i, i < t.place.size ∧ t.slot (cg t n (t.probeStart h)).j = .live i ∧ hit i) n (.inl (by rw [e]; exact he))
 refine ⟨m, by omega, hp, fun i hi => ?_⟩
 have ip := hb i hi
 rcases mj T (cg t i (t.probeStart h)).j with ⟨a, h1, h2, h3⟩ | ⟨_, h2⟩
 ·exact ⟨a, h1, h3, fun z => ip (.inr ⟨a, h1, h3, z⟩)⟩
 ·exact absurd (.inl h2) ip
theorem Er (t : aaB) (hashAt : Nat → Int) (h : Int) : ∀ (n fuel : Nat) (p : abP), (∀ m, m < n → ∃ i, t.slot (cg t m p).j = .live i ∧ (hashAt i == h) = false) → n ≤ fuel →
  ab8 t hashAt h fuel p = ab8 t hashAt h (fuel - n) (cg t n p)
 | 0, fuel, p, _, _ => rfl
 | n + 1, 0, p, _, hf => absurd hf (by omega)
 | n + 1, fuel + 1, p, hm, hf => by
  obtain ⟨i, h1, h2⟩ := hm 0 (by omega)
  have h1 : t.slot p.j = .live i := h1
  rw [ab8, h1]
  simp only [h2, Z7, if_false]
  rw [Er t hashAt h n fuel (t.advance p) (fun m q => hm (m + 1) (by omega)) (by omega)]
  rw [show fuel + 1 - (n + 1) = fuel - n by omega]
  rfl
end d9
namespace d9
open PySem
def JQ (t : aaB) (h : Int) (j : Nat) : Prop := ∃ n, n < 10 * (t.mask + 15) ∧ (cg t n (t.probeStart h)).j = j ∧ ∀ m, m < n → t.slot (cg t m (t.probeStart h)).j ≠ .empty
structure xi (t : aaB) (hs : Array Int) : Prop where
 tb : Tb t
 sz : t.place.size = hs.size
 le : ∀ i, i < t.place.size → t.place.getD i 0 ≤ t.mask
 fill : hs.size ≤ t.mask
 pw : ∃ k, t.mask + 1 = 2 ^ k
 Ab : ∀ i, i < hs.size → JQ t (hs.getD i 0) (t.place.getD i 0)
theorem ir {t t' : aaB} (h : t'.mask = t.mask) : ∀ n p, cg t' n p = cg t n p
 | 0, p => rfl
 | n + 1, p => by
  have e : t'.advance p = t.advance p := by simp only [ach, h]
  rw [cg, cg, e, ir h n]
theorem iU {t t' : aaB} (hm : t'.mask = t.mask) (h : Int) : t'.probeStart h = t.probeStart h := by simp only [SetTable.probeStart, hm]
theorem dg {α : Type} (xs : Array α) {p : Nat} (hp : p ≤ xs.size) (x : α) : (aaL xs p x).size = xs.size + 1 := by
 unfold aaL
 simp
 omega
theorem iV {α : Type} (xs : Array α) {p : Nat} (hp : p ≤ xs.size) (x : α) (i : Nat) : (aaL xs p x)[i]? = if i < p then xs[i]? else if i = p then some x else xs[i - 1]? := by
 unfold aaL
 rw [Array.getElem?_append]
 have e : ((xs.extract 0 p).push x).size = p + 1 := by simp; omega
 rw [e]
 by_cases h1 : i < p
 ·rw [if_pos (by omega), if_pos h1, ae5]
  rw [if_neg (by simp; omega), aes]
  simp
  omega
 ·rw [if_neg h1]
  by_cases h2 : i = p
  ·rw [if_pos (by omega), if_pos h2, ae5]
   rw [if_pos (by simp; omega)]
  ·rw [if_neg (by omega), if_neg h2, aes]
   have e2 : p + (i - (p + 1)) = i - 1 := by omega
   rw [e2]
   by_cases h3 : i - 1 < xs.size
   ·rw [if_pos (by omega)]
   ·rw [if_neg (by omega)]
    simp
    omega
theorem lU {α : Type} (xs : Array α) {p : Nat} (hp : p ≤ xs.size) (x d : α) (i : Nat) : (aaL xs p x).getD i d = if i < p then xs.getD i d else if i = p then x else xs.getD (i - 1) d := by
 rw [aav, iV xs hp x i, aav, aav]
 split
 ·rfl
 ·split <;> rfl
theorem JR {t : aaB} {hs : Array Int} (I : xi t hs) {h : Int} {n : Nat} (hn : n < 10 * (t.mask + 15)) (he : t.slot (cg t n (t.probeStart h)).j = .empty) (hj : (cg t n (t.probeStart h)).j ≤ t.mask)
  (hw : ∀ m, m < n → t.slot (cg t m (t.probeStart h)).j ≠ .empty) (Ie : hs.size + 1 ≤ t.mask) :
  xi (t.put (cg t n (t.probeStart h)).j).1 (aaL hs (t.put (cg t n (t.probeStart h)).j).2 h) ∧ (t.put (cg t n (t.probeStart h)).j).2 ≤ hs.size := by
 generalize WY : (cg t n (t.probeStart h)).j = j at *
 have MX : ∀ i, i < t.place.size → t.place.getD i 0 ≠ j := fun i hi e => by
  have z := il I.tb hi
  rw [e, he] at z
  cases z
 have hb := iS t.place I.tb.ri j
 have qr : (t.put j).2 = aaH t.place j := rfl
 have hm : (t.put j).1.mask = t.mask := rfl
 have hpl : (t.put j).1.place = aaL t.place (aaH t.place j) j := rfl
 have hd : (t.put j).1.dummies = #[] := by
  show (if aeB t.dummies j then _ else t.dummies) = #[]
  rw [I.tb.nd]
  simp [aeB]
 have gp := lU t.place hb.1 j 0
 have sp := dg t.place hb.1 j
 have ri : Ri (t.put j).1.place := fun a b hab WZ => by
  rw [hpl, sp] at WZ
  rw [hpl, gp, gp]
  have h1 := hb.2.1
  have h2 := hb.2.2
  by_cases b1 : b < aaH t.place j
  ·rw [if_pos (by omega), if_pos b1]; exact I.tb.ri a b hab (by omega)
  ·rw [if_neg b1]
   by_cases b2 : b = aaH t.place j
   ·rw [if_pos b2, if_pos (by omega)]; exact h1 a (by omega)
   ·rw [if_neg b2]
    by_cases a1 : a < aaH t.place j
    ·rw [if_pos a1]; exact I.tb.ri a (b - 1) (by omega) (by omega)
    ·rw [if_neg a1]
     by_cases a2 : a = aaH t.place j
     ·rw [if_pos a2]
      have z := h2 (b - 1) (by omega) (by omega)
      have y := MX (b - 1) (by omega)
      omega
     ·rw [if_neg a2]; exact I.tb.ri (a - 1) (b - 1) (by omega) (by omega)
 have tb : Tb (t.put j).1 := ⟨ri, hd⟩
 have mono : ∀ c, t.slot c ≠ .empty → (t.put j).1.slot c ≠ .empty := fun c hc z => by
  rcases mj I.tb c with ⟨i, h1, h2, _⟩ | ⟨_, h2⟩
  ·have key : ∃ i', i' < (t.put j).1.place.size ∧ (t.put j).1.place.getD i' 0 = c := by
    rw [hpl, sp]
    by_cases q : i < aaH t.place j
    ·exact ⟨i, by omega, by rw [gp, if_pos q]; exact h2⟩
    ·exact ⟨i + 1, by omega, by rw [gp, if_neg (by omega), if_neg (by omega)]; exact h2⟩
   obtain ⟨i', k1, k2⟩ := key
   have y := il tb k1
   rw [k2, z] at y
   cases y
  ·exact hc h2
 have hsz := I.sz
 refine ⟨⟨tb, ?_, ?_, ?_, ?_, ?_⟩, ?_⟩
 ·rw [qr, hpl, sp, dg hs (by omega), hsz]
 ·intro i hi
  rw [hpl, sp] at hi
  rw [hpl, gp, hm]
  split
  ·exact I.le i (by omega)
  ·split
   ·exact hj
   ·exact I.le (i - 1) (by omega)
 ·rw [qr, dg hs (by omega), hm]; exact Ie
 ·rw [hm]; exact I.pw
 ·intro i hi
  rw [qr, dg hs (by omega)] at hi
  rw [qr, hpl, gp, lU hs (by omega)]
  have lift : ∀ h' c, JQ t h' c → JQ (t.put j).1 h' c := fun h' c ⟨n', k1, k2, k3⟩ =>
   ⟨n', by rw [hm]; exact k1, by rw [iU hm, ir hm]; exact k2, fun m q => by rw [iU hm, ir hm]; exact mono _ (k3 m q)⟩
  split
  ·exact lift _ _ (I.Ab i (by omega))
  ·split
   ·exact lift _ _ ⟨n, hn, WY, hw⟩
   ·exact lift _ _ (I.Ab (i - 1) (by omega))
 ·rw [qr]; omega
end d9
namespace d9
open PySem
theorem MY {mask k : Nat} (hk : mask + 1 = 2 ^ k) (h : Int) {j : Nat} (hj : j ≤ mask) : ∃ q, q ≤ 13 + mask ∧ (lp mask q (aaS h % (mask + 1), aaS h)).1 = j := by
 have hb : aaS h < 2 ^ 64 := by
  unfold aaS
  have h1 := adQ h (show (0 : Int) < 2 ^ 64 by decide)
  have h2 := acw h (show (2 ^ 64 : Int) ≠ 0 by decide)
  omega
 let x : Nat × Nat := (aaS h % (mask + 1), aaS h)
 obtain ⟨r, hr, hx⟩ := cover k (lp mask 13 x).1 j (by omega)
 rw [← hk] at hx hr
 have h1 := z8 (mask := mask) (x := x) hb r
 have h2 : (lp mask (13 + r) x).1 < mask + 1 := by
  rw [show 13 + r = (12 + r) + 1 by omega, lp, aa9]
  exact adh _ (aeC _)
 rw [ael h2, hx] at h1
 exact ⟨13 + r, by omega, h1⟩
theorem pY (t : aaB) : ∀ (n more j i pb : Nat) (d : Option Nat), n ≤ more → cg t n { j := j, more := more, i := i, perturb := pb, dummy := d } = { j := j + n, more := more - n, i := i, perturb := pb, dummy := d }
 | 0, more, j, i, pb, d, _ => rfl
 | n + 1, 0, j, i, pb, d, h => absurd h (by omega)
 | n + 1, more + 1, j, i, pb, d, h => by
  rw [cg]
  have e : t.advance { j := j, more := more + 1, i := i, perturb := pb, dummy := d } = { j := j + 1, more := more, i := i, perturb := pb, dummy := d } := by simp [ach]
  rw [e, pY t n more (j + 1) i pb d (by omega)]
  simp only [SetTable.Probe.mk.injEq, and_true]
  omega
def Fr (owner : Array (Option Nat)) (c : Nat) : Prop := (owner.getD c (some 0)).isNone = true
theorem xS (mask : Nat) (x : Nat × Nat) : ∀ q, lp mask (q + 1) x = lp mask q (aa9 mask x.1 x.2)
 | 0 => rfl
 | q + 1 => by rw [lp, xS mask x q, lp]
theorem uy (t : aaB) (owner : Array (Option Nat)) : ∀ (fuel i pb : Nat), (∃ q, q < fuel ∧ Fr owner (lp t.mask q (i, pb)).1) →
  ∃ j n, ada t.mask owner fuel i pb = some j ∧ n + 1 ≤ 10 * fuel ∧ (cg t n (start t.mask i pb none)).j = j ∧ Fr owner j ∧ ∀ m, m < n → ¬ Fr owner (cg t m (start t.mask i pb none)).j
 | 0, i, pb, ⟨q, hq, _⟩ => absurd hq (by omega)
 | fuel + 1, i, pb, ⟨q, hq, hf⟩ => by
  have hr : aay t.mask i - i ≤ 9 ∧ i ≤ aay t.mask i := by
   unfold aay
   split <;> omega
  unfold ada
  cases e : (aaz (aay t.mask i + 1 - i)).find? fun k => (owner.getD (i + k) (some 0)).isNone with
  | some k =>
   obtain ⟨h1, as, bs, h2, h3⟩ := List.find?_eq_some_iff_append.mp e
   have hk : k < aay t.mask i + 1 - i := aaT.mp (by rw [h2]; simp)
   have W0 : ∀ m, m < k → (owner.getD (i + m) (some 0)).isNone = false := fun m hm => by
    have hmem : m ∈ as := by
     have LH : m ∈ aaz (aay t.mask i + 1 - i) := aaT.mpr (by omega)
     rw [h2] at LH
     rcases ZY.mp LH with z | z
     ·exact z
     ·exfalso
      have hs : (aaz (aay t.mask i + 1 - i)).Pairwise (· < ·) := adb
      rw [h2] at hs
      have P0 := (aeO.mp hs).2.1
      rcases aai.mp z with rfl | z
      ·omega
      ·have := (List.pairwise_cons.mp P0).1 m z
       omega
    simpa using h3 m hmem
   refine ⟨i + k, k, rfl, by omega, ?_, h1, fun m hm => ?_⟩
   ·rw [start, pY t k _ _ _ _ _ (by omega)]
   ·rw [start, pY t m _ _ _ _ _ (by omega)]
    show ¬ (owner.getD (i + m) (some 0)).isNone = true
    rw [W0 m hm]
    simp
  | none =>
   have ip : ∀ k, k < aay t.mask i + 1 - i → (owner.getD (i + k) (some 0)).isNone = false := fun k hk => by
    have := ac5.mp e k (aaT.mpr hk)
    exact Bool.eq_false_iff.mpr this
   obtain ⟨q, rfl⟩ : ∃ q', q = q' + 1 := by
    cases q with
    | zero =>
     have z := ip 0 (by omega)
     have hf : (owner.getD i (some 0)).isNone = true := hf
     rw [afx, hf] at z
     cases z
    | succ q => exact ⟨q, rfl⟩
   rw [xS] at hf
   obtain ⟨j, n, g1, g2, g3, g4, g5⟩ := uy t owner fuel (aa9 t.mask i pb).1 (aa9 t.mask i pb).2 ⟨q, by omega, hf⟩
   refine ⟨j, (aay t.mask i - i + 1) + n, g1, by omega, ?_, g4, fun m hm => ?_⟩
   ·rw [iT, start, nz]; exact g3
   ·by_cases LH : m ≤ aay t.mask i - i
    ·rw [start, pY t m _ _ _ _ _ LH]
     show ¬ (owner.getD (i + m) (some 0)).isNone = true
     rw [ip m (by omega)]
     simp
    ·have em : m = (aay t.mask i - i + 1) + (m - (aay t.mask i - i + 1)) := by omega
     rw [em, iT, start, nz]
     exact g5 _ (by omega)
end d9
namespace d9
open PySem
theorem uz : ∀ (n : Nat) (l : List Nat), l.Nodup → (∀ x ∈ l, x < n) → l.length ≤ n
 | 0, l, _, h => by
  cases l with
  | nil => simp
  | cons a r => exact absurd (h a (by simp)) (by omega)
 | n + 1, l, hn, h => by
  have h1 := uz n (l.erase n) (hn.erase n) fun x hx => by
   have a := h x (List.mem_of_mem_erase hx)
   have b : x ≠ n := fun e => by
    subst e
    exact (hn.not_mem_erase) hx
   omega
  have h2 : l.length ≤ (l.erase n).length + 1 := by
   by_cases hm : n ∈ l
   ·rw [ad0 hm]; omega
   ·rw [List.erase_of_not_mem hm]; omega
  omega
structure Own (t : aaB) (owner : Array (Option Nat)) (hs : List Int) (pos : Nat → Nat) : Prop where
 sz : owner.size = t.mask + 1
 at_ : ∀ c, c ≤ t.mask → ∀ i, owner.getD c none = some i ↔ (i < hs.length ∧ pos i = c)
 le : ∀ i, i < hs.length → pos i ≤ t.mask
 Ab : ∀ i (hi : i < hs.length), ∃ n, n < 10 * (t.mask + 15) ∧ (cg t n (t.probeStart hs[i])).j = pos i ∧ ∀ m, m < n → ¬ Fr owner (cg t m (t.probeStart hs[i])).j
theorem Own.qJ {t : aaB} {owner : Array (Option Nat)} {hs : List Int} {pos : Nat → Nat} (O : Own t owner hs pos) (c : Nat) : Fr owner c ↔ (c ≤ t.mask ∧ ∀ i, i < hs.length → pos i ≠ c) := by
 unfold Fr
 constructor
 ·intro h
  have hc : c ≤ t.mask := by
   refine abc fun hc => ?_
   have hs' := O.sz
   have : owner.getD c (some 0) = some 0 := by simp [abp, show ¬ c < owner.size by omega]
   rw [this] at h
   cases h
  refine ⟨hc, fun i hi e => ?_⟩
  have z := (O.at_ c hc i).mpr ⟨hi, e⟩
  have fF : c < owner.size := by rw [O.sz]; omega
  have e2 : owner.getD c (some 0) = owner.getD c none := by simp [abp, fF]
  rw [e2, z] at h
  cases h
 ·rintro ⟨hc, h⟩
  have fF : c < owner.size := by rw [O.sz]; omega
  have e2 : owner.getD c (some 0) = owner.getD c none := by simp [abp, fF]
  rw [e2]
  cases e : owner.getD c none with
  | none => rfl
  | some i =>
   obtain ⟨h1, h2⟩ := (O.at_ c hc i).mp e
   exact absurd h2 (h i h1)
theorem Own.CA {t : aaB} {owner : Array (Option Nat)} {hs : List Int} {pos : Nat → Nat} (O : Own t owner hs pos) (hf : hs.length ≤ t.mask) : ∃ c, c ≤ t.mask ∧ Fr owner c := by
 refine abc fun ip => ?_
 have all : ∀ c, c ≤ t.mask → ∃ i, i < hs.length ∧ pos i = c := fun c hc => abc fun hn => ip ⟨c, hc, (O.qJ c).mpr ⟨hc, fun i hi e => hn ⟨i, hi, e⟩⟩⟩
 have RO : ∀ c, ∃ i, c ≤ t.mask → i < hs.length ∧ pos i = c := fun c => by
  by_cases hc : c ≤ t.mask
  ·obtain ⟨i, h⟩ := all c hc; exact ⟨i, fun _ => h⟩
  ·exact ⟨0, fun z => absurd z hc⟩
 obtain ⟨g, hg⟩ := aek.mp RO
 have h1 := uz hs.length ((aaz (t.mask + 1)).map g) (by
  unfold List.Nodup
  rw [abT]
  refine acX (R := fun a b => a < b) (fun {a b} ha hb fF e => ?_) adb
  have ha' := (hg a (by have := aaT.mp ha; omega)).2
  have hb' := (hg b (by have := aaT.mp hb; omega)).2
  rw [e] at ha'
  omega) fun x hx => by
   obtain ⟨c, hc, rfl⟩ := Z1.mp hx
   exact (hg c (by have := aaT.mp hc; omega)).1
 simp at h1
 omega
def P4 (mask : Nat) (acc : Option (Array (Option Nat) × Nat)) (h : Int) : Option (Array (Option Nat) × Nat) := do
 let (owner, k) ← acc
 let j ← ada mask owner (abC mask) (aaS h % (mask + 1)) (aaS h)
 pure (owner.setIfInBounds j (some k), k + 1)
theorem xT (mask : Nat) (hashes : Array Int) : adi mask hashes = (hashes.toList.foldl (P4 mask) (some (Array.replicate (mask + 1) none, 0))).map (·.1) := by
 unfold adi
 rw [← Array.foldl_toList]
 rfl
theorem Own.step {t : aaB} {k : Nat} (hk : t.mask + 1 = 2 ^ k) {owner : Array (Option Nat)} {hs : List Int} {pos : Nat → Nat} (O : Own t owner hs pos) (hf : hs.length ≤ t.mask) (h : Int) :
  ∃ qK pos', P4 t.mask (some (owner, hs.length)) h = some (qK, hs.length + 1) ∧ Own t qK (hs ++ [h]) pos' := by
 obtain ⟨c, hc, zj⟩ := O.CA hf
 obtain ⟨q, hq, e⟩ := MY hk h hc
 obtain ⟨j, n, g1, g2, g3, g4, g5⟩ := uy t owner (abC t.mask) (aaS h % (t.mask + 1)) (aaS h) ⟨q, by unfold abC; omega, by rw [e]; exact zj⟩
 have hj := (O.qJ j).mp g4
 have fF : j < owner.size := by rw [O.sz]; omega
 have gs : ∀ c d, (owner.setIfInBounds j (some hs.length)).getD c d = if c = j then some hs.length else owner.getD c d := fun c d => by
  rw [aav, aav, Array.getElem?_setIfInBounds]
  by_cases ec : j = c
  ·subst ec; simp [fF]
  ·rw [if_neg ec, if_neg (acr ec)]
 refine ⟨owner.setIfInBounds j (some hs.length), fun i => if i = hs.length then j else pos i, ?_, ?_⟩
 ·unfold P4
  simp only [Option.bind_eq_bind, Option.bind_some, g1]
  rfl
 ·have gh : ∀ c, Fr (owner.setIfInBounds j (some hs.length)) c → Fr owner c := fun c hc => by
   unfold Fr at hc ⊢
   rw [gs] at hc
   by_cases ec : c = j
   ·rw [if_pos ec] at hc; cases hc
   ·rw [if_neg ec] at hc; exact hc
  refine ⟨by rw [Array.size_setIfInBounds]; exact O.sz, fun c hc i => ?_, fun i hi => ?_, fun i hi => ?_⟩
  ·rw [gs, Z6, abF]
   by_cases ec : c = j
   ·subst ec
    rw [if_pos rfl]
    constructor
    ·intro e; cases e; exact ⟨by omega, by rw [if_pos rfl]⟩
    ·rintro ⟨h1, h2⟩
     by_cases ei : i = hs.length
     ·rw [ei]
     ·rw [if_neg ei] at h2
      exact absurd h2 (hj.2 i (by omega))
   ·rw [if_neg ec, O.at_ c hc i]
    constructor
    ·rintro ⟨h1, h2⟩; exact ⟨by omega, by rw [if_neg (by omega)]; exact h2⟩
    ·rintro ⟨h1, h2⟩
     by_cases ei : i = hs.length
     ·rw [if_pos ei] at h2; exact absurd h2.symm ec
     ·rw [if_neg ei] at h2; exact ⟨by omega, h2⟩
  ·rw [Z6, abF] at hi
   by_cases ei : i = hs.length
   ·show (if i = hs.length then j else pos i) ≤ t.mask
    rw [if_pos ei]; exact hj.1
   ·show (if i = hs.length then j else pos i) ≤ t.mask
    rw [if_neg ei]; exact O.le i (by omega)
  ·rw [Z6, abF] at hi
   by_cases ei : i = hs.length
   ·subst ei
    have e2 : (hs ++ [h])[hs.length] = h := by simp
    rw [e2]
    refine ⟨n, by unfold abC at g2; omega, by rw [if_pos rfl]; exact g3, fun m hm z => g5 m hm (gh _ z)⟩
   ·obtain ⟨n', k1, k2, k3⟩ := O.Ab i (by omega)
    have e2 : (hs ++ [h])[i] = hs[i]'(by omega) := acY (by omega)
    rw [e2]
    exact ⟨n', k1, by rw [if_neg ei]; exact k2, fun m hm z => k3 m hm (gh _ z)⟩
theorem xU {t : aaB} {k : Nat} (hk : t.mask + 1 = 2 ^ k) : ∀ (l : List Int) (owner : Array (Option Nat)) (pre : List Int) (pos : Nat → Nat), Own t owner pre pos → pre.length + l.length ≤ t.mask + 1 →
  ∃ qK pos', l.foldl (P4 t.mask) (some (owner, pre.length)) = some (qK, pre.length + l.length) ∧ Own t qK (pre ++ l) pos'
 | [], owner, pre, pos, O, _ => ⟨owner, pos, by simp, by simpa using O⟩
 | h :: l, owner, pre, pos, O, hf => by
  simp only [aal] at hf
  obtain ⟨o1, p1, e1, O1⟩ := O.step hk (by omega) h
  obtain ⟨o2, p2, e2, O2⟩ := xU hk l o1 (pre ++ [h]) p1 O1 (by rw [Z6, abF]; omega)
  refine ⟨o2, p2, ?_, by simpa using O2⟩
  rw [List.foldl_cons, e1]
  rw [Z6, abF] at e2
  rw [e2]
  simp only [aal]
  congr 2
  omega
theorem JS {t : aaB} {k : Nat} (hk : t.mask + 1 = 2 ^ k) (hs : Array Int) (hf : hs.size ≤ t.mask) : ∃ owner pos, adi t.mask hs = some owner ∧ Own t owner hs.toList pos := by
 have O0 : Own t (Array.replicate (t.mask + 1) none) [] (fun _ => 0) := ⟨by simp, fun c hc i => by simp [abp, hc], fun i hi => by simp at hi, fun i hi => by simp at hi⟩
 obtain ⟨o, p, e, O⟩ := xU hk hs.toList _ [] _ O0 (by simp; omega)
 refine ⟨o, p, ?_, by simpa using O⟩
 rw [xT, show (0 : Nat) = ([] : List Int).length from rfl, e]
 rfl
end d9
namespace d9
open PySem
theorem uA {mask i : Nat} (h : i ≤ mask) : i ≤ aay mask i ∧ aay mask i ≤ mask := by
 unfold aay
 split <;> omega
theorem Ac (t : aaB) (p : abP) (h : p.j + p.more ≤ t.mask) : (t.advance p).j + (t.advance p).more ≤ t.mask := by
 unfold ach
 split
 ·show p.j + 1 + (p.more - 1) ≤ t.mask
  omega
 ·have hl : (aa9 t.mask p.i p.perturb).1 ≤ t.mask := by
   unfold aa9
   exact ad1 (adh _ (aeC _))
  have hr := uA hl
  show (aa9 t.mask p.i p.perturb).1 + (aay t.mask (aa9 t.mask p.i p.perturb).1 - (aa9 t.mask p.i p.perturb).1) ≤ t.mask
  omega
theorem Ad (t : aaB) : ∀ (n : Nat) (p : abP), p.j + p.more ≤ t.mask → (cg t n p).j ≤ t.mask
 | 0, p, h => by show p.j ≤ t.mask; omega
 | n + 1, p, h => Ad t n _ (Ac t p h)
theorem xV (t : aaB) (h : Int) : (t.probeStart h).j + (t.probeStart h).more ≤ t.mask := by
 have hl : aaS h % (t.mask + 1) ≤ t.mask := ad1 (adh _ (aeC _))
 have hr := uA hl
 show aaS h % (t.mask + 1) + (aay t.mask (aaS h % (t.mask + 1)) - aaS h % (t.mask + 1)) ≤ t.mask
 omega
theorem G6 {mask k : Nat} (hk : mask + 1 = 2 ^ k) (finger moves : Nat) (led plain : Bool) (hs : Array Int) (hf : hs.size ≤ mask) :
  ∃ t order, SetTable.laid mask finger moves led plain hs = some (t, order) ∧ t.mask = mask ∧ t.led = led ∧ t.plain = plain ∧ order.toList.Perm (aaz hs.size) ∧ xi t (order.map fun i => hs.getD i 0) := by
 let t0 : aaB := { mask := mask, place := #[], dummies := #[], finger := finger, led := led, moves := moves, plain := plain }
 obtain ⟨owner, pos, e, O⟩ := JS (t := t0) hk hs hf
 have e : adi mask hs = some owner := e
 let live : List (Nat × Nat) := (aaz (mask + 1)).filterMap fun j => (owner.getD j none).map (j, ·)
 let t : aaB := { mask := mask, place := (live.map (·.1)).toArray, dummies := #[], finger := finger, led := led, moves := moves, plain := plain }
 have hlen : hs.toList.length = hs.size := by simp
 have mem : ∀ j i, (j, i) ∈ live ↔ (j ≤ mask ∧ i < hs.size ∧ pos i = j) := fun j i => by
  have z : (j, i) ∈ live ↔ ∃ a, a ∈ aaz (mask + 1) ∧ (owner.getD a none).map (a, ·) = some (j, i) := ac1
  rw [z]
  constructor
  ·rintro ⟨a, h1, h2⟩
   obtain ⟨b, h3, h4⟩ := aa1.mp h2
   cases h4
   have ha : j ≤ mask := by have := aaT.mp h1; omega
   have := (O.at_ j ha i).mp h3
   exact ⟨ha, by rw [← hlen]; exact this.1, this.2⟩
  ·rintro ⟨h1, h2, h3⟩
   exact ⟨j, aaT.mpr (by omega), by rw [(O.at_ j h1 i).mpr ⟨by rw [hlen]; exact h2, h3⟩]; rfl⟩
 have rise : live.Pairwise fun a b => a.1 < b.1 := by
  refine List.Pairwise.filterMap (R := fun a b => a < b) _ (fun a a' W2 b hb b' hb' => ?_) adb
  obtain ⟨_, _, rfl⟩ := aa1.mp hb
  obtain ⟨_, _, rfl⟩ := aa1.mp hb'
  exact W2
 have W3 : (live.map (·.2)).Nodup := by
  unfold List.Nodup
  rw [abT]
  refine acX (fun {a b} ha hb fF e2 => ?_) rise
  have h1 := ((mem a.1 a.2).mp ha).2.2
  have h2 := ((mem b.1 b.2).mp hb).2.2
  rw [e2] at h1
  omega
 have perm : (live.map (·.2)).Perm (aaz hs.size) := by
  refine (List.perm_ext_iff_of_nodup W3 List.nodup_range).mpr fun i => ?_
  rw [aaT]
  constructor
  ·intro hi
   obtain ⟨⟨j, i'⟩, h1, rfl⟩ := Z1.mp hi
   exact ((mem j i').mp h1).2.1
  ·intro hi
   exact Z1.mpr ⟨(pos i, i), (mem _ _).mpr ⟨O.le i (by rw [hlen]; exact hi), hi, rfl⟩, rfl⟩
 have ri : Ri t.place := fun a b hab hb => by
  show (live.map (·.1)).toArray.getD a 0 < (live.map (·.1)).toArray.getD b 0
  have hb' : b < live.length := by
   have : (live.map (·.1)).toArray.size = live.length := by simp
   show b < live.length
   rw [← this]; exact hb
  have z := ab2.mp rise a b (by omega) hb' hab
  simpa [abp, show a < live.length by omega, hb'] using z
 have tb : Tb t := ⟨ri, rfl⟩
 have RP : t.place.size = live.length := by show (live.map (·.1)).toArray.size = _; simp
 have JT : ∀ i (hi : i < live.length), t.place.getD i 0 = (live[i]).1 := fun i hi => by
  show (live.map (·.1)).toArray.getD i 0 = _
  simp [abp, hi]
 have full : ∀ c, ¬ Fr owner c → c ≤ mask → t.slot c ≠ .empty := fun c hc hle z => by
  have hex : ∃ i, i < hs.size ∧ pos i = c := abc fun ip => hc ((O.qJ c).mpr ⟨hle, fun i hi e2 => ip ⟨i, by rw [← hlen]; exact hi, e2⟩⟩)
  obtain ⟨i, h1, h2⟩ := hex
  obtain ⟨a, ha, ea⟩ := aa2.mp ((mem c i).mpr ⟨hle, h1, h2⟩)
  have y := il tb (i := a) (by rw [RP]; exact ha)
  rw [JT a ha, ea, z] at y
  cases y
 have RQ : live.length = hs.size := by
  have := perm.length_eq
  simpa using this
 have MZ : ∀ h m, (cg t m (t.probeStart h)).j ≤ mask := fun h m => Ad t m _ (xV t h)
 refine ⟨t, (live.map (·.2)).toArray, ?_, rfl, rfl, rfl, by simpa using perm, tb, ?_, ?_, ?_, ⟨k, hk⟩, ?_⟩
 ·unfold SetTable.laid
  rw [e]
  rfl
 ·rw [RP]; simp
 ·intro i hi
  rw [RP] at hi
  rw [JT i hi]
  exact ((mem _ _).mp (ZT hi)).1
 ·rw [aa7, aag, Lm9, RQ]; exact hf
 ·intro i hi
  have hi' : i < live.length := by simpa using hi
  have e1 : ((live.map (·.2)).toArray.map fun i => hs.getD i 0).getD i 0 = hs.getD (live[i]).2 0 := by simp [abp, hi']
  rw [e1, JT i hi']
  have mm : (live[i]).1 ≤ mask ∧ (live[i]).2 < hs.size ∧ pos (live[i]).2 = (live[i]).1 := (mem _ _).mp (ZT hi')
  obtain ⟨m1, m2, m3⟩ := mm
  obtain ⟨n, k1, k2, k3⟩ := O.Ab (live[i]).2 (by rw [hlen]; exact m2)
  have e2 : hs.toList[(live[i]).2]'(by rw [hlen]; exact m2) = hs.getD (live[i]).2 0 := by simp [abp, m2]
  rw [e2] at k2 k3
  refine ⟨n, k1, ?_, fun m hm => ?_⟩
  ·rw [ir (t := t0) (t' := t) rfl, iU (t := t0) (t' := t) rfl, k2, m3]
  ·refine full _ ?_ (MZ _ _)
   rw [ir (t := t0) (t' := t) rfl, iU (t := t0) (t' := t) rfl]
   exact k3 m hm
end d9
namespace d9
open PySem
theorem uB (t : aaB) : ∀ (n : Nat) (p : abP), (cg t n p).dummy = p.dummy
 | 0, p => rfl
 | n + 1, p => by
  rw [cg, uB t n]
  unfold ach
  split <;> rfl
theorem Es (t : aaB) (n : Nat) (p : abP) : t.advance (cg t n p) = cg t (n + 1) p := by
 rw [iT t n 1 p]
 rfl
theorem Ig {t : aaB} {H : Nat → Int} {h : Int} {m0 c : Nat} (hb : ∀ c', c' < c → ∃ i, t.slot (cg t (m0 + c') (t.probeStart h)).j = .live i ∧ (H i == h) = false) (hc : c < 10 * abC t.mask) :
  ∃ f, t.probe H h (cg t m0 (t.probeStart h)) = ab8 t H h (f + 1) (cg t (m0 + c) (t.probeStart h)) := by
 refine ⟨10 * abC t.mask - c - 1, ?_⟩
 unfold SetTable.probe
 rw [Er t H h c _ _ (fun m hm => by rw [← iT]; exact hb m hm) (by omega), ← iT]
 congr 1
 omega
theorem Et {t : aaB} {H : Nat → Int} {h : Int} {m0 c : Nat} (hs : t.slot (cg t (m0 + c) (t.probeStart h)).j = .empty) (hc : c < 10 * abC t.mask)
  (hb : ∀ c', c' < c → ∃ i, t.slot (cg t (m0 + c') (t.probeStart h)).j = .live i ∧ (H i == h) = false) : t.probe H h (cg t m0 (t.probeStart h)) = some (.empty (cg t (m0 + c) (t.probeStart h)).j none) := by
 obtain ⟨f, e⟩ := Ig hb hc
 rw [e, ab8, hs]
 simp only [uB]
 rfl
theorem G7 {t : aaB} {H : Nat → Int} {h : Int} {m0 c i : Nat} (hs : t.slot (cg t (m0 + c) (t.probeStart h)).j = .live i) (hc : c < 10 * abC t.mask)
  (hb : ∀ c', c' < c → ∃ i, t.slot (cg t (m0 + c') (t.probeStart h)).j = .live i ∧ (H i == h) = false) (hi : (H i == h) = true) :
  t.probe H h (cg t m0 (t.probeStart h)) = some (.candidate (cg t (m0 + c) (t.probeStart h)).j i (cg t (m0 + c + 1) (t.probeStart h))) := by
 obtain ⟨f, e⟩ := Ig hb hc
 rw [e, ab8, hs]
 simp only [hi, if_true, Es]
section
variable {prog : aao} {w : aaO} {A : aaA} {E : ZS → ZU → Prop} {s : ZU} {a : aac} {o : Obj} {es : Array (Int × ZS)} {ep : Nat} {t : aaB} {x : ZS} {h : Int} {eqv : Nat → Bool} {Q : SetFound → ZU → Prop}
theorem CB (ho : s.heap.get? a = some o) (hd : o.data = .set es ep t) (I : xi t (es.map (·.1))) (G8 : (t.mask % 2 == 0) = false)
  (hq : ∀ i (hi : i < es.size), (es[i]).1 = h → abw A s (es[i]).2 x (eqv i)) (M0 : ∀ i (hi : i < es.size), ∃ b, (es[i]).2 = .ref b)
  (Eu : t.led = false → ∀ Q' : Bool → ZU → Prop, Q' false s → aar (model prog w) A (searchCouldBeSeen x ((es.filter (·.1 == h)).toList.map (·.2))) Q' E s)
  {n : Nat} (hn : n ≤ 10 * (t.mask + 14))
  (CC : ∀ m, m < n → ∃ i, i < t.place.size ∧ t.slot (cg t m (t.probeStart h)).j = .live i ∧ ¬ (∃ hi : i < es.size, (es[i]).1 = h ∧ eqv i = true))
  (hend : (t.slot (cg t n (t.probeStart h)).j = .empty ∧ Q (.free (cg t n (t.probeStart h)).j false) s) ∨ ((∃ i, t.slot (cg t n (t.probeStart h)).j = .live i ∧ ∃ hi : i < es.size, (es[i]).1 = h ∧ eqv i = true) ∧ Q (.there none) s)) :
  ∀ (d m0 fuel : Nat) (Ew : Option abP), m0 + d = n → d < fuel → Ew.getD (t.probeStart h) = cg t m0 (t.probeStart h) → aar (model prog w) A (setSearchFrom a x h true fuel Ew) Q E s := by
 intro d
 induction d using Nat.strongRecOn with
 | ind d ih =>
  intro m0 fuel Ew hm Zi hst
  obtain ⟨fuel, rfl⟩ : ∃ g, fuel = g + 1 := ⟨fuel - 1, by omega⟩
  have hfit : t.fits es.size = true := by
   have z := I.sz
   have f := I.fill
   rw [aa7] at z f
   simp only [SetTable.fits, afg, I.tb.nd, aaE, beq_iff_eq, decide_eq_true_eq]
   exact ⟨z, by simp; omega⟩
  unfold setSearchFrom
  refine ZR (aaN ho hd hfit ?_)
  dsimp only
  have hg : t.gaveWay = false := G8
  rw [hg]
  simp only [Z7, if_false]
  rw [hst]
  have hsz : t.place.size = es.size := by have z := I.sz; rw [aa7] at z; exact z
  have gH : ∀ i (hi : i < es.size), ((es[i]?.map (·.1)).getD 0) = (es[i]).1 := fun i hi => by simp [hi]
  obtain ⟨c, hcd, hP, RS⟩ := first (fun c => m0 + c = n ∨ ∃ i, t.slot (cg t (m0 + c) (t.probeStart h)).j = .live i ∧ ∃ hi : i < es.size, (es[i]).1 = h) d (.inl hm)
  have Jt : c < 10 * abC t.mask := by unfold abC; omega
  have hb : ∀ c', c' < c → ∃ i, t.slot (cg t (m0 + c') (t.probeStart h)).j = .live i ∧ (((es[i]?.map (·.1)).getD 0) == h) = false := fun c' hc' => by
   have ip := RS c' hc'
   obtain ⟨i, h1, h2, _⟩ := CC (m0 + c') (by omega)
   refine ⟨i, h2, ?_⟩
   rw [gH i (by omega)]
   exact beq_eq_false_iff_ne.mpr fun e => ip (.inr ⟨i, h2, by omega, e⟩)
  have M3 : (m0 + c = n ∧ t.slot (cg t (m0 + c) (t.probeStart h)).j = .empty) ∨ ∃ i, ∃ hi : i < es.size, t.slot (cg t (m0 + c) (t.probeStart h)).j = .live i ∧ (es[i]).1 = h := by
   rcases hP with e | ⟨i, h1, hi, h2⟩
   ·rcases hend with ⟨z, _⟩ | ⟨⟨i, z, hi, h1, _⟩, _⟩
    ·exact .inl ⟨e, by rw [e]; exact z⟩
    ·exact .inr ⟨i, hi, by rw [e]; exact z, h1⟩
   ·exact .inr ⟨i, hi, h1, h2⟩
  rcases M3 with ⟨e, hs⟩ | ⟨i, hi, hs, hh⟩
  ·rw [Et hs Jt]
   rotate_left
   ·exact hb
   dsimp only
   rcases hend with ⟨_, q⟩ | ⟨⟨i, z, _⟩, _⟩
   ·refine ZW ?_
    rw [e]; exact q
   ·rw [← e, hs] at z; cases z
  ·rw [G7 (i := i) hs Jt]
   case hb => exact hb
   case hi =>
    show (((es[i]?.map (·.1)).getD 0) == h) = true
    rw [gH i hi, hh]
    simp
   dsimp only
   obtain ⟨b, G9⟩ := M0 i hi
   have ge : es[i]? = some (es[i]) := by simp [hi]
   have tail : aar (model prog w) A (do
     let some (_, y) := es[i]? | unsupported "internal:set-entry"
     let equal ← holding [y] (eqBool y x)
     let (mQ, _, t') ← setState a
     if true && equal then return .there none
     let some same := t'.sameMemory t.moves t.mask | unsupported "set.changed-during-lookup:is-the-new-block-at-the-old-address"
     let M4 ← match (if same then t'.slot (cg t (m0 + c) (t.probeStart h)).j else .empty) with
      | .live i' => match mQ[i']? with
       | some (_, y') => do pure (if ← isSame y' y then some i' else none)
       | none => pure none
      | _ => pure none
     match M4 with
     | none => rule "set.search.anew"; setSearchFrom a x h true fuel none
     | some i' => if equal then return .there (some i') else setSearchFrom a x h true fuel (some (cg t (m0 + c + 1) (t.probeStart h)))) Q E s := by
    rw [ge]
    dsimp only
    refine ZR (wpAny_holding (hq i hi hh prog w _ _ ?_))
    refine ZR (aaN ho hd hfit ?_)
    dsimp only
    cases ev : eqv i with
    | true =>
     simp only [Bool.and_self, if_true]
     refine ZW ?_
     rcases hend with ⟨z, _⟩ | ⟨_, q⟩
     ·exfalso
      by_cases en : m0 + c = n
      ·rw [← en, hs] at z; cases z
      ·obtain ⟨i', _, h2, h3⟩ := CC (m0 + c) (by omega)
       rw [hs] at h2
       cases h2
       exact h3 ⟨hi, hh, ev⟩
     ·exact q
    | false =>
     simp only [aeS, Z7, if_false]
     have hmem : t.sameMemory t.moves t.mask = some true := by simp [SetTable.sameMemory]
     rw [hmem]
     simp only [if_true]
     rw [hs]
     simp only [ge, G9]
     refine ZR (wpAny_isSame_ref_self (ZR (ZW ?_)))
     simp only [if_true, Z7, if_false]
     have fF : m0 + c < n := by
      refine aco (by omega) fun en => ?_
      rcases hend with ⟨z, _⟩ | ⟨⟨i', z, hi', h1, h2⟩, _⟩
      ·rw [← en, hs] at z; cases z
      ·rw [← en, hs] at z
       cases z
       rw [ev] at h2
       cases h2
     exact ih (n - (m0 + c + 1)) (by omega) (m0 + c + 1) fuel _ (by omega) (by omega) rfl
   cases hl : t.led with
   | true =>
    simp only [acf, Z7, if_false]
    exact tail
   | false =>
    simp only [adV, if_true]
    refine ZR (Eu hl _ ?_)
    simp only [Z7, if_false]
    exact tail
end
end d9
namespace d9
open PySem
theorem xW (n : Nat) : ∀ (fuel k : Nat), n < 2 ^ (k + fuel) → 2 ^ k ≤ 8 + 2 * n → ∃ k', aeD n fuel (2 ^ k) = 2 ^ k' ∧ n < 2 ^ k' ∧ 2 ^ k' ≤ 8 + 2 * n
 | 0, k, h1, h2 => ⟨k, rfl, h1, h2⟩
 | fuel + 1, k, h1, h2 => by
  unfold aeD
  by_cases h : 2 ^ k ≤ n
  ·rw [if_pos h, ← acy]
   exact xW n fuel (k + 1) (by rw [show k + 1 + fuel = k + (fuel + 1) by omega]; exact h1) (by rw [acy]; omega)
  ·rw [if_neg h]
   exact ⟨k, rfl, by omega, h2⟩
theorem above {n : Nat} (h : n < 2 ^ 60) : ∃ k, adS n = 2 ^ k ∧ n < 2 ^ k ∧ 2 ^ k ≤ 8 + 2 * n :=
 xW n 64 3 (aaf h (aeN (by decide) (by decide))) (by omega)
theorem xi.plain {t : aaB} {hs : Array Int} (I : xi t hs) (b : Bool) : xi { t with plain := b } hs :=
 ⟨⟨I.tb.ri, I.tb.nd⟩, I.sz, I.le, I.fill, I.pw, fun i hi => by
  obtain ⟨n, h1, h2, h3⟩ := I.Ab i hi
  have e1 : ∀ m p, cg { t with plain := b } m p = cg t m p := fun m p => ir (t := t) (t' := { t with plain := b }) rfl m p
  exact ⟨n, h1, by rw [e1]; exact h2, fun m hm => by rw [e1]; exact h3 m hm⟩⟩
theorem vz {α β : Type} (f : α → β) (xs : Array α) {p : Nat} (hp : p ≤ xs.size) (x : α) : (aaL xs p x).map f = aaL (xs.map f) p (f x) := by
 apply Array.ext_getElem?
 intro i
 rw [Array.getElem?_map, iV xs hp, iV (xs.map f) (by rw [aa7]; exact hp)]
 split
 ·simp
 ·split <;> simp
theorem sQ {α : Type} (xs : Array α) {p : Nat} (hp : p ≤ xs.size) (x : α) : (aaL xs p x).toList.Perm (x :: xs.toList) := by
 unfold aaL
 rw [Array.toList_append, Array.toList_push, aeP, aeP]
 have e : xs.toList = xs.toList.take p ++ xs.toList.drop p := (abq p _).symm
 have e1 : xs.toList.extract 0 p = xs.toList.take p := by simp [adW]
 have e2 : xs.toList.extract p xs.size = xs.toList.drop p := by
  rw [adW]
  rw [aaV]
  simp
 rw [e1, e2]
 conv => rhs; rw [e]
 rw [abS]
 exact aem
def SI (l : Bool) (h : Heap) (a : aac) (es : Array (Int × ZS)) : Prop :=
 ∃ o ep t, h.get? a = some o ∧ o.ExactSet ∧ o.data = .set es ep t ∧ xi t (es.map (·.1)) ∧ es.size * 5 < t.mask * 3 ∧ t.mask ≤ 8 * es.size + 20 ∧ (t.mask % 2 == 0) = false ∧ (∀ i (hi : i < es.size), ∃ b, (es[i]).2 = .ref b) ∧ t.led = l ∧ (1 ≤ es.size → t.plain = false)
theorem xi.fits {t : aaB} {es : Array (Int × ZS)} (I : xi t (es.map (·.1))) : t.fits es.size = true := by
 have z := I.sz
 have f := I.fill
 rw [aa7] at z f
 simp only [SetTable.fits, afg, I.tb.nd, aaE, beq_iff_eq, decide_eq_true_eq]
 exact ⟨z, by simp; omega⟩
theorem JU {m k : Nat} (h : m + 1 = 2 ^ k) (hm : 1 ≤ m) : (m % 2 == 0) = false := by
 cases k with
 | zero => simp at h; omega
 | succ k =>
  rw [acy] at h
  have : m % 2 = 1 := by omega
  rw [this]; rfl
theorem Bw {h : Heap} {a : aac} {o : Obj} {es : Array (Int × ZS)} {ep : Nat} {t : aaB} (ho : h.get? a = some o) (hd : o.data = .set es ep t) (mQ : Array (Int × ZS)) (t' : aaB) :
  (h.update a (afs mQ t')).get? a = some { o with data := .set mQ (ep + 1) t' } := by
 have := abZ (afs mQ t') ho (by rw [putSet_of mQ t' hd]; rfl)
 rw [putSet_of mQ t' hd] at this; exact this
theorem jH {α : Type} : ∀ (l : List α), (aaz l.length).filterMap (fun i => l[i]?) = l
 | [] => rfl
 | a :: r => by
  rw [aal, aep, abU]
  simp only [List.getElem?_cons_zero, List.filterMap_map]
  have e : ((fun i => (a :: r)[i]?) ∘ Nat.succ) = fun i => r[i]? := by funext i; simp
  rw [e, jH r]
theorem qL (es : Array (Int × ZS)) : ∀ (l : List Nat), (∀ i ∈ l, i < es.size) → (l.filterMap (fun i => es[i]?)).map (·.1) = l.map fun i => (es.map (·.1)).getD i 0
 | [], _ => rfl
 | i :: l, h => by
  have hi := h i (by simp)
  have e : es[i]? = some es[i] := by simp [hi]
  rw [abU, e]
  simp only [aap]
  rw [qL es l fun j hj => h j (by simp [hj])]
  congr 1
  simp [abp, hi]
section
variable {prog : aao} {w : aaO} {A : aaA} {E : ZS → ZU → Prop} {s : ZU} {a : aac} {es : Array (Int × ZS)} {x : ZS} {h : Int} {eqv : Nat → Bool} {l : Bool}
theorem Ex {o : Obj} {ep : Nat} {t : aaB} {Q : Unit → ZU → Prop} (ho : s.heap.get? a = some o) (hx : o.ExactSet) (hd : o.data = .set es ep t) (I : xi t (es.map (·.1))) (h1 : 1 ≤ es.size) (hs : es.size < 50000) (hr : ∀ i (hi : i < es.size), ∃ b, (es[i]).2 = .ref b) (hL : t.led = l) (hP : t.plain = false)
  (hQ : ∀ h' mQ, acb a s.heap h' → SI l h' a mQ → mQ.toList.Perm es.toList → Q () { s with heap := h' }) : aar (model prog w) A (setRelay a (abQ es.size)) Q E s := by
 have hg : abQ es.size ≤ 4 * 100000 ∧ abQ es.size = 4 * es.size := by
  unfold abQ
  rw [if_neg (by omega)]
  omega
 obtain ⟨k, e1, e2, e3⟩ := above (n := abQ es.size) (Nat.lt_of_le_of_lt hg.1 (by decide))
 have hm : adS (abQ es.size) - 1 + 1 = 2 ^ k := by rw [e1]; omega
 obtain ⟨t', order, f1, f2, f3, f4, f5, f6⟩ := G6 hm t.finger (t.movedTo (adS (abQ es.size) - 1)) t.led t.plain (es.map (·.1)) (by rw [aa7, e1]; omega)
 rw [aa7] at f5
 unfold setRelay
 refine ZR (aaN ho hd I.fits ?_)
 dsimp only
 rw [if_neg (by rw [e1, aak]; omega)]
 have RT : t.relaid (es.map (·.1)) (abQ es.size) = some (t', order) := f1
 rw [RT]
 have RU : (order.filterMap (es[·]?)).toList.Perm es.toList := by
  rw [aet]
  have z := f5.filterMap (fun i => es[i]?)
  refine z.trans (afC ?_)
  have y := jH es.toList
  simpa using y
 have hsz : (order.filterMap (es[·]?)).size = es.size := by
  rw [← aaZ, RU.length_eq, aaZ]
 have RV : (order.filterMap (es[·]?)).map (·.1) = order.map fun i => (es.map (·.1)).getD i 0 := by
  apply Array.toList_inj.mp
  rw [aej, aet, aej]
  exact qL es order.toList fun i hi => aaT.mp (f5.mem_iff.mp hi)
 show aar (model prog w) A ((do
  let mQ := order.filterMap (es[·]?)
  if mQ.size != es.size then unsupported "internal:set-table-lost-an-element"
  pure (mQ, t')) >>= fun (p : Array (Int × ZS) × aaB) => storeSet a p.1 p.2) Q E s
 refine ZR ?_
 dsimp only
 rw [hsz]
 simp only [bne_self_eq_false, Z7, if_false]
 refine ZW (wpAny_storeSet_of ho hd ?_ (by rw [hsz, aak]; omega))
 have I' : xi t' ((order.filterMap (es[·]?)).map (·.1)) := by rw [RV]; exact f6
 refine hQ _ (order.filterMap (es[·]?)) (abm _ _ _) ⟨_, _, t', Bw ho hd _ _, hx, rfl, I', ?_, ?_, ?_, fun i hi => ?_, f3.trans hL, fun _ => f4.trans hP⟩ RU
 ·rw [hsz, f2, e1]; omega
 ·rw [hsz, f2, e1]; omega
 ·rw [f2]; exact JU hm (by rw [e1]; omega)
 ·have hm : (order.filterMap (es[·]?))[i] ∈ es.toList := RU.mem_iff.mp (by rw [acG]; exact Array.getElem_mem hi)
  obtain ⟨j, hj, e⟩ := aa2.mp hm
  have hj' : j < es.size := by simpa using hj
  obtain ⟨b, hb⟩ := hr j hj'
  refine ⟨b, ?_⟩
  rw [← e]
  simpa using hb
theorem JV {Q : Bool → ZU → Prop} (hS : SI l s.heap a es) (hx : ∃ b, x = .ref b) (hs : es.size < 1000) (hq : ∀ i (hi : i < es.size), (es[i]).1 = h → abw A s (es[i]).2 x (eqv i))
  (Eu : ∀ Q' : Bool → ZU → Prop, Q' false s → aar (model prog w) A (searchCouldBeSeen x ((es.filter (·.1 == h)).toList.map (·.2))) Q' E s)
  (W4 : ∀ Q' : Bool → ZU → Prop, Q' false s → aar (model prog w) A (hashByValue 8 x) Q' E s)
  (h1 : (∃ i, ∃ hi : i < es.size, (es[i]).1 = h ∧ eqv i = true) → Q false s)
  (h2 : (¬ ∃ i, ∃ hi : i < es.size, (es[i]).1 = h ∧ eqv i = true) → ∀ h' mQ, acb a s.heap h' → SI l h' a mQ → mQ.toList.Perm ((h, x) :: es.toList) → Q true { s with heap := h' }) :
  aar (model prog w) A (setAddHashed a x h) Q E s := by
 obtain ⟨o, ep, t, ho, hex, hd, I, Ie, Zj, G8, hr, hL, hP⟩ := hS
 obtain ⟨b, rfl⟩ := hx
 have hsz : t.place.size = es.size := by have z := I.sz; rw [aa7] at z; exact z
 obtain ⟨k, hk⟩ := I.pw
 obtain ⟨n, hn, hend, CC⟩ := way I.tb hk (by omega) h (fun i => ∃ hi : i < es.size, (es[i]).1 = h ∧ eqv i = true)
 have JW : t.slot (cg t n (t.probeStart h)).j = .empty → ¬ ∃ i, ∃ hi : i < es.size, (es[i]).1 = h ∧ eqv i = true := by
  rintro he ⟨i, hi, e1, e2⟩
  obtain ⟨n', g1, g2, g3⟩ := I.Ab i (by rw [aa7]; exact hi)
  have eh : (es.map (·.1)).getD i 0 = h := by simp [abp, hi, e1]
  rw [eh] at g2 g3
  have hl := il I.tb (i := i) (by omega)
  rw [← g2] at hl
  rcases adf n n' with q | q | q
  ·exact g3 n q he
  ·subst q; rw [he] at hl; cases hl
  ·obtain ⟨i', _, w2, w3⟩ := CC n' q
   rw [hl] at w2
   cases w2
   exact w3 ⟨hi, e1, e2⟩
 unfold setAddHashed
 refine wpAny_holding ?_
 unfold setAddHashedIn
 refine ZR (aaN ho hd I.fits ?_)
 dsimp only
 have hsc : byScan (.ref b) es = false := rfl
 rw [hsc]
 simp only [Z7, if_false]
 unfold setSearch
 refine ZR (CB (n := n) (eqv := eqv) ho hd I G8 hq hr (fun _ => Eu) hn CC ?_ n 0 100000 none (by omega) (by omega) rfl)
 rcases hend with he | ⟨i, _, hl, hi, e1, e2⟩
 ·refine .inl ⟨he, ?_⟩
  dsimp only
  refine ZR (aaN ho hd I.fits ?_)
  dsimp only
  have hj : (cg t n (t.probeStart h)).j ≤ t.mask := Ad t n _ (xV t h)
  obtain ⟨I1, hp⟩ := JR I (h := h) (n := n) (by omega) he hj (fun m hm => by obtain ⟨i, _, z, _⟩ := CC m hm; rw [z]; intro q; cases q) (by rw [aa7]; omega)
  rw [aa7] at hp
  rw [← vz (·.1) es hp (h, aaC b)] at I1
  have Ey := sQ es hp (h, aaC b)
  have pD : (aaL es (t.put (cg t n (t.probeStart h)).j).2 (h, aaC b)).size = es.size + 1 := dg es hp _
  have hr1 : ∀ i (hi : i < (aaL es (t.put (cg t n (t.probeStart h)).j).2 (h, aaC b)).size), ∃ b', ((aaL es (t.put (cg t n (t.probeStart h)).j).2 (h, aaC b))[i]).2 = .ref b' := fun i hi => by
   have hm : (aaL es (t.put (cg t n (t.probeStart h)).j).2 (h, aaC b))[i] ∈ (h, aaC b) :: es.toList := Ey.mem_iff.mp (by rw [acG]; exact Array.getElem_mem hi)
   rcases aai.mp hm with e | e
   ·exact ⟨b, by rw [e]⟩
   ·obtain ⟨j, hj, e⟩ := aa2.mp e
    have hj' : j < es.size := by simpa using hj
    obtain ⟨b', hb'⟩ := hr j hj'
    refine ⟨b', ?_⟩
    rw [← e]
    simpa using hb'
  have ip := JW he
  generalize W5 : aaL es (t.put (cg t n (t.probeStart h)).j).2 (h, aaC b) = Ih at *
  have tail : ∀ t2 : aaB, xi t2 (Ih.map (·.1)) → t2.mask = t.mask → t2.led = l → t2.plain = false → aar (model prog w) A (do
    storeSet a Ih t2
    if (!false && t2.tooFull) = true then setRelay a (abQ (es.size + 1))
    return true) Q E s := fun t2 I2 LH qg qr => by
   refine ZR (wpAny_storeSet_of ho hd ?_ (by rw [pD, aak]; omega))
   have hg := Bw ho hd Ih t2
   by_cases hf : t2.tooFull = true
   ·simp only [hf, adV, Bool.and_self, if_true]
    refine ZR ?_
    rw [← pD]
    refine Ex (s := { s with heap := s.heap.update a (afs Ih t2) }) hg hex rfl I2 (by omega) (by omega) hr1 qg qr fun h' mQ xy hS' hp' => ZW ?_
    exact h2 ip h' mQ ((abm s.heap a (afs Ih t2)).trans xy) hS' (hp'.trans Ey)
   ·have hf' : t2.tooFull = false := by simpa using hf
    simp only [hf', adV, aeS, Z7, if_false]
    refine ZW ?_
    have hnf : Ih.size * 5 < t2.mask * 3 := by
     have z : ¬ (t2.fill * 5 ≥ t2.mask * 3) := by simpa [SetTable.tooFull] using hf'
     have y : t2.fill = Ih.size := by
      have q := I2.sz
      rw [aa7] at q
      simp only [afg, I2.tb.nd]
      simp [q]
     omega
    exact h2 ip _ Ih (abm _ _ _) ⟨_, _, t2, hg, hex, rfl, I2, hnf, by omega, by rw [LH]; exact G8, hr1, qg, fun _ => qr⟩ Ey
  cases hpl : (t.put (cg t n (t.probeStart h)).j).1.plain with
  | false =>
   simp only [Z7, if_false]
   refine ZR (ZW ?_)
   simp only [if_true]
   exact tail _ I1 rfl hL hpl
  | true =>
   simp only [if_true]
   refine ZR (W4 _ ?_)
   simp only [Z7, if_false]
   exact tail _ (I1.plain false) rfl hL rfl
 ·refine .inr ⟨⟨i, hl, hi, e1, e2⟩, ?_⟩
  exact ZW (h1 ⟨i, hi, e1, e2⟩)
end
end d9
namespace L2
open PySem PySem.Spec PyProof.Rows
mutual
def nA (w : aaO) : Tr → Int
 | .int i => hashInt i
 | .str x => hashStr w x
 | .tup l => reduceHash (abj (cZ w l))
def cZ (w : aaO) : List Tr → List Int
 | [] => []
 | a :: r => nA w a :: cZ w r
end
theorem lV (w : aaO) : ∀ (a b : List Tr), cZ w (a ++ b) = cZ w a ++ cZ w b
 | [], b => by simp [cZ]
 | x :: a, b => by simp [cZ, lV w a b]
theorem jY {X : Cx} {pins : List (aac × Obj)} {σ : St} {H : Hp} {s : ZU} (I : Inv X pins σ H s) {l : List Tr} {x : V} {u : ZS} (h : cC X.K H (Tr.tup l).toD x) (r : RelV x u) :
  ∃ (p : aac) (ys : List V) (its : List ZS), u = .ref p ∧ IsTup s.heap p its.toArray ∧ Vals ys its ∧ Ts X.K H l ys := by
 simp only [Tr.toD] at h
 cases h with
 | @tup ds xs p g e rr =>
  cases r
  obtain ⟨its, r1, p1, _⟩ := I.tuple g
  have kl := toDs_length l
  refine ⟨p, xs, its, rfl, p1, r1, by omega, fun i h1 h2 => ?_⟩
  have z := rr i (by omega) h2
  rw [toDs_get l i h1] at z
  exact z
theorem Ez {X : Cx} {pins : List (aac × Obj)} {σ : St} {H : Hp} {s : ZU} (I : Inv X pins σ H s) :
  ∀ (n : Nat) (A : aaA) {a : Tr} {x : V} {u : ZS} (tk : Nat) (E : ZS → ZU → Prop) (Q : Int → ZU → Prop), a.toD.deep ≤ n → A.units + n < cLine → cC X.K H a.toD x → RelV x u → (∀ tk', Q (nA X.w a) { s with toks := tk' }) →
   aar (model X.prog X.w) A (pyHash u) Q E { s with toks := tk } := by
 intro n
 induction n with
 | zero =>
  intro A a x u tk E Q hd hu h r q
  cases a with
  | int i =>
   simp only [Tr.toD] at h
   cases h
   obtain ⟨t, rfl⟩ := r
   simp only [nA] at q
   exact wpAny_pyHash_int (q _)
  | str i =>
   simp only [Tr.toD] at h
   cases h
   obtain ⟨t, rfl⟩ := r
   simp only [nA] at q
   exact wpAny_pyHash_str (q _)
  | tup l => simp only [Tr.toD, Dt.deep] at hd; omega
 | succ n ih =>
  intro A a x u tk E Q hd hu h r q
  cases a with
  | int i => exact ih A tk E Q (by simp [Tr.toD, Dt.deep]) (by omega) h r q
  | str i => exact ih A tk E Q (by simp [Tr.toD, Dt.deep]) (by omega) h r q
  | tup l =>
   obtain ⟨p, ys, its, rfl, ⟨o, ho, hc, n', Ds⟩, rv, hT⟩ := jY I h r
   have hl := hT.1
   have hlen := rv.length
   have M5 : Dt.bU (Tr.toDs l) ≤ n := by
    simp only [Tr.toD, Dt.deep] at hd
    omega
   have CD : (⟨s.heap, s.gens, s.drawn, tk, s.os⟩ : ZU).TypeIs (.ref p) "tuple" := ⟨o, ho, hc⟩
   unfold pyHash
   first | unfold pyHashByItsType | skip
   first | refine ZR (wpAny_cRoomFor_or (.inr (by omega)) ?_) | skip
   refine ZR (wpAny_specialOf CD abN.lookup ?_)
   show aar _ _ (if (some (afe "tuple.__hash__") == some aa4) = true then _ else _) Q E _
   rw [if_neg (by rw [beq_builtin_none]; exact aas)]
   refine ZR (wpAny_specialOf CD abN.lookup ?_)
   show aar _ _ (callSpecialIfBoundUnlessNone? (.ref p) "__hash__" _ >>= _) Q E _
   refine ZR (wpAny_callSpecialIfBoundUnlessNone?_slot CD abN (wpAny_call_entry abN CD PySem.F.entry_tuple_hash ?_ (PySem.F.args_tuple_hash_1 _)))
   show aar _ _ (Builtin.Tuple.tupleItemsOf (.ref p) >>= _) _ _ _
   refine ZR (wpAny_tupleItemsOf ho Ds ?_)
   refine ZR ?_
   rw [← ac6]
   refine wpAny_forIn_list _
    (fun rest (b : Array Int) s' => ∃ j tk', j ≤ its.length ∧ rest = its.drop j ∧ b.toList = cZ X.w (l.take j) ∧ s' = { s with toks := tk' })
    _ ?_ ?_ _ _ ⟨0, tk, aaX _, by simp, by simp [cZ], rfl⟩
   ·rintro v rest b s' ⟨j, tk', hj, hr, hb, rfl⟩
    have Dv : j < its.length := by
     refine aco hj fun e => ?_
     rw [e, acO] at hr
     cases hr
    have hdr : its.drop j = its[j] :: its.drop (j + 1) := aaw Dv
    rw [hdr] at hr
    injection hr with e1 e2
    subst e1 e2
    obtain ⟨u1, f1, q1⟩ := rv.get (i := j) (x := ys[j]'(by omega)) (by simp)
    have eu : its[j] = u1 := (ZZ.mp f1).2
    have zz := cz (ds := Tr.toDs l) (i := j) (by rw [toDs_length]; omega)
    rw [toDs_get l j (by omega)] at zz
    have ht : cZ X.w (l.take (j + 1)) = cZ X.w (l.take j) ++ [nA X.w (l[j]'(by omega))] := by
     rw [← ad2 (by omega), lV]
     simp [cZ]
    refine ZR (ih _ tk' _ _ (by omega) (by show A.units + 1 + n < cLine; omega) (hT.2 j (by omega) (by omega)) (by rw [eu]; exact q1) fun P5 => ?_)
    first
     | exact ZW ⟨j + 1, P5, by omega, rfl, by rw [ht]; simp [hb], rfl⟩
     | exact ZR (ZW (ZW ⟨j + 1, P5, by omega, rfl, by rw [ht]; simp [hb], rfl⟩))
   ·rintro b s' ⟨j, tk', hj, hr, hb, rfl⟩
    have Dv : j = its.length := by
     refine abc fun hne => ?_
     have : (its.drop j).length = 0 := by rw [← hr]; rfl
     rw [abL] at this
     omega
    rw [Dv, ← hlen, ← hl, aau] at hb
    show aar _ _ (retInt (abj b.toList)) _ _ _
    rw [hb]
    refine wpAny_ret_mkInt ?_
    simp only [nA] at q
    show aar _ _ (if (decide (-(2 : Int) ^ 63 ≤ abj (cZ X.w l)) && decide (abj (cZ X.w l) < 2 ^ 63)) = true then _ else _) Q E _
    unfold reduceHash at q
    by_cases Dw : (decide (-(2 : Int) ^ 63 ≤ abj (cZ X.w l)) && decide (abj (cZ X.w l) < 2 ^ 63)) = true
    ·rw [if_pos Dw]
     rw [if_pos Dw] at q
     exact ZW (q _)
    ·rw [if_neg Dw]
     rw [if_neg Dw] at q
     exact ZR (wpAny_rule (ZW (q _)))
end L2
namespace L2
open PySem PySem.Spec PyProof.Rows
theorem notRef {X : Cx} {H : Hp} {a : Tr} {x : V} {u : ZS} (h : cC X.K H a.toD x) (r : RelV x u) (hd : a.toD.deep = 0) : (∃ i t, a = .int i ∧ u = .int i t) ∨ ∃ i t, a = .str i ∧ u = .str i t := by
 cases a with
 | int i => simp only [Tr.toD] at h; cases h; obtain ⟨t, rfl⟩ := r; exact .inl ⟨i, t, rfl, rfl⟩
 | str i => simp only [Tr.toD] at h; cases h; obtain ⟨t, rfl⟩ := r; exact .inr ⟨i, t, rfl, rfl⟩
 | tup l => simp only [Tr.toD, Dt.deep] at hd; omega
section
variable {X : Cx} {pins : List (aac × Obj)} {σ : St} {H : Hp} {s : ZU}
theorem uC (I : Inv X pins σ H s) : ∀ (n depth : Nat) (A : aaA) {a : Tr} {x : V} {u : ZS} (E : ZS → ZU → Prop) (Q : Bool → ZU → Prop), a.toD.deep ≤ n → n ≤ depth → cC X.K H a.toD x → RelV x u → Q true s → aar (model X.prog X.w) A (eqIsQuiet depth u) Q E s := by
 intro n
 induction n with
 | zero =>
  intro depth A a x u E Q hd hn h r q
  rcases notRef h r (by omega) with ⟨i, t, _, rfl⟩ | ⟨i, t, _, rfl⟩
  ·rw [eqIsQuiet_byValue depth rfl]; exact ZW q
  ·rw [eqIsQuiet_byValue depth rfl]; exact ZW q
 | succ n ih =>
  intro depth A a x u E Q hd hn h r q
  cases a with
  | int i => exact ih depth A E Q (by simp [Tr.toD, Dt.deep]) (by omega) h r q
  | str i => exact ih depth A E Q (by simp [Tr.toD, Dt.deep]) (by omega) h r q
  | tup l =>
   obtain ⟨p, ys, its, rfl, ⟨o, ho, hc, n', Ds⟩, rv, hT⟩ := jY I h r
   have hl := hT.1
   have hlen := rv.length
   have M5 : Dt.bU (Tr.toDs l) ≤ n := by simp only [Tr.toD, Dt.deep] at hd; omega
   have CD : s.TypeIs (.ref p) "tuple" := ⟨o, ho, hc⟩
   obtain ⟨depth, rfl⟩ : ∃ g, depth = g + 1 := ⟨depth - 1, by omega⟩
   unfold eqIsQuiet
   refine ZR (wpAny_specialOf CD PySem.F.slot_tuple_eq.lookup ?_)
   show aar _ _ (isInstance (.ref p) (.type "tuple") >>= _) _ _ s
   refine ZR (wpAny_isInstance CD isSubtype_tuple_tuple ?_)
   simp only [acf, Z7, if_false]
   refine ZR (wpAny_seqItems ho Ds ?_)
   refine ZR ?_
   show aar _ _ (forIn its.toArray _ _) _ _ s
   rw [← ac6]
   refine wpAny_forIn_list _ (fun rest rr s' => rr.1 = none ∧ s' = s ∧ ∃ j, j ≤ its.length ∧ rest = its.drop j) _ ?_ ?_ _ _ ⟨rfl, rfl, 0, aaX _, by simp⟩
   ·rintro v rest rr s' ⟨hr, rfl, j, hj, he⟩
    have Dv : j < its.length := by
     refine aco hj fun e => ?_
     rw [e, acO] at he
     cases he
    rw [aaw Dv] at he
    injection he with e1 e2
    subst e1 e2
    obtain ⟨u1, f1, q1⟩ := rv.get (i := j) (x := ys[j]'(by omega)) (by simp)
    have eu : its[j] = u1 := (ZZ.mp f1).2
    have zz := cz (ds := Tr.toDs l) (i := j) (by rw [toDs_length]; omega)
    rw [toDs_get l j (by omega)] at zz
    refine ZR (ih depth _ _ _ (by omega) (by omega) (hT.2 j (by omega) (by omega)) (by rw [eu]; exact q1) ?_)
    simp only [acf, Z7, if_false]
    exact ZW ⟨rfl, rfl, j + 1, by omega, rfl⟩
   ·rintro ⟨r1, r2⟩ s' ⟨hr, rfl, _⟩
    simp only at hr
    subst hr
    exact ZW q
theorem uD (I : Inv X pins σ H s) : ∀ (n depth : Nat) (A : aaA) {a : Tr} {x : V} {u : ZS} (E : ZS → ZU → Prop) (Q : Bool → ZU → Prop), a.toD.deep ≤ n → n ≤ depth → cC X.K H a.toD x → RelV x u → Q false s → aar (model X.prog X.w) A (ofAClassStatement depth u) Q E s := by
 intro n
 induction n with
 | zero =>
  intro depth A a x u E Q hd hn h r q
  rcases notRef h r (by omega) with ⟨i, t, _, rfl⟩ | ⟨i, t, _, rfl⟩
  ·cases depth <;> exact ZW q
  ·cases depth <;> exact ZW q
 | succ n ih =>
  intro depth A a x u E Q hd hn h r q
  cases a with
  | int i => exact ih depth A E Q (by simp [Tr.toD, Dt.deep]) (by omega) h r q
  | str i => exact ih depth A E Q (by simp [Tr.toD, Dt.deep]) (by omega) h r q
  | tup l =>
   obtain ⟨p, ys, its, rfl, ⟨o, ho, hc, n', Ds⟩, rv, hT⟩ := jY I h r
   have hl := hT.1
   have hlen := rv.length
   have M5 : Dt.bU (Tr.toDs l) ≤ n := by simp only [Tr.toD, Dt.deep] at hd; omega
   have CD : s.TypeIs (.ref p) "tuple" := ⟨o, ho, hc⟩
   obtain ⟨depth, rfl⟩ : ∃ g, depth = g + 1 := ⟨depth - 1, by omega⟩
   unfold ofAClassStatement
   refine ZR (wpAny_typeOf CD ?_)
   dsimp only
   simp only [beq_self_eq_true, if_true]
   refine ZR (ZW ?_)
   simp only [acf, Z7, if_false]
   refine ZR (wpAny_seqItems ho Ds ?_)
   dsimp only
   refine ZR ?_
   show aar _ _ (forIn its.toArray _ _) _ _ s
   rw [← ac6]
   refine wpAny_forIn_list _ (fun rest rr s' => rr.1 = none ∧ s' = s ∧ ∃ j, j ≤ its.length ∧ rest = its.drop j) _ ?_ ?_ _ _ ⟨rfl, rfl, 0, aaX _, by simp⟩
   ·rintro v rest rr s' ⟨hr, rfl, j, hj, he⟩
    have Dv : j < its.length := by
     refine aco hj fun e => ?_
     rw [e, acO] at he
     cases he
    rw [aaw Dv] at he
    injection he with e1 e2
    subst e1 e2
    obtain ⟨u1, f1, q1⟩ := rv.get (i := j) (x := ys[j]'(by omega)) (by simp)
    have eu : its[j] = u1 := (ZZ.mp f1).2
    have zz := cz (ds := Tr.toDs l) (i := j) (by rw [toDs_length]; omega)
    rw [toDs_get l j (by omega)] at zz
    refine ZR (ih depth _ _ _ (by omega) (by omega) (hT.2 j (by omega) (by omega)) (by rw [eu]; exact q1) ?_)
    simp only [Z7, if_false]
    exact ZW ⟨rfl, rfl, j + 1, by omega, rfl⟩
   ·rintro ⟨r1, r2⟩ s' ⟨hr, rfl, _⟩
    simp only at hr
    subst hr
    exact ZW q
end
end L2
namespace L2
open PySem PySem.Spec PyProof.Rows
mutual
def jI : Tr → Bool
 | .int _ => true
 | .str _ => false
 | .tup l => fM l
def fM : List Tr → Bool
 | [] => true
 | a :: r => jI a && fM r
end
section
variable {X : Cx} {pins : List (aac × Obj)} {σ : St} {H : Hp} {s : ZU}
theorem CF (I : Inv X pins σ H s) : ∀ (n depth : Nat) (A : aaA) {a : Tr} {x : V} {u : ZS} (E : ZS → ZU → Prop) (Q : Bool → ZU → Prop), a.toD.deep ≤ n → n ≤ depth → cC X.K H a.toD x → RelV x u → Q (jI a) s → aar (model X.prog X.w) A (hashByValue depth u) Q E s := by
 intro n
 induction n with
 | zero =>
  intro depth A a x u E Q hd hn h r q
  rcases notRef h r (by omega) with ⟨i, t, rfl, rfl⟩ | ⟨i, t, rfl, rfl⟩
  ·simp only [jI] at q; cases depth <;> exact ZW q
  ·simp only [jI] at q; cases depth <;> exact ZW q
 | succ n ih =>
  intro depth A a x u E Q hd hn h r q
  cases a with
  | int i => exact ih depth A E Q (by simp [Tr.toD, Dt.deep]) (by omega) h r q
  | str i => exact ih depth A E Q (by simp [Tr.toD, Dt.deep]) (by omega) h r q
  | tup l =>
   obtain ⟨p, ys, its, rfl, ⟨o, ho, hc, n', Ds⟩, rv, hT⟩ := jY I h r
   have hl := hT.1
   have hlen := rv.length
   have M5 : Dt.bU (Tr.toDs l) ≤ n := by simp only [Tr.toD, Dt.deep] at hd; omega
   have CD : s.TypeIs (.ref p) "tuple" := ⟨o, ho, hc⟩
   simp only [jI] at q
   obtain ⟨depth, rfl⟩ : ∃ g, depth = g + 1 := ⟨depth - 1, by omega⟩
   unfold hashByValue
   refine ZR (wpAny_specialOf CD abN.lookup ?_)
   show aar _ _ (seqItems? (.ref p) >>= _) _ _ s
   refine ZR (wpAny_seqItems ho Ds ?_)
   refine ZR ?_
   show aar _ _ (forIn its.toArray _ _) _ _ s
   rw [← ac6]
   refine wpAny_forIn_list _ (fun rest rr s' => s' = s ∧ ((rr.1 = none ∧ ∃ j, j ≤ its.length ∧ rest = its.drop j ∧ fM (l.drop j) = fM l) ∨ (rr.1 = some false ∧ rest = [] ∧ fM l = false))) _ ?_ ?_ _ _ ⟨rfl, .inl ⟨rfl, 0, aaX _, by simp, by simp⟩⟩
   ·rintro v rest rr s' ⟨rfl, hh⟩
    rcases hh with ⟨hr, j, hj, he, hb⟩ | ⟨_, he, _⟩
    ·have Dv : j < its.length := by
      refine aco hj fun e => ?_
      rw [e, acO] at he
      cases he
     rw [aaw Dv] at he
     injection he with e1 e2
     subst e1 e2
     obtain ⟨u1, f1, q1⟩ := rv.get (i := j) (x := ys[j]'(by omega)) (by simp)
     have eu : its[j] = u1 := (ZZ.mp f1).2
     have zz := cz (ds := Tr.toDs l) (i := j) (by rw [toDs_length]; omega)
     rw [toDs_get l j (by omega)] at zz
     have G9 : (jI (l[j]'(by omega)) && fM (l.drop (j + 1))) = fM l := by
      rw [← hb, aaw (show j < l.length by omega)]
      simp [fM]
     refine ZR (ih depth _ _ _ (by omega) (by omega) (hT.2 j (by omega) (by omega)) (by rw [eu]; exact q1) ?_)
     cases e : jI (l[j]'(by omega)) with
     | true =>
      simp only [acf, Z7, if_false]
      rw [e] at G9
      exact ZW ⟨rfl, .inl ⟨rfl, j + 1, by omega, rfl, by simpa using G9⟩⟩
     | false =>
      simp only [adV, if_true]
      rw [e] at G9
      have z : fM l = false := by simpa using G9.symm
      rw [z] at q
      exact ZW (ZW q)
    ·cases he
   ·rintro ⟨r1, r2⟩ s' ⟨rfl, hh⟩
    rcases hh with ⟨hr, j, hj, he, hb⟩ | ⟨hr, _, hb⟩
    ·simp only at hr
     subst hr
     have Dv : its.length ≤ j := by
      have : (its.drop j).length = 0 := by rw [← he]; rfl
      rw [abL] at this
      omega
     rw [aby (by omega)] at hb
     simp only [fM] at hb
     rw [← hb] at q
     exact ZW q
    ·simp only at hr
     subst hr
     rw [hb] at q
     exact ZW q
theorem EA (I : Inv X pins σ H s) {A : aaA} {a : Tr} {x : V} {u : ZS} {E : ZS → ZU → Prop} {Q : Bool → ZU → Prop} (hd : a.toD.deep ≤ 8) (h : cC X.K H a.toD x) (r : RelV x u) :
  ∀ (stored : List ZS), (∀ v ∈ stored, ∃ b y, Tr.toD b = Tr.toD b ∧ (Tr.toD b).deep ≤ 8 ∧ cC X.K H (Tr.toD b) y ∧ RelV y v) → Q false s → aar (model X.prog X.w) A (searchCouldBeSeen u stored) Q E s := by
 intro stored hst q
 unfold searchCouldBeSeen
 refine ZR ?_
 refine wpAny_forIn_list _ (fun rest rr s' => s' = s ∧ rr.1 = none ∧ ∀ v ∈ rest, v ∈ stored) _ ?_ ?_ _ _ ⟨rfl, rfl, fun v hv => hv⟩
 ·rintro v rest rr s' ⟨rfl, hr, hm⟩
  obtain ⟨b, y, _, hb, h2, r2⟩ := hst v (hm v (by simp))
  have fin : (⟨none, ()⟩ : Option Bool × Unit).1 = none := rfl
  dsimp only
  split
  all_goals split
  any_goals exact ZW ⟨rfl, rfl, fun z hz => hm z (by simp [hz])⟩
  all_goals
   refine ZR (uC I 8 8 _ _ _ hd (Z0 _) h r ?_)
   simp only [acf, Z7, if_false]
   refine ZR (uC I 8 8 _ _ _ hb (Z0 _) h2 r2 ?_)
   simp only [acf, Z7, if_false]
   refine ZR (uD I 8 8 _ _ _ hd (Z0 _) h r ?_)
   simp only [Z7, if_false]
   refine ZR (uD I 8 8 _ _ _ hb (Z0 _) h2 r2 ?_)
   simp only [Z7, if_false]
   exact ZW ⟨rfl, rfl, fun z hz => hm z (by simp [hz])⟩
 ·rintro ⟨r1, r2⟩ s' ⟨rfl, hr, _⟩
  simp only at hr
  subst hr
  exact ZW q
end
end L2
namespace L2
open PySem PySem.Spec PyProof.Rows d9
def og (acc : List Tr) (t : Tr) : List Tr := if acc.any (fun a => eqT a t) = true then acc else acc ++ [t]
def dd (l : List Tr) : List Tr := l.foldl og []
theorem Bx (l : List Tr) {i : Nat} (h : i < l.length) : dd (l.take (i + 1)) = og (dd (l.take i)) l[i] := by
 unfold dd
 rw [← ad2 h, abh]
 rfl
def Ii (w : aaO) (K : ZQ) (H : Hp) (es : List (Int × ZS)) (tr : List Tr) : Prop := Paired (fun (e : Int × ZS) (t : Tr) => e.1 = nA w t ∧ t.toD.deep ≤ 8 ∧ ∃ y, cC K H t.toD y ∧ RelV y e.2) es tr
theorem oX {α β : Type} {F : α → β → Prop} {l l' : List α} (p : l'.Perm l) : ∀ {m : List β}, Paired F l m → ∃ m', m'.Perm m ∧ Paired F l' m' := by
 induction p with
 | nil => intro m h; exact ⟨m, .refl _, h⟩
 | cons x _ ih =>
  intro m h
  cases h with
  | cons r t => obtain ⟨m', h1, h2⟩ := ih t; exact ⟨_ :: m', h1.cons _, .cons r h2⟩
 | swap x y l =>
  intro m h
  cases h with
  | cons r t => cases t with
   | cons r2 t2 => exact ⟨_, .swap _ _ _, .cons r2 (.cons r t2)⟩
 | trans _ _ W6 W7 =>
  intro m h
  obtain ⟨m1, a1, a2⟩ := W7 h
  obtain ⟨m2, b1, b2⟩ := W6 a2
  exact ⟨m2, b1.trans a1, b2⟩
section
variable {X : Cx} {pins : List (aac × Obj)} {σ : St} {H : Hp} {s : ZU} {a : aac} {es : Array (Int × ZS)} {tr : List Tr} {t : Tr} {x : V} {u : ZS} {l : Bool}
theorem Ii.JX (h : Ii X.w X.K H es.toList tr) {v : ZS} (hv : v ∈ es.toList.map (·.2)) : ∃ b y, Tr.toD b = Tr.toD b ∧ (Tr.toD b).deep ≤ 8 ∧ cC X.K H (Tr.toD b) y ∧ RelV y v := by
 obtain ⟨e, he, rfl⟩ := Z1.mp hv
 obtain ⟨i, hi, rfl⟩ := aa2.mp he
 have hl := aad h
 obtain ⟨_, h2, y, h3, h4⟩ := Paired.at2 h i hi (by omega)
 exact ⟨_, y, rfl, h2, h3, h4⟩
theorem RW {A : aaA} {E : ZS → ZU → Prop} {Q : Bool → ZU → Prop} (I : Inv X pins σ H s) (hu : A.units + 40 < cLine) (hS : SI l s.heap a es) (hE : Ii X.w X.K H es.toList tr) (hs : es.size < 1000) (ht : ∃ l, t = .tup l) (hd : t.toD.deep ≤ 8) (hv : jI t = false) (h : cC X.K H t.toD x) (r : RelV x u)
  (hQ : ∀ b h' tk mQ By, acb a s.heap h' ∨ h' = s.heap → SI l h' a mQ → Ii X.w X.K H mQ.toList By → By.Perm (og tr t) → Q b { s with heap := h', toks := tk }) : aar (model X.prog X.w) A (setAdd a u) Q E s := by
 have hl := aad hE
 have hl' : es.size = tr.length := by simpa using hl
 unfold setAdd
 refine wpAny_holding (ZR ?_)
 have z := Ez I 8 A (E := E) s.toks (Q := fun hh s' => aar (model X.prog X.w) A (setAddHashed a u hh) Q E s') hd (by omega) h r fun tk => ?_
 ·exact z
 ·have I' : Inv X pins σ H { s with toks := tk } := I.tok tk
  have at_ : ∀ i (hi : i < es.size), (es[i]).1 = nA X.w (tr[i]'(by omega)) ∧ (tr[i]'(by omega)).toD.deep ≤ 8 ∧ ∃ y, cC X.K H (tr[i]'(by omega)).toD y ∧ RelV y (es[i]).2 := fun i hi => by
   have z := Paired.at2 hE i (by simpa using hi) (by omega)
   simpa using z
  refine JV (s := { s with toks := tk }) (eqv := fun i => eqT (tr.getD i (.int 0)) t) hS ?_ hs (fun i hi _ => ?_) (fun Q' q => EA I' hd h r _ (fun v hv => ?_) q) (fun Q' q => CF I' 8 8 _ _ _ hd (Z0 _) h r (by rw [hv]; exact q)) (fun hex => ?_) fun ip h' mQ xy hS' hp => ?_
  ·obtain ⟨l, rfl⟩ := ht
   obtain ⟨p, _, _, e, _⟩ := jY I h r
   exact ⟨p, e⟩
  ·obtain ⟨_, h2, y, h3, h4⟩ := at_ i hi
   have e : tr.getD i (.int 0) = tr[i]'(by omega) := by simp [show i < tr.length by omega]
   show abw A _ _ _ (eqT (tr.getD i (.int 0)) t)
   rw [e]
   exact jV I' rfl 8 A h2 (by omega) h3 h h4 r
  ·refine hE.JX ?_
   obtain ⟨e, he, rfl⟩ := Z1.mp hv
   refine Z1.mpr ⟨e, ?_, rfl⟩
   rw [acG] at he ⊢
   exact (Array.mem_filter.mp he).1
  ·obtain ⟨i, hi, e1, e2⟩ := hex
   have e : tr.getD i (.int 0) = tr[i]'(by omega) := by simp [show i < tr.length by omega]
   have e2 : eqT (tr.getD i (.int 0)) t = true := e2
   rw [e] at e2
   refine hQ false s.heap tk es tr (.inr rfl) hS hE ?_
   unfold og
   rw [if_pos (abb.mpr ⟨_, ZT (by omega), e2⟩)]
  ·have hE' : Ii X.w X.K H ((nA X.w t, u) :: es.toList) (t :: tr) := .cons ⟨rfl, hd, x, h, r⟩ hE
   obtain ⟨By, p1, p2⟩ := oX hp hE'
   refine hQ true h' tk mQ By (.inl xy) hS' p2 ?_
   unfold og
   have hany : ¬ (tr.any fun b => eqT b t) = true := fun hz => by
    obtain ⟨b, hb, e⟩ := abb.mp hz
    obtain ⟨i, hi, rfl⟩ := aa2.mp hb
    have hi' : i < es.size := by omega
    refine ip ⟨i, hi', ?_, ?_⟩
    ·rw [(at_ i hi').1, nj e]
    ·have e3 : tr.getD i (.int 0) = tr[i] := by simp [hi]
     show eqT (tr.getD i (.int 0)) t = true
     rw [e3]; exact e
   rw [if_neg hany]
   exact p1.trans (List.perm_append_singleton t tr).symm
end
end L2
namespace L2
open PySem PySem.Spec PyProof.Rows d9
theorem Ha (acc : List Tr) (t : Tr) : (og acc t).length ≤ acc.length + 1 := by
 unfold og
 split <;> simp
theorem jZ (l : List Tr) : ∀ i, i ≤ l.length → (dd (l.take i)).length ≤ i
 | 0, _ => by simp [dd]
 | i + 1, h => by
  rw [Bx l (by omega)]
  have := jZ l i (by omega)
  have := Ha (dd (l.take i)) (l[i]'(by omega))
  omega
theorem EB {f : Tr → Bool} {a b : List Tr} (p : a.Perm b) : a.any f = b.any f := by
 rw [acs, abb, abb]
 exact ⟨fun ⟨x, h1, h2⟩ => ⟨x, p.mem_iff.mp h1, h2⟩, fun ⟨x, h1, h2⟩ => ⟨x, p.mem_iff.mpr h1, h2⟩⟩
theorem EC {a b : List Tr} (p : a.Perm b) (t : Tr) : (og a t).Perm (og b t) := by
 unfold og
 rw [EB p]
 split
 ·exact p
 ·exact p.append_right _
theorem Hb {l : Bool} {h h' : Heap} {a b : aac} {es : Array (Int × ZS)} (S : SI l h a es) (hs : acb b h h') (hab : a ≠ b) : SI l h' a es := by
 obtain ⟨o, ep, t, ho, r⟩ := S
 exact ⟨o, ep, t, (hs.2 a hab).trans ho, r⟩
theorem lH : entryFor table "set.update.loop" = some Builtin.«set.update.loop» := entryFor_of_tree (by kernel_rfl)
theorem fu : plainId "set.update.loop" = true := by decide +kernel
section
variable {X : Cx} {pins : List (aac × Obj)} {σ : St} {H : Hp} {s : ZU} {a it l : aac} {ts : List Tr} {ys : List V} {its : List ZS} {ld : Bool}
theorem ED {A : aaA} {R : Result → ZU → Prop} (I : Inv X pins σ H s) (hu : A.units + 60 < cLine) (hh : A.handled = none) (hl : s.heap.IsList l its.toArray) (rv : Vals ys its) (hT : Ts X.K H ts ys) (hlen : its.length < 900) (RX : ∀ t ∈ ts, (∃ q, t = .tup q) ∧ t.toD.deep ≤ 8 ∧ jI t = false)
  (ha : s.heap.objs.size ≤ a) (zN : s.heap.objs.size ≤ it) (hne : a ≠ it)
  (fin : ∀ h' tk es tr, (∀ b o, s.heap.get? b = some o → h'.get? b = some o) → SI ld h' a es → Ii X.w X.K H es.toList tr → tr.Perm (dd ts) → R (.ok (.ret .none)) { s with heap := h', toks := tk }) :
  ∀ (k i : Nat) (h' : Heap) (tk : Nat) (es : Array (Int × ZS)) (tr : List Tr), its.length - i = k → i ≤ its.length → (∀ b o, s.heap.get? b = some o → h'.get? b = some o) → h'.IsListIter it l i → SI ld h' a es → Ii X.w X.K H es.toList tr → tr.Perm (dd (ts.take i)) →
   aar (model X.prog X.w) A.in1 (Builtin.«set.update.loop» ⟨[.ref a, .ref it], []⟩) (fun fin s' => match fin with | .done f => R (.ok f) s' | .again c' => c'.quiet = true ∧ codeAny (model X.prog X.w) A c' R s') (fun e s' => R (.error e) s') { s with heap := h', toks := tk } := by
 have qx := rv.length
 have qg := hT.1
 have lt : ∀ b o, s.heap.get? b = some o → b ≠ a ∧ b ≠ it := fun b o q => by
  exact ⟨aam (aaf (aab q) ha), aam (aaf (aab q) zN)⟩
 obtain ⟨ol, zq, qy⟩ := id hl
 intro k
 induction k with
 | zero =>
  intro i h' tk es tr hk hi kp hit hS hE hp
  obtain rfl : i = its.length := by omega
  unfold Builtin.«set.update.loop»
  dsimp only
  refine ZR (wpAny_pyNext_list_end (s := { s with heap := h', toks := tk }) (A := A.in1) hh hit (show h'.IsList l its.toArray from ⟨ol, kp _ _ zq, qy⟩) (by simp) fun h2 m7 => ?_)
  dsimp only
  refine ZW ?_
  have W8 : a ≠ it := hne
  refine fin h2 tk es tr (fun b o q => m7 b o (lt b o q).2 (kp b o q)) ?_ hE (by rw [← qx, ← qg, aau] at hp; exact hp)
  obtain ⟨o, ep, t, ho, r⟩ := hS
  exact ⟨o, ep, t, m7 a o W8 ho, r⟩
 | succ k ih =>
  intro i h' tk es tr hk hi kp hit hS hE hp
  have GS : i < its.length := by omega
  have JY : i < ts.length := by omega
  unfold Builtin.«set.update.loop»
  dsimp only
  refine ZR (wpAny_pyNext_list_item (s := { s with heap := h', toks := tk }) (x := its[i]) hit (show h'.IsList l its.toArray from ⟨ol, kp _ _ zq, qy⟩) (by simp [GS]) fun h1 oQ xy => ?_)
  dsimp only
  have D9 : ∀ b o, s.heap.get? b = some o → h1.get? b = some o := fun b o q => (xy.2 b (lt b o q).2).trans (kp b o q)
  have I1 : Inv X pins σ H { s with heap := h1, toks := tk } := I.kept D9
  have hS1 : SI ld h1 a es := Hb hS xy hne
  obtain ⟨u1, f1, q1⟩ := rv.get (i := i) (x := ys[i]'(by omega)) (by simp)
  have eu : its[i] = u1 := (ZZ.mp f1).2
  have ht := RX _ (ZT JY)
  have M6 : es.size < 1000 := by
   have z1 := aad hE
   have z2 := hp.length_eq
   have z3 := jZ ts i (by omega)
   have z4 : es.toList.length = es.size := by simp
   omega
  refine ZR (wpAny_holding (RW (s := { s with heap := h1, toks := tk }) I1 (by show A.units + 1 + 40 < cLine; omega) hS1 hE M6 ht.1 ht.2.1 ht.2.2 (hT.2 i JY (by omega)) (by rw [eu]; exact q1) fun bb h2 P5 mQ By UO hS2 M7 qr => ?_))
  have Ea : ∀ b o, s.heap.get? b = some o → h2.get? b = some o := fun b o q => by
   rcases UO with pz | rfl
   ·exact (pz.2 b (lt b o q).1).trans (D9 b o q)
   ·exact D9 b o q
  have zO : h2.IsListIter it l (i + 1) := by
   rcases UO with pz | rfl
   ·obtain ⟨o, ho, r⟩ := oQ
    exact ⟨o, (pz.2 it (acr hne)).trans ho, r⟩
   ·exact oQ
  refine ZW ?_
  refine ⟨plainId_quiet fu _, codeAny_builtin lH ?_⟩
  rw [aaR fu _]
  exact ih (i + 1) h2 P5 mQ By (by omega) (by omega) Ea zO hS2 M7 (by rw [Bx ts JY]; exact qr.trans (EC hp _))
end
end L2
namespace PySem
theorem typeCall_set_1 (v : ZS) : checkTypeCall "set" ⟨[v], []⟩ = pure () := by kernel_rfl
theorem newCall_set_1 (v : ZS) : checkBuiltinCall "set.__new__" ⟨[.type "set", v], []⟩ = pure () := by kernel_rfl
theorem sub_list_set : isSubtype (.type "list") (.type "set") = pure false := by rw [isSubtype_type]; kernel_rfl
theorem sub_list_frozenset : isSubtype (.type "list") (.type "frozenset") = pure false := by rw [isSubtype_type]; kernel_rfl
section
variable {prog : aao} {w : aaO} {A : aaA} {E : ZS → ZU → Prop} {s : ZU}
theorem sR {v : ZS} {Q₁ : ZS → ZU → Prop}
  (h : Q₁ (.ref s.heap.objs.size) { s with heap := s.heap.push { cls := .type "set", dict := none, data := .set #[] 0 (.fresh 0 0 (!w.params.followText "set-order")) } }) :
  codeAny (model prog w) A (.call (.builtin "set.__new__") ⟨[.type "set", v], []⟩) (wants Q₁ E) s := by
 refine codeAny_of_tree ?_
 show aar _ A.in1 (do checkBuiltinCall "set.__new__" ⟨[.type "set", v], []⟩; again (.builtin "set.__new__" ⟨[.type "set", v], []⟩)) _ _ s
 refine ZR (wpAny_of_eq (newCall_set_1 v) (ZW ⟨plainId_quiet F.plain_set_new _, codeAny_builtin F.entry_set_new ?_⟩))
 rw [aaR F.plain_set_new _]
 unfold Builtin.«set.__new__» Builtin.Frozenset.newClass
 have xX := sub_set_self
 obtain ⟨hp, g, d, tk, os⟩ := s
 dsimp only
 wp_walk
 refine wpAny_askSetting (ZW ?_)
 dsimp only
 simp only [newObj]
 refine ZR (wpAny_alloc (ZW ?_))
 exact ZW h
theorem pG {M : Model} {self v : ZS} {Q : Unit → ZU → Prop} (hT : s.TypeIs self "set") (hQ : Q () s) :
  aar M A (checkBuiltinCall "set.__init__" ⟨[self, v], []⟩) Q E s := by
 simp only [checkBuiltinCall, kind_set_init, split_set_init, sig_set_init]
 refine ZR (wpAny_isInstance hT sub_set_self ?_)
 simp only [acf, Z7, if_false]
 unfold Bind.checkArgs
 dsimp only
 refine ZR (m := Bind.printed "set" true _ _) (PyProof.Rows.printed_name (by decide) ?_)
 refine ZR (m := Bind.printed "*" false _ _) (PyProof.Rows.printed_star (self := self) rfl hT fun short => ?_)
 have P6 : (aeu == aev) = false := by decide
 have hn : (if (aeu == aev) = true then [self, v].length else [self, v].length - 1) = 1 := by simp [P6]
 rw [hn]
 simp only [abO]
 have hc : Bind.check ⟨.positional, "set", "*", .self, [⟨"iterable", .posOnly, false⟩]⟩ "set" short 1 [] = pure () := by
  have hp : (adJ == adJ) = true := by decide
  simp [Bind.check, Bind.checkCount, Bind.isPositional, hp]
 rw [hc]
 exact ZW hQ
set_option maxHeartbeats 1000000 in
set_option maxRecDepth 100000 in
theorem qM {l : aac} {items : Array ZS} {Q : ZS → ZU → Prop} (hl : s.heap.IsList l items)
  {led : Bool} (RY : led = !w.params.followText "set-order") (h : codeAny (model prog w) A.in1.in1 (.builtin "set.update.loop" ⟨[.ref s.heap.objs.size, .ref (s.heap.objs.size + 1)], []⟩) (wants (fun _ s' => Q (.ref s.heap.objs.size) s') E)
   { s with heap := (s.heap.push { cls := .type "set", dict := none, data := .set #[] 0 (.fresh 0 0 led) }).push { cls := .type "list_iterator", data := .fields #[.ref l, .int 0 0] } }) :
  aar (model prog w) A (call (.type "set") [.ref l]) Q E s := by
 obtain ⟨c, tl, W9⟩ := acz.mro
 have hmade := acz.made
 have xX := acz.sub
 refine wpAny_call (codeAny_of_tree ?_)
 show aar _ _ (callAny (.type "set") _) _ _ _
 refine ZW ⟨Code.quiet_builtin _ (by decide +kernel), codeAny_builtin F.entry_type_call ?_⟩
 rw [Around.under_plain (weight_type_call_type "set" [.ref l] []) rfl]
 have h1 := acz.notType
 have h2 := acz.canCreate
 have Jt := typeCall_set_1 (.ref l)
 repeat (any_goals (first | assumption | wp_step))
 refine codeAny_mono (sR (E := E) (Q₁ := fun obj s₁ => obj = .ref s.heap.objs.size ∧ s₁ = { s with heap := s.heap.push { cls := .type "set", dict := none, data := .set #[] 0 (.fresh 0 0 led) } }) ⟨rfl, by rw [RY]⟩) fun r s₁ hr => ?_
 cases r with
 | error e => exact hr
 | ok fl =>
  cases fl with
  | ret obj =>
   obtain ⟨rfl, rfl⟩ := hr
   have hS : (s.heap.push { cls := .type "set", dict := none, data := .set #[] 0 (.fresh 0 0 led) }).get? s.heap.objs.size = some { cls := .type "set", dict := none, data := .set #[] 0 (.fresh 0 0 led) } := Z8 _ rfl
   have hT : ad9 { s with heap := s.heap.push { cls := .type "set", dict := none, data := .set #[] 0 (.fresh 0 0 led) } } (.ref s.heap.objs.size) "set" := ⟨_, hS, rfl⟩
   have Xa := acz.init.lookup
   have Zk := acz.init.bind (.ref s.heap.objs.size)
   repeat (any_goals (first | assumption | wp_step))
   refine codeAny_mono (codeAny_call_builtin (R := wants (fun r s₂ => r = .none ∧ Q (.ref s.heap.objs.size) s₂) E) acz.init.plain F.entry_set_init (pG hT ?_)) fun r₂ s₂ RZ => ?_
   ·unfold Builtin.«set.__init__» noKeywords
    have hl' : (s.heap.push { cls := .type "set", dict := none, data := .set #[] 0 (.fresh 0 0 led) }).IsList l items := by obtain ⟨o, ho, r⟩ := hl; exact ⟨o, ZV _ ho, r⟩
    have UP : ad9 { s with heap := s.heap.push { cls := .type "set", dict := none, data := .set #[] 0 (.fresh 0 0 led) } } (.ref l) "list" := hl'.typeIs
    have M8 := sub_list_set
    have P0 := sub_list_frozenset
    have Bj : ∀ {A' : aaA} {Q' : ZS → ZU → Prop} {E' : ZS → ZU → Prop}, Q' (.ref (s.heap.objs.size + 1)) { s with heap := (s.heap.push { cls := .type "set", dict := none, data := .set #[] 0 (.fresh 0 0 led) }).push { cls := .type "list_iterator", data := .fields #[.ref l, .int 0 0] } } →
      aar (model prog w) A' (pyIter (.ref l)) Q' E' { s with heap := s.heap.push { cls := .type "set", dict := none, data := .set #[] 0 (.fresh 0 0 led) } } := fun {A' Q' E'} hq => by
     have e : (s.heap.push { cls := .type "set", dict := none, data := .set #[] 0 (.fresh 0 0 led) }).objs.size = s.heap.objs.size + 1 := ab1 _ _
     refine wpAny_pyIter_list (s := { s with heap := s.heap.push { cls := .type "set", dict := none, data := .set #[] 0 (.fresh 0 0 led) } }) hl' ?_
     show Q' (.ref (s.heap.push _).objs.size) _
     rw [e]
     exact hq
    wp_walk using Bj
    refine codeAny_mono h fun r3 s3 Hc => ?_
    cases r3 with
    | error e => exact Hc
    | ok f3 =>
     cases f3 with
     | ret v3 => exact ZW (ZW ⟨rfl, Hc⟩)
     | _ => exact Hc.elim
   ·cases r₂ with
    | error e => exact RZ
    | ok Xb =>
     cases Xb with
     | ret r =>
      obtain ⟨rfl, hq⟩ := RZ
      repeat (any_goals (first | assumption | wp_step))
     | _ => exact RZ.elim
  | _ => exact hr.elim
end
end PySem
namespace PySem.F
theorem bN : Slot "set_iterator" "__next__" "set_iterator.__next__" :=
 .of (owner := "set_iterator") (n := "__next__") (by rw [typeLookup_type, builtinLookup_eq_fast]; kernel_rfl) (by decide +kernel) (by decide +kernel) (by decide +kernel)
  (by first | exact .inl (by decide +kernel) | exact .inr (by decide +kernel)) (by rw [isSubtype_type]; kernel_rfl)
theorem jJ : entryFor table "set_iterator.__next__" = some Builtin.«set_iterator.__next__» := entryFor_of_tree (by kernel_rfl)
theorem j0 (a : ZS) : argsOk "set_iterator.__next__" ⟨[a], []⟩ := by unfold argsOk; kernel_rfl
theorem j4 : Slot "set_iterator" "__iter__" "set_iterator.__iter__" :=
 .of (owner := "set_iterator") (n := "__iter__") (by rw [typeLookup_type, builtinLookup_eq_fast]; kernel_rfl) (by decide +kernel) (by decide +kernel) (by decide +kernel)
  (by first | exact .inl (by decide +kernel) | exact .inr (by decide +kernel)) (by rw [isSubtype_type]; kernel_rfl)
theorem pH : entryFor table "set_iterator.__iter__" = some Builtin.«dict_keyiterator.__iter__» :=
 entryFor_alias (id' := "dict_keyiterator.__iter__") (by kernel_rfl) rfl (by decide +kernel) (by kernel_rfl)
theorem qN (a : ZS) : argsOk "set_iterator.__iter__" ⟨[a], []⟩ := by unfold argsOk; kernel_rfl
theorem pI : entryFor table "set.__iter__" = some Builtin.«frozenset.__iter__» :=
 entryFor_alias (id' := "frozenset.__iter__") (by kernel_rfl) rfl (by decide +kernel) (by kernel_rfl)
end PySem.F
namespace d9
open PySem
theorem qO {α : Type} {l : List α} {i : Nat} (h : i < l.length) : (l[i] :: l.eraseIdx i).Perm l := by
 rw [List.eraseIdx_eq_take_drop_succ]
 have e : l = l.take i ++ l[i] :: l.drop (i + 1) := by rw [List.getElem_cons_drop, abq]
 conv => rhs; rw [e]
 exact aem.symm
theorem Bz {α : Type} (next : Nat → Nat) : ∀ (n k : Nat) (left : List α) (out : Array α), left.length = n → (pickOrder.go next n k left out).toList.Perm (out.toList ++ left)
 | 0, k, left, out, h => by
  have : left = [] := aed.mp h
  subst this
  rw [abt]
  exact .refl _
 | n + 1, k, left, out, h => by
  have hi : next k % left.length < left.length := adh _ (by omega)
  unfold pickOrder.go
  rw [Ge9 hi]
  dsimp only
  refine (Bz next n (k + 1) _ _ (by rw [adK hi]; omega)).trans ?_
  rw [Array.toList_push, abS]
  exact (qO hi).append_left _
theorem uE {α : Type} (next : Nat → Nat) (xs : Array α) : (pickOrder next xs).toList.Perm xs.toList := by
 have z := Bz next xs.size 0 xs.toList #[] (by simp)
 simpa [pickOrder] using z
section
variable {M : Model} {A : aaA} {E : ZS → ZU → Prop} {s : ZU}
theorem CG {src : Source} {n : Nat} {Q : Nat → ZU → Prop} (hn : n ≠ 0) (h : ∀ k dr, k < n → Q k { s with drawn := dr }) : aar M A (choose src n) Q E s :=
 fun _ _ _ => ⟨hn, h _ _ (adh _ (Nat.pos_of_ne_zero hn))⟩
theorem BA {α : Type} : ∀ (n : Nat) (xs : List α) (s : ZU) (Q : List α → ZU → Prop), xs.length = n → (∀ l dr, l.Perm xs → Q l { s with drawn := dr }) → aar M A (drawOrder n xs) Q E s
 | 0, xs, s, Q, h, hQ => by
  have : xs = [] := aed.mp h
  subst this
  exact ZW (hQ [] s.drawn (.refl _))
 | n + 1, [], s, Q, h, hQ => by cases h
 | n + 1, x :: xs, s, Q, h, hQ => by
  unfold drawOrder
  refine ZR (CG (by simp) fun k dr hk => ?_)
  rw [Ge9 hk]
  dsimp only
  refine ZR (BA n _ _ _ (by rw [adK hk]; omega) fun l Xc hp => ZW ?_)
  exact hQ _ Xc ((hp.cons _).trans (qO hk))
end
def fN (h : Heap) (I a : aac) (first : ZS) (i n ep : Nat) : Prop := ∃ o, h.get? I = some o ∧ o.cls = .type "set_iterator" ∧ o.data = .fields #[first, .int i 0, .ref a, .int n 0, .int ep 0]
def dG (h : Heap) (a : aac) (es : Array (Int × ZS)) (ep : Nat) (t : aaB) : Prop := ∃ o, h.get? a = some o ∧ o.cls = .type "set" ∧ o.data = .set es ep t
def Way (w : aaO) (h : Heap) (a : aac) (es : Array (Int × ZS)) (ep : Nat) (t : aaB) (pl : List Nat) (T : aac) (ord : List ZS) (i : Nat) (first : ZS) : Prop :=
 (w.params.followText "set-order" = true ∧ first = .int 0 0 ∧ ord = (pickOrder (w.params.setOrder a ep) es).toList.map (·.2)) ∨
 (w.params.followText "set-order" = false ∧ first = .ref T ∧ h.IsTuple T (pl.map fun (j : Nat) => adv j 0).toArray ∧ pl.Perm (aaz es.size) ∧ ord = pl.map fun j => (es.getD j (0, .none)).2) ∨
 (w.params.followText "set-order" = false ∧ t.led = true ∧ es.size ≤ 1 ∧ ord = es.toList.map (·.2) ∧ ((i = 0 ∧ first = .int 0 0) ∨ (i = 1 ∧ ∃ k : Nat, first = .int k 0 ∧ ∀ j, j < t.place.size → t.place.getD j 0 < k)))
end d9
namespace d9
open PySem
section
variable {prog : aao} {w : aaO} {A : aaA} {E : ZS → ZU → Prop} {s : ZU} {I a T : aac} {first : ZS} {i ep : Nat} {es : Array (Int × ZS)} {t : aaB} {pl : List Nat} {ord : List ZS}
theorem fN.typeIs {h : Heap} {n : Nat} (x : fN s.heap I a first i n ep) : s.TypeIs (.ref I) "set_iterator" := let ⟨o, ho, hc, _⟩ := x; ⟨o, ho, hc⟩
theorem ml {Q : Array (Int × ZS) → ZU → Prop} (hS : dG s.heap a es ep t) (hf : t.fits es.size = true) (h : Q es s) : aar (model prog w) A (setEntries a) Q E s := by
 obtain ⟨o, ho, _, hd⟩ := hS
 unfold setEntries
 exact ZR (aaN ho hd hf (ZW h))
theorem eC {Q : Bool → ZU → Prop} (h : Q (w.params.followText "set-order") s) : aar (model prog w) A setsByText Q E s := by
 unfold setsByText
 exact ZR (wpAny_askSetting (ZW h))
theorem vA (W : Way w s.heap a es ep t pl T ord i first) : ord.length = es.size := by
 rcases W with ⟨_, _, e⟩ | ⟨_, _, _, p, e⟩ | ⟨_, _, _, e, _⟩
 ·rw [e, Lm9, (uE _ es).length_eq, aaZ]
 ·rw [e, Lm9, p.length_eq, acD]
 ·rw [e, Lm9, aaZ]
theorem range_getD (es : Array (Int × ZS)) : ∀ n, n ≤ es.size → (aaz n).map (fun j => (es.getD j (0, .none)).2) = (es.toList.take n).map (·.2) := fun n hn => by
 apply acg (by simp; omega)
 intro j h1 h2
 have hj : j < es.size := by simp at h1; omega
 simp [hj]
theorem EE (W : Way w s.heap a es ep t pl T ord i first) : ord.Perm (es.toList.map (·.2)) := by
 rcases W with ⟨_, _, e⟩ | ⟨_, _, _, p, e⟩ | ⟨_, _, _, e, _⟩
 ·rw [e]; exact (uE _ es).map _
 ·rw [e]
  have z := p.map (fun j => (es.getD j (0, aa4)).2)
  rw [range_getD es es.size (Z0 _), aaV (by simp)] at z
  exact z
 ·rw [e]
theorem JZ {h : Heap} {n : Nat} (x : fN h I a first i n ep) : fN (h.update I (aee (·.setIfInBounds 1 (rawInt ((i : Int) + 1))))) I a first (i + 1) n ep := by
 obtain ⟨o, ho, hc, hd⟩ := x
 exact ⟨_, abZ _ ho (aeE (ac7 hd _)), (Obj.cls_mapFields ..).trans hc, by rw [ac7 hd]; simp [rawInt]⟩
theorem J0 {h : Heap} {n : Nat} {f : ZS} (x : fN h I a first i n ep) : fN (h.update I (aee (·.setIfInBounds 0 f))) I a f i n ep := by
 obtain ⟨o, ho, hc, hd⟩ := x
 exact ⟨_, abZ _ ho (aeE (ac7 hd _)), (Obj.cls_mapFields ..).trans hc, by rw [ac7 hd]; simp⟩
theorem J1 {n : Nat} {Q : Unit → ZU → Prop} (x : fN s.heap I a first i n ep) (h : Q () { s with heap := s.heap.update I (aee (·.setIfInBounds 1 (rawInt ((i : Int) + 1)))) }) : aar (model prog w) A (setField (.ref I) 1 (rawInt ((i : Int) + 1))) Q E s := by
 obtain ⟨o, ho, hc, hd⟩ := x
 exact wpAny_setField ho hd (by simp) h
theorem J2 {n : Nat} {f : ZS} {Q : Unit → ZU → Prop} (x : fN s.heap I a first i n ep) (h : Q () { s with heap := s.heap.update I (aee (·.setIfInBounds 0 f)) }) : aar (model prog w) A (setField (.ref I) 0 f) Q E s := by
 obtain ⟨o, ho, hc, hd⟩ := x
 exact wpAny_setField ho hd (by simp) h
set_option maxHeartbeats 1000000 in
theorem next_item {Q : Option ZS → ZU → Prop} (xY : xi t (es.map (·.1))) (M9 : I ≠ T) (hIa : I ≠ a) (hit : fN s.heap I a first i es.size ep) (hS : dG s.heap a es ep t) (W : Way w s.heap a es ep t pl T ord i first) (hi : i < es.size)
  (hQ : ∀ v h' EF, ord[i]? = some v → fN h' I a EF (i + 1) es.size ep → Way w h' a es ep t pl T ord (i + 1) EF → acb I s.heap h' → Q (some v) { s with heap := h' }) : aar (model prog w) A (pyNext (.ref I)) Q E s := by
 obtain ⟨o, ho, hc, hd⟩ := id hit
 have hf := xY.fits
 have zq := vA W
 unfold pyNext
 refine ZR (wpAny_attempt (wpAny_callSpecial?_slot (name := aae "__next__") (fN.typeIs (h := s.heap) hit) F.bN
  (wpAny_call_entry F.bN (fN.typeIs (h := s.heap) hit) F.jJ ?_ (F.j0 _))))
 unfold Builtin.«set_iterator.__next__»
 refine ZR (wpAny_of_eq (a := (aaC I, [])) rfl ?_)
 dsimp only
 refine ZR (wpAny_fieldsOf ho hd ?_)
 dsimp only
 refine ZR (ml hS hf ?_)
 rw [if_neg (by simp)]
 rcases id W with ⟨hT, rfl, e⟩ | ⟨hT, rfl, hp, pp, e⟩ | ⟨hT, hl, h1, e, hw⟩
 ·dsimp only
  unfold setNext
  obtain ⟨oa, BB, _, xg⟩ := id hS
  refine ZR (ZR (aaN BB xg hf ?_))
  dsimp only
  refine ZR (eC ?_)
  rw [hT]
  simp only [if_true, ab6, bne_self_eq_false, Z7, if_false]
  unfold setWalk
  refine ZR (ZR (aaN BB xg hf ?_))
  dsimp only
  refine ZR (eC ?_)
  rw [hT]
  simp only [if_true]
  refine ZR (wpAny_askSetting (ZW ?_))
  refine ZW ?_
  have UQ : i < ord.length := by omega
  have hx : (pickOrder (w.params.setOrder a ep) es)[i]?.map (·.2) = some ord[i] := by
   rw [← adm, ← aaK, ← e, Ge9 UQ]
  obtain ⟨y, hy, Xd⟩ := aa1.mp hx
  have hy' : (pickOrder ({ program := (model prog w).prog, params := (model prog w).w.params : Setting }.params.setOrder a ep) es)[i]? = some y := hy
  rw [hy']
  dsimp only [Option.map]
  refine ZR (J2 hit ?_)
  have h0 := J0 (f := rawInt ((afD 0 : Nat) : Int)) hit
  refine ZR (J1 (s := { s with heap := _ }) h0 ?_)
  refine ZW ⟨_, rfl, ZW (hQ _ _ _ (by rw [Ge9 UQ, Xd]) (JZ h0) (.inl ⟨hT, rfl, e⟩) ((abm ..).trans (abm ..)))⟩
 ·dsimp only
  obtain ⟨oT, Na, _, nT, R0⟩ := id hp
  refine ZR (wpAny_seqItems Na R0 ?_)
  dsimp only
  have hpl : i < pl.length := by rw [pp.length_eq, acD]; exact hi
  have hj : pl[i] < es.size := aaT.mp (pp.mem_iff.mp (ZT hpl))
  have hx : (pl.map fun (j : Nat) => adv j 0).toArray[((i : Nat) : Int).toNat]? = some (adv (pl[i] : Nat) 0) := by simp [hpl]
  rw [hx]
  dsimp only
  refine ZR ?_
  unfold setNextDrawn
  obtain ⟨oa, BB, _, xg⟩ := id hS
  refine ZR (aaN BB xg hf ?_)
  dsimp only
  simp only [ab6, bne_self_eq_false, Z7, if_false, ab3 hj]
  refine ZW ?_
  refine ZR (J1 hit ?_)
  refine ZW ⟨_, rfl, ZW (hQ _ _ _ ?_ (JZ hit) (.inr (.inl ⟨hT, rfl, ⟨oT, (abd _ _ M9).trans Na, ?_⟩, pp, e⟩)) (abm ..))⟩
  ·subst e
   simp [hpl, hj]
  ·obtain ⟨Zl, Nb, r⟩ := hp
   rw [Na] at Nb
   cases Nb
   exact r
 ·have Xe : i = 0 := by omega
  subst Xe
  rcases hw with ⟨_, rfl⟩ | ⟨z, _⟩
  ·dsimp only
   unfold setNext
   obtain ⟨oa, BB, _, xg⟩ := id hS
   refine ZR (ZR (aaN BB xg hf ?_))
   dsimp only
   refine ZR (eC ?_)
   rw [hT]
   have EG : t.place.size = es.size := by have z := xY.sz; rw [aa7] at z; exact z
   have hb : aaH t.place (afD 0) = 0 := by
    have z := iS t.place xY.tb.ri (afD 0)
    rcases Nat.eq_zero_or_pos (aaH t.place (afD 0)) with q | q
    ·exact q
    ·exact absurd (z.2.1 0 q) (ac8 _)
   refine wpAny_ite_split (fun hab => absurd hab (by decide)) fun _ => ?_
   refine wpAny_ite_split (fun hab => absurd hab (show ¬ ((!t.plain && decide (es.size > 1)) = true) from by simp; omega)) fun _ => ?_
   refine ZR (show aar (model prog w) A.in1 (if (!t.led && !es.isEmpty) = true then unsupported "set:maker-not-led" else pure ()) _ _ s from ?_)
   rw [hl]
   refine wpAny_ite_split (fun hab => absurd hab (by simp)) fun _ => ?_
   refine ZW (ZW ?_)
   rw [hb, ab3 (by omega), ab3 (by omega)]
   dsimp only
   refine ZR (J2 hit ?_)
   have h0 := J0 (f := rawInt ((t.place[0]'(by omega) + 1 : Nat) : Int)) hit
   refine ZR (J1 (s := { s with heap := _ }) h0 ?_)
   refine ZW ⟨_, rfl, ZW (hQ _ _ _ ?_ (JZ h0) (.inr (.inr ⟨hT, hl, h1, e, .inr ⟨rfl, _, rfl, fun j hj => ?_⟩⟩)) ((abm ..).trans (abm ..)))⟩
   ·subst e
    simp [hi]
   ·have : j = 0 := by omega
    subst this
    simp [hj]
  ·cases z
set_option maxHeartbeats 1000000 in
theorem next_end {Q : Option ZS → ZU → Prop} (hh : A.handled = none) (xY : xi t (es.map (·.1))) (hit : fN s.heap I a first es.size es.size ep) (hS : dG s.heap a es ep t) (W : Way w s.heap a es ep t pl T ord es.size first)
  (hQ : ∀ h', Heap.ExtBut I s.heap h' → Q none { s with heap := h' }) : aar (model prog w) A (pyNext (.ref I)) Q E s := by
 obtain ⟨o, ho, hc, hd⟩ := id hit
 have hf := xY.fits
 have zq := vA W
 have fin : ∀ (h1 : Heap) (f : ZS), fN h1 I a f es.size es.size ep → Heap.ExtBut I s.heap h1 → aar (model prog w) A.in1 (do
   setField (aaC I) 2 aa4
   let e ← newExc (acS "StopIteration") []
   raiseNew e : Sem PySem.Fin) (fun fin s' => ∃ v, fin = PySem.Fin.done (Flow.ret v) ∧ aar (model prog w) A (pure (some v)) Q E s') (fun e s' => aar (model prog w) A (do
     let b ← isInstance e (acS "StopIteration")
     if b = true then pure none else throw e) Q E s') { s with heap := h1 } := fun h1 f Xf hex => by
  obtain ⟨o1, Gb, Gf, xQ⟩ := Xf
  refine ZR (wpAny_setField (s := { s with heap := h1 }) Gb xQ (by simp) ?_)
  refine ZR ?_
  simp only [newExc, newTuple]
  refine ZR (wpAny_newObj_type ?_ (by size_fits))
  refine ZR (m := firstArgMember _ _) (wpAny_of_eq (a := aa4) (by first | rfl | (simp only [firstArgMember]; rfl)) ?_)
  refine wpAny_newObj_type ?_ (by size_fits)
  simp only [raiseNew]
  refine ZR (wpAny_handled ?_)
  rw [show A.in1.handled = none from hh]
  refine ZR (ZW (wpAny_throw ?_))
  refine ZR (wpAny_isInstance (T := "StopIteration") (b := true) ⟨_, Z8 _ rfl, rfl⟩ isSubtype_stop ?_)
  refine ZW (hQ _ fun b ob hb R1 => ?_)
  exact ZV _ (ZV _ ((abd _ _ (acr hb)).trans (hex b ob hb R1)))
 unfold pyNext
 refine ZR (wpAny_attempt (wpAny_callSpecial?_slot (name := aae "__next__") (fN.typeIs (h := s.heap) hit) F.bN
  (wpAny_call_entry F.bN (fN.typeIs (h := s.heap) hit) F.jJ ?_ (F.j0 _))))
 unfold Builtin.«set_iterator.__next__»
 refine ZR (wpAny_of_eq (a := (aaC I, [])) rfl ?_)
 dsimp only
 refine ZR (wpAny_fieldsOf ho hd ?_)
 dsimp only
 refine ZR (ml hS hf ?_)
 rw [if_neg (by simp)]
 rcases id W with ⟨hT, rfl, e⟩ | ⟨hT, rfl, hp, pp, e⟩ | ⟨hT, hl, h1, e, hw⟩
 ·dsimp only
  unfold setNext
  obtain ⟨oa, BB, _, xg⟩ := id hS
  refine ZR (ZR (aaN BB xg hf ?_))
  dsimp only
  refine ZR (eC ?_)
  rw [hT]
  simp only [if_true, ab6, bne_self_eq_false, Z7, if_false]
  unfold setWalk
  refine ZR (ZR (aaN BB xg hf ?_))
  dsimp only
  refine ZR (eC ?_)
  rw [hT]
  simp only [if_true]
  refine ZR (wpAny_askSetting (ZW ?_))
  refine ZW ?_
  have hy : (pickOrder (w.params.setOrder a ep) es)[es.size]? = none := by
   rw [adL]
   rw [e, Lm9, aaZ] at zq
   omega
  have hy' : (pickOrder ({ program := (model prog w).prog, params := (model prog w).w.params : Setting }.params.setOrder a ep) es)[es.size]? = none := hy
  rw [hy']
  exact fin s.heap _ hit fun _ _ _ z => z
 ·dsimp only
  obtain ⟨oT, Na, _, nT, R0⟩ := id hp
  refine ZR (wpAny_seqItems Na R0 ?_)
  dsimp only
  have hpl : pl.length = es.size := by rw [pp.length_eq, acD]
  have hx : (pl.map fun (j : Nat) => adv j 0).toArray[((es.size : Nat) : Int).toNat]? = none := by simp [hpl]
  rw [hx]
  dsimp only
  refine ZR (J2 hit ?_)
  exact fin _ _ (J0 hit) fun b ob hb R1 => (abd _ _ (acr hb)).trans R1
 ·have EG : t.place.size = es.size := by have z := xY.sz; rw [aa7] at z; exact z
  have hk : ∃ k : Nat, first = .int k 0 ∧ es.size ≤ aaH t.place k := by
   rcases hw with ⟨z, rfl⟩ | ⟨z, k, rfl, hk⟩
   ·exact ⟨0, rfl, by omega⟩
   ·refine ⟨k, rfl, ?_⟩
    have q := iS t.place xY.tb.ri k
    rcases afy (aaH t.place k) es.size with y | y
    ·have := q.2.2 (aaH t.place k) (Z0 _) (by omega)
     have := hk (aaH t.place k) (by omega)
     omega
    ·exact y
  obtain ⟨k, rfl, hb⟩ := hk
  dsimp only
  unfold setNext
  obtain ⟨oa, BB, _, xg⟩ := id hS
  refine ZR (ZR (aaN BB xg hf ?_))
  dsimp only
  refine ZR (eC ?_)
  rw [hT]
  refine wpAny_ite_split (fun hab => absurd hab (by decide)) fun _ => ?_
  refine wpAny_ite_split (fun hab => absurd hab (show ¬ ((!t.plain && decide (es.size > 1)) = true) from by simp; omega)) fun _ => ?_
  refine ZR (show aar (model prog w) A.in1 (if (!t.led && !es.isEmpty) = true then unsupported "set:maker-not-led" else pure ()) _ _ s from ?_)
  rw [hl]
  refine wpAny_ite_split (fun hab => absurd hab (by simp)) fun _ => ?_
  refine ZW (ZW ?_)
  rw [ab6, adL.mpr hb]
  exact fin s.heap _ hit fun _ _ _ z => z
theorem Hd {n : Nat} {Q : ZS → ZU → Prop} (hit : fN s.heap I a first i n ep) (h : Q (.ref I) s) : aar (model prog w) A (pyIter (.ref I)) Q E s := by
 refine wpAny_pyIter_slot (fN.typeIs (h := s.heap) hit) F.j4 (wpAny_call_entry F.j4 (fN.typeIs (h := s.heap) hit) F.pH ?_ (F.qN _))
 show aar _ _ (ret (.ref I)) _ _ s
 exact ZW ⟨_, rfl, "set_iterator", _, fN.typeIs (h := s.heap) hit, F.bN.lookup, h⟩
theorem CH (hh : A.handled = none) (xY : xi t (es.map (·.1))) (M9 : I ≠ T) (hIa : I ≠ a) :
  Walks prog w A I [I, a, T] [I] es.size (fun i v => ord[i]? = some v) (fun i h => ∃ first, fN h I a first i es.size ep ∧ dG h a es ep t ∧ Way w h a es ep t pl T ord i first) where
 sub := fun b hb => by simp at hb; simp [hb]
 frame := fun i h h' ⟨first, ⟨o, ho, r⟩, ⟨o2, Ib, r2⟩, W⟩ hk => ⟨first, ⟨o, hk I (by simp) o ho, r⟩, ⟨o2, hk a (by simp) o2 Ib, r2⟩, by
  rcases W with z | ⟨z1, z2, ⟨o3, Xg, r3⟩, z4⟩ | z
  ·exact .inl z
  ·exact .inr (.inl ⟨z1, z2, ⟨o3, hk T (by simp) o3 Xg, r3⟩, z4⟩)
  ·exact .inr (.inr z)⟩
 item := fun i s Q E hi ⟨first, hit, hS, W⟩ hQ => next_item xY M9 hIa hit hS W hi fun v h' f' hv hit' W' sb => by
  obtain ⟨o2, Ib, r2⟩ := hS
  exact hQ v h' s.toks hv ⟨f', hit', ⟨o2, (sb.2 a (acr hIa)).trans Ib, r2⟩, W'⟩ fun b o hb ho => (sb.2 b (by simpa using hb)).trans ho
 done := fun s Q E ⟨first, hit, hS, W⟩ hQ => next_end hh xY hit hS W fun h' hx => hQ h' s.toks fun b o hb ho => hx b o (by simpa using hb) ho
 self := fun i s Q E ⟨first, hit, hS, W⟩ h => Hd hit h
end
end d9
namespace d9
open PySem
section
variable {prog : aao} {w : aaO} {A : aaA} {E : ZS → ZU → Prop} {s : ZU} {a : aac} {ep : Nat} {es : Array (Int × ZS)} {t : aaB}
theorem dG.push {h : Heap} (x : dG h a es ep t) (o : Obj) : dG (h.push o) a es ep t := let ⟨o', ho, r⟩ := x; ⟨o', ZV _ ho, r⟩
set_option maxHeartbeats 1000000 in
theorem He {Q : ZS → ZU → Prop} (xY : xi t (es.map (·.1))) (hS : dG s.heap a es ep t) (hl : t.led = !w.params.followText "set-order") (hp : 1 ≤ es.size → t.plain = false) (hsz : es.size < 1000)
  (hQ : ∀ I T first pl ord h' dr, s.heap.objs.size ≤ I → s.heap.objs.size ≤ T → I ≠ T → (∀ b o, s.heap.get? b = some o → h'.get? b = some o) → fN h' I a first 0 es.size ep → dG h' a es ep t → Way w h' a es ep t pl T ord 0 first → Q (.ref I) { s with heap := h', drawn := dr }) :
  aar (model prog w) A (pyIter (.ref a)) Q E s := by
 obtain ⟨o, ho, hc, hd⟩ := id hS
 have hT : s.TypeIs (.ref a) "set" := ⟨o, ho, hc⟩
 have hf := xY.fits
 refine wpAny_pyIter_slot hT F.slot_set_iter (wpAny_call_entry F.slot_set_iter hT F.pI ?_ (F.args_set_iter_1 _))
 unfold Builtin.«frozenset.__iter__»
 refine ZR (wpAny_of_eq (a := a) rfl ?_)
 dsimp only
 refine ZR (m := Builtin.Frozenset.sizeOf a) (show aar _ _ (setEntries a >>= fun es => pure es.size) _ _ _ from ZR (ml hS hf (ZW ?_)))
 refine ZR (m := setDrawn a) (show aar _ _ (setState a >>= fun q => setsByText >>= fun b => pure (!b && (!q.2.2.plain && decide (q.1.size > 1)))) _ _ _ from ZR (aaN ho hd hf (ZR (eC (ZW ?_)))))
 have UR : ∀ {A' : aaA} {E' : ZS → ZU → Prop} {s' : ZU} {Q' : Nat → ZU → Prop}, dG s'.heap a es ep t → Q' ep s' → aar (model prog w) A' (setEpoch a) Q' E' s' := fun {A' E' s' Q'} ⟨o', ho', _, hd'⟩ q => by
  unfold setEpoch
  exact ZR (aaN ho' hd' hf (ZW q))
 by_cases hdr : (!w.params.followText "set-order" && (!t.plain && decide (es.size > 1))) = true
 ·rw [if_pos hdr]
  have h1 : w.params.followText "set-order" = false := by simpa using (Bool.and_eq_true_iff.mp hdr).1
  refine ZR (BA _ _ _ _ (acD) fun l dr hp => ?_)
  have qg : l.length = es.size := by rw [hp.length_eq, acD]
  refine ZR (wpAny_newObj_type (T := "tuple") (data := .seq (l.map fun (i : Nat) => rawInt i).toArray) ?_ (by show (l.map fun (i : Nat) => rawInt i).toArray.size ≤ Z2; simp only [aag, Lm9]; rw [aak]; omega))
  refine ZR (UR (dG.push hS _) ?_)
  refine ZR (wpAny_newObj_type ?_ (by size_fits))
  refine ZW ⟨_, rfl, "set_iterator", _, ⟨_, Z8 _ rfl, rfl⟩, F.bN.lookup, ?_⟩
  have e1 : ∀ o, (s.heap.push o).objs.size = s.heap.objs.size + 1 := fun o => ab1 _ _
  refine hQ _ s.heap.objs.size (.ref s.heap.objs.size) l _ _ dr (by rw [e1]; omega) (Z0 _) (by rw [e1]; omega) (fun b o q => ZV _ (ZV _ q)) ⟨_, Z8 _ rfl, rfl, rfl⟩ (dG.push (dG.push hS _) _) (.inr (.inl ⟨h1, rfl, ⟨_, ZV _ (Z8 _ rfl), rfl, 0, rfl⟩, hp, rfl⟩))
 ·rw [if_neg hdr]
  refine ZR (ZW ?_)
  refine ZR (UR hS ?_)
  refine ZR (wpAny_newObj_type ?_ (by size_fits))
  refine ZW ⟨_, rfl, "set_iterator", _, ⟨_, Z8 _ rfl, rfl⟩, F.bN.lookup, ?_⟩
  cases h1 : w.params.followText "set-order" with
  | true => exact hQ s.heap.objs.size (s.heap.objs.size + 1) (.int 0 0) [] _ _ s.drawn (Z0 _) (by omega) (by omega) (fun b o q => ZV _ q) ⟨_, Z8 _ rfl, rfl, rfl⟩ (dG.push hS _) (.inl ⟨h1, rfl, rfl⟩)
  | false =>
   rw [h1] at hl hdr
   refine hQ s.heap.objs.size (s.heap.objs.size + 1) (.int 0 0) [] _ _ s.drawn (Z0 _) (by omega) (by omega) (fun b o q => ZV _ q) ⟨_, Z8 _ rfl, rfl, rfl⟩ (dG.push hS _) (.inr (.inr ⟨h1, hl, ?_, rfl, .inl ⟨rfl, rfl⟩⟩))
   rcases afy 1 es.size with q | q
   ·exfalso
    apply hdr
    rw [hp (by omega)]
    simp [q]
   ·exact q
end
end d9
namespace d9
open PySem PySem.W PyProof.Rows
section
variable {prog : aao} {w : aaO} {A : aaA} {E : ZS → ZU → Prop} {s : ZU} {a : aac} {ep : Nat} {es : Array (Int × ZS)} {t : aaB}
theorem EH {Q : Bool → ZU → Prop} (hT : s.TypeIs (.ref a) "set") (h : Q false s) : aar (model prog w) A (adC (.ref a)) Q E s := by
 unfold adC
 refine ZR (wpAny_specialOf hT PySem.F.slot_set_len.lookup ?_)
 generalize Nc : ("set.__len__" : String) = Xh
 wp_delta
 rw [show splitId Xh = some ("set", "__len__") from by subst Nc; decide +kernel]
 subst Nc
 refine ZR (wpAny_isInstance (T := "set") (b := true) hT (by rw [isSubtype_type]; kernel_rfl) ?_)
 refine wpAny_ite_split (fun hab => absurd hab (by decide)) (fun _ => ?_)
 refine wpAny_ite_split (fun _ => ?_) (fun hab => absurd (by decide +kernel) hab)
 refine ZR (wpAny_typeOf hT ?_)
 exact ZW h
theorem EI {ord : List ZS} {acc : Array ZS} (h : ItemsOf (fun i v => ord[i]? = some v) acc ord.length) : acc.toList = ord := by
 apply List.ext_getElem? fun j => ?_
 rcases afy j acc.size with hj | hj
 ·have e : acc[j]? = some acc[j] := ab3 hj
  rw [h.2 j _ e, adm, e]
 ·rw [aeF (by simpa using hj), aeF (by have := h.1; omega)]
theorem Ae {R : Result → ZU → Prop} (hh : A.handled = none) (xY : xi t (es.map (·.1))) (hA : dG s.heap a es ep t) (hl : t.led = !w.params.followText "set-order") (hp : 1 ≤ es.size → t.plain = false) (hsz : es.size < 1000)
  (S : aac) (US : S ≠ a) (res : ZS) (c₀ : Nat) (hS : s.heap.get? S = some { cls := .type "list", data := .seq #[] c₀ })
  (hR : ∀ h' tk dr qP c', (∀ b o, b ≠ S → s.heap.get? b = some o → h'.get? b = some o) → h'.get? S = some { cls := .type "list", dict := none, data := .seq qP c', slots := #[] } → qP.toList.Perm (es.toList.map (·.2)) → R (.ok (.ret res)) { s with heap := h', toks := tk, drawn := dr }) :
  aar (model prog w) A.in1 (acA (.ref S) (.ref a) res)
   (fun fin s' => match fin with | .done f => R (.ok f) s' | .again c' => c'.quiet = true ∧ codeAny (model prog w) A c' R s') (fun e s' => R (.error e) s') s := by
 have hn : es.size ≤ Z2 := by rw [aak]; omega
 have CD : s.TypeIs (.ref a) "set" := let ⟨o, ho, hc, _⟩ := hA; ⟨o, ho, hc⟩
 unfold acA
 refine ZR (wpAny_typeOf (T := "set") CD ?_)
 have h1 : ad3 (.ref S) (.ref a) = false := by simp [ad3, US]
 have h2 : (acS "set" == acS "list") = false := by decide
 have h3 : (acS "set" == acS "tuple") = false := by decide
 simp only [h1, h2, h3, Bool.or_false, Z7, if_false]
 refine ZR (He xY hA hl hp hsz fun I T first pl ord h1 dr hI hT M9 kp hit Nd W => ?_)
 have UT := aab hS
 have Xi : S ≠ I := aam (aaf UT hI)
 have Xj : S ≠ T := aam (aaf UT hT)
 have hIa : I ≠ a := by
  obtain ⟨o, ho, _⟩ := hA
  exact adj (aaf (aab ho) hI)
 have UU := CH (prog := prog) (A := A.in1) (w := w) (ep := ep) (pl := pl) (ord := ord) (T := T) hh xY M9 hIa
 have zq := vA (s := { s with heap := h1 }) W
 have Xk := EE (s := { s with heap := h1 }) W
 have hS1 := kp S _ hS
 have UW : S ∉ [I, a, T] := by simp only [aai, List.not_mem_nil, or_false, not_or]; exact ⟨Xi, US, Xj⟩
 have key : ∀ (h : Heap) (c₁ tk : Nat), (∃ first, fN h I a first 0 es.size ep ∧ dG h a es ep t ∧ Way w h a es ep t pl T ord 0 first) → (∀ b o, b ≠ S → s.heap.get? b = some o → h.get? b = some o) →
   h.get? S = some { cls := .type "list", data := .seq #[] c₁ } → codeAny (model prog w) A (.builtin "list.extend.loop" ⟨[.ref S, .ref I, res], []⟩) R { s with heap := h, toks := tk, drawn := dr } := by
  intro h c₁ tk hst hk R4
  refine codeAny_extend_loopS UU.toS hn S UW res es.size 0 _ #[] c₁ rfl (aaX _) hst R4 (ItemsOf.nil _) fun s' qP c' hm hS' hacc => ?_
  rw [Moved.eq_with hm]
  refine hR s'.heap s'.toks dr qP c' (fun b o hb e => hm.heap b o (fun hmem => ?_) (hk b o hb e)) hS' ?_
  ·rcases aai.mp hmem with e' | hmem
   ·exact hb e'
   ·exact absurd (aab e) (by rw [ZX.mp hmem]; exact Nat.not_lt.mpr hI)
  ·rw [← zq] at hacc
   rw [EI hacc]
   exact Xk
 refine ZR (wpAny_holding (EH (s := { s with heap := h1, drawn := dr }) (let ⟨o, ho, hc, _⟩ := Nd; ⟨o, ho, hc⟩) ?_))
 refine wpAny_ite_split (fun _ => ?_) (fun _ => ZW ⟨plainId_quiet adX _, key _ c₀ s.toks ⟨first, hit, Nd, W⟩ (fun b o _ e => kp b o e) hS1⟩)
 refine ZR (wpAny_rule ?_)
 refine ZR ?_
 show aar _ _ (updateSeq S (·.push .none) >>= fun _ => updateSeq S (·.pop)) _ _ _
 refine ZR (wpAny_updateSeq (s := { s with heap := h1, drawn := dr }) hS1 rfl ?_)
 have UX := abZ (abo (·.push aa4)) hS1 rfl
 refine wpAny_updateSeq (s := { s with heap := h1.update S (abo (·.push aa4)), drawn := dr }) (hz := by seq_fits) UX rfl ?_
 have Xl := abZ (abo (·.pop)) UX rfl
 refine ZW ⟨plainId_quiet adX _, key _ _ s.toks ?_ (fun b o hb e => ?_) Xl⟩
 ·refine UU.frame 0 _ _ ⟨first, hit, Nd, W⟩ fun b hb o e => ?_
  have UY : b ≠ S := fun h => UW (h ▸ hb)
  exact (abd _ _ (acr UY)).trans ((abd _ _ (acr UY)).trans e)
 ·exact (abd _ _ (acr hb)).trans ((abd _ _ (acr hb)).trans (kp b o e))
theorem xZ {R : List ZS → ZU → Prop} {ld : Bool} (hh : A.handled = none) (hS : SI ld s.heap a es) (hl : ld = !w.params.followText "set-order") (hsz : es.size < 1000)
  (h : ∀ h' tk dr acc, (∀ b o, s.heap.get? b = some o → h'.get? b = some o) → acc.Perm (es.toList.map (·.2)) → R acc { s with heap := h', toks := tk, drawn := dr }) : aar (model prog w) A (collect (.ref a)) R E s := by
 obtain ⟨oa, ep, t, BB, hex, xg, xY, _, _, _, _, hL, hP⟩ := hS
 have hA : dG s.heap a es ep t := ⟨oa, BB, hex.1, xg⟩
 unfold collect
 refine ZR (wpAny_runValue (codeAny_builtin entry_proto_collect' ?_))
 rw [aaR PySem.F.plain_proto_collect _]
 show aar _ A.in1 (newList [] >>= fun l => again (.builtin "list.__iadd__" ⟨[l, .ref a], []⟩)) _ _ s
 refine ZR (wpAny_newObj_type ?_)
 refine ZW ⟨plainId_quiet aef _, codeAny_builtin entry_list_iadd' ?_⟩
 rw [aaR aef _]
 have R4 : (s.heap.push { cls := .type "list", data := .seq ([] : List ZS).toArray }).get? s.heap.objs.size = some { cls := .type "list", data := .seq #[] } := Z8 _ rfl
 show aar _ A.in1 (acA (.ref s.heap.objs.size) (.ref a) (.ref s.heap.objs.size)) _ _ _
 have key := Ae (A := A) (w := w) (prog := prog) (s := { s with heap := s.heap.push { cls := .type "list", data := .seq ([] : List ZS).toArray } })
  (R := fun (q : Result) (s' : ZU) => ∃ (h' : Heap) (tk : Nat) (dr : _) (qP : Array ZS) (c' : Nat), q = .ok (.ret (.ref s.heap.objs.size)) ∧ s' = { s with heap := h', toks := tk, drawn := dr } ∧
   (∀ b o, s.heap.get? b = some o → h'.get? b = some o) ∧ h'.get? s.heap.objs.size = some { cls := .type "list", dict := none, data := .seq qP c', slots := #[] } ∧ qP.toList.Perm (es.toList.map (·.2)))
  hh xY (dG.push hA _) (hL.trans hl) hP hsz s.heap.objs.size (adj (aab BB)) (.ref s.heap.objs.size) 0 R4
  (fun h' tk dr qP c' hk hS' hacc => ⟨h', tk, dr, qP, c', rfl, rfl, fun b o e => hk b o (aam (aab e)) (ZV _ e), hS', hacc⟩)
 refine wpAny_mono key (fun fin s' x => ?_) fun e s' x => ?_
 ·cases fin with
  | done f =>
   obtain ⟨h', tk, dr, qP, c', e, rfl, hk, hS', hacc⟩ := x
   cases e
   show aar _ A (load s.heap.objs.size >>= _) _ _ _
   refine ZR (wpAny_load hS' ?_)
   exact ZW (h h' tk dr _ hk hacc)
  | again c₁ =>
   refine ⟨x.1, codeAny_mono x.2 fun q s₂ y => ?_⟩
   obtain ⟨h', tk, dr, qP, c', rfl, rfl, hk, hS', hacc⟩ := y
   show aar _ A (load s.heap.objs.size >>= _) _ _ _
   refine ZR (wpAny_load hS' ?_)
   exact ZW (h h' tk dr _ hk hacc)
 ·obtain ⟨_, _, _, _, _, e', _⟩ := x
  cases e'
end
end d9
namespace L2
open PySem PySem.Spec PyProof.Rows d9
theorem Inv.Xm {X : Cx} {pins : List (aac × Obj)} {σ : St} {H : Hp} {s : ZU} (I : Inv X pins σ H s) (dr : _) : Inv X pins σ H { s with drawn := dr } :=
 ⟨I.ok, I.os, I.bare, I.base, I.loc, I.cell, I.free, I.gj, I.pin, I.hok, I.len⟩
def CI (ld : Bool) (a : aac) (zs : List V) : HO := .ext fun h => ∃ es, SI ld h a es ∧ es.size < 1000 ∧ Vals zs (es.toList.map (·.2))
theorem uF {w : aaO} {K : ZQ} {H : Hp} : ∀ {es : List (Int × ZS)} {tr : List Tr}, Ii w K H es tr → ∃ zs, Vals zs (es.map (·.2)) ∧ Ts K H tr zs
 | _, _, .nil => ⟨[], .nil, rfl, fun i h => by simp at h⟩
 | _, _, .cons h t => by
  obtain ⟨_, _, y, hy, ry⟩ := h
  obtain ⟨zs, hv, hl, hT⟩ := uF t
  refine ⟨y :: zs, .cons ry hv, by simp [hl], fun i h1 h2 => ?_⟩
  match i with
  | 0 => exact hy
  | i + 1 => exact hT i (by simpa using h1) (by simpa using h2)
theorem BC {K : ZQ} {H : Hp} : ∀ {tr : List Tr} {zs : List V} {us : List ZS}, Ts K H tr zs → Vals zs us → Paired (fun (u : ZS) (t : Tr) => ∃ y, cC K H t.toD y ∧ RelV y u) us tr
 | [], [], _, _, .nil => .nil
 | [], _ :: _, _, h, _ => by have := h.1; simp at this
 | _ :: _, [], _, h, _ => by have := h.1; simp at this
 | t :: tr, z :: zs, _, h, .cons r q => .cons ⟨z, h.2 0 (by simp) (by simp), r⟩ (BC (tr := tr) (zs := zs) ⟨by have := h.1; simpa using this, fun i h1 h2 => h.2 (i + 1) (by simpa using h1) (by simpa using h2)⟩ q)
theorem BD {K : ZQ} {H : Hp} : ∀ {us : List ZS} {tr : List Tr}, Paired (fun (u : ZS) (t : Tr) => ∃ y, cC K H t.toD y ∧ RelV y u) us tr → ∃ zs, Vals zs us ∧ Ts K H tr zs
 | _, _, .nil => ⟨[], .nil, rfl, fun i h => by simp at h⟩
 | _, _, .cons h t => by
  obtain ⟨y, hy, ry⟩ := h
  obtain ⟨zs, hv, hl, hT⟩ := BD t
  refine ⟨y :: zs, .cons ry hv, by simp [hl], fun i h1 h2 => ?_⟩
  match i with
  | 0 => exact hy
  | i + 1 => exact hT i (by simpa using h1) (by simpa using h2)
theorem Hf {K : ZQ} {H : Hp} {tr : List Tr} {zs : List V} {us UZ : List ZS} (hT : Ts K H tr zs) (hv : Vals zs us) (p : UZ.Perm us) : ∃ By Nf, By.Perm tr ∧ Vals Nf UZ ∧ Ts K H By Nf := by
 obtain ⟨By, p1, p2⟩ := oX p (BC hT hv)
 obtain ⟨Nf, h1, h2⟩ := BD p2
 exact ⟨By, Nf, p1, h1, h2⟩
theorem EJ {h : Heap} {a : aac} {ld : Bool} (e : h.get? a = some { cls := .type "set", dict := none, data := .set #[] 0 (.fresh 0 0 ld) }) : SI ld h a #[] :=
 ⟨_, 0, .fresh 0 0 ld, e, ⟨rfl, rfl, rfl⟩, rfl, ⟨⟨fun i j _ hj => absurd hj (by simp [acK]), rfl⟩, by simp [acK], fun i hi => absurd hi (by simp [acK]), by simp, ⟨3, rfl⟩, fun i hi => absurd hi (by simp)⟩, by simp [acK], by simp [acK], by simp [acK], fun i hi => absurd hi (by simp), rfl, fun z => absurd z (by simp)⟩
section
variable {X : Cx}
def Ng (K : ZQ) (ld : Bool) : List V → Hp → VK → Prop := fun xs H Q => ∃ l ys ts, xs = [.ref l] ∧ aC K H l ys ∧ Ts K H ts ys ∧ ys.length < 900 ∧ (∀ t ∈ ts, (∃ q, t = .tup q) ∧ t.toD.deep ≤ 8 ∧ jI t = false) ∧
 ∀ p zs tr, H p = none → Ts K H tr zs → tr.Perm (dd ts) → Q (.ref p) (upd H p (CI ld p zs))
theorem CJ {ld : Bool} (hu : X.A.units + 80 < cLine) (hc : X.calm = true) (Nh : ld = !X.w.params.followText "set-order") : cK X (.type "set") (Ng X.K ld) := by
 subst Nh
 intro pins s σ H xs us Q I rx h
 obtain ⟨l, ys, ts, rfl, hq, hT, h9, RX, q⟩ := h
 obtain ⟨u, rfl, ru⟩ := vals1 rx
 cases ru
 obtain ⟨its, r, pl, hz⟩ := I.list hq
 have hlen := r.length
 refine qM (led := !X.w.params.followText "set-order") pl.isList rfl ?_
 refine codeAny_builtin lH ?_
 rw [aaR fu _]
 have e1 : (s.heap.push { cls := .type "set", dict := none, data := .set #[] 0 (.fresh 0 0 (!X.w.params.followText "set-order")) }).get? s.heap.objs.size = some { cls := .type "set", dict := none, data := .set #[] 0 (.fresh 0 0 (!X.w.params.followText "set-order")) } := Z8 _ rfl
 have e2 : (s.heap.push { cls := .type "set", dict := none, data := .set #[] 0 (.fresh 0 0 (!X.w.params.followText "set-order")) }).objs.size = s.heap.objs.size + 1 := ab1 _ _
 have e3 : ((s.heap.push { cls := .type "set", dict := none, data := .set #[] 0 (.fresh 0 0 (!X.w.params.followText "set-order")) }).push { cls := .type "list_iterator", data := .fields #[.ref l, .int 0 0] }).get? (s.heap.objs.size + 1) = some { cls := .type "list_iterator", data := .fields #[.ref l, .int 0 0] } := by
  rw [← e2]
  exact Z8 _ rfl
 refine ED (ld := !X.w.params.followText "set-order") (l := l) (ts := ts) (ys := ys) (its := its) I (A := X.A.in1.in1) (by show X.A.units + 1 + 1 + 60 < cLine; omega) (I.ok.hd hc) pl.isList r hT (by omega) RX (Z0 _) (Nat.le_succ _) (aam (aci _)) ?_ its.length 0 _ s.toks #[] [] (by omega) (aaX _) (fun b o z => ZV _ (ZV _ z)) ⟨_, e3, rfl, rfl⟩ (EJ (ZV _ e1)) .nil (.refl _)
 intro h' tk es tr kp hS hE hp
 obtain ⟨zs, hv, hT'⟩ := uF hE
 have hsz : es.size < 1000 := by
  have z1 := aad hE
  have z2 := hp.length_eq
  have z3 := jZ ts ts.length (Z0 _)
  rw [aau] at z3
  have z4 : es.toList.length = es.size := by simp
  have z5 := hT.1
  omega
 have hok : ∃ es, SI (!X.w.params.followText "set-order") h' s.heap.objs.size es ∧ es.size < 1000 ∧ Vals zs (es.toList.map (·.2)) := ⟨es, hS, hsz, hv⟩
 refine ⟨.ref s.heap.objs.size, _, I.laid (o := CI (!X.w.params.followText "set-order") s.heap.objs.size zs) (t' := tk) kp (Z0 _) (show ba _ _ _ _ _ (.ext _) from ⟨hok, ?_, fun h1 h2 z k => ?_⟩), rfl, q _ zs tr (I.hok.fresh (Z0 _)) hT' hp⟩
 ·obtain ⟨o, _, _, ho, _⟩ := hS
  exact ⟨o, ho⟩
 ·obtain ⟨Xn, ⟨o, ep, t, ho, r⟩, r2⟩ := z
  exact ⟨Xn, ⟨o, ep, t, k _ ho, r⟩, r2⟩
def J3 (K : ZQ) (ld : Bool) : List V → Hp → VK → Prop := fun xs H Q => ∃ r zs tr k, xs = [.ref r] ∧ H r = some (CI ld r zs) ∧ Ts K H tr zs ∧ tr.length < 64 ∧ (k = 1 ∨ k = 2) ∧ (∀ t ∈ tr, sj t = k ∧ t.toD.deep ≤ 18) ∧ (∀ t ∈ tr, ∀ u ∈ tr, oU t u = true) ∧
 ∀ p xf, H p = none → Ts K H (aI tr) xf → Q (.ref p) (upd H p (.lst xf))
theorem vB {ld : Bool} (hu : X.A.units + 64 < cLine) (hc : X.calm = true) (Nh : ld = !X.w.params.followText "set-order") : cK X (.builtin "sorted") (J3 X.K ld) := by
 subst Nh
 intro pins s σ H xs us Q I rx h
 obtain ⟨r, zs, tr, k, rfl, hr, hT, Bt, hk, hd, Ck, q⟩ := h
 obtain ⟨u, rfl, ru⟩ := vals1 rx
 cases ru
 obtain ⟨es, hS, hsz, hv⟩ := (show ba X.prog X.w H s.heap r (.ext _) from I.hok r _ hr).1
 refine acJ kind_sorted plain_sorted entry_sorted (args_sorted1 _) ?_
 unfold Builtin.«sorted»
 refine ZR (m := checkCount "sorted" 1 1 _) (ZW ?_)
 refine ZR (xZ (A := X.A.in1) (I.ok.hd hc) hS rfl hsz fun h' tk dr acc kp pa => ?_)
 have I1 : Inv X pins σ H { s with heap := h', toks := tk, drawn := dr } := (I.kept (t' := tk) kp).Xm dr
 obtain ⟨By, Nf, p1, hv', hT'⟩ := Hf hT hv pa
 have hl' : acc.length = By.length := by rw [← hv'.length]; exact hT'.1.symm
 have qg := p1.length_eq
 refine ZR (wpAny_newList ?_ (by rw [aak]; omega))
 have mT : ∀ E', aar (model X.prog X.w) X.A.in1.in1 (Builtin.«list.sort» ⟨[.ref h'.objs.size], []⟩) _ E' { s with heap := h'.push (seqObj "list" acc.toArray 0), toks := tk, drawn := dr } := fun E' =>
  Bv (s := { s with heap := h', toks := tk, drawn := dr }) (k := k) (ts := By) (P := fun fin s' => fin = .done (.ret .none) ∧ EP X pins σ Q (.ref h'.objs.size) s') (E := E') (by show X.A.units + 1 + 1 + 45 < cLine; omega) I1 hv' hT' (by omega) hk
   (fun t ht => hd t (p1.mem_iff.mp ht)) (fun t ht u RM => Ck t (p1.mem_iff.mp ht) u (p1.mem_iff.mp RM))
   fun xf s' I2 El => ⟨rfl, .ref h'.objs.size, _, I2, rfl, q _ _ (I1.hok.fresh (Z0 _)) (by rw [← fL p1]; exact El)⟩
 refine ZR (wpAny_holding (wpAny_call_entry slot_list_sort ⟨_, Z8 _ rfl, rfl⟩ entry_list_sort ?body (args_list_sort _)))
 case body =>
  refine wpAny_mono (mT _) (fun fin s' z => ?_) fun _ _ z => z
  obtain ⟨rfl, z⟩ := z
  exact ⟨_, rfl, ZW ⟨_, rfl, z⟩⟩
end
end L2
namespace L2
open PySem PySem.Spec PyProof.Rows
mutual
def toP : Tr → PyData
 | .int i => .int i
 | .str x => .str x
 | .tup l => .tuple (toPs l)
def toPs : List Tr → List PyData
 | [] => []
 | t :: r => toP t :: toPs r
end
mutual
theorem toP_depth : ∀ t : Tr, (toP t).depth = t.toD.deep
 | .int i => rfl
 | .str x => rfl
 | .tup l => by
  show aeG (toPs l) + 1 = Dt.bU (Tr.toDs l) + 1
  rw [toPs_depth l]
theorem toPs_depth : ∀ l : List Tr, aeG (toPs l) = Dt.bU (Tr.toDs l)
 | [] => rfl
 | t :: r => by
  show max (toP t).depth (aeG (toPs r)) = max t.toD.deep (Dt.bU (Tr.toDs r))
  rw [toP_depth t, toPs_depth r]
end
mutual
theorem toP_nodict : ∀ t : Tr, (toP t).hasDict = false
 | .int i => rfl
 | .str x => rfl
 | .tup l => by
  show ad4 (toPs l) = false
  exact toPs_nodict l
theorem toPs_nodict : ∀ l : List Tr, ad4 (toPs l) = false
 | [] => rfl
 | t :: r => by
  show ((toP t).hasDict || ad4 (toPs r)) = false
  rw [toP_nodict t, toPs_nodict r]
  rfl
end
section
variable {X : Cx} {pins : List (aac × Obj)} {σ : St} {H : Hp} {s : ZU}
mutual
theorem x2 (I : Inv X pins σ H s) : ∀ (t : Tr) {x : V} {u : ZS}, cC X.K H t.toD x → RelV x u → ∃ as, Reads s.heap u (toP t) as
 | .int i, x, u, h, r => by
  simp only [Tr.toD] at h
  cases h
  obtain ⟨t, rfl⟩ := r
  exact ⟨_, .int i t⟩
 | .str i, x, u, h, r => by
  simp only [Tr.toD] at h
  cases h
  obtain ⟨t, rfl⟩ := r
  exact ⟨_, .str i t⟩
 | .tup l, x, u, h, r => by
  obtain ⟨p, ys, its, rfl, ⟨o, ho, hc, n, hd⟩, rv, hT⟩ := jY I h r
  obtain ⟨as, z⟩ := oY I l hT rv
  exact ⟨as, .tuple ho hc hd z⟩
theorem oY (I : Inv X pins σ H s) : ∀ (l : List Tr) {ys : List V} {its : List ZS}, Ts X.K H l ys → Vals ys its → ∃ as, ReadsAll s.heap its (toPs l) as
 | [], [], _, _, .nil => ⟨_, .nil⟩
 | [], _ :: _, _, h, _ => by have := h.1; simp at this
 | _ :: _, [], _, h, _ => by have := h.1; simp at this
 | t :: l, y :: ys, _, h, .cons r q => by
  obtain ⟨as, z⟩ := x2 I t (h.2 0 (by simp) (by simp)) r
  obtain ⟨bs, z2⟩ := oY I l (ys := ys) ⟨by have := h.1; simpa using this, fun i h1 h2 => h.2 (i + 1) (by simpa using h1) (by simpa using h2)⟩ q
  exact ⟨_, .cons z z2⟩
end
end
section
variable {X : Cx} {e : Expr} {te : TE} {pre : Str} {j : Nat} {p1 p2 p3 : Pos}
def Ni (K : ZQ) (te : TE) : TE := fun σ H Q => te σ H fun y H1 => ∃ l, cC K H1 (Tr.tup l).toD y ∧ (Tr.tup l).toD.deep ≤ 18 ∧ (toP (.tup l)).showable = true ∧ (toP (.tup l)).shown.length ≤ 1000000 ∧ ∀ x, Q (.str x) H1
theorem BE (hg : X.A.guards = some []) (hu : X.A.units + 64 < cLine) (he : PE X e te) (hp : pre.length ≤ 1000 := by decide) : PE X (.JoinedStr [.Constant (.str pre) j p1, .FormattedValue e 114 none p2] p3) (Ni X.K te) := by
 intro pins s σ H Q I h
 refine wpAny_JoinedStr ?_
 refine adP ⟨pre, _, rfl, ?_, ?_⟩
 ·show (aaU ++ pre).length ≤ Z2
  rw [strLen_append, aak]
  have : aaU.length = 0 := rfl
  omega
 refine wpAny_FormattedValue_repr (cJ (he pins _ σ H _ (I.tok _) h) fun u s1 ⟨y, H1, I1, r1, l, hd, LI, hs, hz, q⟩ => ?_)
 obtain ⟨as, rd⟩ := x2 I1 (.tup l) hd r1
 obtain ⟨p, _, _, rfl, _⟩ := jY I1 hd r1
 have R5 := toP_depth (.tup l)
 refine pyReprObj_of_reads rd hs (fun z => by rw [toP_nodict] at z; cases z) hg (by rw [R5]; omega) (fun _ _ z => z) (fun h' tk t' kp => ?_) (by rw [aak]; omega)
 have hlen : (aaU ++ pre ++ (toP (.tup l)).shown).length ≤ Z2 := by
  rw [strLen_append, strLen_append, aak]
  have : aaU.length = 0 := rfl
  omega
 exact wpAny_formatField_str ⟨_, _, rfl, hlen, hlen, .str _, H1, I1.kept kp, ⟨_, rfl⟩, q _⟩ ⟨_, _, rfl, hlen, hlen, .str _, H1, I1.kept kp, ⟨_, rfl⟩, q _⟩ (by rw [aak]; omega)
end
def Hg (k : Str) (as : List Str) : Tr := .tup [.str k, .tup (as.map .str)]
def P7 (x : Str) : Prop := x.length ≤ 100 ∧ ∀ c ∈ x.cps.toList, c < 16 ^ 8
theorem qQ : ∀ (as : List Str), (∀ a ∈ as, P7 a) → afh (toPs (as.map .str)) = true ∧ ((ab9 (toPs (as.map .str))).map (·.length)).sum ≤ 1002 * as.length ∧ (ab9 (toPs (as.map .str))).length = as.length
 | [], _ => ⟨rfl, Z0 _, rfl⟩
 | a :: r, h => by
  obtain ⟨z1, z2, z3⟩ := qQ r fun b hb => h b (Z9 _ hb)
  have ha := h a (Z5 ..)
  have y := adq a ha.2
  refine ⟨z1, ?_, ?_⟩
  ·show (reprText a).length + ((ab9 (toPs (r.map .str))).map (·.length)).sum ≤ 1002 * (r.length + 1)
   have := ha.1
   omega
  ·show (ab9 (toPs (r.map .str))).length + 1 = r.length + 1
   omega
theorem Af {k : Str} {as : List Str} (hk : P7 k) (ha : ∀ a ∈ as, P7 a) (hl : as.length ≤ 100) : (toP (Hg k as)).showable = true ∧ (toP (Hg k as)).shown.length ≤ 1000000 := by
 obtain ⟨z1, z2, z3⟩ := qQ as ha
 have y := adq k hk.2
 constructor
 ·show (true && (afh (toPs (as.map .str)) && true)) = true
  rw [z1]
  rfl
 ·show (tupleText [reprText k, tupleText (ab9 (toPs (as.map .str)))]).length ≤ 1000000
  have a1 := tupleText_len_le [reprText k, tupleText (ab9 (toPs (as.map .str)))]
  have a2 := tupleText_len_le (ab9 (toPs (as.map .str)))
  simp only [aap, abO, ace, ado, aal, aaQ] at a1
  rw [z3] at a2
  have := hk.1
  omega
theorem uG : ∀ (as : List Str), Dt.bU (Tr.toDs (as.map .str)) = 0
 | [] => rfl
 | a :: r => by
  show max 0 (Dt.bU (Tr.toDs (r.map .str))) = 0
  rw [uG r]
  rfl
theorem dz (k : Str) (as : List Str) : (Hg k as).toD.deep = 2 := by
 show max 0 (max (Dt.bU (Tr.toDs (as.map .str)) + 1) 0) + 1 = 2
 rw [uG]
 rfl
theorem nB {K : ZQ} {H : Hp} {t : aac} {as : List Str} (h : aK K H t (as.map .str)) : cC K H (Tr.tup (as.map .str)).toD (.ref t) := by
 simp only [Tr.toD]
 refine .tup h (by rw [toDs_length, Lm9, Lm9]) fun i h1 h2 => ?_
 rw [toDs_get _ i (by rw [toDs_length] at h1; exact h1)]
 simp only [Z3]
 simp only [Tr.toD]
 exact .str _
theorem EK {K : ZQ} {H : Hp} {t t2 : aac} {k : Str} {as : List Str} (h1 : aK K H t [.str k, .ref t2]) (h2 : aK K H t2 (as.map .str)) : cC K H (Hg k as).toD (.ref t) := by
 show cC K H (.tup [.str k, (Tr.tup (as.map .str)).toD]) (.ref t)
 refine .tup h1 rfl fun i i1 i2 => ?_
 match i, i1, i2 with
 | 0, _, _ => exact .str _
 | 1, _, _ => exact nB h2
def qR (P : aao) (w : aaO) (K : ZQ) (mg : Str → Option ZS) (base : Heap) (x : Str) (k : Nat) (ps : List Str) (sp : Sp) : Prop :=
 ∃ f fd, bD P w K mg base (zm P w) k f fd ps sp ∧ Binds K fd ps [] ∧ ab0 K (.ref f) = true ∧ mg x = some (.ref f)
section
variable {P : aao} {w : aaO} {K : ZQ} {mg : Str → Option ZS} {base : Heap} {N : List Str} {qual : Str} {scope : Scope} {f : aac} {cd : ZS} {A : aaA} {outer : List Env} {s₀ : ZU} {H₀ : Hp} {E : XK} {x : Str} {k : Nat} {ps : List Str} {sp : Sp} {p pos : Pos} {e : Expr} {es : List Expr} {t : TA}
theorem fO (c : qR P w K mg base x k ps sp) (hr : eJ k (iG P w K mg base N qual scope f cd A outer s₀ H₀ E).A) (hg : Gl (iG P w K mg base N qual scope f cd A outer s₀ H₀ E) x) (ha : PA (iG P w K mg base N qual scope f cd A outer s₀ H₀ E) (e :: es) t)
  (xr : (x == ("__debug__" : Str)) = false := by decide) (he : starEach (e :: es) (iG P w K mg base N qual scope f cd A outer s₀ H₀ E).env = (false, eval e (iG P w K mg base N qual scope f cd A outer s₀ H₀ E).env) :: starEach es (iG P w K mg base N qual scope f cd A outer s₀ H₀ E).env := by rfl)
  (hpl : (backTo pos (starEach es (iG P w K mg base N qual scope f cd A outer s₀ H₀ E).env)).any (·.1) = false := by rfl) : PE (iG P w K mg base N qual scope f cd A outer s₀ H₀ E) (.Call (.Name x p) (e :: es) [] pos) (DO sp [] E t) := by
 obtain ⟨f', fd, F, b, kp, mg⟩ := c
 exact Bb F hr hg mg kp b .nil Mw ha xr he hpl
end
section
variable {X : Cx} {x : Str} {k : Nat} {ps : List Str} {sp : Sp} {p pos : Pos} {e : Expr} {es : List Expr} {t : TA} {pn : List (aac × Obj)} {R : ZS → St → Hp → Prop}
theorem EL (c : qR X.prog X.w X.K X.mg X.base x k ps sp) (hr : eJ k X.A) (hg : Gl X x) (ha : PA (m4 X pn R) (e :: es) t) (xr : (x == ("__debug__" : Str)) = false := by decide) (he : starEach (e :: es) X.env = (false, eval e X.env) :: starEach es X.env := by rfl) (hpl : (backTo pos (starEach es X.env)).any (·.1) = false := by rfl) :
  PE (m4 X pn R) (.Call (.Name x p) (e :: es) [] pos) (D0 sp [] R t) := by
 obtain ⟨f', fd, F, b, kp, mg⟩ := c
 exact D1 F hr hg mg kp b .nil ha xr he hpl
end
end L2
namespace L2
open PySem PySem.Spec PyProof.Rows
theorem BF {prog : aao} {w : aaO} {A : aaA} {E : ZS → ZU → Prop} {s : ZU} {a : aac} {xs : Array ZS} {k : Nat} {sl : Array (Option ZS)} {Q : Option ZS → ZU → Prop}
  (hx : s.heap.get? a = some ⟨.type "tuple", none, .seq xs k, sl⟩) (hA : A.handled = none)
  (h : ∀ h' tk e, Heap.NewExcOf s.heap h' e "AttributeError" → Q none { s with heap := h', toks := tk }) :
  aar (model prog w) A (getAttr? (.ref a) "keys") Q E s := by
 obtain ⟨hp, g, d, tk, os⟩ := s
 have hT : ∀ tk', (⟨hp, g, d, tk', os⟩ : ZU).TypeIs (.ref a) "tuple" := fun _ => ⟨_, hx, rfl⟩
 have f1 := sub_AttributeError
 have f3 := aca.lookup
 have f4 := aca.bind (.ref a)
 have f5 := am_tuple_getattr_none
 have hmiss : typeLookup (.type "tuple") "keys" = pure none := by rw [typeLookup_type, builtinLookup_eq_fast]; kernel_rfl
 unfold getAttr? getAttrBy? getAttrBy
 repeat (any_goals (first | assumption | exact hT _ | ((with_reducible show aar _ _ (call (afe "tuple.__getattribute__") _ _) _ _ _); refine call_meets aca (hT _) am_entry_tuple_getattribute (PySem.F.args_tuple_getattribute_2 _ _) (meets_getattribute_miss_tuple a xs k sl "keys" _ hmiss (by decide +kernel) (by decide)) ⟨hx, hA, fun h' tk' e hx' => ?_⟩) | wp_step))
 obtain ⟨t', u', he⟩ := hx'.there
 show aar _ _ (getattributeRaised _ _ _ _ _ _ _) _ _ _
 unfold getattributeRaised
 repeat (any_goals (first | assumption | wp_step))
 exact h _ _ _ hx'.of
section
variable {X : Cx}
def Nil0 (K : ZQ) (a : aac) : Prop := ∃ n sl, K.lookup a = some ⟨.type "tuple", none, .seq #[] n, sl⟩
theorem sT (hc : X.calm = true) : cK X (.type "dict") (fun xs H Q => ∃ a, xs = [.ref a] ∧ Nil0 X.K a ∧ ∀ d, H d = none → Q (.ref d) (upd H d (.dK []))) := by
 intro pins s σ H xs us Q I r h
 obtain ⟨l, rfl, ⟨n, sl, hl⟩, q⟩ := h
 obtain ⟨u, rfl, ru⟩ := vals1 r
 cases (show u = aaC l from ru)
 have hh := I.ok.hd hc
 have hg : s.heap.get? l = some ⟨.type "tuple", none, .seq #[] n, sl⟩ := I.si l _ hl
 have hf : H s.heap.objs.size = none := I.hok.fresh (Z0 _)
 refine callType_codes (Q₁ := fun obj s₁ => obj = .ref s.heap.objs.size ∧ s₁ = { s with heap := s.heap.push { cls := .type "dict", data := .dict #[] } }) ac9 (acF _) ac4 (kt_code_dict_new _ ⟨rfl, rfl⟩) ?_
 rintro obj s₁ ⟨rfl, rfl⟩
 have qz : (s.heap.push { cls := .type "dict", data := .dict #[] }).DictOf (aF X.prog X.w) s.heap.objs.size [] := aeA s.heap
 refine ⟨qz.typeIs, acV _ _, ?_⟩
 unfold Builtin.«dict.__init__»
 refine ZR ?_
 unfold acW
 refine ZR (wpAny_notOrdered_dict qz.typeIs ?_)
 show aar _ _ (pure (s.heap.objs.size, [aaC l])) _ _ _
 refine ZW ?_
 show aar _ _ (abu "dict.__init__" s.heap.objs.size (.ref l) [] .none) _ _ _
 unfold abu
 have zP : (s.heap.push { cls := .type "dict", data := .dict #[] }).get? l = some ⟨.type "tuple", none, .seq #[] n, sl⟩ := ZV _ hg
 refine ZR (wpAny_typeOf (T := "tuple") ⟨_, zP, rfl⟩ ?_)
 rw [if_pos (by decide)]
 refine ZR (BF zP hh fun h1 GU e hx => ?_)
 rw [if_pos (show (none : Option ZS).isNone = true from rfl)]
 refine ZR (wpAny_rule ?_)
 have GV := hx.keeps _ _ zP
 have hd2 : h1.DictOf (aF X.prog X.w) s.heap.objs.size [] := by
  obtain ⟨o, es, ep, ho, r⟩ := qz
  exact ⟨o, es, ep, hx.keeps _ _ ho, r⟩
 have pD : s.heap.objs.size < h1.objs.size := by
  obtain ⟨o, es, ep, ho, r⟩ := hd2
  exact aab ho
 have Eb : h1.IsTuple l #[] := ⟨_, GV, rfl, n, rfl⟩
 refine ZR (wpAny_pyIter_tuple (s := { s with heap := h1, toks := GU }) Eb ?_)
 refine ZW ⟨plainId_quiet plain_dul _, codeAny_builtin entry_dul ?_⟩
 rw [aaR plain_dul _]
 have GW : ∀ b o, s.heap.get? b = some o → (h1.push { cls := .type "tuple_iterator", data := .fields #[.ref l, .int 0 0] }).get? b = some o := fun b o q => ZV _ (hx.keeps _ _ (ZV _ q))
 unfold Builtin.«dict.update.loop»
 dsimp only [rawInt]
 refine ZR (wpAny_pyNext_tuple_end (s := { s with heap := h1.push { cls := .type "tuple_iterator", data := .fields #[.ref l, .int 0 0] }, toks := GU }) (A := X.A.in1.in1) (i := 0) hh ⟨_, Z8 _ rfl, rfl, rfl⟩ (show (h1.push _).IsTuple l #[] from ⟨_, ZV _ GV, rfl, n, rfl⟩) (by simp) fun h2 m7 => ?_)
 dsimp only
 have lQ : h2.DictOf (aF X.prog X.w) s.heap.objs.size [] := (hd2.push _).extBut m7 (aam pD)
 show aar _ _ (acU s.heap.objs.size [] >>= _) _ _ _
 refine ZR (ZW (ZW ?_))
 have kp : ∀ b o, s.heap.get? b = some o → h2.get? b = some o := fun b o q => m7 b o (aam (afv (aab q) pD)) (GW b o q)
 refine ⟨rfl, .ref s.heap.objs.size, upd H s.heap.objs.size (.dK []), I.laid (t' := GU) kp (Z0 _) ?_, rfl, q _ hf⟩
 refine ⟨aaX _, ?_, [], .nil, lQ⟩
 exact beq_eq_false_iff_ne.mpr (adj I.big)
end
end L2
namespace Bk
open PySem L2 cI
def pJ (p : Cs) : Prop := p ≠ [] ∧ p.length ≤ 100 ∧ ∀ c ∈ p, c < 16 ^ 8
theorem pJ.U0 {p : Cs} (h : pJ p) : P7 (S p) := ⟨by rw [bc]; exact h.2.1, by rw [aZ]; exact h.2.2⟩
structure FS (f : Fc) : Prop where
 k : pJ f.k
 as : ∀ a ∈ f.as, pJ a
 n : f.as.length ≤ 100
def fT (f : Fc) : Tr := Hg (S f.k) (f.as.map S)
def fault (ks : List Kd) (f : Fc) : Nat := match ks.find? (fun k => decide (k.n = f.k)) with
 | none => 1
 | some k => if k.c = f.as.length then 0 else 2
def dH (ks : List Kd) : List Fc → Nat
 | [] => 0
 | f :: r => if fault ks f = 0 then dH ks r else fault ks f
theorem Ka (ks : List Kd) (p : Cs) : eL (ks.map m9) (abi (S p) : Key) = (ks.find? (fun k => decide (k.n = p))).map fun k => V.int k.c := by
 unfold eL
 induction ks with
 | nil => rfl
 | cons k r ih =>
  rw [aap, aaP, aaP]
  have e : (decide ((m9 k).1 = (abi (S p) : Key))) = decide (k.n = p) := by
   show decide ((abi (S k.n) : Key) = abi (S p)) = decide (k.n = p)
   refine decide_eq_decide.mpr ⟨fun h => ?_, fun h => by rw [h]⟩
   have z := adw h
   have z2 := congrArg (fun x : Str => x.cps.toList) z
   simpa using z2
  rw [e]
  cases decide (k.n = p) with
  | true => rfl
  | false => exact ih
theorem dI (l : List Cs) : l.map tx = (l.map S).map V.str := by rw [aaJ]; rfl
theorem Fact.Hh {K : ZQ} {H : Hp} {f : Fc} {v : V} (h : Fact K H f v) : cC K H (fT f).toD v := by
 obtain ⟨t, t2, rfl, h1, h2⟩ := h
 exact EK h1 (by rw [← dI]; exact h2)
theorem FS.shown {f : Fc} (h : FS f) : (toP (fT f)).showable = true ∧ (toP (fT f)).shown.length ≤ 1000000 :=
 Af h.k.U0 (fun a ha => by obtain ⟨b, hb, rfl⟩ := Z1.mp ha; exact (h.as b hb).U0) (by rw [Lm9]; exact h.n)
structure KF (K : ZQ) (H : Hp) (lk lf : aac) (ks : List Kd) (fs : List Fc) : Prop where
 hk : ∃ kvs, H lk = some (.lst kvs) ∧ Paired (Kind K H) ks kvs
 nd : (ks.map (·.n)).Nodup
 few : ks.length ≤ 10000
 hf : ∃ mP, H lf = some (.lst mP) ∧ Paired (Fact K H) fs mP
 ok : ∀ f ∈ fs, FS f
theorem Kind.sm {K : ZQ} {H H' : Hp} (s : af H H') {k : Kd} {v : V} (h : Kind K H k v) : Kind K H' k v := by
 obtain ⟨t, e, q⟩ := h
 exact ⟨t, e, q.same s⟩
theorem Fact.sm {K : ZQ} {H H' : Hp} (s : af H H') {f : Fc} {v : V} (h : Fact K H f v) : Fact K H' f v := by
 obtain ⟨t, t2, e, q, q2⟩ := h
 exact ⟨t, t2, e, q.same s, q2.same s⟩
theorem KF.keep {K : ZQ} {H H' : Hp} {lk lf : aac} {ks : List Kd} {fs : List Fc} (s : af H H') (h : KF K H lk lf ks fs) : KF K H' lk lf ks fs := by
 obtain ⟨⟨kvs, a1, a2⟩, a3, a4, ⟨mP, a5, a6⟩, a7⟩ := h
 exact ⟨⟨kvs, s _ _ a1, ao a2 (fun _ _ _ => Kind.sm s)⟩, a3, a4, ⟨mP, s _ _ a5, ao a6 (fun _ _ _ => Fact.sm s)⟩, a7⟩
def qS (C1 C2 : aac) (n : Nat) (H : Hp) (E : XK) : Prop := (n = 1 → ∀ H', af H H' → E (.ref C1) none H') ∧ (n = 2 → ∀ H', af H H' → E (.ref C2) none H')
def qT (K : ZQ) (C1 C2 : aac) : Sp := fun vs H Q E => ∃ (lk lf : aac) (ks : List Kd) (fs : List Fc), vs = [.ref lk, .ref lf] ∧ KF K H lk lf ks fs ∧ qS C1 C2 (dH ks fs) H E ∧ (dH ks fs = 0 → ∀ H', af H H' → Q .bB H')
theorem x3 {ks : List Kd} {fs : List Fc} {i : Nat} (h : i < fs.length) : dH ks (fs.drop i) = if fault ks fs[i] = 0 then dH ks (fs.drop (i + 1)) else fault ks fs[i] := by
 rw [aaw h]
 rfl
end Bk
namespace Bk
open PySem L2 cI
def zu (acc : List Cs) (n : Cs) : List Cs := if great n = true then (if n ∈ acc then acc else acc ++ [n]) else acc
def kn (acc ns : List Cs) : List Cs := ns.foldl zu acc
theorem qU : ∀ (ns acc : List Cs), (kn acc ns).length ≤ acc.length + ns.length
 | [], acc => by simp [kn]
 | n :: r, acc => by
  have z := qU r (zu acc n)
  have y : (zu acc n).length ≤ acc.length + 1 := by
   unfold zu
   split
   ·split
    ·omega
    ·simp
   ·omega
  show (kn (zu acc n) r).length ≤ _
  rw [aal]
  omega
theorem pZ {K : ZQ} {H : Hp} {d t : aac} {kvs : List (Key × V)} {o : HO} {xs : List V} (hd : H d = some (.dK kvs)) (h : aK K H t xs) : aK K (upd H d o) t xs := by
 rcases h with (h | ⟨ob, h⟩) | h
 ·refine .inl (.inl ?_)
  rw [aE (fun e => by rw [e, hd] at h; cases h)]
  exact h
 ·refine .inl (.inr ⟨ob, ?_⟩)
  rw [aE (fun e => by rw [e, hd] at h; cases h)]
  exact h
 ·exact .inr h
theorem EM {H : Hp} {a : aac} {o : HO} (h : H a = some o) : upd H a o = H := by
 funext b
 unfold upd
 split
 ·rename_i e; rw [e, h]
 ·rfl
end Bk
namespace L2
open PySem PySem.Spec PyProof.Rows
end L2
namespace Bk
open PySem L2 cI
def eQ (ks : List Kd) : List Cs := (ks.filter (·.l)).map (·.n)
def dJ (ks : List Kd) (fs : List Fc) : List Fc := fs.filter fun f => !decide (f.k ∈ eQ ks)
def cL (ks : List Kd) (fs : List Fc) : List Fc := fs.filter fun f => decide (f.k ∈ eQ ks)
def eR (K : ZQ) (H : Hp) (v : V) (ps ls ns : List Tr) : Prop := ∃ p t0 t1 t2 y0 y1 y2, v = .ref p ∧ aK K H p [.ref t0, .ref t1, .ref t2, .bl false] ∧ aK K H t0 y0 ∧ Ts K H ps y0 ∧ aK K H t1 y1 ∧ Ts K H ls y1 ∧ aK K H t2 y2 ∧ Ts K H ns y2
theorem qS.zero {C1 C2 : aac} {H : Hp} {E : XK} : qS C1 C2 0 H E := ⟨fun e => (by cases e), fun e => (by cases e)⟩
theorem qW {K : ZQ} {H : Hp} : ∀ {fs : List Fc} {ys : List V}, Paired (Fact K H) fs ys → Ts K H (fs.map fT) ys := fun {fs ys} h => by
 have hl := aad h
 refine ⟨by rw [Lm9]; exact hl, fun i h1 h2 => ?_⟩
 rw [Z3]
 exact Fact.Hh (paired_at h i (by simpa using h1) h2)
theorem x4 (f : Fc) : sj (fT f) = 1 ∧ (fT f).toD.deep ≤ 18 := ⟨rfl, by unfold fT; rw [dz]; decide⟩
theorem BG : ∀ (a b : List Str), nu (a.map Tr.str) (b.map Tr.str) = true
 | [], _ => by simp [nu]
 | _ :: _, [] => by simp [nu]
 | x :: a, y :: b => by simp [nu, oU, BG a b]
theorem BH (f g : Fc) : oU (fT f) (fT g) = true := by
 have z := BG (f.as.map S) (g.as.map S)
 unfold fT Hg
 simp only [oU, nu, aff, Bool.and_true]
 exact z
theorem Nj (f : Fc) : jI (fT f) = false := by
 unfold fT Hg
 simp [jI, fM]
theorem bq {K : ZQ} {H H' : Hp} (s : af H H') {ts : List Tr} {ys : List V} (h : Ts K H ts ys) : Ts K H' ts ys := ⟨h.1, fun i h1 h2 => (h.2 i h1 h2).same s⟩
end Bk
namespace L2
open PySem
theorem eJ.R6 {k : Nat} {A : aaA} (r : eJ k A) : A.units + 80 < cLine := by have := r.un; omega
end L2
namespace Bk
open PySem L2 cI
theorem EN (acc a b : List Cs) : kn acc (a ++ b) = kn (kn acc a) b := by unfold kn; rw [abh]
theorem uH {fs : List Fc} {i : Nat} (h : i < fs.length) : (fs.take (i + 1)).flatMap (·.as) = (fs.take i).flatMap (·.as) ++ fs[i].as := by
 rw [Z4 h, acQ]
 simp
theorem j5 : ∀ {fs : List Fc}, (∀ f ∈ fs, FS f) → (fs.flatMap (·.as)).length ≤ 100 * fs.length
 | [], _ => by simp
 | f :: r, h => by
  have z := j5 (fs := r) fun g hg => h g (Z9 _ hg)
  have y := (h f (Z5 ..)).n
  rw [acE, Z6, aal]
  omega
theorem x5 {K : ZQ} {H : Hp} {d : aac} {kvs : List (Key × V)} {o : HO} {f : Fc} {v : V} (hd : H d = some (.dK kvs)) (h : Fact K H f v) : Fact K (upd H d o) f v := by
 obtain ⟨t, t2, e, h1, h2⟩ := h
 exact ⟨t, t2, e, pZ hd h1, pZ hd h2⟩
theorem qX {H : Hp} {d l : aac} {kvs : List (Key × V)} {xs : List V} (hd : H d = some (.dK kvs)) (hl : H l = some (.lst xs)) : l ≠ d := fun e => by rw [e, hd] at hl; cases hl
end Bk
namespace L2
theorem BI {acc : List Tr} {t u : Tr} (h : u ∈ og acc t) : u ∈ acc ∨ u = t := by
 unfold og at h
 split at h
 ·exact .inl h
 ·rcases ZY.mp h with z | z
  ·exact .inl z
  ·exact .inr (ZX.mp z)
theorem EO {l : List Tr} {t : Tr} (h : t ∈ dd l) : t ∈ l := by
 have key : ∀ (l acc : List Tr), t ∈ l.foldl og acc → t ∈ acc ∨ t ∈ l := by
  intro l
  induction l with
  | nil => intro acc h; exact .inl h
  | cons x r ih =>
   intro acc h
   rcases ih (og acc x) h with z | z
   ·rcases BI z with y | y
    ·exact .inl y
    ·exact .inr (by rw [y]; exact Z5 ..)
   ·exact .inr (Z9 _ z)
 rcases key l [] h with z | z
 ·cases z
 ·exact z
end L2
namespace L2
open PySem PySem.Spec PyProof.Rows
section
variable {X : Cx}
def Hi (K : ZQ) : R2 := fun x y H Q => ∃ p ys ts l, y = .ref p ∧ aC K H p ys ∧ Ts K H ts ys ∧ cC K H (Tr.tup l).toD x ∧ (Tr.tup l).toD.deep ≤ 8 ∧ (∀ t ∈ ts, (∃ q, t = .tup q) ∧ t.toD.deep ≤ 8) ∧ Q (.bl (!(ts.any fun a => eqT a (.tup l)))) H
theorem CK (hu : X.A.units + 64 < cLine) : pT X (compareOp .NotIn) (Hi X.K) := by
 intro pins s σ H x y v u Q I rx ry h
 obtain ⟨p, ys, ts, l, rfl, hq, ⟨hl, hT⟩, hd, LI, El, q⟩ := h
 cases ry
 obtain ⟨its, r, pl, hz⟩ := I.list hq
 have hlen := r.length
 have at_ : ∀ i (hi : i < its.length), ∃ a, ys[i]'(by omega) = .ref a ∧ its[i] = .ref a := fun i hi => by
  obtain ⟨u1, f1, q1⟩ := r.get (i := i) (x := ys[i]'(by omega)) (by simp)
  have e1 : its[i] = u1 := (ZZ.mp f1).2
  obtain ⟨⟨qq, eq⟩, _⟩ := El _ (ZT (show i < ts.length by omega))
  have z := hT i (by omega) (by omega)
  rw [eq] at z
  obtain ⟨a, _, _, ea, _⟩ := jY I z q1
  have hy : ys[i]'(by omega) = .ref a := by
   simp only [Tr.toD] at z
   cases U1 : ys[i]'(by omega) with
   | ref b => rw [U1] at q1; cases q1; cases ea; rfl
   | _ => rw [U1] at z; cases z
  exact ⟨a, hy, by rw [e1, ea]⟩
 have R7 : ∀ i j (hi : i < its.length) (hj : j < its.length), its[i] = its[j] → ts[i]'(by omega) = ts[j]'(by omega) := fun i j hi hj e => by
  obtain ⟨a, ya, ia⟩ := at_ i hi
  obtain ⟨b, yb, ib⟩ := at_ j hj
  rw [ia, ib] at e
  have e : a = b := by injection e
  subst e
  have z1 := hT i (by omega) (by omega)
  have z2 := hT j (by omega) (by omega)
  rw [ya] at z1
  rw [yb] at z2
  exact nj (xA I rfl 8 (El _ (ZT (show i < ts.length by omega))).2 z1 z2)
 classical
 let e : ZS → Bool := fun w => decide (∃ i, ∃ hi : i < its.length, its[i] = w ∧ eqT (ts[i]'(by omega)) (.tup l) = true)
 have ee : ∀ i (hi : i < its.length), e its[i] = eqT (ts[i]'(by omega)) (.tup l) := fun i hi => by
  cases hb : eqT (ts[i]'(by omega)) (.tup l) with
  | true => exact decide_eq_true ⟨i, hi, rfl, hb⟩
  | false =>
   refine decide_eq_false ?_
   rintro ⟨j, hj, ej, tj⟩
   rw [R7 j i hj hi ej, hb] at tj
   cases tj
 refine afb e pl.isList (fun w hw => ?_) ⟨.bl _, H, I, rfl, ?_⟩
 ·have hw : w ∈ its := by simpa using hw
  obtain ⟨i, hi, rfl⟩ := aa2.mp hw
  rw [ee i hi]
  obtain ⟨u1, f1, q1⟩ := r.get (i := i) (x := ys[i]'(by omega)) (by simp)
  have e1 : its[i] = u1 := (ZZ.mp f1).2
  rw [e1]
  exact jV I rfl 8 X.A.in1 (El _ (ZT (show i < ts.length by omega))).2 (by show X.A.units + 1 + 8 < cLine; omega) (hT i (by omega) (by omega)) hd q1 rx
 ·have e2 : its.toArray.any e = ts.any fun a => eqT a (.tup l) := by
   rw [show its.toArray.any e = its.any e by simp]
   have e3 : its.map e = ts.map fun a => eqT a (.tup l) := by
    apply acg (by simp; omega)
    intro i h1 h2
    rw [Z3, Z3]
    exact ee i (by simpa using h1)
   have e4 : ∀ {α : Type} (l : List α) (f : α → Bool), l.any f = (l.map f).any id := fun l f => by rw [List.any_map]; rfl
   rw [e4, e3, ← e4]
  rw [e2]
  exact q
end
end L2
namespace Bk
open PySem L2 cI
def Ag (K : ZQ) (H : Hp) (l : aac) (ks : List Kd) : Prop := ∃ kvs, H l = some (.lst kvs) ∧ Paired (Kind K H) ks kvs
def Kb (K : ZQ) (H : Hp) (l : aac) (fs : List Fc) : Prop := ∃ mP, H l = some (.lst mP) ∧ Paired (Fact K H) fs mP
theorem Ag.sm {K : ZQ} {H H' : Hp} {l : aac} {ks : List Kd} (s : af H H') (h : Ag K H l ks) : Ag K H' l ks := by
 obtain ⟨kvs, h1, h2⟩ := h
 exact ⟨kvs, s _ _ h1, ao h2 fun _ _ _ => Kind.sm s⟩
structure K4 (ks : List Kd) : Prop where
 len : ks.length = 4
 nd : (ks.map (·.n)).Nodup
 ok : ∀ k ∈ ks, aP k.n = true ∧ k.c ≤ 4
def vC (K : ZQ) : Sp := fun vs H Q _ => ∃ (c : Int) (l : aac) (ns : List Int), vs = [.int c, .ref l] ∧ aC K H l (ns.map V.int) ∧ 1 ≤ ns.length ∧ ns.length ≤ 100 ∧ (∀ n ∈ ns, 0 ≤ n ∧ n ≤ 4) ∧
 ∀ (p : aac) (ks : List Kd) (H' : Hp), af H H' → H p = none → Ag K H' p ks → K4 ks → Q (.ref p) H'
def vD (K : ZQ) : Sp := fun vs H Q _ => ∃ (lk ln : aac) (c : Int) (ks : List Kd) (ns : List Cs), vs = [.ref lk, .ref ln, .int c] ∧ Ag K H lk ks ∧ K4 ks ∧ H ln = some (.lst (ns.map tx)) ∧ 1 ≤ ns.length ∧ ns.length ≤ 100 ∧
 ∀ (v : V) (f : Fc) (H' : Hp), af H H' → Fact K H' f v → (∃ k ∈ ks, f.k = k.n ∧ f.as.length = k.c) → (∀ a ∈ f.as, a ∈ ns) → Q v H'
def qY (K : ZQ) : Sp := fun vs H Q _ => ∃ (la t : aac) (acc ns : List Cs), vs = [.ref la, .ref t] ∧ H la = some (.lst (acc.map tx)) ∧ aK K H t (ns.map tx) ∧ acc.length + ns.length ≤ 100000 ∧ (∀ n ∈ ns, aP n = true) ∧
 ∀ (l : aac) (H' : Hp), af H H' → H l = none → H' l = some (.lst ((kn acc ns).map tx)) → Q (.ref l) H'
def qZ (K : ZQ) : Sp := fun vs H Q _ => ∃ (lk : aac) (v : V) (ks : List Kd) (f : Fc), vs = [.ref lk, v] ∧ Ag K H lk ks ∧ (ks.map (·.n)).Nodup ∧ Fact K H f v ∧ f.k.length ≤ 1000 ∧ (∀ k ∈ ks, k.n.length ≤ 1000) ∧ Q (.bl (decide (f.k ∈ eQ ks))) H
structure FL (f : Fc) : Prop where
 k : aP f.k = true
 as : ∀ a ∈ f.as, aP a = true
 n : f.as.length ≤ 100
theorem cM {p : Cs} (h : aP p = true) : pJ p := by
 unfold aP at h
 rw [aaE, aaE] at h
 have h1 := of_decide_eq_true h.1
 have h2 := of_decide_eq_true h.2.1
 refine ⟨fun e => by rw [e] at h1; simp at h1, by omega, fun c hc => ?_⟩
 have z := abg.mp h.2.2 c hc
 have key : ∀ c : Nat, m8 c = true → c < 200 := by
  intro c hc
  unfold m8 at hc
  have a1 : ∀ d ∈ gL.cps.toList, d < 200 := by decide +kernel
  have a2 : ∀ d ∈ eB.cps.toList, d < 200 := by decide +kernel
  have a3 : ∀ d ∈ Ju.cps.toList, d < 200 := by decide +kernel
  rw [adD, adD] at hc
  rcases hc with h | h | h
  ·exact a1 c (of_decide_eq_true h)
  ·exact a2 c (of_decide_eq_true h)
  ·exact a3 c (of_decide_eq_true h)
 have := key c z
 omega
theorem Hj {ks : List Kd} (nd : (ks.map (·.n)).Nodup) {i : Nat} (hi : i < ks.length) : decide (ks[i].n ∈ eQ ks) = ks[i].l := by
 have R7 : ∀ j (hj : j < ks.length), ks[j].n = ks[i].n → j = i := fun j hj e => by
  have z := (aeh (xs := ks.map (·.n)) (i := j) (j := i) (h₀ := by simpa using hj) (h₁ := by simpa using hi) nd).mp (by simpa using e)
  exact z
 cases hl : ks[i].l with
 | true =>
  refine decide_eq_true ?_
  unfold eQ
  exact Z1.mpr ⟨ks[i], aaq.mpr ⟨ZT hi, hl⟩, rfl⟩
 | false =>
  refine decide_eq_false fun hm => ?_
  unfold eQ at hm
  obtain ⟨k, Ga, Gg⟩ := Z1.mp hm
  obtain ⟨Kc, P8⟩ := aaq.mp Ga
  obtain ⟨j, hj, rfl⟩ := aa2.mp Kc
  have e := R7 j hj Gg
  subst e
  rw [hl] at P8
  cases P8
theorem FL.fs {f : Fc} (h : FL f) : FS f := ⟨cM h.k, fun a ha => cM (h.as a ha), h.n⟩
end Bk
namespace Bk
open PySem L2 cI
theorem iu {K : ZQ} {H : Hp} {d t : aac} {ys : List V} {o : HO} {xs : List V} (hd : H d = some (.lst ys)) (h : aK K H t xs) : aK K (upd H d o) t xs := by
 rcases h with (h | ⟨ob, h⟩) | h
 ·refine .inl (.inl ?_)
  rw [aE (fun e => by rw [e, hd] at h; cases h)]
  exact h
 ·refine .inl (.inr ⟨ob, ?_⟩)
  rw [aE (fun e => by rw [e, hd] at h; cases h)]
  exact h
 ·exact .inr h
theorem CL {K : ZQ} {H : Hp} {d : aac} {ys : List V} {o : HO} {f : Fc} {v : V} (hd : H d = some (.lst ys)) (h : Fact K H f v) : Fact K (upd H d o) f v := by
 obtain ⟨t, t2, e, h1, h2⟩ := h
 exact ⟨t, t2, e, iu hd h1, iu hd h2⟩
theorem Hk {K : ZQ} {H : Hp} {d : aac} {ys zs : List V} {ts : List Tr} {o : HO} (hd : H d = some (.lst ys)) (h : Ts K H ts zs) : Ts K (upd H d o) ts zs :=
 ⟨h.1, fun i h1 h2 => (h.2 i h1 h2).mono fun _ _ q => iu hd q⟩
theorem Ke {K : ZQ} {H : Hp} {ts : List Tr} {zs : List V} {t : Tr} {z : V} (h : Ts K H ts zs) (hz : cC K H t.toD z) : Ts K H (ts ++ [t]) (zs ++ [z]) := by
 have hl := h.1
 refine ⟨by simp [hl], fun i h1 h2 => ?_⟩
 by_cases hi : i < ts.length
 ·rw [acY hi, acY (by omega)]
  exact h.2 i hi (by omega)
 ·have e : i = ts.length := by simp at h1; omega
  subst e
  rw [acL (by omega), acL (by omega)]
  simp [hl]
  exact hz
theorem Kf (l : List Tr) (t : Tr) : dd (l ++ [t]) = og (dd l) t := by
 unfold dd
 rw [abh]
 rfl
theorem uI {l : List Fc} {t : Tr} (h : t ∈ dd (l.map fT)) : ∃ g : Fc, t = fT g := by
 obtain ⟨g, _, e⟩ := Z1.mp (EO h)
 exact ⟨g, e.symm⟩
end Bk
namespace Bk
open PySem L2 cI
end Bk
namespace L2
theorem lI {t1 t2 : TS} {D : Ends} {σ : St} {H : Hp} (Good : St → Hp → Prop) (h : (∀ σ' H', Good σ' H' → t2 D σ' H') → t1 { D with nx := t2 D } σ H) (fin : ∀ σ' H', Good σ' H' → t2 D σ' H') : IL t1 t2 D σ H := h fin
end L2
namespace Bk
open PySem L2 cI
theorem lJ : ∀ (l m : List Cs), l.Nodup → (∀ x ∈ l, x ∈ m) → l.length ≤ m.length
 | [], _, _, _ => aaX _
 | x :: r, m, nd, h => by
  have hx := h x (Z5 ..)
  have nr := abE.mp nd
  have z := lJ r (m.erase x) nr.2 fun y hy => (List.mem_erase_of_ne (fun e => nr.1 (by rw [← e]; exact hy))).mpr (h y (Z9 _ hy))
  rw [ad0 hx] at z
  have : 1 ≤ m.length := List.length_pos_of_mem hx
  rw [aal]
  omega
theorem rf : ∀ (ns acc : List Cs), acc.Nodup → (kn acc ns).Nodup ∧ ∀ x ∈ kn acc ns, x ∈ acc ∨ (x ∈ ns ∧ great x = true)
 | [], acc, h => ⟨h, fun x hx => .inl hx⟩
 | n :: r, acc, h => by
  have hs : (zu acc n).Nodup ∧ ∀ x ∈ zu acc n, x ∈ acc ∨ (x = n ∧ great x = true) := by
   unfold zu
   split
   ·rename_i hg
    split
    ·exact ⟨h, fun x hx => .inl hx⟩
    ·rename_i hm
     refine ⟨acC.mpr ⟨h, by simp, fun a ha b hb e => ?_⟩, fun x hx => ?_⟩
     ·rw [ZX.mp hb] at e
      exact hm (by rw [← e]; exact ha)
     ·rcases ZY.mp hx with z | z
      ·exact .inl z
      ·have e := ZX.mp z
       exact .inr ⟨e, by rw [e]; exact hg⟩
   ·exact ⟨h, fun x hx => .inl hx⟩
  obtain ⟨z1, z2⟩ := rf r (zu acc n) hs.1
  refine ⟨z1, fun x hx => ?_⟩
  rcases z2 x hx with y | ⟨y, g⟩
  ·rcases hs.2 x y with q | ⟨q, g⟩
   ·exact .inl q
   ·exact .inr ⟨by rw [q]; exact Z5 .., g⟩
  ·exact .inr ⟨Z9 _ y, g⟩
theorem rg {K : ZQ} {H : Hp} {P : Fc → Prop} : ∀ {bs : List Unit} {ys : List V}, Paired (fun _ y => ∃ f, Fact K H f y ∧ P f) bs ys → ∃ fs, Paired (Fact K H) fs ys ∧ ∀ f ∈ fs, P f
 | _, _, .nil => ⟨[], .nil, fun f hf => nomatch hf⟩
 | _, _, .cons h t => by
  obtain ⟨f, h1, h2⟩ := h
  obtain ⟨fs, z1, z2⟩ := rg t
  refine ⟨f :: fs, .cons h1 z1, fun g hg => ?_⟩
  rcases aai.mp hg with e | e
  ·rw [e]; exact h2
  ·exact z2 g e
end Bk
namespace Bk
open PySem L2 cI
structure GF (os : List Cs) (m : Nat) (f : Fc) : Prop where
 k : aP f.k = true
 as : ∀ a ∈ f.as, aP a = true ∧ (great a = true → a ∈ os)
 n : f.as.length ≤ m
end Bk
namespace L2
theorem nC {i : Nat} {x : V} {σ : St} {H : Hp} {K : St → Hp → Prop} (h : K (σ.set i (some x)) H) : oN i x σ H K := h
end L2
namespace L2
theorem uJ {t2 : TS} {D : Ends} {σ : St} {H : Hp} {i : Nat} {v : V} (h : t2 D (σ.set i (some v)) H) : IL (IP (tC v) (oN i)) t2 D σ H := h
end L2
namespace Bk
open PySem L2 cI
def ER (ps ls ns : List Tr) : Dt := .tup [(Tr.tup ps).toD, (Tr.tup ls).toD, (Tr.tup ns).toD, .bl false]
theorem Ah {K : ZQ} {H : Hp} {t : aac} {ts : List Tr} {ys : List V} (h : aK K H t ys) (hT : Ts K H ts ys) : cC K H (Tr.tup ts).toD (.ref t) := by
 simp only [Tr.toD]
 refine .tup h (by rw [toDs_length]; exact hT.1) fun i h1 h2 => ?_
 have h1' : i < ts.length := by rw [toDs_length] at h1; exact h1
 rw [toDs_get _ i h1']
 exact hT.2 i h1' h2
theorem eR.Hh {K : ZQ} {H : Hp} {v : V} {ps ls ns : List Tr} (h : eR K H v ps ls ns) : cC K H (ER ps ls ns) v := by
 obtain ⟨p, t0, t1, t2, y0, y1, y2, rfl, hp, h0, T0, h1, T1, h2, T2⟩ := h
 refine .tup hp rfl fun i i1 i2 => ?_
 match i, i1, i2 with
 | 0, _, _ => exact Ah h0 T0
 | 1, _, _ => exact Ah h1 T1
 | 2, _, _ => exact Ah h2 T2
 | 3, _, _ => exact .bl false
theorem p4 {n : Nat} : ∀ {l : List Tr}, (∀ t ∈ l, t.toD.deep ≤ n) → Dt.bU (Tr.toDs l) ≤ n
 | [], _ => aaX _
 | t :: r, h => by
  have z := p4 (l := r) fun u hu => h u (Z9 _ hu)
  have y := h t (Z5 ..)
  show max t.toD.deep (Dt.bU (Tr.toDs r)) ≤ n
  omega
end Bk
namespace PySem.W
open PySem PySem.Spec PySem.Calls PyProof.Rows Builtin Builtin.ObjectAttr Builtin.Getset_descriptor
structure R8 (K : Frag) (D : aac) : Prop where
 ga : findIn K (.ref D) "__getattribute__" = some (some (.builtin "BaseException.__getattribute__"))
 gt : findIn K (.ref D) "__getattr__" = some none
 cl : findIn K (.ref D) "__class__" = some (some (.builtin "object.__class__"))
 hn : specialIn K (.builtin "object.__class__") "__get__" = some (some (.builtin "getset_descriptor.__get__"))
 hs : specialIn K (.builtin "object.__class__") "__set__" = some (some (.builtin "getset_descriptor.__set__"))
 mo : mroIn K D (.type "object") = some true
 mb : mroIn K D (.type "BaseException") = some true
 ic : isClsIn K D = true
section
variable {prog : aao} {w : aaO} {A : aaA} {E : ZS → ZU → Prop} {K : Frag} {x D : aac} {ox : Obj}
end
end PySem.W
namespace L2
open PySem PySem.Spec PyProof.Rows
section
variable {X : Cx} {x : aac} {oe : Obj} {cls : ZS}
end
abbrev Nk (X : Cx) (x : aac) (oe : Obj) : Cx := { X with A := X.A.mark (some (.ref x)), calm := false, pn := X.pn ++ [(x, oe)], xe := fun _ _ => False }
end L2
namespace L2
open PySem PySem.Spec PyProof.Rows
section
variable {X : Cx} {e : Expr} {te : TE} {pre : Str} {j : Nat} {p1 p2 p3 : Pos}
def Kg (te : TE) : TE := fun σ H Q => te σ H fun y H1 => ∃ z, y = .str z ∧ z.length ≤ 50000 ∧ (∀ c ∈ z.cps.toList, c < 16 ^ 8) ∧ ∀ x, Q (.str x) H1
theorem ES (he : PE X e te) (hp : pre.length ≤ 1000 := by decide) : PE X (.JoinedStr [.Constant (.str pre) j p1, .FormattedValue e 114 none p2] p3) (Kg te) := by
 intro pins s σ H Q I h
 refine wpAny_JoinedStr ?_
 refine adP ⟨pre, _, rfl, ?_, ?_⟩
 ·show (aaU ++ pre).length ≤ Z2
  rw [strLen_append, aak]
  have : aaU.length = 0 := rfl
  omega
 refine wpAny_FormattedValue_repr (cJ (he pins _ σ H _ (I.tok _) h) fun u s1 ⟨y, H1, I1, r1, z, ez, hz, hc, q⟩ => ?_)
 subst ez
 obtain ⟨t, rfl⟩ := r1
 have hl := adq z hc
 have hlen : (aaU ++ pre ++ reprText z).length ≤ Z2 := by
  rw [strLen_append, strLen_append, aak]
  have : aaU.length = 0 := rfl
  omega
 refine wpAny_pyReprObj_str ?_ (by rw [aak]; omega)
 exact wpAny_formatField_str ⟨_, _, rfl, hlen, hlen, .str _, H1, (I1.tok _).tok _, ⟨_, rfl⟩, q _⟩ ⟨_, _, rfl, hlen, hlen, .str _, H1, ((I1.tok _).tok _).tok _, ⟨_, rfl⟩, q _⟩ (by rw [aak]; omega)
end
end L2
namespace Bk
open PySem L2 cI
structure U2 (ps : List Cs) : Prop where
 n : ps.length ≤ 20000
 sum : (ps.map abl).sum ≤ 20000
 Zm : ∀ p ∈ ps, ∀ c ∈ p, c < 16 ^ 8
def Ref (C : aac) (H : Hp) (E : XK) : Prop := ∀ H', af H H' → E (.ref C) none H'
end Bk
namespace L2
open PySem PySem.Spec PyProof.Rows
mutual
theorem nE : ∀ d : Dt, oq d d = true
 | .bB => by unfold oq; rfl
 | .bl b => by unfold oq; exact beq_self_eq_true b
 | .int i => by unfold oq; exact beq_self_eq_true i
 | .str x => by unfold oq; exact beq_self_eq_true x
 | .tup ds => by unfold oq; exact uK ds
theorem uK : ∀ ds : List Dt, lP ds ds = true
 | [] => by unfold lP; rfl
 | d :: r => by unfold lP; rw [nE d, uK r]; rfl
end
section
variable {X : Cx}
def Alike (K : ZQ) (H : Hp) (x y : V) : Prop := ∃ (a b : aac) (xs ys : List V) (ds : List Dt), x = .ref a ∧ y = .ref b ∧ aC K H a xs ∧ aC K H b ys ∧ ds.length = xs.length ∧ ds.length = ys.length ∧ (∀ d ∈ ds, d.deep ≤ 20) ∧
 (∀ (i : Nat) (h0 : i < ds.length) (h1 : i < xs.length), cC K H ds[i] xs[i]) ∧ (∀ (i : Nat) (h0 : i < ds.length) (h1 : i < ys.length), cC K H ds[i] ys[i])
def R9 (K : ZQ) : R2 := fun x y H Q => Alike K H x y ∧ Q (.bl true) H
def Sa (K : ZQ) : R2 := fun x y H Q => Alike K H x y ∧ Q (.bl false) H
theorem x6 {pins : List (aac × Obj)} {σ : St} {H : Hp} {s : ZU} (I : Inv X pins σ H s) (hu : X.A.units + 64 < cLine) {a b : aac} {xs ys : List V} {ds : List Dt} {its bM : List ZS} (uj : Vals xs its) (um : Vals ys bM) (e1 : ds.length = xs.length) (e2 : ds.length = ys.length) (hd : ∀ d ∈ ds, d.deep ≤ 20)
  (h1 : ∀ (i : Nat) (h0 : i < ds.length) (h1 : i < xs.length), cC X.K H ds[i] xs[i]) (h2 : ∀ (i : Nat) (h0 : i < ds.length) (h1 : i < ys.length), cC X.K H ds[i] ys[i]) (j : Nat) (j1 : j < its.toArray.size) (j2 : j < bM.toArray.size) : abw X.A.in1 s its.toArray[j] bM.toArray[j] true := by
 have sy := uj.length
 have sP := um.length
 have PQ : j < its.length := by simpa using j1
 have PR : j < bM.length := by simpa using j2
 obtain ⟨u1, f1, q1⟩ := uj.get (i := j) (x := xs[j]'(by omega)) (by simp)
 obtain ⟨u2, f2, q2⟩ := um.get (i := j) (x := ys[j]'(by omega)) (by simp)
 have c1 : its.toArray[j] = u1 := by
  have z := ZZ.mp f1
  simpa using z.2
 have c2 : bM.toArray[j] = u2 := by
  have z := ZZ.mp f2
  simpa using z.2
 rw [c1, c2]
 have z := jV I rfl 20 X.A.in1 (hd _ (ZT (show j < ds.length by omega))) (by show X.A.units + 1 + 20 < cLine; omega) (h1 j (by omega) (by omega)) (h2 j (by omega) (by omega)) q1 q2
 rw [nE] at z
 exact z
theorem Sb (hu : X.A.units + 64 < cLine) : pT X (compareOp .Eq) (R9 X.K) := by
 intro pins s σ H x y v u Q I rx ry h
 obtain ⟨⟨a, b, xs, ys, ds, rfl, rfl, g1, g2, l1, l2, hd, h1, h2⟩, q⟩ := h
 cases rx
 cases ry
 obtain ⟨its, uj, ⟨o1, n1, p1, c1, d1, f1⟩, _⟩ := I.list g1
 obtain ⟨bM, um, ⟨o2, n2, p2, c2, d2, f2⟩, _⟩ := I.list g2
 have i1 : s.heap.IsList a its.toArray := ⟨o1, p1, c1, n1, by assumption⟩
 have i2 : s.heap.IsList b bM.toArray := ⟨o2, p2, c2, n2, by assumption⟩
 have sy := uj.length
 have sP := um.length
 refine afA (e := fun _ => true) i1 i2 (by simp; omega) (by omega) (fun j j1 j2 => x6 (a := a) (b := b) I hu uj um l1 l2 hd h1 h2 j j1 j2) _ _ _ _ ?_
 refine ⟨.bl _, H, I, rfl, ?_⟩
 have e : (aaz its.toArray.size).all (fun _ => true) = true := by simp
 rw [e]
 exact q
theorem Kh (hu : X.A.units + 64 < cLine) : pT X (compareOp .NotEq) (Sa X.K) := by
 intro pins s σ H x y v u Q I rx ry h
 obtain ⟨⟨a, b, xs, ys, ds, rfl, rfl, g1, g2, l1, l2, hd, h1, h2⟩, q⟩ := h
 cases rx
 cases ry
 obtain ⟨its, uj, ⟨o1, n1, p1, c1, d1, f1⟩, _⟩ := I.list g1
 obtain ⟨bM, um, ⟨o2, n2, p2, c2, d2, f2⟩, _⟩ := I.list g2
 have i1 : s.heap.IsList a its.toArray := ⟨o1, p1, c1, n1, by assumption⟩
 have i2 : s.heap.IsList b bM.toArray := ⟨o2, p2, c2, n2, by assumption⟩
 have sy := uj.length
 have sP := um.length
 refine afi (e := fun _ => true) i1 i2 (by simp; omega) (by omega) (fun j j1 j2 => x6 (a := a) (b := b) I hu uj um l1 l2 hd h1 h2 j j1 j2) _ _ _ _ ?_
 refine ⟨.bl _, H, I, rfl, ?_⟩
 have e : (aaz its.toArray.size).all (fun _ => true) = true := by simp
 rw [e]
 exact q
theorem Alike.plain {K : ZQ} {H : Hp} {a b : aac} {ds : List Dt} {xs : List V} (h1 : aC K H a xs) (h2 : aC K H b xs) (hl : ds.length = xs.length) (hd : ∀ d ∈ ds, d.deep ≤ 20) (h : ∀ (i : Nat) (h0 : i < ds.length) (h1 : i < xs.length), cC K H ds[i] xs[i]) : Alike K H (.ref a) (.ref b) :=
 ⟨a, b, xs, xs, ds, rfl, rfl, h1, h2, hl, hl, hd, h, h⟩
theorem Alike.bools {K : ZQ} {H : Hp} {a b : aac} {bs : List Bool} (h1 : aC K H a (bs.map V.bl)) (h2 : aC K H b (bs.map V.bl)) : Alike K H (.ref a) (.ref b) := by
 refine .plain (ds := bs.map Dt.bl) h1 h2 (by simp) (fun d hd => ?_) fun i h0 h1 => ?_
 ·obtain ⟨b, _, rfl⟩ := Z1.mp hd
  simp [Dt.deep]
 ·rw [Z3, Z3]
  exact .bl _
theorem Alike.texts {K : ZQ} {H : Hp} {a b : aac} {bs : List Str} (h1 : aC K H a (bs.map V.str)) (h2 : aC K H b (bs.map V.str)) : Alike K H (.ref a) (.ref b) := by
 refine .plain (ds := bs.map Dt.str) h1 h2 (by simp) (fun d hd => ?_) fun i h0 h1 => ?_
 ·obtain ⟨b, _, rfl⟩ := Z1.mp hd
  simp [Dt.deep]
 ·rw [Z3, Z3]
  exact .str _
end
end L2
namespace L2
open PySem PySem.Spec PyProof.Rows
section
variable {X : Cx}
theorem CM {pins : List (aac × Obj)} {σ : St} {H : Hp} {s : ZU} {A : aaA} (I : Inv X pins σ H s) (hu : A.units + 30 < cLine) {xs ys : List V} {ds : List Dt} {its bM : List ZS} (uj : Vals xs its) (um : Vals ys bM) (e1 : ds.length = xs.length) (e2 : ds.length = ys.length) (hd : ∀ d ∈ ds, d.deep ≤ 20)
  (h1 : ∀ (i : Nat) (h0 : i < ds.length) (h1 : i < xs.length), cC X.K H ds[i] xs[i]) (h2 : ∀ (i : Nat) (h0 : i < ds.length) (h1 : i < ys.length), cC X.K H ds[i] ys[i]) (j : Nat) (j1 : j < its.toArray.size) (j2 : j < bM.toArray.size) : abw A s its.toArray[j] bM.toArray[j] true := by
 have sy := uj.length
 have sP := um.length
 have PQ : j < its.length := by simpa using j1
 have PR : j < bM.length := by simpa using j2
 obtain ⟨u1, f1, q1⟩ := uj.get (i := j) (x := xs[j]'(by omega)) (by simp)
 obtain ⟨u2, f2, q2⟩ := um.get (i := j) (x := ys[j]'(by omega)) (by simp)
 have c1 : its.toArray[j] = u1 := by
  have z := ZZ.mp f1
  simpa using z.2
 have c2 : bM.toArray[j] = u2 := by
  have z := ZZ.mp f2
  simpa using z.2
 rw [c1, c2]
 have z := jV I rfl 20 A (hd _ (ZT (show j < ds.length by omega))) (by omega) (h1 j (by omega) (by omega)) (h2 j (by omega) (by omega)) q1 q2
 rw [nE] at z
 exact z
theorem Ai {pins : List (aac × Obj)} {σ : St} {H : Hp} {s : ZU} {A : aaA} (I : Inv X pins σ H s) (hu : A.units + 40 < cLine) {x y : V} {u v : ZS} (h : Alike X.K H x y) (rx : RelV x u) (ry : RelV y v) : abw A s u v true := by
 obtain ⟨a, b, xs, ys, ds, rfl, rfl, g1, g2, l1, l2, hd, h1, h2⟩ := h
 cases rx
 cases ry
 obtain ⟨its, uj, ⟨o1, n1, p1, c1, d1, f1⟩, _⟩ := I.list g1
 obtain ⟨bM, um, ⟨o2, n2, p2, c2, d2, f2⟩, _⟩ := I.list g2
 have i1 : s.heap.IsList a its.toArray := ⟨o1, p1, c1, n1, by assumption⟩
 have i2 : s.heap.IsList b bM.toArray := ⟨o2, p2, c2, n2, by assumption⟩
 have sy := uj.length
 have sP := um.length
 by_cases hab : a = b
 ·subst hab
  exact ady _
 ·refine afd hab ?_
  have z := afA (A := A) (e := fun _ => true) i1 i2 (by simp; omega) (by omega) (fun j j1 j2 => CM (A := A.in1) I (by show A.units + 1 + 30 < cLine; omega) uj um l1 l2 hd h1 h2 j j1 j2)
  have e : (aaz its.toArray.size).all (fun _ => true) = true := by simp
  rw [e] at z
  exact z
def Nl (K : ZQ) : R2 := fun x y H Q => ∃ (a b : aac) (xs ys : List V), x = .ref a ∧ y = .ref b ∧ aC K H a xs ∧ aC K H b ys ∧ xs.length = ys.length ∧ (∀ (i : Nat) (h1 : i < xs.length) (h2 : i < ys.length), Alike K H xs[i] ys[i]) ∧ Q (.bl false) H
theorem Hl (hu : X.A.units + 64 < cLine) : pT X (compareOp .NotEq) (Nl X.K) := by
 intro pins s σ H x y v u Q I rx ry h
 obtain ⟨a, b, xs, ys, rfl, rfl, g1, g2, hl, hA, q⟩ := h
 cases rx
 cases ry
 obtain ⟨its, uj, ⟨o1, n1, p1, c1, d1, f1⟩, _⟩ := I.list g1
 obtain ⟨bM, um, ⟨o2, n2, p2, c2, d2, f2⟩, _⟩ := I.list g2
 have i1 : s.heap.IsList a its.toArray := ⟨o1, p1, c1, n1, by assumption⟩
 have i2 : s.heap.IsList b bM.toArray := ⟨o2, p2, c2, n2, by assumption⟩
 have sy := uj.length
 have sP := um.length
 refine afi (e := fun _ => true) i1 i2 (by simp; omega) (by omega) (fun j j1 j2 => ?_) _ _ _ _ ?_
 ·have PQ : j < its.length := by simpa using j1
  have PR : j < bM.length := by simpa using j2
  obtain ⟨u1, f1, q1⟩ := uj.get (i := j) (x := xs[j]'(by omega)) (by simp)
  obtain ⟨u2, f2, q2⟩ := um.get (i := j) (x := ys[j]'(by omega)) (by simp)
  have c1 : its.toArray[j] = u1 := by
   have z := ZZ.mp f1
   simpa using z.2
  have c2 : bM.toArray[j] = u2 := by
   have z := ZZ.mp f2
   simpa using z.2
  rw [c1, c2]
  exact Ai I (by show X.A.units + 1 + 40 < cLine; omega) (hA j (by omega) (by omega)) q1 q2
 refine ⟨.bl _, H, I, rfl, ?_⟩
 have e : (aaz its.toArray.size).all (fun _ => true) = true := by simp
 rw [e]
 exact q
end
end L2
namespace PySem
open Sem (wp)
abbrev FK := Str × List Str
section
variable {prog : aao} {w : aaO}
def iw (prog : aao) (w : aaO) (h : Heap) (x : FK) (a : aac) : Prop := ∃ o n t b, h.get? a = some o ∧ o.cls = .type "tuple" ∧ o.data = .seq #[.str x.1 t, .ref b] n ∧ IsTupleKey (strKind prog w) h x.2 b
theorem iw.typeIs {s : ZU} {x : FK} {a : aac} (h : iw prog w s.heap x a) : s.TypeIs (.ref a) "tuple" := let ⟨o, _, _, _, ho, hc, _⟩ := h; ⟨o, ho, hc⟩
theorem iw.keeps {h h' : Heap} {x : FK} {a d : aac} {o : Obj} {es ep} (k : iw prog w h x a) (ho : h.get? d = some o) (hd : o.data = .dict es ep) (hs : acb d h h') : iw prog w h' x a := by
 obtain ⟨o', n, t, b, ho', hc, hd', hb⟩ := k
 have hne : a ≠ d := by
  rintro rfl
  obtain rfl : o' = o := aaI (ho'.symm.trans ho)
  rw [hd] at hd'; exact nomatch hd'
 exact ⟨o', n, t, b, (hs.2 a hne).trans ho', hc, hd', hb.keeps ho hd hs⟩
variable {A : aaA} {E : ZS → ZU → Prop} {s : ZU}
end
end PySem
namespace L2
open PySem PySem.Spec PyProof.Rows
abbrev FE := FK × aac × Int
abbrev Xo : List FE → List (FK × aac × ZS) → Prop := Paired fun p q => p.1 = q.1 ∧ p.2.1 = q.2.1 ∧ RelV (.int p.2.2) q.2.2
section
variable {X : Cx} {pins : List (aac × Obj)} {σ : St} {H : Hp} {s : ZU} {a : aac} {xs : List FE} {k : FK} {y : V} {u r : ZS} {A : aaA} {E : ZS → ZU → Prop}
end
section
variable {X : Cx} {o i e f value : Expr} {pos pos' Mg apos cpos : Pos} {td ty tv tz : TE}
end
end L2
namespace L2
open PySem PySem.Spec PyProof.Rows
def x8 (H : Hp) (l : aac) (ys : List V) : Prop := ∃ its n sl, H l = some (.lO ⟨.type "tuple", none, .seq its n, sl⟩ (.tup ys))
theorem x8.sq {K : ZQ} {H : Hp} {l : aac} {ys : List V} (h : x8 H l ys) : aK K H l ys := by
 obtain ⟨its, n, sl, h⟩ := h
 exact .inl (.inr ⟨_, h⟩)
theorem x8.sm {H H' : Hp} {l : aac} {ys : List V} (s : af H H') (h : x8 H l ys) : x8 H' l ys := by
 obtain ⟨its, n, sl, h⟩ := h
 exact ⟨its, n, sl, s _ _ h⟩
section
variable {X : Cx} {pins : List (aac × Obj)} {σ : St} {H : Hp} {s : ZU} {a it l : aac} {ys : List V} {its : List ZS} {ps : List (Key × V)}
theorem ET {A : aaA} {R : Result → ZU → Prop} (I : Inv X pins σ H s) (hh : A.handled = none) (hl : s.heap.IsTuple l its.toArray) (rv : Vals ys its) (hP : gu X.K H ps ys) (hlen : ps.length ≤ 100000)
  (ha : s.heap.objs.size ≤ a) (zN : s.heap.objs.size ≤ it) (hne : a ≠ it)
  (fin : ∀ h' tk vs, (∀ b o, s.heap.get? b = some o → h'.get? b = some o) → h'.DictOf (aF X.prog X.w) a vs → KV (du [] ps) vs → R (.ok (.ret .none)) { s with heap := h', toks := tk }) :
  ∀ (k i : Nat) (h' : Heap) (tk : Nat) (vs : List (Key × ZS)), its.length - i = k → i ≤ its.length → (∀ b o, s.heap.get? b = some o → h'.get? b = some o) → h'.IsTupleIter it l i → h'.DictOf (aF X.prog X.w) a vs → KV (du [] (ps.take i)) vs →
   aar (model X.prog X.w) A.in1 (Builtin.«dict.update.loop» ⟨[.ref a, .ref it, rawInt (i : Int), .none], []⟩) (fun fin s' => match fin with | .done f => R (.ok f) s' | .again c' => c'.quiet = true ∧ codeAny (model X.prog X.w) A c' R s') (fun e s' => R (.error e) s') { s with heap := h', toks := tk } := by
 have qx := rv.length
 have qg := aad hP
 have lt : ∀ b o, s.heap.get? b = some o → b ≠ a ∧ b ≠ it := fun b o q => by
  exact ⟨aam (aaf (aab q) ha), aam (aaf (aab q) zN)⟩
 obtain ⟨ol, zq, qy⟩ := id hl
 intro k
 induction k with
 | zero =>
  intro i h' tk vs hk hi kp hit hD hK
  obtain rfl : i = its.length := by omega
  unfold Builtin.«dict.update.loop»
  dsimp only [rawInt]
  refine ZR (wpAny_pyNext_tuple_end (s := { s with heap := h', toks := tk }) (A := A.in1) hh hit (show h'.IsTuple l its.toArray from ⟨ol, kp _ _ zq, qy⟩) (by simp) fun h2 m7 => ?_)
  dsimp only
  have lQ : h2.DictOf (aF X.prog X.w) a vs := hD.extBut m7 hne
  show aar _ _ (acU a [] >>= _) _ _ _
  refine ZR (ZW (ZW ?_))
  exact fin h2 tk vs (fun b o q => m7 b o (lt b o q).2 (kp b o q)) lQ (by rw [← qx, ← qg, aau] at hK; exact hK)
 | succ k ih =>
  intro i h' tk vs hk hi kp hit hD hK
  have GS : i < its.length := by omega
  have Jr : i < ps.length := by omega
  unfold Builtin.«dict.update.loop»
  dsimp only [rawInt]
  refine ZR (wpAny_pyNext_tuple_item (s := { s with heap := h', toks := tk }) (x := its[i]) hit (show h'.IsTuple l its.toArray from ⟨ol, kp _ _ zq, qy⟩) (by simp [GS]) fun h1 oQ xy => ?_)
  dsimp only
  have D9 : ∀ b o, s.heap.get? b = some o → h1.get? b = some o := fun b o q => (xy.2 b (lt b o q).2).trans (kp b o q)
  have I1 : Inv X pins σ H { s with heap := h1, toks := tk } := I.kept D9
  have LD : h1.DictOf (aF X.prog X.w) a vs := hD.sameBut xy hne
  obtain ⟨u1, f1, q1⟩ := rv.get (i := i) (x := ys[i]'(by omega)) (by simp)
  have eu : its[i] = u1 := (ZZ.mp f1).2
  obtain ⟨t, et, hq⟩ : ∃ t, ys[i]'(by omega) = .ref t ∧ aK X.K H t [kV (ps[i]).1, (ps[i]).2] := by
   have z := hP
   unfold gu at z
   exact paired_at z i Jr (by omega)
  rw [et] at q1
  have Js : its[i] = .ref t := by rw [eu]; exact q1
  rw [Js]
  obtain ⟨WH, rt, pl, _⟩ := I1.tuple hq
  obtain ⟨uk, uv, rfl, rk, Rq⟩ := vals2 rt
  obtain ⟨ot, MH, Jt, n, Ds⟩ := id pl
  have Rr : ad9 { s with heap := h1, toks := tk } (.ref t) "tuple" := ⟨ot, MH, Jt⟩
  refine ZR (wpAny_holding (ZR ?_))
  have Bj : ∀ {E' : ZS → ZU → Prop} {Q' : List ZS → ZU → Prop}, Q' [uk, uv] { s with heap := h1, toks := tk } → aar (model X.prog X.w) A.in1 (acm (.ref t)) Q' E' { s with heap := h1, toks := tk } := fun {E' Q'} hq' => by
   unfold acm
   refine ZR (wpAny_typeOf Rr ?_)
   rw [if_pos (by decide)]
   refine ZR (wpAny_seqItems MH Ds (ZW ?_))
   exact hq'
  refine wpAny_tryCatch (Bj ?_)
  dsimp only
  have hsz : vs.length ≤ Z2 := by
   have z := hK.length
   have z2 := iN (ps.take i)
   rw [aah] at z2
   exact aaM (show vs.length ≤ 100000 by omega) (show 100000 ≤ Z2 by rw [aak]; decide)
  refine wpAny_holding (wpAny_dictSet_pairs (hsz := hsz) (oP rk) LD fun h2 lQ pz => ?_)
  have Ea : ∀ b o, s.heap.get? b = some o → h2.get? b = some o := fun b o q => (pz.2 b (lt b o q).1).trans (D9 b o q)
  have zO : h2.IsTupleIter it l (i + 1) := by
   obtain ⟨o, ho, r⟩ := oQ
   exact ⟨o, (pz.2 it (acr hne)).trans ho, r⟩
  refine ZW ?_
  refine ⟨plainId_quiet plain_dul _, codeAny_builtin entry_dul ?_⟩
  rw [aaR plain_dul _]
  refine ih (i + 1) h2 (tk + 1) _ (by omega) (by omega) Ea zO lQ ?_
  rw [Z4 Jr]
  unfold du
  rw [abh]
  exact hK.put _ Rq
theorem oz (hc : X.calm = true) : cK X (.type "dict") (fun xs H Q => ∃ (l : aac) (ys : List V) (ps : List (Key × V)), xs = [.ref l] ∧ x8 H l ys ∧ gu X.K H ps ys ∧ ps.length ≤ 100000 ∧ ∀ d, H d = none → Q (.ref d) (upd H d (.dK (du [] ps)))) := by
 intro pins s σ H xs us Q I r h
 obtain ⟨l, ys, ps, rfl, hl, hP, hlen, q⟩ := h
 obtain ⟨u, rfl, ru⟩ := vals1 r
 cases (show u = aaC l from ru)
 have hh := I.ok.hd hc
 obtain ⟨Nm, n, sl, EU⟩ := id hl
 obtain ⟨hg, hz, its, rv, o', hg', hc', n', hd'⟩ := (show ba X.prog X.w H s.heap l (.lO ⟨.type "tuple", none, .seq Nm n, sl⟩ (.tup ys)) from I.hok l _ EU)
 obtain rfl : o' = _ := (aaI (hg.symm.trans hg')).symm
 obtain ⟨rfl, rfl⟩ : Nm = its.toArray ∧ n = n' := by injection hd' with e1 e2; exact ⟨e1, e2⟩
 have hf : H s.heap.objs.size = none := I.hok.fresh (Z0 _)
 refine callType_codes (Q₁ := fun obj s₁ => obj = .ref s.heap.objs.size ∧ s₁ = { s with heap := s.heap.push { cls := .type "dict", data := .dict #[] } }) ac9 (acF _) ac4 (kt_code_dict_new _ ⟨rfl, rfl⟩) ?_
 rintro obj s₁ ⟨rfl, rfl⟩
 have qz : (s.heap.push { cls := .type "dict", data := .dict #[] }).DictOf (aF X.prog X.w) s.heap.objs.size [] := aeA s.heap
 refine ⟨qz.typeIs, acV _ _, ?_⟩
 unfold Builtin.«dict.__init__»
 refine ZR ?_
 unfold acW
 refine ZR (wpAny_notOrdered_dict qz.typeIs ?_)
 show aar _ _ (pure (s.heap.objs.size, [aaC l])) _ _ _
 refine ZW ?_
 show aar _ _ (abu "dict.__init__" s.heap.objs.size (.ref l) [] .none) _ _ _
 unfold abu
 have zP : (s.heap.push { cls := .type "dict", data := .dict #[] }).get? l = some ⟨.type "tuple", none, .seq its.toArray n, sl⟩ := ZV _ hg
 refine ZR (wpAny_typeOf (T := "tuple") ⟨_, zP, rfl⟩ ?_)
 rw [if_pos (by decide)]
 refine ZR (BF zP hh fun h1 GU e hx => ?_)
 rw [if_pos (show (none : Option ZS).isNone = true from rfl)]
 refine ZR (wpAny_rule ?_)
 have GV := hx.keeps _ _ zP
 have hd2 : h1.DictOf (aF X.prog X.w) s.heap.objs.size [] := by
  obtain ⟨o, es, ep, ho, r⟩ := qz
  exact ⟨o, es, ep, hx.keeps _ _ ho, r⟩
 have pD : s.heap.objs.size < h1.objs.size := by
  obtain ⟨o, es, ep, ho, r⟩ := hd2
  exact aab ho
 have Eb : h1.IsTuple l its.toArray := ⟨_, GV, rfl, n, rfl⟩
 refine ZR (wpAny_pyIter_tuple (s := { s with heap := h1, toks := GU }) Eb ?_)
 refine ZW ⟨plainId_quiet plain_dul _, codeAny_builtin entry_dul ?_⟩
 rw [aaR plain_dul _]
 have GW : ∀ b o, s.heap.get? b = some o → (h1.push { cls := .type "tuple_iterator", data := .fields #[.ref l, .int 0 0] }).get? b = some o := fun b o q => ZV _ (hx.keeps _ _ (ZV _ q))
 refine ET (A := X.A.in1) (its := its) (a := s.heap.objs.size) (it := h1.objs.size) I hh ⟨_, hg, rfl, n, rfl⟩ rv hP hlen (Z0 _) (adO pD) (aam pD) (fun h' tk vs kp hD hK => ?_)
  its.length 0 (h1.push { cls := .type "tuple_iterator", data := .fields #[.ref l, .int 0 0] }) GU [] (by omega) (aaX _) GW ⟨_, Z8 _ rfl, rfl, rfl⟩ (hd2.push _) .nil
 refine ⟨rfl, .ref s.heap.objs.size, upd H s.heap.objs.size (.dK (du [] ps)), I.laid (t' := tk) kp (Z0 _) ?_, rfl, q _ hf⟩
 refine ⟨aaM (iN ps) (aaM hlen (by rw [aak]; decide)), ?_, vs, hK, hD⟩
 exact beq_eq_false_iff_ne.mpr (adj I.big)
theorem rh : cK X (.type "tuple") (fun xs H Q => ∃ p ys, xs = [.ref p] ∧ aC X.K H p ys ∧ ∀ l its n sl, H l = none → Q (.ref l) (upd H l (.lO ⟨.type "tuple", none, .seq its n, sl⟩ (.tup ys)))) := by
 intro pins s σ H xs us Q I r h
 obtain ⟨p, ys, rfl, hq, q⟩ := h
 obtain ⟨u, rfl, rx⟩ := vals1 r
 cases rx
 obtain ⟨its, r', pl, hz⟩ := I.list hq
 have hlen := r'.length
 refine call_tuple_list pl.isList (fun h' kp => ?_) (by simp only [aag] <;> omega)
 have I1 : Inv X pins σ H { s with heap := h' } := I.kept (t' := s.toks) kp
 have I2 := I1.laid (a := h'.objs.size) (o := .lO { cls := .type "tuple", data := .seq its.toArray } (.tup ys)) (h' := h'.push { cls := .type "tuple", data := .seq its.toArray }) (t' := s.toks) (fun b o e => ZV _ e) (Z0 _) ⟨Z8 _ rfl, hz, its, r', IsTup.new _ _⟩
 exact ⟨.ref h'.objs.size, _, I2, rfl, q _ _ _ _ (I1.hok.fresh (Z0 _))⟩
end
end L2
namespace L2
open PySem PySem.Spec PyProof.Rows
section
variable {X : Cx}
end
end L2
namespace Bk
section
variable {α : Type} [DecidableEq α]
end
end Bk
namespace Bk
open PySem L2 cI
deriving instance DecidableEq for Fc
def fk (f : Fc) : FK := (S f.k, f.as.map S)
theorem uL : ∀ {a b : List Cs}, a.map S = b.map S → a = b
 | [], [], _ => rfl
 | [], _ :: _, h => by cases h
 | _ :: _, [], h => by cases h
 | x :: a, y :: b, h => by
  rw [aap, aap] at h
  injection h with h1 h2
  rw [eM h1, uL h2]
theorem Ki {f g : Fc} (h : fk f = fk g) : f = g := by
 unfold fk at h
 injection h with h1 h2
 cases f
 cases g
 cases eM h1
 cases uL h2
 rfl
def EV (H : Hp) (f : Fc) (v : V) : Prop := ∃ t t2, v = .ref t ∧ H t = some (.tup [tx f.k, .ref t2]) ∧ H t2 = some (.tup (f.as.map tx))
theorem EV.fact {K : ZQ} {H : Hp} {f : Fc} {v : V} (h : EV H f v) : Fact K H f v := by
 obtain ⟨t, t2, e, h1, h2⟩ := h
 exact ⟨t, t2, e, aK.of h1, aK.of h2⟩
def U3 (ks : List Kd) (f : Fc) : Bool := decide (f.k ∈ eQ ks)
def short (bp ts : List Fc) : Bool := ts.any fun f => decide (bp.count f < ts.count f)
def P9 (K : ZQ) (H : Hp) (v : V) : Prop := ∃ p z0 z1 z2, v = .ref p ∧ aK K H p [z0, z1, z2, .bl true]
def lW (K : ZQ) (H : Hp) (v : V) (ps ls ns : List Tr) : Prop := ∃ p t0 t1 t2 y0 y1 y2, v = .ref p ∧ aK K H p [.ref t0, .ref t1, .ref t2, .bl false] ∧ aK K H t0 y0 ∧ Ts K H ps y0 ∧ aK K H t1 y1 ∧ Ts K H ls y1 ∧ x8 H t2 y2 ∧ Ts K H ns y2
end Bk
namespace L2
open PySem PySem.Spec PyProof.Rows Bk
end L2
namespace Bk
open PySem L2 cI
theorem lW.sm {K : ZQ} {H H' : Hp} (s : af H H') {v : V} {ps ls ns : List Tr} (h : lW K H v ps ls ns) : lW K H' v ps ls ns := by
 obtain ⟨p, t0, t1, t2, y0, y1, y2, e, h1, h2, h3, h4, h5, h6, h7⟩ := h
 exact ⟨p, t0, t1, t2, y0, y1, y2, e, h1.same s, h2.same s, bq s h3, h4.same s, bq s h5, h6.sm s, bq s h7⟩
def rl (K : ZQ) : Sp := fun vs H Q _ => ∃ (p : aac) (u z0 z1 z2 : V) (b : Bool) (ds : List Dt), vs = [.ref p, u] ∧ aK K H p [z0, z1, z2, .bl b] ∧ cC K H (.tup ds) (.ref p) ∧ cC K H (.tup ds) u ∧ (Dt.tup ds).deep ≤ 20 ∧ Q (.bl true) H
end Bk
namespace Bk
open PySem L2 cI
end Bk
namespace Bk
open PySem L2 cI
theorem vE {f g : Fc} (h : fT f = fT g) : f = g := by
 unfold fT Hg at h
 injection h with h
 injection h with h1 h2
 injection h1 with h1
 injection h2 with h2
 injection h2 with h2
 refine Ki ?_
 unfold fk
 rw [h1]
 congr 1
 have key : ∀ {a b : List Str}, a.map Tr.str = b.map Tr.str → a = b := by
  intro a
  induction a with
  | nil => intro b e; cases b with | nil => rfl | cons _ _ => cases e
  | cons x a ih =>
   intro b e
   cases b with
   | nil => cases e
   | cons y b =>
    rw [aap, aap] at e
    injection e with e1 e2
    injection e1 with e1
    rw [e1, ih e2]
 exact key h2
end Bk
namespace Bk
open PySem L2 cI
noncomputable def Aj (t : Tr) : Fc := @dite _ (∃ g, fT g = t) (aeg _) (fun h => afB h) (fun _ => ⟨[], []⟩)
theorem Ak (g : Fc) : Aj (fT g) = g := by
 unfold Aj
 have h : ∃ g', fT g' = fT g := ⟨g, rfl⟩
 rw [dif_pos h]
 exact vE (aeH h)
theorem nF {l : List Tr} (h : ∀ t ∈ l, ∃ g, t = fT g) : (l.map Aj).map fT = l := by
 induction l with
 | nil => rfl
 | cons t r ih =>
  obtain ⟨g, rfl⟩ := h t (Z5 ..)
  rw [aap, aap, Ak, ih fun t ht => h t (Z9 _ ht)]
theorem yc (l : List Fc) : ((aI (l.map fT)).map Aj).Perm l := by
 have z := (aY (l.map fT)).map Aj
 rw [aaJ] at z
 have e : (Aj ∘ fT) = id := by funext g; exact Ak g
 rw [e, abA] at z
 exact z
theorem EW (l : List Fc) : ∀ t ∈ aI (l.map fT), ∃ g, t = fT g := fun t ht => by
 obtain ⟨g, _, e⟩ := Z1.mp ((aY _).mem_iff.mp ht)
 exact ⟨g, e.symm⟩
theorem Al (l : List Fc) : ∀ t ∈ aI (dd (l.map fT)), ∃ g, t = fT g := fun t ht => uI ((aY _).mem_iff.mp ht)
theorem nB {K : ZQ} {H : Hp} : ∀ {as : List Str} {ys : List V}, as.length = ys.length → (∀ i (h0 : i < (Tr.toDs (as.map Tr.str)).length) (h1 : i < ys.length), cC K H (Tr.toDs (as.map Tr.str))[i] ys[i]) → ys = as.map V.str
 | [], [], _, _ => rfl
 | [], _ :: _, h, _ => by cases h
 | _ :: _, [], h, _ => by cases h
 | a :: as, y :: ys, h, hd => by
  have h0 : cC K H (Dt.str a) y := by
   have z := hd 0 (by simp [Tr.toDs]) (by simp)
   simpa [Tr.toDs, Tr.toD] using z
  have e : y = .str a := by cases h0; rfl
  have ih := nB (K := K) (H := H) (as := as) (ys := ys) (by simpa using h) fun i h0 h1 => by
   have z := hd (i + 1) (by simpa [Tr.toDs] using h0) (by simpa using h1)
   simpa [Tr.toDs] using z
  rw [e, ih]
  rfl
theorem EX {K : ZQ} {H : Hp} {g : Fc} {v : V} (h : cC K H (fT g).toD v) : Fact K H g v := by
 have e : (fT g).toD = .tup [.str (S g.k), .tup (Tr.toDs ((g.as.map S).map Tr.str))] := by simp [fT, Hg, Tr.toD, Tr.toDs]
 rw [e] at h
 cases h with
 | @tup ds xs p hp hl hd =>
  match xs, hl with
  | [x0, x1], _ =>
   have h0 : cC K H (.str (S g.k)) x0 := hd 0 (by simp) (by simp)
   have h1 : cC K H (.tup (Tr.toDs ((g.as.map S).map Tr.str))) x1 := hd 1 (by simp) (by simp)
   cases h0
   cases h1 with
   | @tup Zn ys q hq qg hd2 =>
    have z := nB (as := g.as.map S) (ys := ys) (by rw [toDs_length] at qg; simpa using qg) hd2
    rw [z, ← dI] at hq
    exact ⟨p, q, rfl, hp, hq⟩
theorem ix {K : ZQ} {H : Hp} : ∀ {gs : List Fc} {ys : List V}, Ts K H (gs.map fT) ys → Paired (Fact K H) gs ys
 | [], [], _ => .nil
 | [], _ :: _, h => by have := h.1; simp at this
 | _ :: _, [], h => by have := h.1; simp at this
 | g :: gs, y :: ys, h => .cons (EX (by have z := h.2 0 (by simp) (by simp); simpa using z)) (ix ⟨by have := h.1; simpa using this, fun i h1 h2 => by
   have z := h.2 (i + 1) (by simpa using h1) (by simpa using h2)
   simpa using z⟩)
theorem mq {α : Type} : ∀ (a b : List α), a.Nodup → b.Nodup → (∀ x, x ∈ a ↔ x ∈ b) → a.Perm b
 | [], b, _, _, h => by
  cases b with
  | nil => exact .refl _
  | cons y r => exact absurd ((h y).mpr (Z5 ..)) (by simp)
 | x :: a, b, ha, hb, h => by
  obtain ⟨b1, b2, rfl⟩ := List.append_of_mem ((h x).mp (Z5 ..))
  have hp : (b1 ++ x :: b2).Perm (x :: (b1 ++ b2)) := aem
  have hb' := hp.nodup_iff.mp hb
  rw [abE] at ha hb'
  refine (List.Perm.cons x (mq a (b1 ++ b2) ha.2 hb'.2 fun y => ?_)).trans hp.symm
  have hy := h y
  rw [hp.mem_iff, aai, aai] at hy
  constructor
  ·intro U4
   rcases hy.mp (.inr U4) with e | e
   ·subst e; exact absurd U4 ha.1
   ·exact e
  ·intro U5
   rcases hy.mpr (.inr U5) with e | e
   ·subst e; exact absurd U5 hb'.1
   ·exact e
theorem Hm {acc : List Tr} {t u : Tr} : u ∈ og acc t ↔ u ∈ acc ∨ u = t := by
 refine ⟨BI, fun h => ?_⟩
 unfold og
 split
 ·rename_i ha
  rcases h with h | h
  ·exact h
  ·obtain ⟨a, LJ, LK⟩ := abb.mp ha
   rw [h, ← nj LK]
   exact LJ
 ·rcases h with h | h
  ·exact ZY.mpr (.inl h)
  ·exact ZY.mpr (.inr (by rw [h]; exact ZX.mpr rfl))
theorem CN {acc : List Tr} {t : Tr} (h : acc.Nodup) : (og acc t).Nodup := by
 unfold og
 split
 ·exact h
 ·rename_i ha
  have hm : t ∉ acc := fun hm => ha (abb.mpr ⟨t, hm, jX t⟩)
  rw [acC]
  exact ⟨h, by simp, fun a h1 b h2 e => by rw [ZX.mp h2] at e; subst e; exact hm h1⟩
theorem mr (l : List Tr) : (dd l).Nodup ∧ ∀ u, u ∈ dd l ↔ u ∈ l := by
 have key : ∀ (l acc : List Tr), acc.Nodup → (l.foldl og acc).Nodup ∧ ∀ u, u ∈ l.foldl og acc ↔ u ∈ acc ∨ u ∈ l := by
  intro l
  induction l with
  | nil => intro acc h; exact ⟨h, fun u => by simp⟩
  | cons t r ih =>
   intro acc h
   have z := ih (og acc t) (CN h)
   refine ⟨z.1, fun u => ?_⟩
   show u ∈ r.foldl og (og acc t) ↔ _
   rw [z.2 u, Hm, aai]
   constructor
   ·rintro ((h | h) | h)
    ·exact .inl h
    ·exact .inr (.inl h)
    ·exact .inr (.inr h)
   ·rintro (h | h | h)
    ·exact .inl (.inl h)
    ·exact .inl (.inr h)
    ·exact .inr h
 have z := key l [] acM
 exact ⟨z.1, fun u => by rw [show dd l = l.foldl og [] from rfl, z.2 u]; simp⟩
theorem Hn {a b : List Tr} (h : ∀ u, u ∈ a ↔ u ∈ b) : aI (dd a) = aI (dd b) :=
 fL (mq _ _ (mr a).1 (mr b).1 fun u => by rw [(mr a).2, (mr b).2]; exact h u)
end Bk
namespace Bk
open PySem L2 cI
end Bk
namespace Bk
open PySem L2 cI
theorem EY {ks : List Kd} (nd : (ks.map (·.n)).Nodup) {f : Fc} {k : Kd} (hk : k ∈ ks) (h1 : f.k = k.n) (h2 : f.as.length = k.c) : fault ks f = 0 := by
 have hf : ks.find? (fun k => decide (k.n = f.k)) = some k := by
  induction ks with
  | nil => cases hk
  | cons g r ih =>
   rw [aap, abE] at nd
   rw [aaP]
   rcases aai.mp hk with e | e
   ·subst e
    rw [decide_eq_true h1.symm]
   ·have hne : ¬ g.n = f.k := fun z => nd.1 (Z1.mpr ⟨k, e, by rw [z, h1]⟩)
    rw [decide_eq_false hne]
    exact ih nd.2 e
 unfold fault
 rw [hf]
 exact if_pos h2.symm
theorem uM {ks : List Kd} (nd : (ks.map (·.n)).Nodup) : ∀ {fs : List Fc}, (∀ f ∈ fs, ∃ k ∈ ks, f.k = k.n ∧ f.as.length = k.c) → dH ks fs = 0
 | [], _ => rfl
 | f :: r, h => by
  obtain ⟨k, hk, h1, h2⟩ := h f (Z5 ..)
  show (if fault ks f = 0 then dH ks r else fault ks f) = 0
  rw [if_pos (EY nd hk h1 h2)]
  exact uM nd fun g hg => h g (Z9 _ hg)
end Bk
namespace Bk
open PySem L2 cI
end Bk
namespace Bk
open PySem L2 cI
theorem Am {K : ZQ} {H : Hp} {a b : aac} {fs : List Fc} {us : List V} (h1 : aC K H a us) (h2 : aC K H b us) (p1 : Paired (Fact K H) fs us) : Alike K H (.ref a) (.ref b) := by
 have z1 := aad p1
 refine Alike.plain (ds := fs.map fun g => (fT g).toD) h1 h2 (by simpa using z1) (fun d hd => ?_) fun i h0 h1 => ?_
 ·obtain ⟨g, _, rfl⟩ := Z1.mp hd
  exact aaM (x4 g).2 (by decide)
 ·rw [Z3]
  exact Fact.Hh (paired_at p1 i (by simpa using h0) h1)
end Bk
namespace Bk
open PySem L2 cI
end Bk
namespace Bk
open PySem L2 cI
theorem lW.toV {K : ZQ} {H : Hp} {v : V} {ps ls ns : List Tr} (h : lW K H v ps ls ns) : eR K H v ps ls ns := by
 obtain ⟨p, t0, t1, t2, y0, y1, y2, e, h1, h2, h3, h4, h5, h6, h7⟩ := h
 exact ⟨p, t0, t1, t2, y0, y1, y2, e, h1, h2, h3, h4, h5, h6.sq, h7⟩
theorem eR.sm {K : ZQ} {H H' : Hp} (s : af H H') {v : V} {ps ls ns : List Tr} (h : eR K H v ps ls ns) : eR K H' v ps ls ns := by
 obtain ⟨p, t0, t1, t2, y0, y1, y2, e, h1, h2, h3, h4, h5, h6, h7⟩ := h
 exact ⟨p, t0, t1, t2, y0, y1, y2, e, h1.same s, h2.same s, bq s h3, h4.same s, bq s h5, h6.same s, bq s h7⟩
def Np : List Dt := [.tup [], .tup [], .tup [], .bl true]
theorem vF {K : ZQ} {H : Hp} {p d0 d1 d2 : aac} (h : aK K H p [.ref d0, .ref d1, .ref d2, .bl true]) (h0 : aK K H d0 []) (h1 : aK K H d1 []) (h2 : aK K H d2 []) : cC K H (.tup Np) (.ref p) := by
 refine .tup h rfl fun j j1 j2 => ?_
 match j, j1, j2 with
 | 0, _, _ => exact .tup h0 rfl fun i i1 => absurd i1 (ac8 _)
 | 1, _, _ => exact .tup h1 rfl fun i i1 => absurd i1 (ac8 _)
 | 2, _, _ => exact .tup h2 rfl fun i i1 => absurd i1 (ac8 _)
 | 3, _, _ => exact .bl _
end Bk
namespace R3
abbrev Cs := List Nat
inductive Tk where
 | nm (w : Cs) | lp | rp | cm
abbrev Fc := Bk.Fc
variable (p5 sm : Nat → Bool)
def flush (w : Cs) : List Tk := if w = [] then [] else [.nm w]
def tk : Cs → Cs → Option (List Tk)
 | [], w => some (flush w)
 | c :: r, w =>
  if p5 c = true then tk r (w ++ [c])
  else if c = 40 then (tk r []).map fun t => flush w ++ .lp :: t
  else if c = 41 then (tk r []).map fun t => flush w ++ .rp :: t
  else if c = 44 then (tk r []).map fun t => flush w ++ .cm :: t
  else if c = 32 then (tk r []).map fun t => flush w ++ t
  else none
def Qa (v : Cs) : Bool := decide (v.length ≤ 12)
def Qb (w : Cs) : Bool := Qa w && (match w with | [] => false | c :: _ => sm c)
def args : List Tk → List Cs → Option (List Cs × List Tk)
 | .nm v :: .rp :: t, as => if Qa v = true then some (as ++ [v], t) else none
 | .nm v :: .cm :: t, as => if Qa v = true then args t (as ++ [v]) else none
 | _, _ => none
def vG (k : Cs) : List Tk → Option (Fc × List Tk)
 | .lp :: .rp :: t => some (⟨k, []⟩, t)
 | .lp :: t => (args t []).map fun q => (⟨k, q.1⟩, q.2)
 | t => some (⟨k, []⟩, t)
def Nq : List Tk → Option (Fc × List Tk)
 | .nm k :: t => if Qb sm k = true then vG k t else none
 | _ => none
def row : Nat → List Tk → List Fc → Option (List Fc)
 | 0, _, _ => none
 | f + 1, t, fs => match Nq sm t with
  | none => none
  | some (x, []) => some (fs ++ [x])
  | some (x, .cm :: t') => row f t' (fs ++ [x])
  | some (_, _) => none
def behind (f : Nat) (fs : List Fc) (q : Option (Fc × List Tk)) : Option (List Fc) := match q with
  | none => none
  | some (x, []) => some (fs ++ [x])
  | some (x, .cm :: t') => row sm f t' (fs ++ [x])
  | some (_, _) => none
def Nr (st c : Nat) : Option Nat :=
 let n := p5 c
 match st with
 | 0 => if c = 32 then some 0 else if n = true then some 1 else none
 | 1 => if n = true then some 1 else if c = 32 then some 2 else if c = 40 then some 3 else if c = 44 then some 0 else none
 | 2 => if c = 32 then some 2 else if c = 40 then some 3 else if c = 44 then some 0 else none
 | 3 => if c = 32 then some 3 else if n = true then some 4 else if c = 41 then some 7 else none
 | 4 => if n = true then some 4 else if c = 32 then some 5 else if c = 44 then some 6 else if c = 41 then some 7 else none
 | 5 => if c = 32 then some 5 else if c = 44 then some 6 else if c = 41 then some 7 else none
 | 6 => if c = 32 then some 6 else if n = true then some 4 else none
 | 7 => if c = 32 then some 7 else if c = 44 then some 0 else none
 | _ => none
def Nt (k : Cs) (as : List Cs) : Bool := Qb sm k && as.all Qa
def mv : Cs → Nat → Cs → List Cs → List Fc → Option (List Fc)
 | [], st, _, _, fs => if st = 0 then some fs else none
 | c :: r, st, k, as, fs => match Nr p5 st c with
  | none => none
  | some 1 => if st = 1 then mv r 1 (k ++ [c]) [] fs else mv r 1 [c] [] fs
  | some 4 => if st = 4 then mv r 4 k (as.dropLast ++ [as.getLastD [] ++ [c]]) fs else mv r 4 k (as ++ [[c]]) fs
  | some 0 => if st = 0 then mv r 0 k as fs else if Nt sm k as = true then mv r 0 k as (fs ++ [⟨k, as⟩]) else none
  | some iF => mv r iF k as fs
structure Sg : Prop where
 Zo : p5 32 = false
 Zp : p5 40 = false
 Zq : p5 41 = false
 Zr : p5 44 = false
def Kj (k : Cs) (as : List Cs) : List Tk → Option (Fc × List Tk)
 | .rp :: t => some (⟨k, as⟩, t)
 | .cm :: t => (args t as).map fun q => (⟨k, q.1⟩, q.2)
 | _ => none
structure All (r : Cs) : Prop where
 s0 : ∀ k as fs f, r.length < f → mv p5 sm (r ++ [44]) 0 k as fs = (tk p5 r []).bind fun t => row sm f t fs
 s1 : ∀ k fs f, r.length < f → k ≠ [] → mv p5 sm (r ++ [44]) 1 k [] fs = (tk p5 r k).bind fun t => row sm (f + 1) t fs
 s2 : ∀ k fs f, r.length < f → mv p5 sm (r ++ [44]) 2 k [] fs = if Qb sm k = true then (tk p5 r []).bind fun t => behind sm f fs (vG k t) else none
 s3 : ∀ k fs f, r.length < f → mv p5 sm (r ++ [44]) 3 k [] fs = if Qb sm k = true then (tk p5 r []).bind fun t => behind sm f fs (vG k (.lp :: t)) else none
 s4 : ∀ k as v fs f, r.length < f → v ≠ [] → mv p5 sm (r ++ [44]) 4 k (as ++ [v]) fs = if Nt sm k as = true then (tk p5 r v).bind fun t => behind sm f fs ((args t as).map fun q => (⟨k, q.1⟩, q.2)) else none
 s5 : ∀ k as fs f, r.length < f → mv p5 sm (r ++ [44]) 5 k as fs = if Nt sm k as = true then (tk p5 r []).bind fun t => behind sm f fs (Kj k as t) else none
 s6 : ∀ k as fs f, r.length < f → mv p5 sm (r ++ [44]) 6 k as fs = if Nt sm k as = true then (tk p5 r []).bind fun t => behind sm f fs ((args t as).map fun q => (⟨k, q.1⟩, q.2)) else none
 s7 : ∀ k as fs f, r.length < f → mv p5 sm (r ++ [44]) 7 k as fs = if Nt sm k as = true then (tk p5 r []).bind fun t => behind sm f fs (some (⟨k, as⟩, t)) else none
variable (S : Sg p5)
include S
end R3
namespace Bk
open PySem L2 cI
end Bk
namespace Bk
open PySem L2 cI
def aN (g : Fc) : Cs := if g.as = [] then g.k else ((g.k ++ [40]) ++ qE 44 g.as) ++ [41]
def dB : List Cs → Cs
 | [] => []
 | [a] => a
 | a :: r => a ++ 44 :: 32 :: dB r
theorem yd : ∀ (ls : List Str), (adR (aae ", ") ls).cps.toList = dB (ls.map fun s => s.cps.toList)
 | [] => rfl
 | [a] => rfl
 | a :: b :: r => by
  have ih := yd (b :: r)
  show ((a ++ (aae ", ")) ++ adR (aae ", ") (b :: r)).cps.toList = _
  rw [abz, abz, ih]
  have e : (aae ", ").cps.toList = [44, 32] := by decide +kernel
  rw [e]
  show (a.cps.toList ++ [44, 32]) ++ _ = a.cps.toList ++ 44 :: 32 :: _
  simp
theorem oA (ls : List Cs) : ad7 (aae ", ") (ls.map S) = S (dB ls) := by
 show ade (aae ", ") _ = _
 rw [acx, ← ve (adR (aae ", ") (ls.map S)), yd, aaJ]
 have e : ((fun s : Str => s.cps.toList) ∘ S) = id := by
  funext p
  exact aZ p
 rw [e, abA]
structure FG (g : Fc) : Prop where
 k : gM g.k = true
 as : ∀ a ∈ g.as, aP a = true
 n : g.as.length ≤ 4
theorem nG : ∀ (as : List Cs), (∀ a ∈ as, a.length ≤ 12) → (qE 44 as).length ≤ as.length * 13
 | [], _ => aaX _
 | [a], h => by have := h a (Z5 ..); show a.length ≤ 1 * 13; omega
 | a :: b :: t, h => by
  have ih := nG (b :: t) fun x hx => h x (Z9 _ hx)
  have := h a (Z5 ..)
  show (a ++ 44 :: qE 44 (b :: t)).length ≤ (b :: t).length.succ * 13
  rw [Z6, aal]
  omega
theorem iW : ∀ (ls : List Cs), (∀ l ∈ ls, l.length ≤ 70) → (dB ls).length ≤ ls.length * 72
 | [], _ => aaX _
 | [a], h => by have := h a (Z5 ..); show a.length ≤ 1 * 72; omega
 | a :: b :: t, h => by
  have ih := iW (b :: t) fun x hx => h x (Z9 _ hx)
  have := h a (Z5 ..)
  show (a ++ 44 :: 32 :: dB (b :: t)).length ≤ (b :: t).length.succ * 72
  rw [Z6, aal, aal]
  omega
end Bk
namespace L2
open PySem PySem.Spec PyProof.Rows Bk
theorem ye {tt : TT} {te : TE} {aJ : List Nat} {σ : St} {H1 : Hp} {Q : VK} {K : ZQ} {a : aac} {xs : List V} {D : aac} (hn : xs.length < Z2) (Pv : Nat → List V → Hp → Prop) (h0 : Pv 0 [] (upd H1 D (.lst [])))
  (hl : ∀ i ys H, Pv i ys H → aK K H a xs) (hD : ∀ i ys H, Pv i ys H → H D = some (.lst ys) ∧ ys.length ≤ i)
  (hs : ∀ i ys H, i < xs.length → Pv i ys H → tt (bT σ (some (xs.getD i .bB)) aJ) H fun b H2 =>
   if b = true then te (bT σ (some (xs.getD i .bB)) aJ) H2 fun y H3 => H3 D = some (.lst ys) ∧ Pv (i + 1) (ys ++ [y]) (upd H3 D (.lst (ys ++ [y])))
   else Pv (i + 1) ys H2)
  (hd : ∀ ys H, Pv xs.length ys H → Q (.ref D) H) : jU tt te aJ σ Q (Gu K a) H1 D :=
 vb (J := Gu K a) (Q := Q) (D := D) (H1 := H1) xs.length hn (fun i => xs.getD i .bB) Pv h0 (fun ys H p => ⟨xs, hl _ ys H p, Z0 _⟩)
  (fun i ys H p h => ⟨xs, xs[i], hl i ys H p, by simp [h]⟩) (fun i ys H x H' p h y => ⟨y.1, by
   have z := y.2 xs (hl i ys H p)
   rw [Gd9, z] <;> rfl⟩) hD hs hd
section
variable {te : TE} {aJ : List Nat} {σ : St} {H1 : Hp} {Q : VK} {K : ZQ} {a : aac} {xs : List V} {D : aac} {gs : List V}
theorem uN {i : Nat} {ys : List V} {H' : Hp} (hn : gs.length = xs.length) (pU : H1 D = none) (he : ∀ (i : Nat) x g H' R, xs[i]? = some x → gs[i]? = some g → af H1 H' → (∀ jG, af H' jG → R g jG) → te (bT σ (some x) aJ) H' R) (hi : i < xs.length)
  (p : af H1 H' ∧ H' D = some (.lst ys) ∧ ys = gs.take i) : zH (bT σ (some (xs.getD i .bB)) aJ) H' fun b H2 =>
   if b = true then te (bT σ (some (xs.getD i .bB)) aJ) H2 fun y H3 => H3 D = some (.lst ys) ∧ (af H1 (upd H3 D (.lst (ys ++ [y]))) ∧ upd H3 D (.lst (ys ++ [y])) D = some (.lst (ys ++ [y])) ∧ ys ++ [y] = gs.take (i + 1))
   else (af H1 H2 ∧ H2 D = some (.lst ys) ∧ ys = gs.take (i + 1)) := by
 have hx : xs.getD i .bB = xs[i] := by rw [Gd9, Ge9 hi]; rfl
 rw [hx]
 unfold zH
 simp only [if_true]
 have U6 : i < gs.length := by omega
 refine he i _ gs[i] _ _ (Ge9 hi) (Ge9 U6) p.1 fun H3 s3 => ?_
 refine ⟨s3 _ _ p.2.1, af.a8 (af.trans p.1 s3) pU _, ae, ?_⟩
 rw [p.2.2, Z4 U6]
theorem EZ (hn : gs.length = xs.length) (hz : xs.length < Z2) (pU : H1 D = none) (hl : aC K H1 a xs) (he : ∀ (i : Nat) x g H' R, xs[i]? = some x → gs[i]? = some g → af H1 H' → (∀ jG, af H' jG → R g jG) → te (bT σ (some x) aJ) H' R)
  (hd : ∀ H', af H1 H' → H' D = some (.lst gs) → Q (.ref D) H') : jU zH te aJ σ Q (DK K a) H1 D := by
 refine ig (K := K) (a := a) (xs := xs) hz (fun i ys H' => af H1 H' ∧ H' D = some (.lst ys) ∧ ys = gs.take i) ⟨aj pU _, ae, rfl⟩ (fun i ys H' p => p.1.seq hl) (fun i ys H' p => ⟨p.2.1, by rw [p.2.2, aah]; omega⟩) (fun i ys H' hi p => uN hn pU he hi p) (fun ys H' p => ?_)
 have z := p.2.2
 rw [aaV (by omega)] at z
 exact hd H' p.1 (z ▸ p.2.1)
theorem j6 (hn : gs.length = xs.length) (hz : xs.length < Z2) (pU : H1 D = none) (hl : aK K H1 a xs) (he : ∀ (i : Nat) x g H' R, xs[i]? = some x → gs[i]? = some g → af H1 H' → (∀ jG, af H' jG → R g jG) → te (bT σ (some x) aJ) H' R)
  (hd : ∀ H', af H1 H' → H' D = some (.lst gs) → Q (.ref D) H') : jU zH te aJ σ Q (Gu K a) H1 D := by
 refine ye (K := K) (a := a) (xs := xs) hz (fun i ys H' => af H1 H' ∧ H' D = some (.lst ys) ∧ ys = gs.take i) ⟨aj pU _, ae, rfl⟩ (fun i ys H' p => hl.same p.1) (fun i ys H' p => ⟨p.2.1, by rw [p.2.2, aah]; omega⟩) (fun i ys H' hi p => uN hn pU he hi p) (fun ys H' p => ?_)
 have z := p.2.2
 rw [aaV (by omega)] at z
 exact hd H' p.1 (z ▸ p.2.1)
end
end L2
namespace L2
open PySem PySem.Spec PyProof.Rows
theorem yf {prog : aao} {w : aaO} {A : aaA} {P : Nat → ZS → Prop} (f : Nat → Str) (hf : ∀ i v, P i v → ∃ t, v = .str (f i) t) : CmpOf prog w A .Lt P (fun i j => bR (.str (f i)) (.str (f j))) := fun i j vi vj s Q E hi hj h => by
 obtain ⟨t, rfl⟩ := hf i vi hi
 obtain ⟨u, rfl⟩ := hf j vj hj
 simp only [bR] at h
 exact (ae4 h : aar (model prog w) A (compareOp .Lt _ _) Q E s)
theorem BJ (f : Nat → Tr) : ∀ n, argBest (fun i j => bR (f i) (f j)) n ≤ n ∧ ∀ i, i ≤ n → bR (f i) (f (argBest (fun i j => bR (f i) (f j)) n)) = false
 | 0 => ⟨Z0 _, fun i hi => by
   obtain rfl : i = 0 := by omega
   exact nq _⟩
 | n + 1 => by
  obtain ⟨h1, h2⟩ := BJ f n
  unfold argBest
  generalize argBest (fun i j => bR (f i) (f j)) n = k at h1 h2 ⊢
  cases hb : bR (f (n + 1)) (f k) with
  | true =>
   rw [if_pos rfl]
   refine ⟨Z0 _, fun i hi => ?_⟩
   by_cases e : i = n + 1
   ·rw [e]; exact nq _
   ·cases hx : bR (f i) (f (n + 1)) with
    | false => rfl
    | true =>
     have z := h2 i (by omega)
     rw [ik _ _ _ hx hb] at z
     cases z
  | false =>
   rw [if_neg (by simp)]
   refine ⟨by omega, fun i hi => ?_⟩
   by_cases e : i = n + 1
   ·rw [e]; exact hb
   ·exact h2 i (by omega)
section
variable {X : Cx}
theorem yg {ks : List Str} {its : List ZS} (r : Vals (ks.map V.str) its) : its.length = ks.length ∧ ∀ (i : Nat) (v : ZS), its[i]? = some v → ∃ t, v = acq (ks.getD i aaU) t := by
 have hl := r.length
 rw [Lm9] at hl
 refine ⟨hl.symm, fun i v hv => ?_⟩
 obtain ⟨hi, ev⟩ := ZZ.mp hv
 have hk : i < ks.length := by omega
 obtain ⟨u, f1, q1⟩ := r.get (i := i) (x := V.str ks[i]) (by simp [hk])
 rw [hv] at f1
 cases f1
 obtain ⟨t, rfl⟩ := q1
 exact ⟨t, by simp [Gd9, hk]⟩
theorem An (hc : X.calm = true) : cK X (.builtin "min") (fun xs H Q => ∃ (p : aac) (ks : List Str), xs = [.ref p] ∧ aC X.K H p (ks.map V.str) ∧ ks ≠ [] ∧ ∀ m ∈ ks, (∀ k ∈ ks, bR (.str k) (.str m) = false) → Q (.str m) H) := by
 intro pins s σ H xs us Q I r h
 obtain ⟨p, ks, rfl, hq, hne, q⟩ := h
 obtain ⟨u, rfl, rx⟩ := vals1 r
 cases rx
 obtain ⟨its, r', pl, hz⟩ := I.list hq
 obtain ⟨hl, hi⟩ := yg r'
 have fF : p < s.heap.objs.size := by
  obtain ⟨_, e, _⟩ := pl.isList
  exact aab e
 have Sd : 0 < ks.length := List.length_pos_iff.mpr hne
 refine call_min_walk (wpAny_pyIter_list pl.isList ?_)
 refine ⟨s.heap.objs.size, [s.heap.objs.size, p], [s.heap.objs.size], its.toArray.size, _, _, fun i j => bR (.str (ks.getD i aaU)) (.str (ks.getD j aaU)), rfl, Walks.list (A := X.A.in1) (I.ok.hd hc) _ p (aam fF) its.toArray,
  ⟨⟨_, Z8 _ rfl, rfl, rfl⟩, pl.isList.push _⟩, fun b hb => ?_, (by rw [aag, hl]; exact Sd), yf (fun i => ks.getD i aaU) (fun i v hP => hi i v (by simpa using hP)), fun v h' tk hP hk => ?_⟩
 ·show b < (s.heap.push _).objs.size
  rw [ab1]
  rcases (by simpa using hb : b = s.heap.objs.size ∨ b = p) with e | e <;> rw [e]
  ·exact aci _
  ·exact abR fF
 ·have el : its.toArray.size = ks.length := by rw [aag, hl]
  rw [el] at hP
  obtain ⟨b1, b2⟩ := BJ (fun i => .str (ks.getD i aaU)) (ks.length - 1)
  have hP' : its[argBest (fun i j => bR (.str (ks.getD i aaU)) (.str (ks.getD j aaU))) (ks.length - 1)]? = some v := by rw [← List.getElem?_toArray]; exact hP
  obtain ⟨t, ev⟩ := hi _ v hP'
  generalize argBest (fun i j => bR (.str (ks.getD i aaU)) (.str (ks.getD j aaU))) (ks.length - 1) = j at b1 b2 ev
  have hj : j < ks.length := by omega
  have ej : ks.getD j aaU = ks[j] := by simp [Gd9, hj]
  have b2 : ∀ i, i ≤ ks.length - 1 → bR (.str (ks.getD i aaU)) (.str (ks.getD j aaU)) = false := b2
  rw [ej] at ev b2
  refine ⟨.str ks[j], H, I.kept (t' := tk) fun b o e => hk b o (fun hm => ?_) (ZV _ e), ⟨t, ev⟩, q _ (ZT hj) fun k hk => ?_⟩
  ·rw [ZX.mp hm] at e
   exact abW _ (aab e)
  ·obtain ⟨i, hi', rfl⟩ := aa2.mp hk
   have z := b2 i (by omega)
   rw [show ks.getD i aaU = ks[i] by simp [Gd9, hi']] at z
   exact z
theorem Ao (hc : X.calm = true) : cK X (.builtin "min") (fun xs H Q => ∃ a b, xs = [.str a, .str b] ∧ Q (.str (if bR (.str b) (.str a) = true then b else a)) H) := by
 intro pins s σ H xs us Q I r h
 obtain ⟨a, b, rfl, q⟩ := h
 obtain ⟨u, w', rfl, ⟨t, rfl⟩, ⟨t', rfl⟩⟩ := vals2 r
 have hT : (s.heap.push { cls := .type "tuple", data := .seq #[.str a t, .str b t'] }).IsTuple s.heap.objs.size #[.str a t, .str b t'] := ⟨_, Z8 _ rfl, rfl, 0, rfl⟩
 refine call_min_two (wpAny_pyIter_tuple hT ?_)
 have hsz : (s.heap.push { cls := .type "tuple", data := .seq #[.str a t, .str b t'] }).objs.size = s.heap.objs.size + 1 := ab1 ..
 refine ⟨_, [_, s.heap.objs.size], [_], _, _, _, fun i j => bR (.str ([a, b].getD i aaU)) (.str ([a, b].getD j aaU)), rfl, Walks.tuple (A := X.A.in1) (I.ok.hd hc) _ s.heap.objs.size (by rw [hsz]; exact aam (aci _)) #[.str a t, .str b t'],
  ⟨⟨_, Z8 _ rfl, rfl, rfl⟩, hT.push _⟩, fun b hb => ?_, (by show 0 < 2; decide), yf (fun i => [a, b].getD i aaU) (fun i v hP => ?_), fun v h' tk hP hk => ?_⟩
 ·show _ < ((s.heap.push _).push _).objs.size
  rw [ab1, hsz]
  rcases aai.mp hb with rfl | hb
  ·rw [hsz]; exact aci _
  ·rcases aai.mp hb with rfl | hb
   ·exact abR (aci _)
   ·cases hb
 ·have hP : #[acq a t, acq b t'][i]? = some v := hP
  match i, hP with
  | 0, hP => exact ⟨t, by simpa using hP.symm⟩
  | 1, hP => exact ⟨t', by simpa using hP.symm⟩
  | i + 2, hP => simp at hP
 ·have hold : ∀ c o, s.heap.get? c = some o → h'.get? c = some o := fun c o e => by
   refine hk c o (fun hm => ?_) (ZV _ (ZV _ e))
   rcases aai.mp hm with e1 | hm
   ·have := aab e; rw [e1, hsz] at this; exact abW _ (Nat.lt_of_succ_lt this)
   ·cases hm
  have hP : #[acq a t, acq b t'][argBest (fun i j => bR (.str ([a, b].getD i aaU)) (.str ([a, b].getD j aaU))) 1]? = some v := hP
  refine ⟨_, H, I.kept (t' := tk) hold, ?_, q⟩
  cases hb : bR (.str b) (.str a) with
  | true =>
   rw [if_pos rfl]
   have e : argBest (fun i j => bR (.str ([a, b].getD i aaU)) (.str ([a, b].getD j aaU))) 1 = 1 := by
    show (if bR (.str b) (.str a) = true then 1 else 0) = 1
    rw [hb]; rfl
   rw [e] at hP
   exact ⟨t', by simpa using hP.symm⟩
  | false =>
   rw [if_neg (by simp)]
   have e : argBest (fun i j => bR (.str ([a, b].getD i aaU)) (.str ([a, b].getD j aaU))) 1 = 0 := by
    show (if bR (.str b) (.str a) = true then 1 else 0) = 0
    rw [hb]; rfl
   rw [e] at hP
   exact ⟨t, by simpa using hP.symm⟩
end
end L2
namespace L2
open PySem PySem.Spec PyProof.Rows
def Ap (acc : List Str) (k : Str) : List Str := if k ∈ acc then acc else acc ++ [k]
def dS (ks : List Str) : List Str := ks.foldl Ap []
theorem vH {ks : List Str} {i : Nat} (h : i < ks.length) : dS (ks.take (i + 1)) = Ap (dS (ks.take i)) ks[i] := by
 unfold dS
 rw [Z4 h, abh]
 rfl
theorem BK (acc : List Str) (k : Str) : (Ap acc k).length = if k ∈ acc then acc.length else acc.length + 1 := by
 unfold Ap
 split
 ·rfl
 ·simp
theorem E3 (ks : List Str) : ∀ i, i ≤ ks.length → (dS (ks.take i)).length ≤ i
 | 0, _ => by simp [dS]
 | i + 1, h => by
  have z := E3 ks i (by omega)
  rw [vH (by omega), BK]
  split <;> omega
def mw (P : aao) (w : aaO) (p : aac) (n : Nat) : Heap → Prop := fun h => n < 1000 ∧ ∃ S, h.SetOf (strKind P w) p S n
theorem CO {P : aao} {w : aaO} {H : Hp} {h : Heap} {p : aac} {n : Nat} (x : mw P w p n h) : ba P w H h p (.ext (mw P w p n)) :=
 ⟨x, let ⟨_, _, o, _, _, _, e, _⟩ := x; ⟨o, e⟩, fun h1 h2 y k => by
  obtain ⟨z, S, o, es, ep, t, e, c⟩ := y
  exact ⟨z, S, o, es, ep, t, k _ e, c⟩⟩
section
variable {X : Cx} {pins : List (aac × Obj)} {σ : St} {H : Hp} {s : ZU} {a it l : aac} {ks : List Str} {its : List ZS}
theorem CQ {A : aaA} {R : Result → ZU → Prop} (I : Inv X pins σ H s) (hh : A.handled = none) (hl : s.heap.IsList l its.toArray) (rv : Vals (ks.map V.str) its) (hlen : ks.length < 900)
  (ha : s.heap.objs.size ≤ a) (zN : s.heap.objs.size ≤ it) (hne : a ≠ it)
  (fin : ∀ h' tk, (∀ b o, s.heap.get? b = some o → h'.get? b = some o) → h'.SetOf (strKind X.prog X.w) a (fun k => decide (k ∈ dS ks)) (dS ks).length → R (.ok (.ret .none)) { s with heap := h', toks := tk }) :
  ∀ (k i : Nat) (h' : Heap) (tk : Nat), its.length - i = k → i ≤ its.length → (∀ b o, s.heap.get? b = some o → h'.get? b = some o) → h'.IsListIter it l i → h'.SetOf (strKind X.prog X.w) a (fun k => decide (k ∈ dS (ks.take i))) (dS (ks.take i)).length →
   aar (model X.prog X.w) A.in1 (Builtin.«set.update.loop» ⟨[.ref a, .ref it], []⟩) (fun fin s' => match fin with | .done f => R (.ok f) s' | .again c' => c'.quiet = true ∧ codeAny (model X.prog X.w) A c' R s') (fun e s' => R (.error e) s') { s with heap := h', toks := tk } := by
 obtain ⟨qx, Nu⟩ := yg rv
 have lt : ∀ b o, s.heap.get? b = some o → b ≠ a ∧ b ≠ it := fun b o q => by
  exact ⟨aam (aaf (aab q) ha), aam (aaf (aab q) zN)⟩
 obtain ⟨ol, zq, qy⟩ := id hl
 intro k
 induction k with
 | zero =>
  intro i h' tk hk hi kp hit hS
  obtain rfl : i = its.length := by omega
  unfold Builtin.«set.update.loop»
  dsimp only
  refine ZR (wpAny_pyNext_list_end (s := { s with heap := h', toks := tk }) (A := A.in1) hh hit (show h'.IsList l its.toArray from ⟨ol, kp _ _ zq, qy⟩) (by simp) fun h2 m7 => ?_)
  dsimp only
  refine ZW ?_
  rw [qx, aau] at hS
  refine fin h2 tk (fun b o q => m7 b o (lt b o q).2 (kp b o q)) ?_
  obtain ⟨o, es, ep, t, ho, r⟩ := hS
  exact ⟨o, es, ep, t, m7 a o hne ho, r⟩
 | succ k ih =>
  intro i h' tk hk hi kp hit hS
  have GS : i < its.length := by omega
  have Nv : i < ks.length := by omega
  unfold Builtin.«set.update.loop»
  dsimp only
  refine ZR (wpAny_pyNext_list_item (s := { s with heap := h', toks := tk }) (x := its[i]) hit (show h'.IsList l its.toArray from ⟨ol, kp _ _ zq, qy⟩) (by simp [GS]) fun h1 oQ xy => ?_)
  dsimp only
  have D9 : ∀ b o, s.heap.get? b = some o → h1.get? b = some o := fun b o q => (xy.2 b (lt b o q).2).trans (kp b o q)
  have hS1 : h1.SetOf (strKind X.prog X.w) a (fun k => decide (k ∈ dS (ks.take i))) (dS (ks.take i)).length := by
   obtain ⟨o, es, ep, t, ho, r⟩ := hS
   exact ⟨o, es, ep, t, (xy.2 a hne).trans ho, r⟩
  obtain ⟨t, ev⟩ := Nu i its[i] (Ge9 GS)
  rw [show ks.getD i aaU = ks[i] by simp [Gd9, Nv]] at ev
  rw [ev]
  have hle := E3 ks i (by omega)
  refine ZR (wpAny_holding ?_)
  unfold setAdd
  refine wpAny_holding (ZR (wpAny_pyHash_str ?_))
  have hb : (dS (ks.take i)).length + 1 < scanBound := aaf (show (dS (ks.take i)).length + 1 < 1000 by omega) (by decide +kernel)
  have hkey : (strKind X.prog X.w).is ks[i] (acq ks[i] t) = true := by show ad5 ks[i] (acq ks[i] t) = true; simp [ad5]
  refine wpAny_setAddHashed_of (knd := strKind X.prog X.w) (k := ks[i]) hkey rfl hS1 hb fun h2 pz hS2 => ?_
  have Ea : ∀ b o, s.heap.get? b = some o → h2.get? b = some o := fun b o q => (pz.2 b (lt b o q).1).trans (D9 b o q)
  have zO : h2.IsListIter it l (i + 1) := by
   obtain ⟨o, ho, r⟩ := oQ
   exact ⟨o, (pz.2 it (acr hne)).trans ho, r⟩
  refine ZW ?_
  refine ⟨plainId_quiet fu _, codeAny_builtin lH ?_⟩
  rw [aaR fu _]
  refine ih (i + 1) h2 _ (by omega) (by omega) Ea zO ?_
  have e1 : (fun k' => decide (k' ∈ dS (ks.take i)) || decide (k' = ks[i])) = fun k' => decide (k' ∈ dS (ks.take (i + 1))) := by
   funext k'
   rw [vH Nv]
   unfold Ap
   split
   ·rename_i hm
    by_cases e : k' = ks[i]
    ·rw [e]; simp [hm]
    ·simp [e]
   ·by_cases e : k' = ks[i] <;> simp [e]
  have e2 : (if decide (ks[i] ∈ dS (ks.take i)) = true then (dS (ks.take i)).length else (dS (ks.take i)).length + 1) = (dS (ks.take (i + 1))).length := by
   rw [vH Nv, BK]
   simp
  rw [← e1, ← e2]
  exact hS2
theorem CS (hc : X.calm = true) : cK X (.type "set") (fun xs H Q => ∃ (l : aac) (ks : List Str), xs = [.ref l] ∧ aC X.K H l (ks.map V.str) ∧ ks.length < 900 ∧ ∀ p, H p = none → Q (.ref p) (upd H p (.ext (mw X.prog X.w p (dS ks).length)))) := by
 intro pins s σ H xs us Q I rx h
 obtain ⟨l, ks, rfl, hq, h9, q⟩ := h
 obtain ⟨u, rfl, ru⟩ := vals1 rx
 cases ru
 obtain ⟨its, r, pl, hz⟩ := I.list hq
 refine qM (led := !X.w.params.followText "set-order") pl.isList rfl ?_
 refine codeAny_builtin lH ?_
 rw [aaR fu _]
 have e1 : (s.heap.push { cls := .type "set", dict := none, data := .set #[] 0 (.fresh 0 0 (!X.w.params.followText "set-order")) }).get? s.heap.objs.size = some { cls := .type "set", dict := none, data := .set #[] 0 (.fresh 0 0 (!X.w.params.followText "set-order")) } := Z8 _ rfl
 have e2 : (s.heap.push { cls := .type "set", dict := none, data := .set #[] 0 (.fresh 0 0 (!X.w.params.followText "set-order")) }).objs.size = s.heap.objs.size + 1 := ab1 _ _
 have e3 : ((s.heap.push { cls := .type "set", dict := none, data := .set #[] 0 (.fresh 0 0 (!X.w.params.followText "set-order")) }).push { cls := .type "list_iterator", data := .fields #[.ref l, .int 0 0] }).get? (s.heap.objs.size + 1) = some { cls := .type "list_iterator", data := .fields #[.ref l, .int 0 0] } := by
  rw [← e2]
  exact Z8 _ rfl
 refine CQ (A := X.A.in1.in1) (ks := ks) (its := its) (l := l) I (I.ok.hd hc) pl.isList r h9 (Z0 _) (Nat.le_succ _) (aam (aci _)) (fun h' tk kp hS => ?_) its.length 0 _ s.toks (by omega) (aaX _) (fun b o z => ZV _ (ZV _ z)) ⟨_, e3, rfl, rfl⟩ ?_
 ·have hle := E3 ks ks.length (Z0 _)
  rw [aau] at hle
  exact ⟨.ref s.heap.objs.size, _, I.laid (o := .ext (mw X.prog X.w s.heap.objs.size (dS ks).length)) (t' := tk) kp (Z0 _) (CO ⟨by omega, _, hS⟩), rfl, q _ (I.hok.fresh (Z0 _))⟩
 ·refine ⟨_, #[], 0, _, ZV _ e1, ⟨rfl, rfl, rfl⟩, rfl, (fun e he => by simp at he), fun k => ?_, by decide +kernel, ?_, rfl⟩
  ·simp [dS]
  ·rfl
theorem CT : cK X (.builtin "len") (fun xs H Q => ∃ (p : aac) (n : Nat), xs = [.ref p] ∧ H p = some (.ext (mw X.prog X.w p n)) ∧ Q (.int n) H) := by
 intro pins s σ H xs us Q I rx h
 obtain ⟨p, n, rfl, hp, q⟩ := h
 obtain ⟨u, rfl, ru⟩ := vals1 rx
 cases ru
 obtain ⟨⟨hn, S, o, es, ep, t, ho, hex, hd, _, _, _, hf, en⟩, _⟩ := (show ba X.prog X.w H s.heap p (.ext (mw X.prog X.w p n)) from I.hok p _ hp)
 subst en
 exact call_len_set ho hex hd hf (by omega) ⟨.int es.size, H, I.tok _, ⟨_, rfl⟩, q⟩
end
end L2
namespace Un
section
variable {α : Type} [DecidableEq α] (great : α → Bool) (lt : α → α → Bool)
structure Ord : Prop where
 Eh : ∀ a, lt a a = false
 tr : ∀ a b c, lt a b = true → lt b c = true → lt a c = true
 Se : ∀ a b, lt a b = false → lt b a = false → a = b
def mn (a b : α) : α := if lt b a = true then b else a
def gw (p q : α) : α := if great p = false then p else if great q = false then q else mn lt p q
structure iy (one : List α) (r : α) : Prop where
 mem : r ∈ one
 low : great r = false ∨ ((∀ x ∈ one, great x = true) ∧ ∀ x ∈ one, lt x r = false)
def uO (one : List α) : Prop := ∀ x ∈ one, ∀ y ∈ one, great x = false → great y = false → x = y
variable {great lt}
theorem iy.uniq (o : Ord lt) {one Nx : List α} (hs : ∀ x, x ∈ one ↔ x ∈ Nx) (hw : uO great one) {r r' : α} (h : iy great lt one r) (h' : iy great lt Nx r') : r = r' := by
 have m' : r' ∈ one := (hs r').mpr h'.mem
 rcases h.low with a | ⟨a1, a2⟩
 ·rcases h'.low with b | ⟨b1, b2⟩
  ·exact hw r h.mem r' m' a b
  ·have z := b1 r ((hs r).mp h.mem)
   rw [a] at z
   cases z
 ·rcases h'.low with b | ⟨b1, b2⟩
  ·have z := a1 r' m'
   rw [b] at z
   cases z
  ·exact o.Se r r' (b2 r ((hs r).mp h.mem)) (a2 r' m')
theorem BL (a b : α) : mn lt a b = a ∨ mn lt a b = b := by
 unfold mn
 split
 ·exact .inr rfl
 ·exact .inl rfl
theorem Kk (o : Ord lt) {a b x : α} (h : lt x a = false ∨ lt x b = false) : lt x (mn lt a b) = false := by
 unfold mn
 cases hb : lt b a with
 | true =>
  rw [if_pos rfl]
  rcases h with h | h
  ·cases hx : lt x b with
   | false => rfl
   | true => rw [o.tr x b a hx hb] at h; cases h
  ·exact h
 | false =>
  rw [if_neg (by simp)]
  rcases h with h | h
  ·exact h
  ·cases hx : lt x a with
   | false => rfl
   | true =>
    cases hab : lt a b with
    | true => rw [o.tr x a b hx hab] at h; cases h
    | false =>
     have e := o.Se a b hab hb
     rw [e, h] at hx
     cases hx
theorem CU (o : Ord lt) {A B both : List α} {p q : α} (hs : ∀ x, x ∈ both ↔ x ∈ A ∨ x ∈ B) (hp : iy great lt A p) (hq : iy great lt B q) : iy great lt both (gw great lt p q) := by
 unfold gw
 by_cases h1 : great p = false
 ·rw [if_pos h1]
  exact ⟨(hs p).mpr (.inl hp.mem), .inl h1⟩
 ·rw [if_neg h1]
  by_cases h2 : great q = false
  ·rw [if_pos h2]
   exact ⟨(hs q).mpr (.inr hq.mem), .inl h2⟩
  ·rw [if_neg h2]
   rcases hp.low with a | ⟨a1, a2⟩
   ·exact absurd a h1
   rcases hq.low with b | ⟨b1, b2⟩
   ·exact absurd b h2
   refine ⟨?_, .inr ⟨fun x hx => ?_, fun x hx => Kk o ?_⟩⟩
   ·rcases BL (lt := lt) p q with e | e
    ·rw [e]; exact (hs p).mpr (.inl hp.mem)
    ·rw [e]; exact (hs q).mpr (.inr hq.mem)
   ·rcases (hs x).mp hx with h | h
    ·exact a1 x h
    ·exact b1 x h
   ·rcases (hs x).mp hx with h | h
    ·exact .inl (a2 x h)
    ·exact .inr (b2 x h)
def go (a b : α) : List (List α) → List α × List (List α) → List α × List (List α)
 | [], acc => acc
 | one :: r, acc => if a ∈ one ∨ b ∈ one then go a b r (acc.1 ++ one.filter (fun x => decide (x ∉ acc.1)), acc.2) else go a b r (acc.1, acc.2 ++ [one])
def merged (cl : List (List α)) (a b : α) : List (List α) := (go a b cl ([a, b], [])).2 ++ [(go a b cl ([a, b], [])).1]
def cls (cl : List (List α)) (x : α) : List α := (cl.find? fun one => decide (x ∈ one)).getD [x]
theorem j7 (a b : α) : ∀ (cl : List (List α)) (acc : List α × List (List α)) (x : α), x ∈ (go a b cl acc).1 ↔ x ∈ acc.1 ∨ ∃ one ∈ cl, (a ∈ one ∨ b ∈ one) ∧ x ∈ one
 | [], acc, x => by simp [go]
 | one :: r, acc, x => by
  unfold go
  split
  ·rename_i h
   rw [j7 a b r]
   constructor
   ·rintro (h1 | ⟨o, ho, h2, h3⟩)
    ·rcases ZY.mp h1 with h1 | h1
     ·exact .inl h1
     ·exact .inr ⟨one, Z5 .., h, (aaq.mp h1).1⟩
    ·exact .inr ⟨o, Z9 _ ho, h2, h3⟩
   ·rintro (h1 | ⟨o, ho, h2, h3⟩)
    ·exact .inl (ZY.mpr (.inl h1))
    ·rcases aai.mp ho with e | ho
     ·subst e
      by_cases hx : x ∈ acc.1
      ·exact .inl (ZY.mpr (.inl hx))
      ·exact .inl (ZY.mpr (.inr (aaq.mpr ⟨h3, decide_eq_true hx⟩)))
     ·exact .inr ⟨o, ho, h2, h3⟩
  ·rename_i h
   rw [j7 a b r]
   constructor
   ·rintro (h1 | ⟨o, ho, h2, h3⟩)
    ·exact .inl h1
    ·exact .inr ⟨o, Z9 _ ho, h2, h3⟩
   ·rintro (h1 | ⟨o, ho, h2, h3⟩)
    ·exact .inl h1
    ·rcases aai.mp ho with e | ho
     ·subst e; exact absurd h2 h
     ·exact .inr ⟨o, ho, h2, h3⟩
theorem j8 (a b : α) : ∀ (cl : List (List α)) (acc : List α × List (List α)), (go a b cl acc).2 = acc.2 ++ cl.filter (fun one => decide (¬ (a ∈ one ∨ b ∈ one)))
 | [], acc => by simp [go]
 | one :: r, acc => by
  unfold go
  split
  ·rename_i h
   rw [j8 a b r, List.filter_cons_of_neg (by rw [decide_eq_true_iff]; exact fun z => z h)]
  ·rename_i h
   rw [j8 a b r, List.filter_cons_of_pos (by rw [decide_eq_true_iff]; exact h)]
   simp
def rm (cl : List (List α)) : Prop := cl.Pairwise fun A B => ∀ x ∈ A, x ∉ B
theorem rm.one {cl : List (List α)} (h : rm cl) {A B : List α} (hA : A ∈ cl) (hB : B ∈ cl) {x : α} (h1 : x ∈ A) (h2 : x ∈ B) : A = B := by
 induction cl with
 | nil => cases hA
 | cons C r ih =>
  have hc := List.pairwise_cons.mp h
  rcases aai.mp hA with e | hA'
  ·rcases aai.mp hB with e2 | hB'
   ·rw [e, e2]
   ·subst e; exact absurd h2 (hc.1 B hB' x h1)
  ·rcases aai.mp hB with e2 | hB'
   ·subst e2; exact absurd h1 (hc.1 A hA' x h2)
   ·exact ih hc.2 hA' hB'
theorem j9 {cl : List (List α)} (h : rm cl) {A : List α} (hA : A ∈ cl) {x : α} (hx : x ∈ A) : cls cl x = A := by
 unfold cls
 cases hf : cl.find? fun one => decide (x ∈ one) with
 | none =>
  have z := ac5.mp hf A hA
  simp [hx] at z
 | some B =>
  have hB := abD hf
  have LL := List.find?_some hf
  exact h.one hB hA (of_decide_eq_true LL) hx
theorem E4 {cl : List (List α)} {x : α} (h : ∀ A ∈ cl, x ∉ A) : cls cl x = [x] := by
 unfold cls
 rw [ac5.mpr fun A hA => by simpa using h A hA]
 rfl
theorem fA {cl : List (List α)} (h : rm cl) (x : α) : (∃ A ∈ cl, x ∈ A ∧ cls cl x = A) ∨ ((∀ A ∈ cl, x ∉ A) ∧ cls cl x = [x]) := by
 by_cases hx : ∃ A ∈ cl, x ∈ A
 ·obtain ⟨A, hA, Ij⟩ := hx
  exact .inl ⟨A, hA, Ij, j9 h hA Ij⟩
 ·have h2 : ∀ A ∈ cl, x ∉ A := fun A hA Ij => hx ⟨A, hA, Ij⟩
  exact .inr ⟨h2, E4 h2⟩
theorem rn {cl : List (List α)} (h : rm cl) (x : α) : x ∈ cls cl x := by
 rcases fA h x with ⟨A, _, h1, h2⟩ | ⟨_, h2⟩
 ·rw [h2]; exact h1
 ·rw [h2]; exact ZX.mpr rfl
theorem Aq {cl : List (List α)} (h : rm cl) {x y : α} (hy : y ∈ cls cl x) : cls cl y = cls cl x := by
 rcases fA h x with ⟨A, hA, h1, h2⟩ | ⟨h1, h2⟩
 ·rw [h2] at hy ⊢
  exact j9 h hA hy
 ·rw [h2] at hy
  rw [ZX.mp hy]
theorem oZ {cl : List (List α)} (h : rm cl) (a b : α) : rm (merged cl a b) := by
 unfold merged
 rw [j8, abv]
 refine aeO.mpr ⟨h.filter _, List.pairwise_singleton _ _, fun A hA B hB x hx LL => ?_⟩
 rw [ZX.mp hB, j7] at LL
 have Nd := (aaq.mp hA).1
 have Qc := of_decide_eq_true (aaq.mp hA).2
 rcases LL with LL | ⟨C, hC, h2, h3⟩
 ·rcases aai.mp LL with e | e
  ·exact Qc (.inl (e ▸ hx))
  ·exact Qc (.inr (ZX.mp e ▸ hx))
 ·have e := h.one Nd hC hx h3
  rw [e] at Qc
  exact Qc h2
theorem ro {cl : List (List α)} (h : rm cl) (a b x : α) : x ∈ (go a b cl ([a, b], [])).1 ↔ x ∈ cls cl a ∨ x ∈ cls cl b := by
 rw [j7]
 constructor
 ·rintro (hx | ⟨C, hC, h2, h3⟩)
  ·rcases aai.mp hx with e | e
   ·rw [e]; exact .inl (rn h a)
   ·rw [ZX.mp e]; exact .inr (rn h b)
  ·rcases h2 with h2 | h2
   ·rw [j9 h hC h2]; exact .inl h3
   ·rw [j9 h hC h2]; exact .inr h3
 ·rintro (hx | hx)
  ·rcases fA h a with ⟨A, hA, h1, h2⟩ | ⟨_, h2⟩
   ·rw [h2] at hx; exact .inr ⟨A, hA, .inl h1, hx⟩
   ·rw [h2] at hx; exact .inl (by rw [ZX.mp hx]; simp)
  ·rcases fA h b with ⟨A, hA, h1, h2⟩ | ⟨_, h2⟩
   ·rw [h2] at hx; exact .inr ⟨A, hA, .inr h1, hx⟩
   ·rw [h2] at hx; exact .inl (by rw [ZX.mp hx]; simp)
theorem Ar {cl : List (List α)} (h : rm cl) (a b x : α) : cls (merged cl a b) x = if x ∈ cls cl a ∨ x ∈ cls cl b then (go a b cl ([a, b], [])).1 else cls cl x := by
 have hd := oZ h a b
 by_cases hx : x ∈ cls cl a ∨ x ∈ cls cl b
 ·rw [if_pos hx]
  refine j9 hd ?_ ((ro h a b x).mpr hx)
  unfold merged
  exact ZY.mpr (.inr (ZX.mpr rfl))
 ·rw [if_neg hx]
  rcases fA h x with ⟨A, hA, h1, h2⟩ | ⟨h1, h2⟩
  ·rw [h2]
   refine j9 hd ?_ h1
   unfold merged
   rw [j8, abv]
   refine ZY.mpr (.inl (aaq.mpr ⟨hA, decide_eq_true fun hab => hx ?_⟩))
   rcases hab with z | z
   ·rw [j9 h hA z]; exact .inl h1
   ·rw [j9 h hA z]; exact .inr h1
  ·rw [h2]
   refine E4 fun A hA Ij => ?_
   unfold merged at hA
   rw [j8, abv] at hA
   rcases ZY.mp hA with z | z
   ·exact h1 A (aaq.mp z).1 Ij
   ·rw [ZX.mp z, ro h] at Ij
    exact hx Ij
def rq (great : α → Bool) (cl : List (List α)) : Prop := ∃ A ∈ cl, ¬ uO great A
theorem As {cl : List (List α)} (a b : α) (h : rq great cl) : rq great (merged cl a b) := by
 obtain ⟨A, hA, hw⟩ := h
 unfold merged
 by_cases hab : a ∈ A ∨ b ∈ A
 ·refine ⟨_, ZY.mpr (.inr (ZX.mpr rfl)), fun hW => hw fun x hx y hy h1 h2 => ?_⟩
  exact hW x ((j7 a b cl _ x).mpr (.inr ⟨A, hA, hab, hx⟩)) y ((j7 a b cl _ y).mpr (.inr ⟨A, hA, hab, hy⟩)) h1 h2
 ·refine ⟨A, ZY.mpr (.inl ?_), hw⟩
  rw [j8, abv]
  exact aaq.mpr ⟨hA, decide_eq_true hab⟩
structure Std (great : α → Bool) (lt : α → α → Bool) (ρ : α → α) (cl : List (List α)) : Prop where
 dj : rm cl
 wh : ∀ A ∈ cl, uO great A
 rp : ∀ x, iy great lt (cls cl x) (ρ x)
def told (great : α → Bool) (lt : α → α → Bool) (ρ : α → α) (a b x : α) : α := if ρ x = ρ a ∨ ρ x = ρ b then gw great lt (ρ a) (ρ b) else ρ x
theorem Std.whole {ρ : α → α} {cl : List (List α)} (s : Std great lt ρ cl) (x : α) : uO great (cls cl x) := by
 rcases fA s.dj x with ⟨A, hA, _, h2⟩ | ⟨_, h2⟩
 ·rw [h2]; exact s.wh A hA
 ·rw [h2]
  intro y hy z hz _ _
  rw [ZX.mp hy, ZX.mp hz]
theorem Std.same (o : Ord lt) {ρ : α → α} {cl : List (List α)} (s : Std great lt ρ cl) {x y : α} : ρ x = ρ y ↔ x ∈ cls cl y := by
 constructor
 ·intro e
  have h1 := (s.rp x).mem
  have h2 := (s.rp y).mem
  have e1 := Aq s.dj h1
  have e2 := Aq s.dj h2
  rw [e] at e1
  rw [← e2, e1]
  exact rn s.dj x
 ·intro h
  have e := Aq s.dj h
  have z := s.rp x
  rw [e] at z
  exact iy.uniq o (fun _ => aft) (s.whole y) z (s.rp y)
theorem tell (o : Ord lt) {ρ : α → α} {cl : List (List α)} (s : Std great lt ρ cl) (a b : α) :
  (ρ a ≠ ρ b ∧ great (ρ a) = false ∧ great (ρ b) = false → rq great (merged cl a b)) ∧ (¬ (ρ a ≠ ρ b ∧ great (ρ a) = false ∧ great (ρ b) = false) → Std great lt (told great lt ρ a b) (merged cl a b)) := by
 have yh : ∀ x, x ∈ (go a b cl ([a, b], [])).1 ↔ x ∈ cls cl a ∨ x ∈ cls cl b := ro s.dj a b
 constructor
 ·rintro ⟨hne, h1, h2⟩
  refine ⟨(go a b cl ([a, b], [])).1, by unfold merged; exact ZY.mpr (.inr (ZX.mpr rfl)), fun hw => hne ?_⟩
  exact hw _ ((yh _).mpr (.inl (s.rp a).mem)) _ ((yh _).mpr (.inr (s.rp b).mem)) h1 h2
 ·intro ip
  have Xp : uO great (go a b cl ([a, b], [])).1 := by
   intro x hx y hy gx gy
   have key : ∀ {z c : α}, z ∈ cls cl c → great z = false → z = ρ c := fun {z c} hz gz => by
    rcases (s.rp c).low with h | ⟨h, _⟩
    ·exact s.whole c z hz (ρ c) (s.rp c).mem gz h
    ·rw [h z hz] at gz; cases gz
   have eq : great (ρ a) = false → great (ρ b) = false → ρ a = ρ b := fun h1 h2 => by
    by_cases e : ρ a = ρ b
    ·exact e
    ·exact absurd ⟨e, h1, h2⟩ ip
   rcases (yh x).mp hx with hx | hx <;> rcases (yh y).mp hy with hy | hy
   ·exact s.whole a x hx y hy gx gy
   ·have e1 := key hx gx
    have e2 := key hy gy
    rw [e1, e2]
    exact eq (e1 ▸ gx) (e2 ▸ gy)
   ·have e1 := key hx gx
    have e2 := key hy gy
    rw [e1, e2]
    exact (eq (e2 ▸ gy) (e1 ▸ gx)).symm
   ·exact s.whole b x hx y hy gx gy
  refine ⟨oZ s.dj a b, fun A hA => ?_, fun x => ?_⟩
  ·unfold merged at hA
   rw [j8, abv] at hA
   rcases ZY.mp hA with z | z
   ·exact s.wh A (aaq.mp z).1
   ·rw [ZX.mp z]; exact Xp
  ·rw [Ar s.dj]
   unfold told
   have Ny : (ρ x = ρ a ∨ ρ x = ρ b) ↔ (x ∈ cls cl a ∨ x ∈ cls cl b) := or_congr (s.same o) (s.same o)
   by_cases hx : x ∈ cls cl a ∨ x ∈ cls cl b
   ·rw [if_pos hx, if_pos (Ny.mpr hx)]
    exact CU o yh (s.rp a) (s.rp b)
   ·rw [if_neg hx, if_neg fun z => hx (Ny.mp z)]
    exact s.rp x
theorem Sf (lt : α → α → Bool) (Sh : ∀ a, lt a a = false) : Std great lt id [] :=
 ⟨afp, (fun A hA => nomatch hA), fun x => by
  refine ⟨ZX.mpr rfl, ?_⟩
  cases h : great x with
  | false => exact .inl h
  | true =>
   refine .inr ⟨fun y hy => ?_, fun y hy => ?_⟩
   ·rw [ZX.mp hy]; exact h
   ·rw [ZX.mp hy]; exact Sh x⟩
theorem CV (o : Ord lt) {ρ : α → α} {cl : List (List α)} (s : Std great lt ρ cl) (a b x : α) : told great lt ρ a b (ρ x) = told great lt ρ a b x := by
 have e : ρ (ρ x) = ρ x := (s.same o).mpr (s.rp x).mem
 unfold told
 rw [e]
end
end Un
namespace Bk
open PySem L2 cI
abbrev b0 := List (Cs × Cs)
def bE (p : Cs × Cs) : Key × V := (abi (S p.1), tx p.2)
def jN (st : b0) (n : Cs) : Option Cs := (st.find? fun p => decide (p.1 = n)).map (·.2)
def aT (st : b0) (n : Cs) : Cs := (jN st n).getD n
def lK (a b : Cs) : Bool := bR (.str (S a)) (.str (S b))
theorem sU : Un.Ord lK where
 Eh := fun a => nq _
 tr := fun a b c h1 h2 => ik _ _ _ h1 h2
 Se := fun a b h1 h2 => by
  by_cases e : a = b
  ·exact e
  ·have hne : Tr.str (S a) ≠ Tr.str (S b) := fun z => e (eM (Tr.str.inj z))
   rcases pX _ _ hne with z | z
   ·have h1 : bR (.str (S a)) (.str (S b)) = false := h1
    rw [z] at h1; cases h1
   ·have h2 : bR (.str (S b)) (.str (S a)) = false := h2
    rw [z] at h2; cases h2
theorem iz (st : b0) (n : Cs) : eL (st.map bE) (abi (S n) : Key) = (jN st n).map tx := by
 unfold eL jN
 induction st with
 | nil => rfl
 | cons a r ih =>
  rw [aap, aaP, aaP]
  have e : (decide ((bE a).1 = (abi (S n) : Key))) = decide (a.1 = n) := by
   show decide ((abi (S a.1) : Key) = abi (S n)) = decide (a.1 = n)
   exact decide_eq_decide.mpr ⟨fun h => eM (adw h), fun h => by rw [h]⟩
  rw [e]
  by_cases h : a.1 = n
  ·rw [decide_eq_true h]; rfl
  ·rw [decide_eq_false h]; exact ih
theorem fP {st : b0} {n : Cs} : jN st n = none ↔ n ∉ st.map (·.1) := by
 unfold jN
 rw [Option.map_eq_none_iff, ac5]
 constructor
 ·intro h hm
  obtain ⟨e, he, z⟩ := Z1.mp hm
  have := h e he
  simp [z] at this
 ·intro h e he
  have : ¬ e.1 = n := fun z => h (Z1.mpr ⟨e, he, z⟩)
  simp [this]
theorem kd {st : b0} (nd : (st.map (·.1)).Nodup) {e : Cs × Cs} (he : e ∈ st) : jN st e.1 = some e.2 := by
 unfold jN
 induction st with
 | nil => cases he
 | cons a r ih =>
  rw [aap, abE] at nd
  rw [aaP]
  rcases aai.mp he with h | h
  ·subst h; simp
  ·have hne : ¬ a.1 = e.1 := fun z => nd.1 (z ▸ abn h)
   rw [decide_eq_false hne]
   exact ih nd.2 h
def gO (st : b0) (n : Cs) : b0 := if great n = true then (if n ∈ st.map (·.1) then st else st ++ [(n, n)]) else st
def dC (st : b0) (ns : List Cs) : b0 := ns.foldl gO st
structure cU (st : b0) : Prop where
 nd : (st.map (·.1)).Nodup
 gk : ∀ e ∈ st, great e.1 = true
 gv : ∀ e ∈ st, great e.2 = true → e.2 ∈ st.map (·.1)
theorem E5 (st : b0) (n x : Cs) : aT (gO st n) x = aT st x := by
 unfold gO
 split
 ·split
  ·rfl
  ·rename_i hm
   unfold aT jN
   rw [List.find?_append]
   cases hf : st.find? fun p => decide (p.1 = x) with
   | some e => simp
   | none =>
    by_cases e : n = x
    ·subst e; simp
    ·simp [e]
 ·rfl
theorem cU.Kl {st : b0} (h : cU st) (n : Cs) : cU (gO st n) ∧ (∀ x ∈ st.map (·.1), x ∈ (gO st n).map (·.1)) ∧ (great n = true → n ∈ (gO st n).map (·.1)) ∧ (∀ x ∈ (gO st n).map (·.1), x ∈ st.map (·.1) ∨ (x = n ∧ great n = true)) := by
 unfold gO
 split
 ·rename_i hg
  split
  ·rename_i hm
   exact ⟨h, fun _ z => z, fun _ => hm, fun _ z => .inl z⟩
  ·rename_i hm
   refine ⟨⟨?_, fun e he => ?_, fun e he ge => ?_⟩, fun x hx => ?_, fun _ => ?_, fun x hx => ?_⟩
   ·rw [aaj, acC]
    refine ⟨h.nd, by simp, fun a ha b hb e => ?_⟩
    simp at hb
    subst hb
    subst e
    exact hm ha
   ·rcases ZY.mp he with z | z
    ·exact h.gk e z
    ·rw [ZX.mp z]; exact hg
   ·rw [aaj]
    rcases ZY.mp he with z | z
    ·exact ZY.mpr (.inl (h.gv e z ge))
    ·rw [ZX.mp z]; exact ZY.mpr (.inr (by simp))
   ·rw [aaj]; exact ZY.mpr (.inl hx)
   ·rw [aaj]; exact ZY.mpr (.inr (by simp))
   ·rw [aaj] at hx
    rcases ZY.mp hx with z | z
    ·exact .inl z
    ·simp at z; exact .inr ⟨z, hg⟩
 ·rename_i hg
  exact ⟨h, fun _ z => z, fun z => absurd z hg, fun _ z => .inl z⟩
theorem nH : ∀ (ns : List Cs) (st : b0) (x : Cs), aT (dC st ns) x = aT st x
 | [], _, _ => rfl
 | n :: ns, st, x => by
  show aT (dC (gO st n) ns) x = _
  rw [nH ns, E5]
theorem cU.kn : ∀ (ns : List Cs) {st : b0}, cU st → cU (dC st ns) ∧ (∀ x ∈ st.map (·.1), x ∈ (dC st ns).map (·.1)) ∧ (∀ n ∈ ns, great n = true → n ∈ (dC st ns).map (·.1)) ∧ (∀ x ∈ (dC st ns).map (·.1), x ∈ st.map (·.1) ∨ (x ∈ ns ∧ great x = true))
 | [], st, h => ⟨h, fun _ z => z, (fun n hn => nomatch hn), fun _ z => .inl z⟩
 | n :: ns, st, h => by
  obtain ⟨a1, a2, a3, a4⟩ := h.Kl n
  obtain ⟨b1, b2, b3, b4⟩ := cU.kn ns a1
  refine ⟨b1, fun x hx => b2 x (a2 x hx), fun m hm g => ?_, fun x hx => ?_⟩
  ·rcases aai.mp hm with e | e
   ·subst e; exact b2 _ (a3 g)
   ·exact b3 m e g
  ·rcases b4 x hx with z | ⟨z, g⟩
   ·rcases a4 x z with z | ⟨z, g⟩
    ·exact .inl z
    ·exact .inr ⟨by rw [z]; exact Z5 .., z ▸ g⟩
   ·exact .inr ⟨Z9 _ z, g⟩
def cw (p q : Cs) (e : Cs × Cs) : Cs × Cs := (e.1, if e.2 = p ∨ e.2 = q then Un.gw great lK p q else e.2)
def nI (p q : Cs) : Prop := p ≠ q ∧ great p = false ∧ great q = false
instance (p q : Cs) : Decidable (nI p q) := by unfold nI; infer_instance
def fQ (st : b0) (p q : Cs) : b0 := if p = q then st else st.map (cw p q)
theorem iY (p q : Cs) (st : b0) : (st.map (cw p q)).map (·.1) = st.map (·.1) := by
 rw [aaJ]; rfl
theorem CW (p q : Cs) (st : b0) (x : Cs) : jN (st.map (cw p q)) x = (jN st x).map fun v => if v = p ∨ v = q then Un.gw great lK p q else v := by
 unfold jN
 induction st with
 | nil => rfl
 | cons a r ih =>
  rw [aap, aaP, aaP]
  show Option.map _ (match decide (a.1 = x) with | true => _ | false => _) = _
  by_cases h : a.1 = x
  ·rw [decide_eq_true h]; rfl
  ·rw [decide_eq_false h]; exact ih
theorem E6 {st : b0} (h : cU st) {a b : Cs} (ha : great a = true → a ∈ st.map (·.1)) (hb : great b = true → b ∈ st.map (·.1)) (ip : ¬ nI (aT st a) (aT st b)) (x : Cs) : aT (fQ st (aT st a) (aT st b)) x = Un.told great lK (aT st) a b x := by
 have known : ∀ {c : Cs}, (great c = true → c ∈ st.map (·.1)) → great (aT st c) = true → aT st c ∈ st.map (·.1) := fun {c} hc hg => by
  cases kg : jN st c with
  | none =>
   have e : aT st c = c := by unfold aT; rw [kg]; rfl
   rw [e] at hg ⊢
   exact hc hg
  | some v =>
   have e : aT st c = v := by unfold aT; rw [kg]; rfl
   rw [e] at hg ⊢
   unfold jN at kg
   obtain ⟨en, h1, h2⟩ := aa1.mp kg
   rw [← h2] at hg ⊢
   exact h.gv en (abD h1) hg
 unfold Un.told fQ
 by_cases Dx : aT st a = aT st b
 ·rw [if_pos Dx]
  by_cases hx : aT st x = aT st a ∨ aT st x = aT st b
  ·rw [if_pos hx]
   have e : aT st x = aT st a := by
    rcases hx with z | z
    ·exact z
    ·rw [z, Dx]
   rw [e, Dx]
   unfold Un.gw Un.mn
   rw [sU.Eh]
   simp
  ·rw [if_neg hx]
 ·rw [if_neg Dx]
  generalize hp : aT st a = p at *
  generalize hq : aT st b = q at *
  unfold aT
  rw [CW]
  cases kg : jN st x with
  | some v => rfl
  | none =>
   show x = if x = p ∨ x = q then Un.gw great lK p q else x
   by_cases hx : x = p ∨ x = q
   ·rw [if_pos hx]
    have U7 := fP.mp kg
    have hw : great x = false := by
     cases g : great x with
     | false => rfl
     | true =>
      rcases hx with e | e
      ·have z := known ha
       rw [hp] at z
       exact absurd (e ▸ z (e ▸ g)) U7
      ·have z := known hb
       rw [hq] at z
       exact absurd (e ▸ z (e ▸ g)) U7
    unfold Un.gw
    rcases hx with e | e
    ·rw [← e, if_pos hw]
    ·by_cases gp : great p = false
     ·exact absurd ⟨Dx, gp, e ▸ hw⟩ ip
     ·rw [if_neg gp, ← e, if_pos hw]
   ·rw [if_neg hx]
theorem cU.tell {st : b0} (h : cU st) {p q : Cs} (hp : great p = true → p ∈ st.map (·.1)) (hq : great q = true → q ∈ st.map (·.1)) : cU (fQ st p q) ∧ (fQ st p q).map (·.1) = st.map (·.1) := by
 unfold fQ
 split
 ·exact ⟨h, rfl⟩
 ·refine ⟨⟨by rw [iY]; exact h.nd, fun e he => ?_, fun e he ge => ?_⟩, iY p q st⟩
  ·obtain ⟨e', he', rfl⟩ := Z1.mp he
   exact h.gk e' he'
  ·obtain ⟨e', he', rfl⟩ := Z1.mp he
   rw [iY]
   unfold cw at ge ⊢
   dsimp only at ge ⊢
   split
   ·rename_i hx
    rw [if_pos hx] at ge
    unfold Un.gw at ge ⊢
    by_cases gp : great p = false
    ·rw [if_pos gp] at ge; rw [gp] at ge; cases ge
    ·rw [if_neg gp] at ge ⊢
     by_cases gq : great q = false
     ·rw [if_pos gq] at ge; rw [gq] at ge; cases ge
     ·rw [if_neg gq]
      rcases Un.BL (lt := lK) p q with e | e
      ·rw [e]; exact hp (by simpa using gp)
      ·rw [e]; exact hq (by simpa using gq)
   ·rename_i hx
    rw [if_neg hx] at ge
    exact h.gv e' he' ge
end Bk
namespace Bk
open PySem L2 cI
def zv (st : b0) : Prop := ∀ e ∈ st, pJ e.1 ∧ pJ e.2
def wr (st : b0) (f : Fc) : Fc := ⟨f.k, f.as.map (aT st)⟩
def vI (K : ZQ) : Sp := fun vs H Q _ => ∃ (d t : aac) (st : b0) (ns : List Cs), vs = [.ref d, .ref t] ∧ H d = some (.dK (st.map bE)) ∧ aK K H t (ns.map tx) ∧ (∀ n ∈ ns, pJ n) ∧ st.length + ns.length ≤ 100000 ∧ Q .bB (upd H d (.dK ((dC st ns).map bE)))
def mx (K : ZQ) : Sp := fun vs H Q _ => ∃ (d : aac) (v : V) (st : b0) (f : Fc), vs = [.ref d, v] ∧ H d = some (.dK (st.map bE)) ∧ Fact K H f v ∧ f.as.length ≤ 1000 ∧ ∀ v' H', af H H' → EV H' (wr st f) v' → Q v' H'
def rA : Sp := fun vs H Q _ => ∃ p q, vs = [tx p, tx q] ∧ pJ p ∧ pJ q ∧ Q (tx (Un.gw great lK p q)) H
def lX (d : aac) (H H' : Hp) : Prop := ∀ x o, x ≠ d → H x = some o → H' x = some o
def vJ : Sp := fun vs H Q _ => ∃ (d : aac) (st : b0) (a b : Cs), vs = [.ref d, tx a, tx b] ∧ H d = some (.dK (st.map bE)) ∧ cU st ∧ zv st ∧ pJ a ∧ pJ b ∧ st.length ≤ 100000 ∧
 (nI (aT st a) (aT st b) → Q (.bl false) H) ∧ (¬ nI (aT st a) (aT st b) → ∀ H', lX d H H' → H' d = some (.dK ((fQ st (aT st a) (aT st b)).map bE)) → Q (.bl true) H')
theorem E7 {st : b0} {n v : Cs} (h : n ∉ st.map (·.1)) : putK (st.map bE) (abi (S n) : Key) (tx v) = (st ++ [(n, v)]).map bE := by
 rw [xD _ (by rw [iz, fP.mpr h]; rfl), aaj]
 rfl
theorem nJ : ∀ (ns : List Cs) (st : b0), (dC st ns).length ≤ st.length + ns.length
 | [], _ => Z0 _
 | n :: ns, st => by
  have z := nJ ns (gO st n)
  have z2 : (gO st n).length ≤ st.length + 1 := by
   unfold gO
   split
   ·split
    ·omega
    ·rw [Z6]; simp
   ·omega
  show (dC (gO st n) ns).length ≤ _
  rw [aal]
  omega
theorem zv.aT {st : b0} (h : zv st) {a : Cs} (ha : pJ a) : pJ (aT st a) := by
 unfold Bk.aT
 cases kg : jN st a with
 | none => exact ha
 | some v =>
  unfold jN at kg
  obtain ⟨e, h1, h2⟩ := aa1.mp kg
  rw [← h2]
  exact (h e (abD h1)).2
theorem Km {st : b0} (nd : (st.map (·.1)).Nodup) {i : Nat} (hi : i < st.length) (v : Cs) : putK (st.map bE) (abi (S (st[i]).1) : Key) (tx v) = (st.set i ((st[i]).1, v)).map bE := by
 unfold putK
 have hm : ((st.map bE).any fun kv => decide (kv.1 = (abi (S (st[i]).1) : Key))) = true := abb.mpr ⟨bE st[i], abn (ZT hi), decide_eq_true rfl⟩
 rw [if_pos hm]
 refine acg (by simp) fun j h1 h2 => ?_
 have hj : j < st.length := by simpa using h1
 rw [Z3, Z3, Z3, List.getElem_set]
 by_cases e : i = j
 ·subst e
  rw [if_pos (show (bE st[i]).1 = (abi (S (st[i]).1) : Key) from rfl), if_pos rfl]
  rfl
 ·rw [if_neg e, if_neg]
  intro z
  have z : S (st[j]).1 = S (st[i]).1 := adw z
  have z2 := eM z
  have z3 := (aeh (xs := st.map (·.1)) (i := j) (j := i) (h₀ := by simpa using hj) (h₁ := by simpa using hi) nd).mp (by simpa using z2)
  exact e z3.symm
end Bk
namespace Bk
open PySem L2 cI
def cH : b0 → List (Cs × Cs) → Option b0
 | st, [] => some st
 | st, (a, b) :: r => if nI (aT (dC st [a, b]) a) (aT (dC st [a, b]) b) then none else cH (fQ (dC st [a, b]) (aT (dC st [a, b]) a) (aT (dC st [a, b]) b)) r
def pE (e : Cs × Cs) : Tr := .tup [.str (S e.1), .str (S e.2)]
def CY (K : ZQ) (H : Hp) (t2 : aac) (st : b0) : Prop := (∃ y2, x8 H t2 y2 ∧ gu K H (st.map bE) y2) ∨ (Nil0 K t2 ∧ st = [])
theorem CY.sm {K : ZQ} {H H' : Hp} (s : af H H') {t2 : aac} {st : b0} (h : CY K H t2 st) : CY K H' t2 st := by
 rcases h with ⟨y2, h1, h2⟩ | h
 ·exact .inl ⟨y2, h1.sm s, ao h2 fun _ _ _ ⟨t, e, z⟩ => ⟨t, e, z.same s⟩⟩
 ·exact .inr h
def BM (K : ZQ) (H : Hp) (v : V) (bp bl : List Fc) (st : b0) : Prop := ∃ p t0 t1 t2 y0 y1, v = .ref p ∧ aK K H p [.ref t0, .ref t1, .ref t2, .bl false] ∧ aK K H t0 y0 ∧ Paired (Fact K H) bp y0 ∧ aK K H t1 y1 ∧ Paired (Fact K H) bl y1 ∧ cU st ∧ zv st ∧ CY K H t2 st
def lw (prs : List (Cs × Cs)) (st : b0) (l : List Fc) : List Fc := if prs = [] then l else l.map (wr st)
def rB (K : ZQ) : Sp := fun vs H Q _ => ∃ t l xs, vs = [.ref t, .ref l] ∧ aK K H t xs ∧ H l = some (.lst []) ∧ ∀ p, H p = none → Q (.ref p) (upd H p (.lst xs))
def iA (K : ZQ) (b1 : aac) : Sp := fun vs H Q _ => ∃ (lk lf lt lo : aac) (Nz : V) (ks : List Kd) (fs : List Fc) (prs : List (Cs × Cs)) (br : Bool) (bp bl : List Fc) (st : b0), vs = [.ref lk, Nz, .ref lt, .ref lf, .ref lo] ∧ KF K H lk lf ks fs ∧ H lt = some (.lst []) ∧ (∃ gA, H lo = some (.lst gA) ∧ Paired (Pair K H) prs gA) ∧ ((br = true ∧ P9 K H Nz) ∨ (br = false ∧ BM K H Nz bp bl st)) ∧
 (bp.length + fs.length < 64 ∧ prs.length < 64 ∧ bl.length + fs.length < 64) ∧ st.length ≤ 100 ∧ dH ks fs = 0 ∧ (∀ pr ∈ prs, pJ pr.1 ∧ pJ pr.2) ∧ (∀ f ∈ bp ++ bl, f.as.length ≤ 1000) ∧ (∀ bQ, cH (dC st (fs.flatMap (·.as))) prs = some bQ → bQ.length < 64) ∧
 (br = true → ∀ H', af H H' → Q (.ref b1) H') ∧ (br = false → (cH (dC st (fs.flatMap (·.as))) prs = none → ∀ H', af H H' → Q (.ref b1) H') ∧ ∀ bQ, cH (dC st (fs.flatMap (·.as))) prs = some bQ → ∀ (v : V) (H' : Hp), af H H' →
  lW K H' v (aI ((lw prs bQ bp ++ (dJ ks fs).map (wr bQ)).map fT)) (aI (dd ((lw prs bQ bl ++ (cL ks fs).map (wr bQ)).map fT))) (aI (bQ.map pE)) → Q v H')
theorem lX.fact {K : ZQ} {d : aac} {H H' : Hp} {kvs : List (Key × V)} (s : lX d H H') (hd : H d = some (.dK kvs)) {f : Fc} {v : V} (h : Fact K H f v) : Fact K H' f v := by
 have sq : ∀ {a : aac} {xs : List V}, aK K H a xs → aK K H' a xs := fun {a xs} h => by
  rcases h with (h | ⟨o, h⟩) | h
  ·exact .inl (.inl (s _ _ (xm h hd (fun z => nomatch z)) h))
  ·exact .inl (.inr ⟨o, s _ _ (xm h hd (fun z => nomatch z)) h⟩)
  ·exact .inr h
 obtain ⟨t, t2, e, h1, h2⟩ := h
 exact ⟨t, t2, e, sq h1, sq h2⟩
theorem lX.Xq {K : ZQ} {d : aac} {H H' : Hp} {kvs : List (Key × V)} (s : lX d H H') (hd : H d = some (.dK kvs)) {a : aac} {xs : List V} (h : aK K H a xs) : aK K H' a xs := by
 rcases h with (h | ⟨o, h⟩) | h
 ·exact .inl (.inl (s _ _ (xm h hd (fun z => nomatch z)) h))
 ·exact .inl (.inr ⟨o, s _ _ (xm h hd (fun z => nomatch z)) h⟩)
 ·exact .inr h
theorem Au {st : b0} (h : (st.map (·.1)).Nodup) : ((st.map bE).map (·.1)).Nodup := by
 rw [aaJ]
 have e : ((fun p : Key × V => p.1) ∘ bE) = (fun n : Cs => (abi (S n) : Key)) ∘ (fun e : Cs × Cs => e.1) := rfl
 rw [e, ← aaJ]
 exact abT.mpr (afr (fun hne e => hne (eM (adw e))) h)
theorem zv.kn {st : b0} (h : zv st) : ∀ (ns : List Cs), (∀ n ∈ ns, pJ n) → zv (dC st ns) := by
 intro ns
 induction ns generalizing st with
 | nil => intro _; exact h
 | cons n r ih =>
  intro hn
  refine ih (st := gO st n) ?_ fun m hm => hn m (Z9 _ hm)
  unfold gO
  split
  ·split
   ·exact h
   ·intro e he
    rcases ZY.mp he with z | z
    ·exact h e z
    ·rw [ZX.mp z]
     exact ⟨hn n (Z5 ..), hn n (Z5 ..)⟩
  ·exact h
theorem zv.tell {st : b0} (h : zv st) {p q : Cs} (hp : pJ p) (hq : pJ q) : zv (fQ st p q) := by
 unfold fQ
 split
 ·exact h
 ·intro e he
  obtain ⟨e', he', rfl⟩ := Z1.mp he
  refine ⟨(h e' he').1, ?_⟩
  unfold cw
  dsimp only
  split
  ·unfold Un.gw
   split
   ·exact hp
   ·split
    ·exact hq
    ·rcases Un.BL (lt := lK) p q with e | e
     ·rw [e]; exact hp
     ·rw [e]; exact hq
  ·exact (h e' he').2
end Bk
namespace L2
open PySem PySem.Spec PyProof.Rows Bk
theorem sV {X : Cx} (hc : X.calm = true) : cK X (.type "dict") (fun xs H Q => ∃ (t2 : aac) (st : b0), xs = [.ref t2] ∧ (st.map (·.1)).Nodup ∧ CY X.K H t2 st ∧ st.length ≤ 100 ∧ ∀ d, H d = none → Q (.ref d) (upd H d (.dK (st.map bE)))) := by
 intro pins s σ H xs us Q I r h
 obtain ⟨t2, st, e, hnd, hs, hn, q⟩ := h
 rcases hs with ⟨y2, h1, h2⟩ | ⟨h1, h2⟩
 ·refine oz hc pins s σ H xs us Q I r ⟨t2, y2, st.map bE, e, h1, h2, by rw [Lm9]; omega, fun d hd => ?_⟩
  rw [iO _ _ (Au hnd), abv]
  exact q d hd
 ·subst h2
  exact sT hc pins s σ H xs us Q I r ⟨t2, e, h1, q⟩
end L2
namespace Bk
open PySem L2 cI
theorem oB {st : b0} (h : cU st) {c : Cs} (hc : great c = true → c ∈ st.map (·.1)) (hg : great (aT st c) = true) : aT st c ∈ st.map (·.1) := by
 cases kg : jN st c with
 | none =>
  have e : aT st c = c := by unfold aT; rw [kg]; rfl
  rw [e] at hg ⊢
  exact hc hg
 | some v =>
  have e : aT st c = v := by unfold aT; rw [kg]; rfl
  rw [e] at hg ⊢
  unfold jN at kg
  obtain ⟨en, h1, h2⟩ := aa1.mp kg
  rw [← h2] at hg ⊢
  exact h.gv en (abD h1) hg
theorem Kn (ks : List Kd) (st : b0) (fs : List Fc) : dJ ks (fs.map (wr st)) = (dJ ks fs).map (wr st) := by
 unfold dJ
 rw [adE]
 rfl
theorem Ko (ks : List Kd) (st : b0) (fs : List Fc) : cL ks (fs.map (wr st)) = (cL ks fs).map (wr st) := by
 unfold cL
 rw [adE]
 rfl
theorem lM {K : ZQ} {H : Hp} {st : b0} : ∀ {fs : List Fc} {ys : List V}, Paired (fun f y => Fact K H (wr st f) y) fs ys → Paired (Fact K H) (fs.map (wr st)) ys
 | _, _, .nil => .nil
 | _, _, .cons h t => .cons h (lM t)
end Bk
namespace Bk
open PySem L2 cI
def nK (K : ZQ) : Sp := fun vs H Q _ => ∃ (lk lf : aac) (ks : List Kd) (fs : List Fc), vs = [.ref lk, .ref lf] ∧ KF K H lk lf ks fs ∧ fs.length < 64 ∧ (dC [] (fs.flatMap (·.as))).length < 64 ∧ dH ks fs = 0 ∧
 ∀ (v : V) (H' : Hp), af H H' → lW K H' v (aI ((lw [] (dC [] (fs.flatMap (·.as))) [] ++ (dJ ks fs).map (wr (dC [] (fs.flatMap (·.as))))).map fT)) (aI (dd ((lw [] (dC [] (fs.flatMap (·.as))) [] ++ (cL ks fs).map (wr (dC [] (fs.flatMap (·.as))))).map fT))) (aI ((dC [] (fs.flatMap (·.as))).map pE)) → Q v H'
def rC (K : ZQ) (C : aac) : Sp := fun vs H Q E => ∃ (p : aac) (n : Cs) (z0 z1 : V) (t2 : aac) (b : Bool) (st : b0) (y2 : List V), vs = [.ref p, tx n] ∧ aK K H p [z0, z1, .ref t2, .bl b] ∧ aK K H t2 y2 ∧ gu K H (st.map bE) y2 ∧ pJ n ∧ zv st ∧
 (great n = false → Q (tx n) H) ∧ (great n = true → jN st n = none → Ref C H E) ∧ (great n = true → ∀ v, jN st n = some v → Q (tx v) H)
end Bk
namespace Bk
open PySem L2 cI
def pK (H : Hp) (lc : aac) (cl : List (List Cs)) : Prop := ∃ ls : List aac, H lc = some (.lst (ls.map V.ref)) ∧ Paired (fun (one : List Cs) (l : aac) => H l = some (.lst (one.map tx))) cl ls
theorem pK.sm {H H' : Hp} (s : af H H') {lc : aac} {cl : List (List Cs)} (h : pK H lc cl) : pK H' lc cl := by
 obtain ⟨ls, h1, h2⟩ := h
 exact ⟨ls, s _ _ h1, ao h2 fun _ _ _ z => s _ _ z⟩
structure vK (cl : List (List Cs)) : Prop where
 nm : ∀ one ∈ cl, ∀ n ∈ one, aP n = true
 le : ∀ one ∈ cl, one.length ≤ 800
 ne : ∀ one ∈ cl, one ≠ []
 n : cl.length ≤ 800
def bF (one : List Cs) : List Cs := one.filter fun n => !great n
def bf (cl : List (List Cs)) : Bool := cl.any fun one => decide (1 < (dS ((bF one).map S)).length)
def p6 : Sp := fun vs H Q _ => ∃ (lc : aac) (cl : List (List Cs)), vs = [.ref lc] ∧ pK H lc cl ∧ vK cl ∧ ∀ H', af H H' → Q (.bl (bf cl)) H'
def kh : Sp := fun vs H Q _ => ∃ (lc : aac) (cl : List (List Cs)) (n : Cs), vs = [.ref lc, tx n] ∧ pK H lc cl ∧ vK cl ∧ aP n = true ∧ ∀ r H', af H H' → Un.iy great lK (Un.cls cl n) r → Q (tx r) H'
def oC (K : ZQ) : Sp := fun vs H Q _ => ∃ (lc t : aac) (cl : List (List Cs)) (a b : Cs), vs = [.ref lc, .ref t] ∧ pK H lc cl ∧ vK cl ∧ aK K H t [tx a, tx b] ∧ aP a = true ∧ aP b = true ∧ (cl.map abl).sum + cl.length ≤ 700 ∧ ∀ (l : aac) (H' : Hp), af H H' → pK H' l (Un.merged cl a b) → Q (.ref l) H'
def CZ : V → Bool
 | .str x => !great x.cps.toList
 | _ => false
theorem uP (one : List Cs) : (one.map tx).filter CZ = (bF one).map tx := by
 unfold bF
 rw [adE]
 have e : (CZ ∘ tx) = fun n => !great n := by
  funext n
  show (!great (S n).cps.toList) = !great n
  rw [aZ]
 rw [e]
theorem Kq (ks : List Str) : (dS ks).Nodup ∧ ∀ k, k ∈ dS ks ↔ k ∈ ks := by
 have key : ∀ (l acc : List Str), acc.Nodup → (l.foldl Ap acc).Nodup ∧ ∀ u, u ∈ l.foldl Ap acc ↔ u ∈ acc ∨ u ∈ l := by
  intro l
  induction l with
  | nil => intro acc h; exact ⟨h, fun u => by simp⟩
  | cons t r ih =>
   intro acc h
   have hn : (Ap acc t).Nodup := by
    unfold Ap
    split
    ·exact h
    ·rename_i hm
     rw [acC]
     exact ⟨h, by simp, fun a h1 b h2 e => by rw [ZX.mp h2] at e; subst e; exact hm h1⟩
   have hmem : ∀ u, u ∈ Ap acc t ↔ u ∈ acc ∨ u = t := fun u => by
    unfold Ap
    split
    ·rename_i hm
     exact ⟨.inl, fun z => z.elim id fun e => e ▸ hm⟩
    ·rw [ZY, ZX]
   have z := ih (Ap acc t) hn
   refine ⟨z.1, fun u => ?_⟩
   show u ∈ r.foldl Ap (Ap acc t) ↔ _
   rw [z.2 u, hmem, aai]
   constructor
   ·rintro ((h | h) | h)
    ·exact .inl h
    ·exact .inr (.inl h)
    ·exact .inr (.inr h)
   ·rintro (h | h | h)
    ·exact .inl (.inl h)
    ·exact .inl (.inr h)
    ·exact .inr h
 have z := key ks [] acM
 exact ⟨z.1, fun u => by rw [show dS ks = ks.foldl Ap [] from rfl, z.2 u]; simp⟩
theorem yi (one : List Cs) : 1 < (dS ((bF one).map S)).length ↔ ¬ Un.uO great one := by
 obtain ⟨nd, hm⟩ := Kq ((bF one).map S)
 constructor
 ·intro h hw
  match hd : dS ((bF one).map S), h with
  | x :: y :: r, _ =>
   rw [hd] at nd hm
   have hx := (hm x).mp (Z5 ..)
   have hy := (hm y).mp (Z9 _ (Z5 ..))
   obtain ⟨a, ha, rfl⟩ := Z1.mp hx
   obtain ⟨b, hb, rfl⟩ := Z1.mp hy
   have ha' := aaq.mp ha
   have hb' := aaq.mp hb
   have e := hw a ha'.1 b hb'.1 (by simpa using ha'.2) (by simpa using hb'.2)
   subst e
   rw [abE] at nd
   exact nd.1 (Z5 ..)
 ·intro h
  refine abc fun fF => h fun x hx y hy gx gy => ?_
  have hx' : S x ∈ dS ((bF one).map S) := (hm _).mpr (abn (aaq.mpr ⟨hx, by rw [gx]; rfl⟩))
  have hy' : S y ∈ dS ((bF one).map S) := (hm _).mpr (abn (aaq.mpr ⟨hy, by rw [gy]; rfl⟩))
  match hd : dS ((bF one).map S), fF, hx', hy' with
  | [], _, z, _ => cases z
  | [k], _, z, z2 =>
   exact eM ((ZX.mp z).trans (ZX.mp z2).symm)
  | _ :: _ :: _, z, _, _ => simp at z
theorem nM (cl : List (List Cs)) : bf cl = true ↔ Un.rq great cl := by
 unfold bf Un.rq
 rw [abb]
 constructor
 ·rintro ⟨one, h1, h2⟩
  exact ⟨one, h1, (yi one).mp (of_decide_eq_true h2)⟩
 ·rintro ⟨one, h1, h2⟩
  exact ⟨one, h1, decide_eq_true ((yi one).mpr h2)⟩
end Bk
namespace Bk
theorem yj (cl : List (List Cs)) (n : Cs) : Un.cls cl n = (cl.find? fun one => decide (n ∈ one)).getD [n] := by
 unfold Un.cls
 congr 2
 funext one
 exact decide_eq_decide.mpr aft
end Bk
namespace Bk
open PySem L2 cI
def wf (ρ : Cs → Cs) (f : Fc) : Fc := ⟨f.k, f.as.map ρ⟩
def Av (K : ZQ) : Sp := fun vs H Q _ => ∃ (lc : aac) (v : V) (cl : List (List Cs)) (ρ : Cs → Cs) (f : Fc), vs = [.ref lc, v] ∧ pK H lc cl ∧ vK cl ∧ Un.Std great lK ρ cl ∧ Fact K H f v ∧ f.as.length ≤ 1000 ∧ (∀ n ∈ f.as, aP n = true) ∧ ∀ v' H', af H H' → Fact K H' (wf ρ f) v' → Q v' H'
def vL (K : ZQ) : Sp := fun vs H Q _ => ∃ (lb lo lc ln : aac) (cl : List (List Cs)) (ρ : Cs → Cs) (E8 once : List Fc) (nm : List Cs), vs = [.ref lb, .ref lo, .ref lc, .ref ln] ∧ Kb K H lb E8 ∧ Kb K H lo once ∧ pK H lc cl ∧ vK cl ∧ (bf cl = false → Un.Std great lK ρ cl) ∧ H ln = some (.lst (nm.map tx)) ∧ (∀ f ∈ E8 ++ once, f.as.length ≤ 1000 ∧ ∀ n ∈ f.as, aP n = true) ∧ (∀ n ∈ nm, aP n = true) ∧ E8.length < 64 ∧ once.length < 64 ∧ nm.length < 64 ∧
 (bf cl = true → ∀ (p d0 d1 d2 : aac) (H' : Hp), af H H' → H' p = some (.tup [.ref d0, .ref d1, .ref d2, .bl true]) → H' d0 = some (.tup []) → H' d1 = some (.tup []) → H' d2 = some (.tup []) → Q (.ref p) H') ∧
 (bf cl = false → ∀ (v : V) (H' : Hp), af H H' → eR K H' v (aI ((E8.map (wf ρ)).map fT)) (aI (dd ((once.map (wf ρ)).map fT))) (aI ((nm.map fun n => (n, ρ n)).map pE)) → Q v H')
end Bk
namespace Bk
open PySem L2 cI
theorem uQ {K : ZQ} {H : Hp} {ρ : Cs → Cs} : ∀ {fs : List Fc} {ys : List V}, Paired (fun f y => Fact K H (wf ρ f) y) fs ys → Paired (Fact K H) (fs.map (wf ρ)) ys
 | _, _, .nil => .nil
 | _, _, .cons h t => .cons h (uQ t)
end Bk
namespace Bk
open PySem L2 cI
structure FN (g : Fc) : Prop where
 k : aP g.k = true
 as : ∀ a ∈ g.as, aP a = true
 n : g.as.length ≤ 4
theorem FN.Kr {g : Fc} (h : FN g) : g.k.length ≤ 12 := (lG h.k).2
theorem FN.Ho {g : Fc} (h : FN g) : ∀ a ∈ g.as, a.length ≤ 12 := fun a ha => (lG (h.as a ha)).2
theorem fB {g : Fc} (h : FN g) : (aN g).length ≤ 70 := by
 have z := nG g.as h.Ho
 have z2 := h.Kr
 have z3 := h.n
 unfold aN
 by_cases e : g.as = []
 ·rw [if_pos e]; omega
 ·rw [if_neg e]
  simp only [Z6, aal, aaQ]
  omega
def uR (K : ZQ) : Sp := fun vs H Q _ => ∃ (v : V) (g : Fc), vs = [v] ∧ Fact K H g v ∧ FN g ∧ Q (tx (aN g)) H
def Aw (K : ZQ) : Sp := fun vs H Q _ => ∃ (a : aac) (xs : List V) (fs : List Fc), vs = [.ref a] ∧ (aC K H a xs ∨ aK K H a xs) ∧ Paired (Fact K H) fs xs ∧ (∀ g ∈ fs, FN g) ∧ fs.length ≤ 63 ∧ ∀ H', af H H' → Q (tx (dB (fs.map aN))) H'
def lY (e : Cs × Cs) : Cs := (e.1 ++ [61]) ++ e.2
def BN : List Cs → Cs
 | [] => []
 | [a] => a
 | a :: r => a ++ 59 :: 32 :: BN r
theorem BO (ls : List Cs) : ad7 (aae "; ") (ls.map S) = S (BN ls) := by
 show ade (aae "; ") _ = _
 have key : ∀ (ls : List Str), (adR (aae "; ") ls).cps.toList = BN (ls.map fun s => s.cps.toList) := by
  intro ls
  induction ls with
  | nil => rfl
  | cons a r ih =>
   cases r with
   | nil => rfl
   | cons b r =>
    show ((a ++ (aae "; ")) ++ adR (aae "; ") (b :: r)).cps.toList = _
    rw [abz, abz, ih]
    have e : (aae "; ").cps.toList = [59, 32] := by decide +kernel
    rw [e]
    show (a.cps.toList ++ [59, 32]) ++ _ = a.cps.toList ++ 59 :: 32 :: _
    simp
 rw [acx, ← ve (adR (aae "; ") (ls.map S)), key, aaJ]
 have e : ((fun s : Str => s.cps.toList) ∘ S) = id := by
  funext p
  exact aZ p
 rw [e, abA]
def BP (bp bl : List Fc) (st : b0) : Cs := BN [dB (bp.map aN), dB (bl.map aN), dB ((st.filter fun e => !decide (e.1 = e.2)).map lY)]
def ym (K : ZQ) (H : Hp) (v : V) (bp bl : List Fc) (st : b0) : Prop := ∃ p t0 t1 t2 y0 y1 y2, v = .ref p ∧ aK K H p [.ref t0, .ref t1, .ref t2, .bl false] ∧ aK K H t0 y0 ∧ Paired (Fact K H) bp y0 ∧ aK K H t1 y1 ∧ Paired (Fact K H) bl y1 ∧ aK K H t2 y2 ∧ gu K H (st.map bE) y2
def NA (bp bl : List Fc) (st : b0) : Prop := (∀ g ∈ bp ++ bl, FN g) ∧ bp.length ≤ 63 ∧ bl.length ≤ 63 ∧ st.length ≤ 63 ∧ ∀ e ∈ st, e.1.length ≤ 12 ∧ e.2.length ≤ 12
def iZ (K : ZQ) : Sp := fun vs H Q _ => ∃ v, vs = [v] ∧ ((P9 K H v ∧ ∀ H', af H H' → Q (.str (aae "broken")) H') ∨ ∃ bp bl st, ym K H v bp bl st ∧ NA bp bl st ∧ ∀ H', af H H' → Q (tx (BP bp bl st)) H')
end Bk
namespace L2
open PySem PySem.Spec PyProof.Rows Bk
theorem uS {tt : TT} {te : TE} {aJ : List Nat} {σ : St} {H1 : Hp} {Q : VK} {K : ZQ} {a : aac} {xs : List V} {D : aac} {β : Type} (bs : List β) (kp : β → Bool) (g : β → V) (hn : xs.length < Z2) (pU : H1 D = none) (ht : aK K H1 a xs) (hl : bs.length = xs.length)
  (NB : ∀ (i : Nat) x b H' R, xs[i]? = some x → bs[i]? = some b → af H1 H' → (∀ jG, af H' jG → R (kp b) jG) → tt (bT σ (some x) aJ) H' R)
  (Si : ∀ (i : Nat) x b H' R, xs[i]? = some x → bs[i]? = some b → kp b = true → af H1 H' → (∀ jG, af H' jG → R (g b) jG) → te (bT σ (some x) aJ) H' R)
  (hd : ∀ H', af H1 H' → H' D = some (.lst ((bs.filter kp).map g)) → Q (.ref D) H') : jU tt te aJ σ Q (Gu K a) H1 D := by
 refine ye (K := K) (a := a) (xs := xs) hn (fun i ys H' => af H1 H' ∧ H' D = some (.lst ys) ∧ ys = ((bs.take i).filter kp).map g) ⟨aj pU _, ae, rfl⟩ (fun i ys H' p => ht.same p.1) (fun i ys H' p => ⟨p.2.1, ?_⟩) (fun i ys H' hi p => ?_) (fun ys H' p => ?_)
 ·rw [p.2.2, Lm9]
  refine aaM (aat _ _) ?_
  rw [aah]
  omega
 ·have hx : xs.getD i .bB = xs[i] := by rw [Gd9, Ge9 hi]; rfl
  rw [hx]
  have fb : i < bs.length := by omega
  refine NB i _ bs[i] _ _ (Ge9 hi) (Ge9 fb) p.1 fun H2 s2 => ?_
  cases hk : kp bs[i] with
  | true =>
   refine dc ?_
   refine Si i _ bs[i] _ _ (Ge9 hi) (Ge9 fb) hk (af.trans p.1 s2) fun H3 s3 => ?_
   refine ⟨s3 _ _ (s2 _ _ p.2.1), af.a8 (af.trans p.1 (af.trans s2 s3)) pU _, ae, ?_⟩
   rw [p.2.2, Z4 fb, abI, aaj]
   simp [hk]
  | false =>
   refine b5 ⟨af.trans p.1 s2, s2 _ _ p.2.1, ?_⟩
   rw [p.2.2, Z4 fb, abI, aaj]
   simp [hk]
 ·have z := p.2.2
  rw [aaV (by omega)] at z
  exact hd H' p.1 (z ▸ p.2.1)
end L2
namespace Bk
open PySem L2 cI
def uT (st : b0) (n : Cs) : List Cs := if great n = true then (match jN st n with | some v => [v] | none => []) else [n]
def rD (K : ZQ) : Sp := fun vs H Q _ => ∃ (p : aac) (n : Cs) (z0 z1 : V) (t2 : aac) (b : Bool) (st : b0) (y2 : List V), vs = [.ref p, tx n] ∧ aK K H p [z0, z1, .ref t2, .bl b] ∧ aK K H t2 y2 ∧ gu K H (st.map bE) y2 ∧ pJ n ∧ zv st ∧ ∀ (l : aac) (H' : Hp), af H H' → H' l = some (.lst ((uT st n).map tx)) → Q (.ref l) H'
end Bk
namespace Bk
open PySem L2 cI
theorem BQ (ns : List Cs) (k : Nat) : jM (ns.map tx) none (some (k : Int)) = (ns.take k).map tx := by
 unfold jM
 have e1 : HT.mO (ns.map tx).length 0 none = 0 := rfl
 have e2 : HT.mO (ns.map tx).length (ns.map tx).length (some (k : Int)) = min k (ns.map tx).length := HT.lC _ _ k
 rw [e1, e2, List.drop_zero, Nat.sub_zero, ← afj, Lm9]
 by_cases h : k ≤ ns.length
 ·rw [aez h]
 ·rw [Nat.min_eq_right (by omega), aaV (Z0 _), aaV (by omega)]
def rE (K : ZQ) : Sp := fun vs H Q _ => ∃ (ln lc : aac) (way : Int) (ns : List Cs) (cs : List Int), vs = [.ref ln, .int way, .ref lc] ∧ H ln = some (.lst (ns.map tx)) ∧ ns.length = 8 ∧ H lc = some (.lst (cs.map V.int)) ∧ cs.length ≤ 64 ∧
 ∀ (l : aac) (gA : List V) (prs : List (Cs × Cs)) (H' : Hp), af H H' → H' l = some (.lst gA) → Paired (Pair K H') prs gA → prs.length ≤ cs.length → (∀ pr ∈ prs, pr.1 ∈ ns ∧ pr.2 ∈ ns) → Q (.ref l) H'
end Bk
namespace Bk
open PySem L2 cI
def eo (cl : List (List Cs)) (prs : List (Cs × Cs)) : List (List Cs) := prs.foldl (fun c p => Un.merged c p.1 p.2) cl
theorem vM {α : Type} [DecidableEq α] (a b : α) : ∀ (cl : List (List α)) (acc : List α × List (List α)), (Un.go a b cl acc).1.length + ((Un.go a b cl acc).2.map abl).sum ≤ acc.1.length + (acc.2.map abl).sum + (cl.map abl).sum ∧ (Un.go a b cl acc).2.length ≤ acc.2.length + cl.length
 | [], acc => by simp [Un.go]
 | one :: r, acc => by
  unfold Un.go
  split
  ·have z := vM a b r (acc.1 ++ one.filter (fun x => decide (x ∉ acc.1)), acc.2)
   have z2 : (one.filter (fun x => decide (x ∉ acc.1))).length ≤ one.length := aat _ _
   simp only [Z6, aap, ace, aal] at z ⊢
   omega
  ·have z := vM a b r (acc.1, acc.2 ++ [one])
   simp only [Z6, aaj, adF, aap, abO, ace, ado, aal, aaQ] at z ⊢
   omega
structure Hq (ns : List Cs) (n : Nat) (cl : List (List Cs)) : Prop where
 sub : ∀ one ∈ cl, ∀ x ∈ one, x ∈ ns
 ne : ∀ one ∈ cl, one ≠ []
 sz : (cl.map abl).sum ≤ 2 * n
 ln : cl.length ≤ n
theorem Hq.nil (ns : List Cs) : Hq ns 0 [] := ⟨(fun _ h => nomatch h), (fun _ h => nomatch h), Z0 _, Z0 _⟩
theorem Hq.merged {ns : List Cs} {n : Nat} {cl : List (List Cs)} (h : Hq ns n cl) {a b : Cs} (ha : a ∈ ns) (hb : b ∈ ns) : Hq ns (n + 1) (Un.merged cl a b) := by
 have z := vM a b cl ([a, b], [])
 have h1 := h.sz
 have h2 := h.ln
 have xX : ∀ x ∈ (Un.go a b cl ([a, b], [])).1, x ∈ ns := fun x hx => by
  rcases (Un.j7 a b cl _ x).mp hx with e | ⟨one, h1, _, h3⟩
  ·rcases aai.mp e with e | e
   ·rw [e]; exact ha
   ·rw [ZX.mp e]; exact hb
  ·exact h.sub one h1 x h3
 have hne : (Un.go a b cl ([a, b], [])).1 ≠ [] := fun e => by
  have z : a ∈ (Un.go a b cl ([a, b], [])).1 := (Un.j7 a b cl _ a).mpr (.inl (Z5 ..))
  rw [e] at z
  cases z
 have LC : ∀ one ∈ (Un.go a b cl ([a, b], [])).2, one ∈ cl := fun one h1 => by
  rw [Un.j8, abv] at h1
  exact (aaq.mp h1).1
 simp only [aal, aaQ, abO, ado] at z
 unfold Un.merged
 refine ⟨fun one h1 x hx => ?_, fun one h1 => ?_, ?_, ?_⟩
 ·rcases ZY.mp h1 with e | e
  ·exact h.sub one (LC one e) x hx
  ·rw [ZX.mp e] at hx; exact xX x hx
 ·rcases ZY.mp h1 with e | e
  ·exact h.ne one (LC one e)
  ·rw [ZX.mp e]; exact hne
 ·simp only [aaj, adF, aap, abO, ace, ado]
  omega
 ·simp only [Z6, aal, aaQ]
  omega
theorem Ks {l : List (List Cs)} {one : List Cs} (h : one ∈ l) : one.length ≤ (l.map abl).sum := by
 induction l with
 | nil => cases h
 | cons a r ih =>
  rw [aap, ace]
  rcases aai.mp h with e | e
  ·rw [e]; omega
  ·have := ih e; omega
theorem Hq.ok {ns : List Cs} {n : Nat} {cl : List (List Cs)} (h : Hq ns n cl) (hn : n ≤ 100) (hN : ∀ x ∈ ns, aP x = true) : vK cl :=
 ⟨fun one h1 x hx => hN x (h.sub one h1 x hx), fun one h1 => by have := Ks h1; have := h.sz; omega, h.ne, by have := h.ln; omega⟩
def oD (ns : List Cs) (st : b0) : Prop := ∀ e ∈ st, e.1 ∈ ns ∧ e.2 ∈ ns
theorem oD.c {ns : List Cs} {st : b0} (h : oD ns st) (hN : ∀ x ∈ ns, aP x = true) : zv st := fun e he => ⟨cM (hN _ (h e he).1), cM (hN _ (h e he).2)⟩
theorem oD.aT {ns : List Cs} {st : b0} (h : oD ns st) {a : Cs} (ha : a ∈ ns) : aT st a ∈ ns := by
 unfold Bk.aT
 cases kg : jN st a with
 | none => exact ha
 | some v =>
  unfold jN at kg
  obtain ⟨e, h1, h2⟩ := aa1.mp kg
  rw [← h2]
  exact (h e (abD h1)).2
theorem oD.kn {ns : List Cs} : ∀ (ms : List Cs) {st : b0}, oD ns st → (∀ n ∈ ms, n ∈ ns) → oD ns (dC st ms)
 | [], _, h, _ => h
 | n :: r, st, h, hn => by
  refine oD.kn r (st := gO st n) ?_ fun m hm => hn m (Z9 _ hm)
  unfold gO
  split
  ·split
   ·exact h
   ·intro e he
    rcases ZY.mp he with z | z
    ·exact h e z
    ·rw [ZX.mp z]
     exact ⟨hn n (Z5 ..), hn n (Z5 ..)⟩
  ·exact h
theorem oD.tell {ns : List Cs} {st : b0} (h : oD ns st) {p q : Cs} (hp : p ∈ ns) (hq : q ∈ ns) : oD ns (fQ st p q) := by
 unfold fQ
 split
 ·exact h
 ·intro e he
  obtain ⟨e', he', rfl⟩ := Z1.mp he
  refine ⟨(h e' he').1, ?_⟩
  unfold cw
  dsimp only
  split
  ·unfold Un.gw
   split
   ·exact hp
   ·split
    ·exact hq
    ·rcases Un.BL (lt := lK) p q with e | e
     ·rw [e]; exact hp
     ·rw [e]; exact hq
  ·exact (h e' he').2
theorem cU.few {ns : List Cs} {st : b0} (h : cU st) (hn : oD ns st) : st.length ≤ ns.length := by
 have z := lJ (st.map (·.1)) ns h.nd fun x hx => by
  obtain ⟨e, he, rfl⟩ := Z1.mp hx
  exact (hn e he).1
 rw [Lm9] at z
 exact z
theorem Std.E9 {ρ : Cs → Cs} {cl : List (List Cs)} (s : Un.Std great lK ρ cl) : ¬ Un.rq great cl := fun ⟨A, h1, h2⟩ => h2 (s.wh A h1)
theorem my : ∀ (prs : List (Cs × Cs)) {cl : List (List Cs)}, Un.rq great cl → Un.rq great (eo cl prs)
 | [], _, h => h
 | p :: r, _, h => my r (Un.As p.1 p.2 h)
def i0 (prs : List (Cs × Cs)) : List Cs := prs.flatMap fun p => [p.1, p.2]
theorem o4 {ns : List Cs} : ∀ (prs : List (Cs × Cs)) {st : b0} {cl : List (List Cs)}, cU st → oD ns st → (∀ p ∈ prs, p.1 ∈ ns ∧ p.2 ∈ ns) → Un.Std great lK (aT st) cl →
  (cH st prs = none → Un.rq great (eo cl prs)) ∧ ∀ bQ, cH st prs = some bQ → cU bQ ∧ oD ns bQ ∧ Un.Std great lK (aT bQ) (eo cl prs) ∧ (∀ x, aT bQ (aT st x) = aT bQ x) ∧ (∀ x, x ∈ bQ.map (·.1) ↔ x ∈ st.map (·.1) ∨ (x ∈ i0 prs ∧ great x = true))
 | [], st, cl, h, hn, _, s => by
  refine ⟨fun z => (by cases z), fun bQ e => ?_⟩
  obtain rfl : st = bQ := aaI e
  exact ⟨h, hn, s, fun x => (s.same sU).mpr (s.rp x).mem, fun x => by simp [i0]⟩
 | (a, b) :: r, st, cl, h, hn, hp, s => by
  obtain ⟨k1, k2, k3, k4⟩ := cU.kn [a, b] h
  have hab := hp (a, b) (Z5 ..)
  have Sj : oD ns (dC st [a, b]) := oD.kn [a, b] hn fun n hn' => by
   rcases aai.mp hn' with e | e
   ·rw [e]; exact hab.1
   ·rw [ZX.mp e]; exact hab.2
  have er : aT (dC st [a, b]) = aT st := funext fun x => nH [a, b] st x
  have s' := s
  rw [← er] at s'
  have ha : great a = true → a ∈ (dC st [a, b]).map (·.1) := k3 a (by simp)
  have hb : great b = true → b ∈ (dC st [a, b]).map (·.1) := k3 b (by simp)
  have T := Un.tell sU s' a b
  unfold cH
  by_cases ht : nI (aT (dC st [a, b]) a) (aT (dC st [a, b]) b)
  ·rw [if_pos ht]
   exact ⟨fun _ => my r (T.1 ht), fun bQ e => by cases e⟩
  ·rw [if_neg ht]
   obtain ⟨o1, o2⟩ := k1.tell (oB k1 ha) (oB k1 hb)
   have o3 := Sj.tell (Sj.aT hab.1) (Sj.aT hab.2)
   have et : aT (fQ (dC st [a, b]) (aT (dC st [a, b]) a) (aT (dC st [a, b]) b)) = Un.told great lK (aT (dC st [a, b])) a b := funext fun x => E6 k1 ha hb ht x
   have s2 := T.2 ht
   rw [← et] at s2
   have ih := o4 r o1 o3 (fun p h => hp p (Z9 _ h)) s2
   refine ⟨ih.1, fun bQ e => ?_⟩
   obtain ⟨i1, i2, i3, i4, i5⟩ := ih.2 bQ e
   refine ⟨i1, i2, i3, fun x => ?_, fun x => ?_⟩
   ·have z := Un.CV sU s' a b x
    rw [← et, er] at z
    have z1 := i4 (aT st x)
    have z2 := i4 x
    rw [er] at z1 z2
    rw [← z1, z, z2]
   ·rw [i5 x, o2]
    constructor
    ·rintro (z | ⟨z, g⟩)
     ·rcases k4 x z with z | ⟨z, g⟩
      ·exact .inl z
      ·exact .inr ⟨by unfold i0; rw [acE]; exact ZY.mpr (.inl z), g⟩
     ·exact .inr ⟨by unfold i0 at z ⊢; rw [acE]; exact ZY.mpr (.inr z), g⟩
    ·rintro (z | ⟨z, g⟩)
     ·exact .inl (k2 x z)
     ·unfold i0 at z
      rw [acE] at z
      rcases ZY.mp z with z | z
      ·exact .inl (k3 x z g)
      ·exact .inr ⟨z, g⟩
theorem yo {ρ ρ' : Cs → Cs} {cl : List (List Cs)} (s : Un.Std great lK ρ cl) (s' : Un.Std great lK ρ' cl) : ρ = ρ' := funext fun x => Un.iy.uniq sU (fun _ => aft) (s.whole x) (s.rp x) (s'.rp x)
theorem yp {st iF : b0} (nd : (st.map (·.1)).Nodup) (h : iF.Perm st) (n : Cs) : jN iF n = jN st n := by
 have Xr : (iF.map (·.1)).Nodup := (h.map (·.1)).nodup_iff.mpr nd
 by_cases hm : n ∈ st.map (·.1)
 ·obtain ⟨e, he, rfl⟩ := Z1.mp hm
  rw [kd nd he, kd Xr (h.mem_iff.mpr he)]
 ·rw [fP.mpr hm, fP.mpr fun z => hm ((h.map (·.1)).mem_iff.mp z)]
theorem Fb {st iF : b0} (nd : (st.map (·.1)).Nodup) (h : iF.Perm st) : aT iF = aT st := funext fun n => by unfold aT; rw [yp nd h]
theorem cU.perm {st iF : b0} (o : cU st) (h : iF.Perm st) : cU iF :=
 ⟨(h.map (·.1)).nodup_iff.mpr o.nd, fun e he => o.gk e (h.mem_iff.mp he), fun e he g => (h.map (·.1)).mem_iff.mpr (o.gv e (h.mem_iff.mp he) g)⟩
theorem oD.perm {ns : List Cs} {st iF : b0} (o : oD ns st) (h : iF.Perm st) : oD ns iF := fun e he => o e (h.mem_iff.mp he)
theorem Kt {a b : Cs × Cs} (h : pE a = pE b) : a = b := by
 unfold pE at h
 injection h with h
 injection h with h1 h2
 injection h1 with h1
 injection h2 with h2 _
 injection h2 with h2
 exact Prod.ext (eM h1) (eM h2)
noncomputable def Dy (t : Tr) : Cs × Cs := @dite _ (∃ g, pE g = t) (aeg _) (fun h => afB h) (fun _ => ([], []))
theorem Fd (g : Cs × Cs) : Dy (pE g) = g := by
 unfold Dy
 have h : ∃ g', pE g' = pE g := ⟨g, rfl⟩
 rw [dif_pos h]
 exact Kt (aeH h)
theorem p7 (l : b0) : ((aI (l.map pE)).map Dy).Perm l ∧ ((aI (l.map pE)).map Dy).map pE = aI (l.map pE) := by
 have z := (aY (l.map pE)).map Dy
 rw [aaJ] at z
 have e : (Dy ∘ pE) = id := by funext g; exact Fd g
 rw [e, abA] at z
 refine ⟨z, ?_⟩
 rw [aaJ]
 conv => rhs; rw [← abA (aI (l.map pE))]
 refine acR fun t ht => ?_
 obtain ⟨g, _, rfl⟩ := Z1.mp ((aY _).mem_iff.mp ht)
 show pE (Dy (pE g)) = pE g
 rw [Fd]
theorem C0 {K : ZQ} {H : Hp} {n : Cs × Cs} {v : V} (h : cC K H (pE n).toD v) : ∃ t, v = .ref t ∧ aK K H t [tx n.1, tx n.2] := by
 have e : (pE n).toD = .tup [.str (S n.1), .str (S n.2)] := by simp [pE, Tr.toD, Tr.toDs]
 rw [e] at h
 cases h with
 | @tup ds xs p hp hl hd =>
  match xs, hl with
  | [x0, x1], _ =>
   have h0 : cC K H (.str (S n.1)) x0 := hd 0 (by simp) (by simp)
   have h1 : cC K H (.str (S n.2)) x1 := hd 1 (by simp) (by simp)
   cases h0
   cases h1
   exact ⟨p, rfl, hp⟩
theorem p8 {K : ZQ} {H : Hp} : ∀ {st : b0} {ys : List V}, Ts K H (st.map pE) ys → gu K H (st.map bE) ys
 | [], [], _ => .nil
 | [], _ :: _, h => by have := h.1; simp at this
 | _ :: _, [], h => by have := h.1; simp at this
 | n :: st, y :: ys, h => .cons (C0 (by have z := h.2 0 (by simp) (by simp); simpa using z)) (p8 ⟨by have := h.1; simpa using this, fun i h1 h2 => by
   have z := h.2 (i + 1) (by simpa using h1) (by simpa using h2)
   simpa using z⟩)
structure Gd (K : ZQ) (H : Hp) (v : V) (ks : List Kd) (fs : List Fc) (ns : List Cs) (st : b0) : Prop where
 pg : lW K H v (aI (((dJ ks fs).map (wf (aT st))).map fT)) (aI (dd (((cL ks fs).map (wf (aT st))).map fT))) (aI (st.map pE))
 ok : cU st
 n : oD ns st
theorem Gd.sm {K : ZQ} {H H' : Hp} (s : af H H') {v : V} {ks : List Kd} {fs : List Fc} {ns : List Cs} {st : b0} (h : Gd K H v ks fs ns st) : Gd K H' v ks fs ns st := ⟨h.pg.sm s, h.ok, h.n⟩
theorem Gd.Xs {K : ZQ} {H : Hp} {v : V} {ks : List Kd} {fs : List Fc} {ns : List Cs} {st : b0} (hN : ∀ x ∈ ns, aP x = true) (h : Gd K H v ks fs ns st) :
  ∃ bp bl iF, BM K H v bp bl iF ∧ bp.Perm ((dJ ks fs).map (wf (aT st))) ∧ bl.map fT = aI (dd (((cL ks fs).map (wf (aT st))).map fT)) ∧ iF.Perm st := by
 obtain ⟨p, t0, t1, t2, y0, y1, y2, e, h1, h2, h3, h4, h5, h6, h7⟩ := h.pg
 obtain ⟨u1, u2⟩ := p7 st
 refine ⟨(aI (((dJ ks fs).map (wf (aT st))).map fT)).map Aj, (aI (dd (((cL ks fs).map (wf (aT st))).map fT))).map Aj, (aI (st.map pE)).map Dy, ⟨p, t0, t1, t2, y0, y1, e, h1, h2, ix ?_, h4, ix ?_, h.ok.perm u1, (h.n.perm u1).c hN, .inl ⟨y2, h6, p8 ?_⟩⟩, yc _, nF (Al _), u1⟩
 ·rw [nF (EW _)]; exact h3
 ·rw [nF (Al _)]; exact h5
 ·rw [u2]; exact h7
theorem NC {ρ ρ' : Cs → Cs} (h : ∀ x, ρ' (ρ x) = ρ' x) (f : Fc) : wf ρ' (wf ρ f) = wf ρ' f := by
 unfold wf
 simp only [aaJ]
 congr 1
 exact acR fun x _ => h x
theorem Hr (ks : List Kd) (a b : List Fc) : dJ ks (a ++ b) = dJ ks a ++ dJ ks b := by unfold dJ; rw [abI]
theorem Hs (ks : List Kd) (a b : List Fc) : cL ks (a ++ b) = cL ks a ++ cL ks b := by unfold cL; rw [abI]
theorem Gd.out {K : ZQ} {H : Hp} {v : V} {ks : List Kd} {fs fs2 : List Fc} {ns : List Cs} {st bQ : b0} {prs : List (Cs × Cs)} {bp bl : List Fc} (hi : ∀ x, aT bQ (aT st x) = aT bQ x) (Nc : prs = [] → aT bQ = aT st) (o : cU bQ) (on : oD ns bQ)
  (hb : bp.Perm ((dJ ks fs).map (wf (aT st)))) (hl : bl.map fT = aI (dd (((cL ks fs).map (wf (aT st))).map fT))) (h : lW K H v (aI ((lw prs bQ bp ++ (dJ ks fs2).map (wr bQ)).map fT)) (aI (dd ((lw prs bQ bl ++ (cL ks fs2).map (wr bQ)).map fT))) (aI (bQ.map pE))) : Gd K H v ks (fs ++ fs2) ns bQ := by
 have ew : ∀ f, wf (aT bQ) (wf (aT st) f) = wf (aT bQ) f := NC hi
 have e1 : aI ((lw prs bQ bp ++ (dJ ks fs2).map (wr bQ)).map fT) = aI (((dJ ks (fs ++ fs2)).map (wf (aT bQ))).map fT) := by
  refine fL (List.Perm.map fT ?_)
  rw [Hr, aaj]
  refine List.Perm.append_right _ ?_
  unfold lw
  split
  ·rename_i hp
   rw [Nc hp]
   exact hb
  ·refine (hb.map (wr bQ)).trans ?_
   rw [aaJ]
   refine afC (acR fun f _ => ew f)
 have hmem : ∀ t : Tr, t ∈ bl.map fT ↔ ∃ f ∈ cL ks fs, fT (wf (aT st) f) = t := fun t => by
  rw [hl, (aY _).mem_iff, (mr _).2, aaJ, Z1]
  rfl
 have e2 : aI (dd ((lw prs bQ bl ++ (cL ks fs2).map (wr bQ)).map fT)) = aI (dd (((cL ks (fs ++ fs2)).map (wf (aT bQ))).map fT)) := by
  refine Hn fun u => ?_
  rw [Hs, aaj, aaj, aaj, ZY, ZY]
  refine or_congr ?_ aft
  unfold lw
  split
  ·rename_i hp
   rw [Nc hp, hmem, aaJ, Z1]
   rfl
  ·rw [aaJ, aaJ, Z1, Z1]
   constructor
   ·rintro ⟨g, hg, rfl⟩
    obtain ⟨f, hf, e⟩ := (hmem (fT g)).mp (abn hg)
    obtain rfl := vE e
    exact ⟨f, hf, congrArg fT (ew f).symm⟩
   ·rintro ⟨f, hf, rfl⟩
    obtain ⟨g, hg, e⟩ := Z1.mp ((hmem _).mpr ⟨f, hf, rfl⟩)
    obtain rfl := vE e
    exact ⟨_, hg, congrArg fT (ew f)⟩
 rw [e1, e2] at h
 exact ⟨h, o, on⟩
theorem mz : ∀ (ns : List Cs) {acc : List Cs} (x : Cs), x ∈ kn acc ns ↔ x ∈ acc ∨ (x ∈ ns ∧ great x = true)
 | [], acc, x => by simp [kn]
 | n :: ns, acc, x => by
  show x ∈ kn (zu acc n) ns ↔ _
  rw [mz ns, aai]
  have e : x ∈ zu acc n ↔ x ∈ acc ∨ (x = n ∧ great x = true) := by
   unfold zu
   split
   ·rename_i g
    split
    ·rename_i hm
     exact ⟨.inl, fun z => z.elim id fun ⟨e, _⟩ => e ▸ hm⟩
    ·rw [ZY, ZX]
     exact ⟨fun z => z.elim .inl fun e => .inr ⟨e, e ▸ g⟩, fun z => z.elim .inl fun e => .inr e.1⟩
   ·rename_i g
    exact ⟨.inl, fun z => z.elim id fun ⟨e, g'⟩ => absurd (e ▸ g') g⟩
  rw [e]
  constructor
  ·rintro ((h | ⟨h, g⟩) | ⟨h, g⟩)
   ·exact .inl h
   ·exact .inr ⟨.inl h, g⟩
   ·exact .inr ⟨.inr h, g⟩
  ·rintro (h | ⟨h | h, g⟩)
   ·exact .inl (.inl h)
   ·exact .inl (.inr ⟨h, g⟩)
   ·exact .inr ⟨h, g⟩
theorem yq {st : b0} (o : cU st) {nm : List Cs} (nd : nm.Nodup) (h : ∀ x, x ∈ st.map (·.1) ↔ x ∈ nm) : st.Perm (nm.map fun n => (n, aT st n)) := by
 have e : st = (st.map (·.1)).map fun n => (n, aT st n) := by
  rw [aaJ]
  conv => lhs; rw [← abA st]
  refine acR fun p hp => ?_
  show p = (p.1, aT st p.1)
  unfold aT
  rw [kd o.nd hp]
  rfl
 conv => lhs; rw [e]
 exact (mq _ _ o.nd nd h).map _
theorem C3 {st : b0} (o : cU st) {nm : List Cs} (h : ∀ x, x ∈ st.map (·.1) ↔ x ∈ nm) (n : Cs) : jN st n = if n ∈ nm then some (aT st n) else none := by
 by_cases hm : n ∈ nm
 ·rw [if_pos hm]
  obtain ⟨e, he, rfl⟩ := Z1.mp ((h n).mpr hm)
  unfold aT
  rw [kd o.nd he]
  rfl
 ·rw [if_neg hm]
  exact fP.mpr fun z => hm ((h n).mp z)
theorem eR.toX {K : ZQ} {H : Hp} {v : V} {l m : List Fc} {st : b0} (h : eR K H v (aI (l.map fT)) (aI (dd (m.map fT))) (aI (st.map pE))) : ym K H v ((aI (l.map fT)).map Aj) ((aI (dd (m.map fT))).map Aj) ((aI (st.map pE)).map Dy) := by
 obtain ⟨p, t0, t1, t2, y0, y1, y2, e, h1, h2, h3, h4, h5, h6, h7⟩ := h
 refine ⟨p, t0, t1, t2, y0, y1, y2, e, h1, h2, ix ?_, h4, ix ?_, h6, p8 ?_⟩
 ·rw [nF (EW _)]; exact h3
 ·rw [nF (Al _)]; exact h5
 ·rw [(p7 st).2]; exact h7
theorem Sk {l m : List Fc} {st : b0} {ns : List Cs} (hN : ∀ x ∈ ns, aP x = true) (hl : ∀ g ∈ l ++ m, FN g) (n1 : l.length ≤ 63) (n2 : m.length ≤ 63) (hs : oD ns st) (n3 : st.length ≤ 63) : NA ((aI (l.map fT)).map Aj) ((aI (dd (m.map fT))).map Aj) ((aI (st.map pE)).map Dy) := by
 have u := (p7 st).1
 have p1 := yc l
 have hm : ∀ g ∈ (aI (dd (m.map fT))).map Aj, g ∈ m := fun g hg => by
  obtain ⟨t, ht, rfl⟩ := Z1.mp hg
  have z := (mr _).2 t |>.mp ((aY _).mem_iff.mp ht)
  obtain ⟨g, hg', rfl⟩ := Z1.mp z
  rw [Ak]
  exact hg'
 refine ⟨fun g hg => ?_, by rw [p1.length_eq]; exact n1, ?_, by rw [u.length_eq]; exact n3, fun e he => ?_⟩
 ·rcases ZY.mp hg with z | z
  ·exact hl g (ZY.mpr (.inl (p1.mem_iff.mp z)))
  ·exact hl g (ZY.mpr (.inr (hm g z)))
 ·rw [Lm9, (aY _).length_eq]
  have z2 := jZ (m.map fT) _ (Z0 _)
  rw [aau, Lm9] at z2
  omega
 ·have z := hs e (u.mem_iff.mp he)
  exact ⟨(lG (hN _ z.1)).2, (lG (hN _ z.2)).2⟩
end Bk
namespace Bk
open PySem L2 cI
def ki (K : ZQ) : Sp := fun vs H Q _ => ∃ (p ln lc lk : aac) (ns nm : List Cs) (cl : List (List Cs)) (ρ : Cs → Cs) (z0 z1 : V) (t2 : aac) (b : Bool) (st : b0) (y2 : List V), vs = [.ref p, .ref ln, .ref lc, .ref lk] ∧ aK K H p [z0, z1, .ref t2, .bl b] ∧ aK K H t2 y2 ∧ gu K H (st.map bE) y2 ∧ zv st ∧
 H ln = some (.lst (ns.map tx)) ∧ (∀ n ∈ ns, aP n = true) ∧ pK H lc cl ∧ vK cl ∧ H lk = some (.lst (nm.map tx)) ∧ (bf cl = true → st = []) ∧ (bf cl = false → Un.Std great lK ρ cl ∧ ∀ n, jN st n = if n ∈ nm then some (ρ n) else none) ∧ ∀ H', af H H' → Q (.bl true) H'
def yr (cl : List (List Cs)) (ρ : Cs → Cs) (nm : List Cs) (n : Cs) : List Cs := if great n = true then (if bf cl = true ∨ n ∉ nm then [] else [ρ n]) else [n]
theorem Fe {cl : List (List Cs)} {ρ : Cs → Cs} {nm : List Cs} {st : b0} (h1 : bf cl = true → st = []) (h2 : bf cl = false → Un.Std great lK ρ cl ∧ ∀ n, jN st n = if n ∈ nm then some (ρ n) else none) (n : Cs) : uT st n = yr cl ρ nm n := by
 unfold uT yr
 by_cases g : great n = true
 ·rw [if_pos g, if_pos g]
  cases ht : bf cl with
  | true =>
   rw [h1 ht, if_pos (.inl rfl)]
   rfl
  | false =>
   rw [(h2 ht).2 n]
   by_cases hm : n ∈ nm
   ·rw [if_pos hm, if_neg (by simp [hm])]
   ·rw [if_neg hm, if_pos (.inr hm)]
 ·rw [if_neg g, if_neg g]
def bW (fs : List Fc) (prs : List (Cs × Cs)) : List Cs := kn (kn [] (fs.flatMap (·.as))) (i0 prs)
def Ax (K : ZQ) : Sp := fun vs H Q _ => ∃ (lk lf lp lc : aac) (ks : List Kd) (fs : List Fc) (gA : List V) (prs : List (Cs × Cs)) (cl : List (List Cs)) (ρ : Cs → Cs), vs = [.ref lk, .ref lf, .ref lp, .ref lc] ∧ Ag K H lk ks ∧ K4 ks ∧ Kb K H lf fs ∧ (∀ f ∈ fs, FL f) ∧ H lp = some (.lst gA) ∧ Paired (Pair K H) prs gA ∧ (∀ p ∈ prs, aP p.1 = true ∧ aP p.2 = true) ∧ pK H lc cl ∧ vK cl ∧ (bf cl = false → Un.Std great lK ρ cl) ∧ fs.length < 64 ∧ prs.length < 64 ∧ (bW fs prs).length < 64 ∧
 ∀ (t ln : aac) (v : V) (H' : Hp), af H H' → aK K H' t [v, .ref ln] → H' ln = some (.lst ((bW fs prs).map tx)) → (bf cl = true → ∃ p d0 d1 d2, v = .ref p ∧ aK K H' p [.ref d0, .ref d1, .ref d2, .bl true] ∧ aK K H' d0 [] ∧ aK K H' d1 [] ∧ aK K H' d2 []) →
  (bf cl = false → eR K H' v (aI (((dJ ks fs).map (wf ρ)).map fT)) (aI (dd (((cL ks fs).map (wf ρ)).map fT))) (aI (((bW fs prs).map fun n => (n, ρ n)).map pE))) → Q (.ref t) H'
end Bk
namespace Bk
open PySem L2 cI
theorem BR : Un.Std great lK (aT []) [] := Un.Sf lK sU.Eh
def Ku (st : b0) (fs : List Fc) (prs : List (Cs × Cs)) : Prop := ∀ x, x ∈ st.map (·.1) ↔ (x ∈ fs.flatMap (·.as) ∨ x ∈ i0 prs) ∧ great x = true
def WG (K : ZQ) (b1 : aac) (H : Hp) (v : V) (ks : List Kd) (fs : List Fc) (ns : List Cs) (prs : List (Cs × Cs)) (cl : List (List Cs)) : Prop := (Un.rq great cl ∧ v = .ref b1) ∨ ∃ st, Gd K H v ks fs ns st ∧ Un.Std great lK (aT st) cl ∧ Ku st fs prs
theorem WG.sm {K : ZQ} {b1 : aac} {H H' : Hp} (s : af H H') {v : V} {ks : List Kd} {fs : List Fc} {ns : List Cs} {prs : List (Cs × Cs)} {cl : List (List Cs)} (h : WG K b1 H v ks fs ns prs cl) : WG K b1 H' v ks fs ns prs cl := by
 rcases h with h | ⟨st, h1, h2⟩
 ·exact .inl h
 ·exact .inr ⟨st, h1.sm s, h2⟩
theorem rF {K : ZQ} {b1 : aac} {H : Hp} {v : V} {ks : List Kd} {fs fs2 : List Fc} {ns : List Cs} {prs prs2 : List (Cs × Cs)} {cl : List (List Cs)} {lk lf lt lo : aac} {gA : List V} {Q : VK} {E : XK} (hb1 : P9 K H (.ref b1)) (hN : ∀ x ∈ ns, aP x = true) (h8 : ns.length ≤ 8) (yt : ∀ f ∈ fs, f.as.length ≤ 100) (hlen : fs.length + fs2.length < 64) (hpl : prs2.length < 64) (Sl : ∀ f ∈ fs2, ∀ a ∈ f.as, a ∈ ns) (BS : ∀ p ∈ prs2, p.1 ∈ ns ∧ p.2 ∈ ns)
  (h : WG K b1 H v ks fs ns prs cl) (Dz : KF K H lk lf ks fs2) (fF : H lt = some (.lst [])) (hlo : H lo = some (.lst gA)) (pp : Paired (Pair K H) prs2 gA) (EU : dH ks fs2 = 0) (q : ∀ v' H', af H H' → WG K b1 H' v' ks (fs ++ fs2) ns (prs ++ prs2) (eo cl prs2) → Q v' H') : iA K b1 [.ref lk, v, .ref lt, .ref lf, .ref lo] H Q E := by
 have hns : ∀ n ∈ fs2.flatMap (·.as), n ∈ ns := fun n hn => by
  obtain ⟨f, hf, h⟩ := abx.mp hn
  exact Sl f hf n h
 have U8 : ∀ pr ∈ prs2, pJ pr.1 ∧ pJ pr.2 := fun pr h => ⟨cM (hN _ (BS pr h).1), cM (hN _ (BS pr h).2)⟩
 have tell : ∀ (st : b0) (cl : List (List Cs)), cU st → oD ns st → Un.Std great lK (aT st) cl → (cH (dC st (fs2.flatMap (·.as))) prs2 = none → Un.rq great (eo cl prs2)) ∧ ∀ bQ, cH (dC st (fs2.flatMap (·.as))) prs2 = some bQ → cU bQ ∧ oD ns bQ ∧ Un.Std great lK (aT bQ) (eo cl prs2) ∧ (∀ x, aT bQ (aT st x) = aT bQ x) ∧ (∀ x, x ∈ bQ.map (·.1) ↔ x ∈ (dC st (fs2.flatMap (·.as))).map (·.1) ∨ (x ∈ i0 prs2 ∧ great x = true)) := fun st cl o n s => by
  have er : aT (dC st (fs2.flatMap (·.as))) = aT st := funext fun x => nH _ st x
  have z := o4 (ns := ns) prs2 (st := dC st (fs2.flatMap (·.as))) (cl := cl) (cU.kn _ o).1 (oD.kn _ n hns) BS (er ▸ s)
  rw [er] at z
  exact z
 rcases h with ⟨ht, rfl⟩ | ⟨st, hg, hs, hk⟩
 ·have t0 := (tell [] [] ⟨acM, (fun e he => nomatch he), (fun e he => nomatch he)⟩ (fun e he => nomatch he) BR).2
  refine ⟨lk, lf, lt, lo, _, ks, fs2, prs2, true, [], [], [], rfl, Dz, fF, ⟨gA, hlo, pp⟩, .inl ⟨rfl, hb1⟩, ⟨by simp; omega, hpl, by simp; omega⟩, by decide, EU, U8, (fun g hg => nomatch hg), fun bQ e => ?_, fun _ H' s' => q _ _ s' (.inl ⟨my prs2 ht, rfl⟩), fun z => by cases z⟩
  obtain ⟨a1, a2, _⟩ := t0 bQ e
  have := a1.few a2
  omega
 ·obtain ⟨bp, bl, iF, LC, Sm, ND, hst⟩ := hg.Xs hN
  have er := Fb hg.ok.nd hst
  have o' := hg.ok.perm hst
  have n' := hg.n.perm hst
  have T := tell iF cl o' n' (er ▸ hs)
  rw [er] at T
  have l1 : bp.length ≤ fs.length := by
   rw [Sm.length_eq, Lm9]
   exact aat _ _
  have l2 : bl.length ≤ fs.length := by
   have z := congrArg abl ND
   rw [Lm9, (aY _).length_eq] at z
   have z2 := jZ (((cL ks fs).map (wf (aT st))).map fT) _ (Z0 _)
   rw [aau, Lm9, Lm9] at z2
   have z3 : (cL ks fs).length ≤ fs.length := aat _ _
   omega
  have NF : ∀ f ∈ bp ++ bl, f.as.length ≤ 1000 := fun g hg => by
   have key : ∀ f ∈ fs, (wf (aT st) f).as.length ≤ 1000 := fun f hf => by
    have := yt f hf
    show (f.as.map (aT st)).length ≤ 1000
    rw [Lm9]
    omega
   rcases ZY.mp hg with z | z
   ·obtain ⟨f, hf, rfl⟩ := Z1.mp (Sm.mem_iff.mp z)
    exact key f (aaq.mp hf).1
   ·have z2 : fT g ∈ aI (dd (((cL ks fs).map (wf (aT st))).map fT)) := by rw [← ND]; exact abn z
    rw [(aY _).mem_iff, (mr _).2] at z2
    obtain ⟨g', hg', e⟩ := Z1.mp z2
    obtain rfl := vE e
    obtain ⟨f, hf, rfl⟩ := Z1.mp hg'
    exact key f (aaq.mp hf).1
  refine ⟨lk, lf, lt, lo, _, ks, fs2, prs2, false, bp, bl, iF, rfl, Dz, fF, ⟨gA, hlo, pp⟩, .inr ⟨rfl, LC⟩, ⟨by omega, hpl, by omega⟩, by have := o'.few n'; omega, EU, U8, NF, fun bQ e => ?_, (fun z => by cases z), fun _ => ⟨fun e H' s' => q _ _ s' (.inl ⟨T.1 e, rfl⟩), fun bQ e v' H' s' hP => ?_⟩⟩
  ·obtain ⟨a1, a2, _⟩ := T.2 bQ e
   have := a1.few a2
   omega
  ·obtain ⟨a1, a2, a3, a4, a5⟩ := T.2 bQ e
   refine q v' H' s' (.inr ⟨bQ, Gd.out a4 (fun hp => ?_) a1 a2 Sm ND hP, a3, fun x => ?_⟩)
   ·subst hp
    have e : some (dC iF (fs2.flatMap (·.as))) = some bQ := e
    obtain rfl := aaI e
    rw [← er]
    exact funext fun x => nH _ iF x
   ·obtain ⟨_, k2, k3, k4⟩ := cU.kn (fs2.flatMap (·.as)) o'
    have Sn : ∀ x, x ∈ iF.map (·.1) ↔ x ∈ st.map (·.1) := fun x => (hst.map (·.1)).mem_iff
    have ek : x ∈ i0 (prs ++ prs2) ↔ x ∈ i0 prs ∨ x ∈ i0 prs2 := by unfold i0; rw [acQ, ZY]
    have ef : x ∈ (fs ++ fs2).flatMap (·.as) ↔ x ∈ fs.flatMap (·.as) ∨ x ∈ fs2.flatMap (·.as) := by rw [acQ, ZY]
    rw [a5 x, ek, ef]
    constructor
    ·rintro (z | ⟨z, g⟩)
     ·rcases k4 x z with z | ⟨z, g⟩
      ·obtain ⟨z, g⟩ := (hk x).mp ((Sn x).mp z)
       rcases z with z | z
       ·exact ⟨.inl (.inl z), g⟩
       ·exact ⟨.inr (.inl z), g⟩
      ·exact ⟨.inl (.inr z), g⟩
     ·exact ⟨.inr (.inr z), g⟩
    ·rintro ⟨(z | z) | (z | z), g⟩
     ·exact .inl (k2 x ((Sn x).mpr ((hk x).mpr ⟨.inl z, g⟩)))
     ·exact .inl (k3 x z g)
     ·exact .inl (k2 x ((Sn x).mpr ((hk x).mpr ⟨.inr z, g⟩)))
     ·exact .inr ⟨z, g⟩
theorem Ff {K : ZQ} {b1 : aac} {H : Hp} {lk lf : aac} {ks : List Kd} {fs : List Fc} {ns : List Cs} {Q : VK} {E : XK} (h8 : ns.length ≤ 8) (hlen : fs.length < 64) (Sl : ∀ f ∈ fs, ∀ a ∈ f.as, a ∈ ns) (Dz : KF K H lk lf ks fs) (EU : dH ks fs = 0) (q : ∀ v' H', af H H' → WG K b1 H' v' ks fs ns [] [] → Q v' H') : nK K [.ref lk, .ref lf] H Q E := by
 have hns : ∀ n ∈ fs.flatMap (·.as), n ∈ ns := fun n hn => by
  obtain ⟨f, hf, h⟩ := abx.mp hn
  exact Sl f hf n h
 obtain ⟨o, _, k3, k4⟩ := cU.kn (fs.flatMap (·.as)) (st := []) ⟨acM, (fun e he => nomatch he), (fun e he => nomatch he)⟩
 have on : oD ns (dC [] (fs.flatMap (·.as))) := oD.kn _ (fun e he => nomatch he) hns
 have er : aT (dC [] (fs.flatMap (·.as))) = aT [] := funext fun x => nH _ [] x
 refine ⟨lk, lf, ks, fs, rfl, Dz, hlen, by have := o.few on; omega, EU, fun v H' s' hP => q v H' s' (.inr ⟨dC [] (fs.flatMap (·.as)), ?_, by rw [er]; exact BR, fun x => ?_⟩)⟩
 ·exact Gd.out (fs := []) (st := []) (bp := []) (bl := []) (prs := []) (fun x => rfl) (fun _ => er) o on (.refl _) (show [] = aI [] from ((aY []).eq_nil).symm) hP
 ·constructor
  ·intro z
   rcases k4 x z with z | ⟨z, g⟩
   ·cases z
   ·exact ⟨.inl z, g⟩
  ·rintro ⟨z | z, g⟩
   ·exact k3 x z g
   ·cases z
theorem i6 {st : b0} {fs : List Fc} {prs : List (Cs × Cs)} (h : Ku st fs prs) (x : Cs) : x ∈ st.map (·.1) ↔ x ∈ bW fs prs := by
 rw [h x]
 unfold bW
 rw [mz, mz]
 constructor
 ·rintro ⟨z | z, g⟩
  ·exact .inl (.inr ⟨z, g⟩)
  ·exact .inr ⟨z, g⟩
 ·rintro ((z | ⟨z, g⟩) | ⟨z, g⟩)
  ·cases z
  ·exact ⟨.inl z, g⟩
  ·exact ⟨.inr z, g⟩
theorem gB (fs : List Fc) (prs : List (Cs × Cs)) : (bW fs prs).Nodup := (rf _ _ (rf _ [] acM).1).1
theorem Gd.U9 {K : ZQ} {H : Hp} {v : V} {ks : List Kd} {fs : List Fc} {ns : List Cs} {st : b0} {prs : List (Cs × Cs)} {cl : List (List Cs)} {ρ : Cs → Cs} (h : Gd K H v ks fs ns st) (s : Un.Std great lK (aT st) cl) (s' : Un.Std great lK ρ cl) (k : Ku st fs prs) : lW K H v (aI (((dJ ks fs).map (wf ρ)).map fT)) (aI (dd (((cL ks fs).map (wf ρ)).map fT))) (aI (((bW fs prs).map fun n => (n, ρ n)).map pE)) := by
 have e := yo s s'
 have z := h.pg
 have ek := (yq h.ok (gB fs prs) (i6 k)).map pE
 rw [fL ek, e] at z
 exact z
end Bk
namespace Bk
open PySem L2 cI
theorem So (ns : List Int) {c : Nat} (hc : 4 ≤ c) : ∃ ms Kv : List Int, jM (ns.map V.int) (some 4) (some (c : Int)) = ms.map V.int ∧ jM (ns.map V.int) (some (c : Int)) (some 154) = Kv.map V.int ∧ ms.length + Kv.length + 4 ≤ max 4 ns.length := by
 refine ⟨(ns.drop (HT.mO ns.length 0 (some 4))).take (HT.mO ns.length ns.length (some (c : Int)) - HT.mO ns.length 0 (some 4)), (ns.drop (HT.mO ns.length 0 (some (c : Int)))).take (HT.mO ns.length ns.length (some 154) - HT.mO ns.length 0 (some (c : Int))), ?_, ?_, ?_⟩
 ·unfold jM
  rw [Lm9, afj, List.map_drop]
 ·unfold jM
  rw [Lm9, afj, List.map_drop]
 ·have e : HT.mO ns.length 0 (some 4) = min 4 ns.length := HT.lC ns.length 0 4
  have e2 : HT.mO ns.length 0 (some (c : Int)) = min c ns.length := HT.lC ns.length 0 c
  have e3 : HT.mO ns.length ns.length (some (c : Int)) = min c ns.length := HT.lC ns.length ns.length c
  rw [aah, abL, aah, abL, e, e2, e3]
  omega
theorem Kw {xs : List V} {k : Nat} (h : k ≤ xs.length) : jM xs none (some (k : Int)) = xs.take k := by
 unfold jM
 have e1 : HT.mO xs.length 0 none = 0 := rfl
 have e2 : HT.mO xs.length xs.length (some (k : Int)) = min k xs.length := HT.lC _ _ k
 rw [e1, e2, List.drop_zero, Nat.sub_zero, aez h]
theorem pd {α β : Type} {R : α → β → Prop} : ∀ (k : Nat) {xs : List α} {ys : List β}, Paired R xs ys → Paired R (xs.take k) (ys.take k)
 | 0, _, _, _ => by rw [List.take_zero, List.take_zero]; exact .nil
 | _ + 1, _, _, .nil => .nil
 | k + 1, _, _, .cons h t => .cons h (pd k t)
theorem gD {α β : Type} {R : α → β → Prop} : ∀ (k : Nat) {xs : List α} {ys : List β}, Paired R xs ys → Paired R (xs.drop k) (ys.drop k)
 | 0, _, _, h => h
 | _ + 1, _, _, .nil => .nil
 | k + 1, _, _, .cons _ t => gD k t
theorem Ay {K : ZQ} {H : Hp} {a b : aac} {ps : List (Cs × Cs)} {us : List V} (h1 : aC K H a us) (h2 : aC K H b us) (p1 : Paired (Pair K H) ps us) : Alike K H (.ref a) (.ref b) := by
 have z1 := aad p1
 refine Alike.plain (ds := ps.map fun k => .tup [.str (S k.1), .str (S k.2)]) h1 h2 (by simpa using z1) (fun d hd => ?_) fun i h0 h1 => ?_
 ·obtain ⟨g, _, rfl⟩ := Z1.mp hd
  show 1 ≤ 20
  decide
 ·rw [Z3]
  obtain ⟨t, e, ht⟩ := paired_at p1 i (by simpa using h0) h1
  rw [e]
  refine .tup ht rfl fun j j1 j2 => ?_
  match j, j1, j2 with
  | 0, _, _ => exact .str _
  | 1, _, _ => exact .str _
theorem Az (l m : List Fc) (nm : b0) : (ER (aI (l.map fT)) (aI (dd (m.map fT))) (aI (nm.map pE))).deep ≤ 20 := by
 have a1 : Dt.bU (Tr.toDs (aI (l.map fT))) ≤ 2 := p4 fun t ht => by
  obtain ⟨g, _, rfl⟩ := Z1.mp ((aY _).mem_iff.mp ht)
  unfold fT; rw [dz]; decide
 have a2 : Dt.bU (Tr.toDs (aI (dd (m.map fT)))) ≤ 2 := p4 fun t ht => by
  obtain ⟨g, rfl⟩ := uI ((aY _).mem_iff.mp ht)
  unfold fT; rw [dz]; decide
 have a3 : Dt.bU (Tr.toDs (aI (nm.map pE))) ≤ 2 := p4 fun t ht => by
  obtain ⟨g, _, rfl⟩ := Z1.mp ((aY _).mem_iff.mp ht)
  show 1 ≤ 2
  decide
 unfold ER
 show max (Dt.bU _ + 1) (max (Dt.bU _ + 1) (max (Dt.bU _ + 1) (max 0 0))) + 1 ≤ 20
 omega
theorem ym.sm {K : ZQ} {H H' : Hp} (s : af H H') {v : V} {bp bl : List Fc} {st : b0} (h : ym K H v bp bl st) : ym K H' v bp bl st := by
 obtain ⟨p, t0, t1, t2, y0, y1, y2, e, h1, h2, h3, h4, h5, h6, h7⟩ := h
 exact ⟨p, t0, t1, t2, y0, y1, y2, e, h1.same s, h2.same s, ao h3 fun _ _ _ => Fact.sm s, h4.same s, ao h5 fun _ _ _ => Fact.sm s, h6.same s, ao h7 fun _ _ _ ⟨t, e, z⟩ => ⟨t, e, z.same s⟩⟩
theorem Ht {K : ZQ} {b1 d0 d1 d2 : aac} {H : Hp} {v1 v2 dv : V} {ks : List Kd} {fs : List Fc} {ns : List Cs} {prs : List (Cs × Cs)} {cl : List (List Cs)} {ρ : Cs → Cs} (hN : ∀ x ∈ ns, aP x = true) (h8 : ns.length ≤ 8) (C4 : ∀ g ∈ fs, (∀ a ∈ g.as, a ∈ ns) ∧ FN g) (hlen : fs.length < 64) (BS : ∀ p ∈ prs, p.1 ∈ ns ∧ p.2 ∈ ns)
  (hb1 : aK K H b1 [.ref d0, .ref d1, .ref d2, .bl true]) (hd0 : aK K H d0 []) (xQ : aK K H d1 []) (hd2 : aK K H d2 []) (h1 : WG K b1 H v1 ks fs ns prs cl) (h2 : WG K b1 H v2 ks fs ns prs cl) (hρ : bf cl = false → Un.Std great lK ρ cl)
  (ht : bf cl = true → ∃ p d0 d1 d2, dv = .ref p ∧ aK K H p [.ref d0, .ref d1, .ref d2, .bl true] ∧ aK K H d0 [] ∧ aK K H d1 [] ∧ aK K H d2 [])
  (hn : bf cl = false → eR K H dv (aI (((dJ ks fs).map (wf ρ)).map fT)) (aI (dd (((cL ks fs).map (wf ρ)).map fT))) (aI (((bW fs prs).map fun n => (n, ρ n)).map pE))) :
  ∃ (p1 p2 : aac) (x0 x1 w0 w1 w2 : V) (bb : Bool) (ds : List Dt) (tv : Str) (t2 : aac) (st : b0) (y2 : List V), v1 = .ref p1 ∧ v2 = .ref p2 ∧ aK K H p1 [x0, x1, .ref t2, .bl bb] ∧ aK K H p2 [w0, w1, w2, .bl bb] ∧ cC K H (.tup ds) (.ref p1) ∧ cC K H (.tup ds) (.ref p2) ∧ cC K H (.tup ds) dv ∧ (Dt.tup ds).deep ≤ 20 ∧
   (∀ u, u = .ref p1 ∨ u = dv → ∀ (H' : Hp) (Q : VK) (E : XK), af H H' → (∀ jG, af H' jG → Q (.str tv) jG) → iZ K [u] H' Q E) ∧ aK K H t2 y2 ∧ gu K H (st.map bE) y2 ∧ zv st ∧ (bf cl = true → st = []) ∧ (bf cl = false → Un.Std great lK ρ cl ∧ ∀ n, jN st n = if n ∈ bW fs prs then some (ρ n) else none) := by
 have nt : ∀ {st : b0}, Un.Std great lK (aT st) cl → bf cl = false := fun {st} s => by
  cases h : bf cl with
  | false => rfl
  | true => exact absurd ((nM cl).mp h) (Std.E9 s)
 rcases h1 with ⟨a1, rfl⟩ | ⟨C5, g1, s1, k1⟩
 ·have BU := (nM cl).mpr a1
  rcases h2 with ⟨_, rfl⟩ | ⟨bQ, g2, s2, k2⟩
  ·obtain ⟨p, e0, e1, e2, rfl, hp, z0, z1, z2⟩ := ht BU
   refine ⟨b1, b1, _, _, _, _, _, true, Np, aae "broken", d2, [], [], rfl, rfl, hb1, hb1, vF hb1 hd0 xQ hd2, vF hb1 hd0 xQ hd2, vF hp z0 z1 z2, by decide, ?_, hd2, .nil, (fun e he => nomatch he), fun _ => rfl, fun z => by rw [BU] at z; cases z⟩
   rintro u (rfl | rfl) H' Q E s' q
   ·exact ⟨_, rfl, .inl ⟨⟨b1, _, _, _, rfl, hb1.same s'⟩, q⟩⟩
   ·exact ⟨_, rfl, .inl ⟨⟨p, _, _, _, rfl, hp.same s'⟩, q⟩⟩
  ·rw [nt s2] at BU; cases BU
 ·have NH := nt s1
  rcases h2 with ⟨a2, rfl⟩ | ⟨bQ, g2, s2, k2⟩
  ·rw [(nM cl).mpr a2] at NH; cases NH
  ·have hs := hρ NH
   have P1 := g1.U9 s1 hs k1
   have P2 := (g2.U9 s2 hs k2).toV
   have P3 := hn NH
   have er := yo s1 hs
   have hkn : ∀ x ∈ bW fs prs, x ∈ ns := fun x hx => by
    rcases ((k1 x).mp ((i6 k1 x).mpr hx)).1 with z | z
    ·obtain ⟨f, hf, h⟩ := abx.mp z
     exact (C4 f hf).1 x h
    ·unfold i0 at z
     obtain ⟨p, hp, h⟩ := abx.mp z
     rcases aai.mp h with e | e
     ·rw [e]; exact (BS p hp).1
     ·rw [ZX.mp e]; exact (BS p hp).2
   have P6 : ∀ x ∈ ns, ρ x ∈ ns := fun x hx => by rw [← er]; exact g1.n.aT hx
   have Va : ∀ g ∈ fs, FN (wf ρ g) := fun g hg => by
    obtain ⟨z1, z2⟩ := C4 g hg
    refine ⟨z2.k, fun a ha => ?_, ?_⟩
    ·obtain ⟨a', ha', rfl⟩ := Z1.mp ha
     exact hN _ (P6 _ (z1 a' ha'))
    ·show (g.as.map ρ).length ≤ 4
     rw [Lm9]
     exact z2.n
   have Kx : (bW fs prs).length ≤ 8 := by
    have z := lJ _ ns (gB fs prs) hkn
    omega
   have z1 : (dJ ks fs).length ≤ fs.length := aat _ _
   have z2 : (cL ks fs).length ≤ fs.length := aat _ _
   have hT := Sk (l := (dJ ks fs).map (wf ρ)) (m := (cL ks fs).map (wf ρ)) (st := (bW fs prs).map fun n => (n, ρ n)) hN (fun g hg => by
     rcases ZY.mp hg with z | z
     ·obtain ⟨g', hg', rfl⟩ := Z1.mp z
      exact Va g' (aaq.mp hg').1
     ·obtain ⟨g', hg', rfl⟩ := Z1.mp z
      exact Va g' (aaq.mp hg').1) (by rw [Lm9]; omega) (by rw [Lm9]; omega) (fun e he => by
     obtain ⟨n, hn', rfl⟩ := Z1.mp he
     exact ⟨hkn n hn', P6 n (hkn n hn')⟩) (by rw [Lm9]; omega)
   have I1 := eR.Hh P1.toV
   have I2 := eR.Hh P2
   have I3 := eR.Hh P3
   have X1 := eR.toX P1.toV
   have X3 := eR.toX P3
   have dp := Az ((dJ ks fs).map (wf ρ)) ((cL ks fs).map (wf ρ)) ((bW fs prs).map fun n => (n, ρ n))
   obtain ⟨u1, u2⟩ := p7 ((bW fs prs).map fun n => (n, ρ n))
   have up := yq g1.ok (gB fs prs) (i6 k1)
   rw [er] at up
   have up := u1.trans up.symm
   obtain ⟨p1, t0, t1, t2, y0, y1, y2, rfl, c1, _, _, _, _, c6, c7⟩ := P1
   obtain ⟨p2, Zs, Zt, Zu, Zv, Zw, Zx, rfl, Xt, _⟩ := P2
   refine ⟨p1, p2, _, _, _, _, _, false, _, S (BP ((aI (((dJ ks fs).map (wf ρ)).map fT)).map Aj) ((aI (dd (((cL ks fs).map (wf ρ)).map fT))).map Aj) ((aI (((bW fs prs).map fun n => (n, ρ n)).map pE)).map Dy)), t2, (aI (((bW fs prs).map fun n => (n, ρ n)).map pE)).map Dy, y2, rfl, rfl, c1, Xt, I1, I2, I3, dp, ?_, c6.sq, p8 (by rw [u2]; exact c7), (g1.n.perm up).c hN, (fun z => by rw [NH] at z; cases z), fun _ => ⟨hs, fun n => ?_⟩⟩
   ·rintro u hu H' Q E s' q
    rcases hu with rfl | rfl
    ·exact ⟨_, rfl, .inr ⟨_, _, _, X1.sm s', hT, q⟩⟩
    ·exact ⟨_, rfl, .inr ⟨_, _, _, X3.sm s', hT, q⟩⟩
   ·rw [yp g1.ok.nd up, C3 g1.ok (i6 k1) n, er]
end Bk
namespace iB
open PySem L2 cI Bk
set_option maxHeartbeats 4000000
def top (i : Nat) : Stmt := PySem.Challenge.pw_poolrules_k06_names_told_the_same.main.body.getD i (.Pass ⟨0, 0, 0, 0⟩)
abbrev mB : Stmt := top 9
abbrev kj : Stmt := top 10
abbrev i7 : Stmt := top 11
abbrev i8 : Stmt := top 15
abbrev vN : Stmt := top 16
abbrev i9 : Stmt := top 17
abbrev km : Stmt := top 18
abbrev gP : Stmt := top 19
abbrev gQ : Stmt := top 20
abbrev oE : Stmt := top 21
abbrev kq : Stmt := top 22
abbrev AA : Stmt := top 23
abbrev kr : Stmt := top 24
abbrev rG : Stmt := top 25
abbrev fR : Stmt := top 27
abbrev mC : Stmt := top 28
abbrev ja : Stmt := top 29
abbrev gR : Stmt := top 30
abbrev jb : Stmt := top 31
abbrev jc : Stmt := top 32
abbrev jd : Stmt := top 33
abbrev ku : Stmt := top 34
abbrev je : Stmt := top 35
abbrev jf : Stmt := top 36
abbrev jg : Stmt := top 37
abbrev gS : Stmt := top 38
abbrev ky : Stmt := top 39
abbrev mD : Stmt := top 40
abbrev kz : Stmt := top 41
abbrev fS : Stmt := top 42
abbrev eE : Stmt := top 43
abbrev jh : Stmt := top 44
abbrev ji : Stmt := top 45
abbrev dM : Stmt := top 46
abbrev fU : Stmt := top 47
abbrev mE : Stmt := top 48
abbrev nN : Stmt := top 49
section
variable {P : aao} {w : aaO} {K : ZQ} {mg : Str → Option ZS} {base : Heap} {f : aac} {fd : aa0} {C1 C2 : aac}
theorem ax {α : Type} {l : List α} {i : Nat} {x : α} (h : l[i]? = some x) : ∃ hi : i < l.length, l[i] = x := ZZ.mp h
theorem fV : aB ["kinds", "facts", "counts", "fact"] ["kinds", "facts"] (ar gP) := ⟨rfl, rfl, rfl, by decide +kernel, rfl, by decide +kernel, by decide +kernel⟩
theorem rH (F : b6 K "check_facts" "check_facts" gP f fd) (AB : mg "dict" = none) (bV : mg "len" = none) (kC : abX K C1 Jg zK = true) (Fg : mg "NoKind" = some (.ref C1)) (iC : abX K C2 Jg zK = true) (C6 : mg "BadArgs" = some (.ref C2)) :
  bD P w K mg base (zm P w) 1 f fd ["kinds", "facts"] (qT K C1 C2) := by
 refine F.Mz fV (fun vs H Q E h => ?_) (fun c0 A outer s H vs Q E hr h => ?_)
 ·obtain ⟨lk, lf, ks, fs, rfl, _⟩ := h
  rfl
 obtain ⟨lk, lf, ks, fs, rfl, ⟨⟨kvs, hk, pk⟩, nd, fk, ⟨mP, hf, pf⟩, xx⟩, ⟨Sq, M7⟩, q⟩ := h
 have hu := Bd hr
 refine ⟨_, (ah (aw (i := 2) fV.nd rfl (aax rfl) (aR (pC rfl) rfl AB PyProof.Rows.Boot.«dict» (aa (bo [] rfl (by kernel_rfl) (aH (pv 0)) (fun _ _ _ _ _ => bz) (fun _ _ _ _ _ => (cY (aa (au (r := iJ K) av (pv 0) ai (fun _ _ => rfl)) (aa (au (r := iJ K) av (pv 0) ai (fun _ _ => rfl)) ag))))) ag)))
 (ak (cb jW rfl (aH (pv 1)) (bx (i := 3) fV.nd rfl (aax rfl))
 (ah (aU (IK (Ct hu (au av (pv 3) ai (fun _ _ => rfl)) (pv 2)))
 (ak (qk kC Fg rfl (aa (BE hr.gd hr.units (pv 3)) ag)))
 aA)
 (ak (aU (aD ub (aG aM rfl bV aaW (aa (au av (pv 3) ai (fun _ _ => rfl)) ag)) (Bh hu (pv 2) (au av (pv 3) ai (fun _ _ => rfl)) (fun _ _ => rfl)) (bu _))
 (ak (qk iC C6 rfl (aa (BE hr.gd hr.units (pv 3)) ag)))
 aA)))))), ?_⟩
 have zl := aad pk
 have zf := aad pf
 refine ⟨_, rfl, lk, rfl, ⟨_, aC.of hk⟩, fun D hD => ?_⟩
 refine fK (K := K) (xs := kvs) ks (fun _ H k y => ∃ t, y = .ref t ∧ aK K H t [tx k.n, .int k.c]) (fun _ _ _ _ _ k ⟨t, e, h⟩ => ⟨t, e, aK.keep k h⟩) (fun _ _ _ _ _ _ h => h) (n0 (by omega)) hD (aC.of hk) zl (fun i x b H' R hx hb sm hQ => ?_) (fun H1 ys s1 hL po => ?_)
 ·obtain ⟨hi, ex⟩ := ax hx
  obtain ⟨fb, eb⟩ := ax hb
  obtain ⟨t, et, ht⟩ := paired_at pk i fb hi
  rw [ex] at et
  rw [eb] at ht
  subst et
  have ht' := ht.same sm
  exact ⟨_, rfl, t, _, 0, _, rfl, rfl, ht', rfl, _, rfl, t, _, 1, _, rfl, rfl, ht', rfl, (by show 2 ≤ Z2; decide), fun t2 Ky => hQ _ _ (aj Ky _) ⟨t2, rfl, aK.of ae⟩⟩
 refine ⟨D, ys, ks.map m9, rfl, hL, oR po, (by rw [Lm9]; omega), fun d hd => ?_⟩
 rw [iO _ _ (xI nd), abv]
 have s2 : af H (upd H1 d (.dK (ks.map m9))) := af.trans s1 (aj hd _)
 have DA := ae (H := H1) (a := d) (o := .dK (ks.map m9))
 generalize upd H1 d (.dK (ks.map m9)) = H2 at s2 DA ⊢
 refine ⟨_, rfl, lf, rfl, ⟨_, aC.of (s2 _ _ hf)⟩, bK (K := K) (a := lf) (xs := mP) (fun i σ H' => H' = H2 ∧ dH ks fs = dH ks (fs.drop i) ∧ ∃ o, σ = [some (.ref lk), some (.ref lf), some (.ref d), o]) ⟨rfl, rfl, none, rfl⟩ (fun i σ H' _ ⟨e, _⟩ => by rw [e]; exact aC.of (s2 _ _ hf)) ?_ ?_⟩
 ·rintro i y σ H' hi ⟨rfl, vO, o, rfl⟩
  obtain ⟨iD, ey⟩ := ax hi
  have xj : i < fs.length := by omega
  have hFa := paired_at pf i xj iD
  rw [ey] at hFa
  have NI := Fact.Hh (Fact.sm s2 hFa)
  obtain ⟨t, t2, et, h1, h2⟩ := hFa
  subst et
  have h1' := h1.same s2
  have h2' := h2.same s2
  have hS := FS.shown (xx _ (ZT xj))
  rw [x3 xj] at vO
  refine ⟨_, rfl, t, _, 0, _, rfl, rfl, h1', rfl, _, rfl, d, _, rfl, mf.k (k := (abi (S fs[i].k) : Key)) DA, _, rfl, ?_⟩
  have Fh := Ka ks fs[i].k
  cases NJ : ks.find? (fun k => decide (k.n = fs[i].k)) with
  | none =>
   rw [NJ] at Fh
   rw [Fh]
   have yt : fault ks fs[i] = 1 := by unfold fault; rw [NJ]
   refine dc ⟨_, rfl, [.str (S fs[i].k), .tup ((fs[i].as.map S).map .str)], NI, ?_, hS.1, hS.2, fun x => ⟨(by show 1 ≤ Z2; decide), Sq ?_ _ s2⟩⟩
   ·show (fT fs[i]).toD.deep ≤ 18
    unfold fT
    rw [dz]
    decide
   ·rw [vO, yt]
    rfl
  | some k =>
   rw [NJ] at Fh
   rw [Fh]
   refine b5 ?_
   refine ⟨_, rfl, t, _, 1, _, rfl, rfl, h1', rfl, t2, _, rfl, .inr h2', _, rfl, _, rfl, t, _, 0, _, rfl, rfl, h1', rfl, d, _, rfl, (by have z := mf.k (k := (abi (S fs[i].k) : Key)) DA; rw [Fh] at z; exact z), rfl, _, rfl, ?_⟩
   rw [Lm9]
   by_cases hc : k.c = fs[i].as.length
   ·have yt : fault ks fs[i] = 0 := by unfold fault; rw [NJ]; exact if_pos hc
    rw [decide_eq_true (show V.int (fs[i].as.length : Nat) = V.int (k.c : Nat) by rw [hc])]
    refine b5 ⟨rfl, ?_, _, rfl⟩
    rw [vO, yt]
    rfl
   ·have yt : fault ks fs[i] = 2 := by unfold fault; rw [NJ]; exact if_neg hc
    rw [decide_eq_false (fun z : V.int (fs[i].as.length : Nat) = V.int (k.c : Nat) => hc (by have := V.int.inj z; omega))]
    refine dc ⟨_, rfl, [.str (S fs[i].k), .tup ((fs[i].as.map S).map .str)], NI, ?_, hS.1, hS.2, fun x => ⟨(by show 1 ≤ Z2; decide), M7 ?_ _ s2⟩⟩
    ·show (fT fs[i]).toD.deep ≤ 18
     unfold fT
     rw [dz]
     decide
    ·rw [vO, yt]
     rfl
 ·rintro σ H' ⟨rfl, vO, o, rfl⟩
  rw [aby (by omega)] at vO
  exact q vO _ s2
end
end iB
namespace iB
open PySem L2 cI Bk
set_option maxHeartbeats 4000000
section
variable {P : aao} {w : aaO} {K : ZQ} {mg : Str → Option ZS} {base : Heap} {f : aac} {fd : aa0}
theorem yu : aB ["name"] ["name"] (ar mB) := ⟨rfl, rfl, rfl, by decide +kernel, rfl, by decide +kernel, by decide +kernel⟩
theorem yw {u1 : ZS} (F : b6 K "is_great" "is_great" mB f fd) (Hu : mg "GREAT" = some u1) (Hv : RelV (.str eB) u1) : bD P w K mg base jP 1 f fd ["name"] lF := by
 refine F.ok yu (fun vs H Q E h => ?_) (fun c0 A outer s H vs Q E hr h => ?_)
 ·obtain ⟨p, rfl, _⟩ := h
  rfl
 obtain ⟨p, rfl, h1, hx, q⟩ := h
 refine ⟨_, (ak (ay (Ba Cd (au fH (pv 0) ai (fun _ _ => rfl)) (pQ rfl Hu Hv) (by with_unfolding_all rfl)))), ?_⟩
 have hl : 1 ≤ (S p).length := by
  rw [bc]
  cases p with
  | nil => exact absurd rfl h1
  | cons a r => simp
 refine ⟨_, rfl, S p, 0, _, rfl, rfl, (by rw [bc]; exact sz (by omega)), lE hl, _, _, rfl, rfl, ?_⟩
 rw [StrLaws.found_one, aZ]
 exact q
theorem kE : aB ["lasts", "taken", "fact"] ["lasts", "taken"] (ar gQ) := ⟨rfl, rfl, rfl, by decide +kernel, rfl, by decide +kernel, by decide +kernel⟩
theorem rJ (F : b6 K "check_taken" "check_taken" gQ f fd) : bD P w K mg base jP 1 f fd ["lasts", "taken"] (qB K) := by
 refine F.ok kE (fun vs H Q E h => ?_) (fun c0 A outer s H vs Q E hr h => ?_)
 ·obtain ⟨ll, lf, mP, ls, fs, rfl, _⟩ := h
  rfl
 obtain ⟨ll, lf, mP, ls, fs, rfl, hl, hf, pf, ip, q⟩ := h
 refine ⟨_, (ak (cb aa5 rfl (aH (pv 1)) (bx (i := 2) kE.nd rfl (aax rfl))
 (ak (aU (aD ft (au av (pv 2) ai (fun _ _ => rfl)) (pv 0) (by with_unfolding_all rfl))
 ua
 aA)))), ?_⟩
 have zf := aad pf
 refine ⟨_, rfl, lf, rfl, ⟨_, aC.of hf⟩, bK (K := K) (a := lf) (xs := mP) (fun i σ H' => H' = H ∧ ∃ o, σ = [some (.ref ll), some (.ref lf), o]) ⟨rfl, none, rfl⟩ (fun i σ H' _ ⟨e, _⟩ => by rw [e]; exact aC.of hf) ?_ ?_⟩
 ·rintro i y σ H' hi ⟨rfl, o, rfl⟩
  obtain ⟨iD, ey⟩ := ax hi
  have xj : i < fs.length := by omega
  obtain ⟨t, t2, et, h1, h2⟩ := paired_at pf i xj iD
  rw [ey] at et
  subst et
  refine ⟨_, rfl, t, _, 0, _, rfl, rfl, h1, rfl, _, rfl, ll, _, rfl, .inl (aC.of hl), rfl, de _, _, rfl, ?_⟩
  rw [dF, decide_eq_false (ip _ (ZT xj))]
  exact b5 ⟨rfl, _, rfl⟩
 ·rintro σ H' ⟨rfl, o, rfl⟩
  exact q
theorem BV : aB ["stand", "names", "name"] ["stand", "names"] (ar AA) := ⟨rfl, rfl, rfl, by decide +kernel, rfl, by decide +kernel, by decide +kernel⟩
theorem Hw (F : b6 K "know" "know" AA f fd) (aX : cA P w K mg base "is_great" 1 ["name"] lF) : bD P w K mg base jP 2 f fd ["stand", "names"] (vI K) := by
 refine F.ok BV (fun vs H Q E h => ?_) (fun c0 A outer s H vs Q E hr h => ?_)
 ·obtain ⟨d, t, st, ns, rfl, _⟩ := h
  rfl
 obtain ⟨d, t, st, ns, rfl, hd, ht, hok, hn, q⟩ := h
 refine ⟨_, (ak (cb aa5 rfl (fE (pv 1)) (bx (i := 2) BV.nd rfl (aax rfl))
 (ak (aU (bj (aq aX (hr.mono (by decide)) rfl (aa (pv 2) ag)))
 (ak (cF (G4 (pv 0) (pv 2) (pv 2) ⟨rfl, rfl, rfl, rfl⟩)))
 aA)))), ?_⟩
 refine ⟨_, rfl, t, rfl, ⟨_, ht⟩, u5 (K := K) (a := t) (xs := ns.map tx) (fun i σ H' => H' = upd H d (.dK ((dC st (ns.take i)).map bE)) ∧ ∃ o, σ = [some (.ref d), some (.ref t), o]) ⟨(EM hd).symm, none, rfl⟩ (fun i σ H' _ ⟨e, _⟩ => by rw [e]; exact pZ hd ht) ?_ ?_⟩
 ·rintro i y σ H' hi ⟨rfl, o, rfl⟩
  obtain ⟨iD, ey⟩ := ax hi
  have Kz : i < ns.length := by simpa using iD
  have ey : tx ns[i] = y := by rw [← ey]; simp
  subst ey
  have ip := hok _ (ZT Kz)
  have e1 : dC st (ns.take (i + 1)) = gO (dC st (ns.take i)) ns[i] := by
   rw [Z4 Kz]
   unfold dC
   rw [abh]
   rfl
  have hlen := nJ (ns.take i) st
  rw [aah] at hlen
  refine ⟨_, rfl, ns[i], rfl, ip.1, (by have := ip.2.1; omega), _, rfl, ?_⟩
  generalize dC st (ns.take i) = ac at e1 hlen ⊢
  have DA := ae (H := H) (a := d) (o := .dK (ac.map bE))
  by_cases hg : great ns[i] = true
  ·rw [hg]
   refine dc ?_
   refine ⟨_, rfl, d, rfl, .inl ⟨_, .inl DA⟩, _, rfl, _, rfl, _, (abi (S ns[i]) : Key), DA, rfl, (by rw [Lm9, aak]; omega), fun v hv => ?_, fun hv => ?_⟩
   ·rw [iz] at hv
    have hm : ns[i] ∈ ac.map (·.1) := by
     by_cases z : ns[i] ∈ ac.map (·.1)
     ·exact z
     ·rw [fP.mpr z] at hv; cases hv
    refine ⟨?_, _, rfl⟩
    rw [e1]
    unfold gO
    rw [if_pos hg, if_pos hm]
   ·rw [iz] at hv
    have hm : ns[i] ∉ ac.map (·.1) := fP.mp (by cases e : jN ac ns[i] with | none => rfl | some v => rw [e] at hv; cases hv)
    refine ⟨?_, _, rfl⟩
    rw [e1, A4, E7 hm]
    unfold gO
    rw [if_pos hg, if_neg hm]
  ·have hg' : great ns[i] = false := by simpa using hg
   rw [hg']
   refine b5 ⟨?_, _, rfl⟩
   rw [e1]
   unfold gO
   rw [if_neg hg]
 ·rintro σ H' ⟨rfl, o, rfl⟩
  rw [Lm9, aau]
  exact q
theorem AD : aB ["stand", "fact"] ["stand", "fact"] (ar oE) := ⟨rfl, rfl, rfl, by decide +kernel, rfl, by decide +kernel, by decide +kernel⟩
theorem AE (F : b6 K "written" "written" oE f fd) (cq : mg "tuple" = none) : bD P w K mg base jP 1 f fd ["stand", "fact"] (mx K) := by
 refine F.ok AD (fun vs H Q E h => ?_) (fun c0 A outer s H vs Q E hr h => ?_)
 ·obtain ⟨d, v, st, g, rfl, _⟩ := h
  rfl
 obtain ⟨d, v, st, g, rfl, hd, ⟨t, t2, rfl, h1, h2⟩, hlen, q⟩ := h
 have hu := Bd hr
 refine ⟨_, (ak (ay (cY (aa (au av (pv 1) ai (fun _ _ => rfl)) (aa (aR bJ rfl cq PyProof.Rows.Boot.«tuple» (aa (bo [0] rfl (by kernel_rfl) (fE (au av (pv 1) ai (fun _ _ => rfl))) (fun _ _ _ _ _ => bz) (fun _ _ _ _ _ => (qv hu (pv 1) (pv 0) (pv 0) ⟨rfl, rfl, rfl, rfl⟩))) ag)) ag))))), ?_⟩
 refine ⟨_, rfl, t, _, 0, _, rfl, rfl, h1, rfl, ?_⟩
 refine ⟨_, rfl, t, _, 1, _, rfl, rfl, h1, rfl, ?_⟩
 refine ⟨t2, rfl, ⟨_, h2⟩, fun D hD => ?_⟩
 refine j6 (K := K) (xs := g.as.map tx) (gs := (g.as.map (aT st)).map tx) (by simp) (n0 (by rw [Lm9]; omega)) hD h2 (fun i x y H' R hxi Fi sm hQ => ?_) (fun H1 s1 hL => ?_)
 ·obtain ⟨hi, ex⟩ := ax hxi
  have hi' : i < g.as.length := by simpa using hi
  have ex : tx g.as[i] = x := by rw [← ex, Z3]
  subst ex
  obtain ⟨hj, ey⟩ := ax Fi
  have ey : tx (aT st g.as[i]) = y := by rw [← ey, Z3, Z3]
  subst ey
  have DA := sm _ _ hd
  refine ⟨_, rfl, d, rfl, .inl ⟨_, .inl DA⟩, _, rfl, _, rfl, _, mf.k (k := (abi (S g.as[i]) : Key)) DA, ?_⟩
  have e : (eL (st.map bE) (abi (S g.as[i]) : Key)).getD (tx g.as[i]) = tx (aT st g.as[i]) := by
   rw [iz]
   unfold aT
   cases jN st g.as[i] <;> rfl
  rw [e]
  exact hQ _ (af.refl _)
 ·refine ⟨D, _, rfl, .inl ⟨aC.of hL, fun p hp => ?_⟩⟩
  refine ⟨(by show 2 ≤ Z2; decide), fun p2 qr => ?_⟩
  refine q _ _ (af.trans s1 (af.trans (aj hp _) (aj qr _))) ⟨p2, p, rfl, ae, ?_⟩
  rw [aE (bg ae qr)]
  exact ae
theorem C7 : aB ["first", "second"] ["first", "second"] (ar rG) := ⟨rfl, rfl, rfl, by decide +kernel, rfl, by decide +kernel, by decide +kernel⟩
theorem C8 (F : b6 K "chosen" "chosen" rG f fd) (aX : cA P w K mg base "is_great" 1 ["name"] lF) (Fj : mg "min" = none) : bD P w K mg base jP 2 f fd ["first", "second"] rA := by
 refine F.ok C7 (fun vs H Q E h => ?_) (fun c0 A outer s H vs Q E hr h => ?_)
 ·obtain ⟨p, r, rfl, _⟩ := h
  rfl
 obtain ⟨p, r, rfl, hp, hr', q⟩ := h
 refine ⟨_, (ah (aU (dq (bj (aq aX (hr.mono (by decide)) rfl (aa (pv 0) ag))))
 (ak (ay (pv 0)))
 aA)
 (ah (aU (dq (bj (aq aX (hr.mono (by decide)) rfl (aa (pv 1) ag))))
 (ak (ay (pv 1)))
 aA)
 (ak (ay (aG (Ao rfl) rfl Fj aeI (aa (pv 0) (aa (pv 1) ag))))))), ?_⟩
 unfold Un.gw at q
 refine ⟨_, rfl, p, rfl, hp.1, (by have := hp.2.1; omega), _, rfl, ?_⟩
 cases hg : great p with
 | false =>
  rw [hg, if_pos rfl] at q
  exact dc ⟨_, rfl, q⟩
 | true =>
  rw [hg, if_neg (by decide)] at q
  refine b5 ⟨_, rfl, r, rfl, hr'.1, (by have := hr'.2.1; omega), _, rfl, ?_⟩
  cases GV : great r with
  | false =>
   rw [GV, if_pos rfl] at q
   exact dc ⟨_, rfl, q⟩
  | true =>
   rw [GV, if_neg (by decide)] at q
   refine b5 ⟨_, rfl, _, rfl, S p, S r, rfl, ?_⟩
   unfold Un.mn lK at q
   by_cases e : bR (.str (S r)) (.str (S p)) = true
   ·rw [if_pos e] at q ⊢
    exact q
   ·rw [if_neg e] at q ⊢
    exact q
theorem dN : aB ["stand", "one", "other", "first", "second", "chief", "name"] ["stand", "one", "other"] (ar kr) := ⟨rfl, rfl, rfl, by decide +kernel, rfl, by decide +kernel, by decide +kernel⟩
theorem vP (F : b6 K "tell_same" "tell_same" kr f fd) (aX : cA P w K mg base "is_great" 1 ["name"] lF) (rK : cA P w K mg base "chosen" 2 ["first", "second"] rA) (gU : mg "list" = none) : bD P w K mg base jP 3 f fd ["stand", "one", "other"] vJ := by
 refine F.ok dN (fun vs H Q E h => ?_) (fun c0 A outer s H vs Q E hr h => ?_)
 ·obtain ⟨d, st, a, b, rfl, _⟩ := h
  rfl
 obtain ⟨d, st, a, b, rfl, hd, hok, zw, ha, hb, hlen, qf, qt⟩ := h
 have hu := Bd hr
 refine ⟨_, (ah (aw (i := 3) dN.nd rfl (aax rfl) (qv hu (pv 0) (pv 1) (pv 1) ⟨rfl, rfl, rfl, rfl⟩))
 (ah (aw (i := 4) dN.nd rfl (aax rfl) (qv hu (pv 0) (pv 2) (pv 2) ⟨rfl, rfl, rfl, rfl⟩))
 (ah (aU (aD ie (pv 3) (pv 4) (bu _))
 (ak (ay bC))
 aA)
 (ah (aU (PW.pt (u4 (dq (bj (aq aX (hr.mono (by decide)) rfl (aa (pv 3) ag)))) (pR (dq (bj (aq aX (hr.mono (by decide)) rfl (aa (pv 4) ag)))))))
 (ak (ay bC))
 aA)
 (ah (aw (i := 5) dN.nd rfl (aax rfl) (aq rK (hr.mono (by decide)) rfl (aa (pv 3) (aa (pv 4) ag))))
 (ah (cb aa5 rfl (aH (aR (qA rfl) rfl gU PyProof.Rows.Boot.«list» (aa (pv 0) ag))) (bx (i := 6) dN.nd rfl (aax rfl))
 (ak (aU (aD ft (Bh hu (pv 0) (pv 6) (fun _ _ => rfl)) (cY (aa (pv 3) (aa (pv 4) ag))) (by with_unfolding_all rfl))
 (ak (GP hu (pv 0) (pv 6) (pv 5) rfl))
 aA)))
 (ak (ay bC)))))))), ?_⟩
 have ev : ∀ n, (eL (st.map bE) (abi (S n) : Key)).getD (tx n) = tx (aT st n) := fun n => by
  rw [iz]
  unfold aT
  cases jN st n <;> rfl
 refine ⟨_, rfl, d, rfl, .inl ⟨_, .inl hd⟩, _, rfl, _, rfl, _, mf.k (k := (abi (S a) : Key)) hd, ?_⟩
 rw [ev]
 refine ⟨_, rfl, d, rfl, .inl ⟨_, .inl hd⟩, _, rfl, _, rfl, _, mf.k (k := (abi (S b) : Key)) hd, ?_⟩
 rw [ev]
 have hp := zw.aT ha
 have hq := zw.aT hb
 generalize aT st a = p at qf qt hp ⊢
 generalize aT st b = r at qf qt hq ⊢
 refine ⟨_, rfl, _, rfl, rfl, _, rfl, ?_⟩
 by_cases Dx : p = r
 ·rw [decide_eq_true (show tx p = tx r by rw [Dx])]
  refine dc (qt (fun z => z.1 Dx) H (fun _ _ _ h => h) ?_)
  unfold fQ
  rw [if_pos Dx]
  exact hd
 rw [decide_eq_false (fun z : tx p = tx r => Dx (eM (V.str.inj z)))]
 refine b5 ?_
 refine (fun (Sr : ¬ nI p r → _) => ⟨_, rfl, p, rfl, hp.1, (by have := hp.2.1; omega), _, rfl, me (fun c => ⟨_, rfl, r, rfl, hq.1, (by have := hq.2.1; omega), _, rfl, me (fun c2 => ?ret) (fun c2 => Sr ?n1)⟩) (fun c => Sr ?n2)⟩) ?Sr
 case ret => exact qf ⟨Dx, by simpa using c, by simpa using c2⟩
 case n1 => exact fun z => by rw [z.2.2] at c2; simp at c2
 case n2 => exact fun z => by rw [z.2.1] at c; simp at c
 intro ip
 have qt := qt ip
 unfold fQ at qt
 rw [if_neg Dx] at qt
 refine ⟨_, rfl, _, rfl, p, r, rfl, hp, hq, ?_⟩
 generalize Dq : Un.gw great lK p r = ch
 refine ⟨_, rfl, d, _, rfl, hd, fun l hl => ?_⟩
 have NK : (st.map bE).map (fun p => kV p.1) = (st.map (·.1)).map tx := by rw [aaJ, aaJ]; rfl
 rw [NK]
 have M5 : d ≠ l := fun e => by rw [← e, hd] at hl; cases hl
 have Eb := ae (H := H) (a := l) (o := .lst ((st.map (·.1)).map tx))
 have xQ : upd H l (.lst ((st.map (·.1)).map tx)) d = some (.dK (st.map bE)) := by rw [aE M5]; exact hd
 have s1 := aj hl (.lst ((st.map (·.1)).map tx))
 generalize upd H l (.lst ((st.map (·.1)).map tx)) = H1 at Eb xQ s1 ⊢
 refine ⟨l, rfl, ⟨_, aC.of Eb⟩, bK (K := K) (a := l) (xs := (st.map (·.1)).map tx) (fun i σ H' => H' l = some (.lst ((st.map (·.1)).map tx)) ∧ lX d H H' ∧ H' d = some (.dK (((st.take i).map (cw p r) ++ st.drop i).map bE)) ∧ ∃ o, σ = [some (.ref d), some (tx a), some (tx b), some (tx p), some (tx r), some (tx ch), o]) ⟨Eb, fun x o hx h => s1 _ _ h, by simpa using xQ, none, rfl⟩ (fun i σ H' _ ⟨h, _⟩ => aC.of h) ?_ ?_⟩
 ·rintro i y σ H' hi ⟨hL, sm, Gh, o, rfl⟩
  obtain ⟨iD, ey⟩ := ax hi
  have KA : i < st.length := by simpa using iD
  have ey : tx (st[i]).1 = y := by rw [← ey, Z3, Z3]
  subst ey
  have Ss : ((st.take i).map (cw p r) ++ st.drop i).length = st.length := by simp; omega
  have Hx : i < ((st.take i).map (cw p r) ++ st.drop i).length := by omega
  have kg : ((st.take i).map (cw p r) ++ st.drop i)[i] = st[i] := by
   have NL : ((st.take i).map (cw p r)).length = i := by simp; omega
   rw [acL (by omega)]
   simp only [NL, Nat.sub_self, List.getElem_drop, afx]
  have Ik : (((st.take i).map (cw p r) ++ st.drop i).map (·.1)) = st.map (·.1) := by
   rw [aaj, iY, ← aaj, abq]
  have hnd : (((st.take i).map (cw p r) ++ st.drop i).map (·.1)).Nodup := by rw [Ik]; exact hok.nd
  have hv := iz ((st.take i).map (cw p r) ++ st.drop i) (st[i]).1
  have Vb := kd hnd (ZT Hx)
  rw [kg] at Vb
  rw [Vb] at hv
  have NM : ∀ z, ((st.take i).map (cw p r) ++ st.drop i).set i z = (st.take i).map (cw p r) ++ z :: st.drop (i + 1) := fun z => by
   rw [List.set_append_right _ _ (by simp; omega)]
   congr 1
   rw [show i - ((st.take i).map (cw p r)).length = 0 by simp; omega, aaw KA]
   rfl
  have Vc : (st.take (i + 1)).map (cw p r) ++ st.drop (i + 1) = (st.take i).map (cw p r) ++ cw p r st[i] :: st.drop (i + 1) := by
   rw [Z4 KA, aaj, abS]
   rfl
  generalize hst : (st.take i).map (cw p r) ++ st.drop i = cur at Gh Ss Hx kg Ik hnd hv NM
  refine ⟨_, rfl, _, rfl, d, tx (st[i]).2, rfl, (by have z := mf.k (k := (abi (S (st[i]).1) : Key)) Gh; rw [hv] at z; exact z), ?_⟩
  refine ⟨_, rfl, _, rfl, (by show 2 ≤ Z2; decide), fun tt BU => ?_⟩
  have s2 := aj BU (.tup [tx p, tx r])
  have NN := ae (H := H') (a := tt) (o := .tup [tx p, tx r])
  have Ds : d ≠ tt := fun e => by rw [← e, Gh] at BU; cases BU
  have hd2 := s2 _ _ Gh
  have NO := s2 _ _ hL
  have Bg : lX d H (upd H' tt (.tup [tx p, tx r])) := fun x o hx h => s2 _ _ (sm x o hx h)
  generalize upd H' tt (.tup [tx p, tx r]) = H2 at s2 NN hd2 NO Bg ⊢
  refine ⟨tt, [p, r].map tx, rfl, .inr (aK.of NN), rfl, de _, _, rfl, ?_⟩
  rw [dF]
  by_cases hm : (st[i]).2 = p ∨ (st[i]).2 = r
  ·rw [decide_eq_true (show (st[i]).2 ∈ [p, r] by simpa using hm)]
   refine dc ⟨_, rfl, _, rfl, _, rfl, d, _, rfl, D7.k (k := (abi (S (st[i]).1) : Key)) hd2 (by rw [Lm9, aak]; omega), ?_⟩
   have Nh : l ≠ d := fun e => by rw [e, hd2] at NO; cases NO
   refine ⟨by rw [aE Nh]; exact NO, fun x o hx h => by rw [aE hx]; exact Bg x o hx h, ?_, _, rfl⟩
   rw [ae, Vc]
   have e := Km hnd Hx ch
   rw [kg] at e
   rw [e, NM]
   unfold cw
   rw [if_pos hm, Dq]
  ·rw [decide_eq_false (show ¬ (st[i]).2 ∈ [p, r] by simpa using hm)]
   refine b5 ⟨NO, Bg, ?_, _, rfl⟩
   rw [Vc, hd2]
   have e : cur = (st.take i).map (cw p r) ++ cw p r st[i] :: st.drop (i + 1) := by
    rw [← hst, aaw KA]
    congr 2
    unfold cw
    rw [if_neg hm]
   rw [e]
 ·rintro σ H' ⟨hL, sm, Gh, o, rfl⟩
  rw [Lm9, Lm9, aau, acO, abt] at Gh
  exact qt H' sm Gh
end
end iB
namespace iB
open PySem L2 cI Bk
set_option maxHeartbeats 4000000
section
variable {P : aao} {w : aaO} {K : ZQ} {mg : Str → Option ZS} {base : Heap} {f : aac} {fd : aa0} {C1 C2 : aac}
theorem vQ : aB ["passing", "taken", "wanted", "fact", "left"] ["passing", "taken"] (ar kq) := ⟨rfl, rfl, rfl, by decide +kernel, rfl, by decide +kernel, by decide +kernel⟩
theorem vR (F : b6 K "taken_out" "taken_out" kq f fd) (gU : mg "list" = none) (bV : mg "len" = none) : bD P w K mg base jP 1 f fd ["passing", "taken"] (rB K) := by
 refine F.ok vQ (fun vs H Q E h => ?_) (fun c0 A outer s H vs Q E hr h => ?_)
 ·obtain ⟨t, l, xs, rfl, _⟩ := h
  rfl
 obtain ⟨t, l, xs, rfl, ht, hl, q⟩ := h
 refine ⟨_, (ah (aU (aD ie (aG aM rfl bV aaW (aa (pv 1) ag)) ai (bu _))
 (ak (ay (aR dD rfl gU PyProof.Rows.Boot.«list» (aa (pv 0) ag))))
 aA)
 ua), ?_⟩
 refine ⟨_, rfl, l, _, rfl, .inl (aC.of hl), rfl, _, rfl, dc ?_⟩
 exact ⟨_, rfl, t, _, rfl, .inr ht, q⟩
theorem cy : aB ["kinds", "pool", "taken", "put", "told", "lasts", "stand", "left", "fact", "pair", "lasting", "new", "passing"] ["kinds", "pool", "taken", "put", "told"] (ar vN) := ⟨rfl, rfl, rfl, by decide +kernel, rfl, by decide +kernel, by decide +kernel⟩
theorem Fl {u1 : ZS} {b1 : aac} (F : b6 K "moved" "moved" vN f fd) (eI : qR P w K mg base "check_facts" 1 ["kinds", "facts"] (qT K C1 C2)) (gW : cA P w K mg base "check_taken" 1 ["lasts", "taken"] (qB K)) (kH : cA P w K mg base "taken_out" 1 ["passing", "taken"] (rB K)) (vS : cA P w K mg base "know" 2 ["stand", "names"] (vI K)) (fC : cA P w K mg base "written" 1 ["stand", "fact"] (mx K)) (kI : cA P w K mg base "tell_same" 3 ["stand", "one", "other"] vJ)
  (yx : mg "BROKEN" = some u1) (yy : RelV (.ref b1) u1) (AB : mg "dict" = none) (gU : mg "list" = none) (bV : mg "len" = none) (cq : mg "tuple" = none) (fW : mg "sorted" = none) (Fm : mg "set" = none) :
  bD P w K mg base (zm P w) 4 f fd ["kinds", "pool", "taken", "put", "told"] (iA K b1) := by
 refine F.Mz cy (fun vs H Q E h => ?_) (fun c0 A outer s H vs Q E hr h => ?_)
 ·obtain ⟨lk, lf, lt, lo, Nz, ks, fs, prs, br, bp, bl, st, rfl, _⟩ := h
  rfl
 obtain ⟨lk, lf, lt, lo, Nz, ks, fs, prs, br, bp, bl, st, rfl, Dz, fF, ⟨gA, hlo, Vd⟩, NP, ⟨pD, Xu, hsz2⟩, KC, EU, Su, NQ, Il, qb, q⟩ := h
 have hu := Bd hr
 refine ⟨_, (ah (cF (fO eI (hr.mono (by decide)) rfl (aa (pv 0) (aa (pv 2) ag))))
 (ah (cF (fO eI (hr.mono (by decide)) rfl (aa (pv 0) (aa (pv 3) ag))))
 (ah (aw (i := 5) cy.nd rfl (ac2 rfl) (bo [] rfl (by kernel_rfl) (aH (pv 0)) (fun _ _ _ _ _ => (dE (bj (au (r := iJ K) av (pv 0) ai (fun _ _ => rfl))))) (fun _ _ _ _ _ => (au (r := iJ K) av (pv 0) ai (fun _ _ => rfl)))))
 (ah (cF (aq gW (hr.mono (by decide)) rfl (aa (pv 5) (aa (pv 2) ag))))
 (ah (aU (bj (au av (pv 1) ai (fun _ _ => rfl)))
 (ak (ay (pQ rfl yx yy)))
 aA)
 (ah (aw (i := 6) cy.nd rfl (ac2 rfl) (aR (sV rfl) rfl AB PyProof.Rows.Boot.«dict» (aa (au av (pv 1) ai (fun _ _ => rfl)) ag)))
 (ah (aw (i := 7) cy.nd rfl (aax rfl) (aq kH (hr.mono (by decide)) rfl (aa (au av (pv 1) ai (fun _ _ => rfl)) (aa (bo [6] rfl (by kernel_rfl) (aH (pv 2)) (fun _ _ _ _ _ => bz) (fun _ _ _ _ _ => (aq fC (hr.mono (by decide)) rfl (aa (pv 1) (aa (pv 0) ag))))) ag))))
 (ah (cb jW rfl (aH (pv 3)) (bx (i := 8) cy.nd rfl (aax rfl))
 (ak (cF (aq vS (hr.mono (by decide)) rfl (aa (pv 6) (aa (au av (pv 8) ai (fun _ _ => rfl)) ag))))))
 (ah (cb jW rfl (aH (pv 4)) (bx (i := 9) cy.nd rfl (aax rfl))
 (ah (cF (aq vS (hr.mono (by decide)) rfl (aa (pv 6) (aa (pv 9) ag))))
 (ak (aU (dq (bj (aq kI (hr.mono (by decide)) rfl (aa (pv 6) (aa (au av (pv 9) ai (fun _ _ => rfl)) (aa (au av (pv 9) ai (fun _ _ => rfl)) ag))))))
 (ak (ay (pQ rfl yx yy)))
 aA))))
 (ah (aw (i := 10) cy.nd rfl (aax rfl) (aR dD rfl gU PyProof.Rows.Boot.«list» (aa (au av (pv 1) ai (fun _ _ => rfl)) ag)))
 (ah (aU (aD DN (aG aM rfl bV aaW (aa (pv 4) ag)) ai (bu _))
 (ah (eG (i := 7) [6] cy.nd rfl (aax rfl) rfl (by kernel_rfl) (aH (pv 7)) (fun _ _ _ _ _ => bz) (fun _ _ _ _ _ => (aq fC (hr.mono (by decide)) rfl (aa (pv 1) (aa (pv 0) ag)))))
 (ak (eG (i := 10) [6] cy.nd rfl (aax rfl) rfl (by kernel_rfl) (aH (pv 10)) (fun _ _ _ _ _ => bz) (fun _ _ _ _ _ => (aq fC (hr.mono (by decide)) rfl (aa (pv 1) (aa (pv 0) ag)))))))
 aA)
 (ah (eG (i := 11) [6] cy.nd rfl (aax rfl) rfl (by kernel_rfl) (aH (pv 3)) (fun _ _ _ _ _ => bz) (fun _ _ _ _ _ => (aq fC (hr.mono (by decide)) rfl (aa (pv 1) (aa (pv 0) ag)))))
 (ah (aw (i := 12) cy.nd rfl (aax rfl) (az oo (pv 7) (bo [5] rfl (by kernel_rfl) (aH (pv 11)) (fun _ _ _ _ _ => (dE (aD (r := Mn K true) fh (au (r := iJ K) av (pv 0) ai (fun _ _ => rfl)) (pv 1) (by with_unfolding_all rfl)))) (fun _ _ _ _ _ => (pv 0)))))
 (ah (aw (i := 10) cy.nd rfl (aax rfl) (az oo (pv 10) (bo [5] rfl (by kernel_rfl) (aH (pv 11)) (fun _ _ _ _ _ => (dE (aD (r := Mn K false) ft (au (r := iJ K) av (pv 0) ai (fun _ _ => rfl)) (pv 1) (by with_unfolding_all rfl)))) (fun _ _ _ _ _ => (pv 0)))))
 (ak (ay (cY (aa (aR bJ rfl cq PyProof.Rows.Boot.«tuple» (aa (aG (fi hr.units) rfl fW abr (aa (pv 12) ag)) ag)) (aa (aR bJ rfl cq PyProof.Rows.Boot.«tuple» (aa (aG (vB (ld := !w.params.followText "set-order") hr.units rfl rfl) rfl fW abr (aa (aR (CJ (ld := !w.params.followText "set-order") hr.R6 rfl rfl) rfl Fm PyProof.Rows.Boot.«set» (aa (pv 10) ag)) ag)) ag)) (aa (aR rh rfl cq PyProof.Rows.Boot.«tuple» (aa (aG (vt hr.units rfl) rfl fW abr (aa (om ac3 aec PySem.F.type_dict_items Em (pv 6)) ag)) ag)) (aa bC ag))))))))))))))))))))), ?_⟩
 refine ⟨_, rfl, _, rfl, lk, lt, ks, [], rfl, ⟨Dz.hk, Dz.nd, Dz.few, ⟨[], fF, .nil⟩, fun f hf => nomatch hf⟩, qS.zero, fun _ H1 s1 => ?_⟩
 refine ⟨_, rfl, _, rfl, lk, lf, ks, fs, rfl, Dz.keep s1, (by rw [EU]; exact qS.zero), fun _ H2 s2 => ?_⟩
 have sA := af.trans s1 s2
 have Sv := Dz.keep sA
 obtain ⟨⟨kvs, hk, pk⟩, nd, Zy, ⟨mP, hf, pf⟩, xx⟩ := Sv
 have zk := aad pk
 have zf := aad pf
 have zp := aad Vd
 refine ⟨_, rfl, lk, rfl, ⟨_, aC.of hk⟩, fun D hD => ?_⟩
 refine ij (K := K) (xs := kvs) ks (·.l) (·.n) (fun _ _ b y => y = tx b) (fun _ _ _ _ _ _ h => h) (fun _ _ _ _ _ _ h => h) (n0 (by omega)) hD (aC.of hk) zk (fun i x b H' R hx hb sm hQ => ?_) (fun i x b H' R hx hb hk sm hQ => ?_) (fun H3 ys s3 hL po => ?_)
 ·obtain ⟨hi, ex⟩ := ax hx
  obtain ⟨fb, eb⟩ := ax hb
  obtain ⟨t, et, ht⟩ := paired_at pk i fb hi
  rw [ex] at et
  rw [eb] at ht
  subst et
  exact ⟨_, rfl, t, _, 2, _, rfl, rfl, ht.same sm, rfl, _, rfl, hQ _ (af.refl _)⟩
 ·obtain ⟨hi, ex⟩ := ax hx
  obtain ⟨fb, eb⟩ := ax hb
  obtain ⟨t, et, ht⟩ := paired_at pk i fb hi
  rw [ex] at et
  rw [eb] at ht
  subst et
  exact ⟨_, rfl, t, _, 0, _, rfl, rfl, ht.same sm, rfl, hQ _ _ (af.refl _) rfl⟩
 rw [uu po] at hL
 have hL : H3 D = some (.lst ((eQ ks).map tx)) := hL
 have sB := af.trans sA s3
 refine ⟨_, rfl, _, rfl, D, lt, [], eQ ks, [], rfl, hL, sB _ _ fF, .nil, (fun f hf => nomatch hf), ?_⟩
 rcases NP with ⟨Sw, p, z0, z1, z2, rfl, hp⟩ | ⟨Sw, p, t0, t1, t2, y0, y1, rfl, Im, NS, Ve, NT, Vf, NU, Sx, NV⟩
 ·refine ⟨_, rfl, p, _, 3, _, rfl, rfl, hp.same sB, rfl, _, rfl, dc ?_⟩
  exact qb Sw _ sB
 have q := q Sw
 have Xv := aad Ve
 have Xw := aad Vf
 refine ⟨_, rfl, p, _, 3, _, rfl, rfl, Im.same sB, rfl, _, rfl, b5 ?_⟩
 refine ⟨_, rfl, p, _, 2, _, rfl, rfl, Im.same sB, rfl, t2, st, rfl, NU.nd, CY.sm sB NV, KC, fun d hd => ?_⟩
 have Vg : H d = none := sB.free hd
 have s4 : af H3 (upd H3 d (.dK (st.map bE))) := aj hd _
 have DA := ae (H := H3) (a := d) (o := .dK (st.map bE))
 generalize upd H3 d (.dK (st.map bE)) = H4 at s4 DA ⊢
 have Sy := af.trans sB s4
 refine ⟨_, rfl, p, _, 0, _, rfl, rfl, Im.same Sy, rfl, ?_⟩
 have NW : H4 lt = some (.lst []) := Sy _ _ fF
 refine ⟨_, rfl, lt, rfl, ⟨_, aC.of NW⟩, fun D2 lQ => ?_⟩
 refine pV (K := K) (xs := []) (by decide) lQ (aC.of NW) (fun _ => true) id (fun x _ _ hx => nomatch hx) (fun x _ _ hx => nomatch hx) (fun H5 s5 AF => ?_)
 have AF : H5 D2 = some (.lst []) := AF
 have sC := af.trans Sy s5
 refine ⟨t0, D2, y0, rfl, NS.same sC, AF, fun l0 Sz => ?_⟩
 have s6 : af H5 (upd H5 l0 (.lst y0)) := aj Sz _
 have KD := ae (H := H5) (a := l0) (o := .lst y0)
 generalize upd H5 l0 (.lst y0) = H6 at s6 KD ⊢
 have KG := s6 _ _ (s5 _ _ DA)
 have sD := af.trans sC s6
 have LM := s6 _ _ (s5 _ _ (s4 _ _ hL))
 have NY : H6 lf = some (.lst mP) := s6 _ _ (s5 _ _ (s4 _ _ (s3 _ _ hf)))
 have Vh : Paired (Fact K H6) fs mP := ao pf fun _ _ _ => Fact.sm (af.trans s3 (af.trans s4 (af.trans s5 s6)))
 have Xx := sD _ _ hlo
 have vO : ∀ g ∈ fs, ∀ n ∈ g.as, pJ n := fun g hg => (xx g hg).as
 refine ⟨_, rfl, lf, rfl, ⟨_, aC.of NY⟩, bK (K := K) (a := lf) (xs := mP) (fun i σ H' => H' = upd H6 d (.dK ((dC st ((fs.take i).flatMap (·.as))).map bE)) ∧ ∃ o, σ = [some (.ref lk), some (.ref p), some (.ref lt), some (.ref lf), some (.ref lo), some (.ref D), some (.ref d), some (.ref l0), o, none, none, none, none]) ⟨(EM KG).symm, none, rfl⟩ (fun i σ H' _ ⟨e, _⟩ => by rw [e]; refine aC.of ?_; rw [aE (qX KG NY)]; exact NY) ?_ ?_⟩
 ·rintro i y σ H' hi ⟨rfl, o, rfl⟩
  obtain ⟨iD, ey⟩ := ax hi
  have xj : i < fs.length := by omega
  have hFa := x5 (o := .dK ((dC st ((fs.take i).flatMap (·.as))).map bE)) KG (paired_at Vh i xj iD)
  rw [ey] at hFa
  obtain ⟨Xy, Xz, et, h1, h2⟩ := hFa
  subst et
  have hF := xx _ (ZT xj)
  have Bf := nJ ((fs.take i).flatMap (·.as)) st
  have GH := j5 (fs := fs.take i) fun g hg => xx g (aa3 hg)
  rw [aah] at GH
  have Qd := hF.n
  refine ⟨_, rfl, _, rfl, Xy, _, 1, _, rfl, rfl, h1, rfl, d, Xz, dC st ((fs.take i).flatMap (·.as)), fs[i].as, rfl, ae, h2, hF.as, (by omega), ?_⟩
  refine ⟨?_, _, rfl⟩
  rw [A4, uH xj]
  unfold dC
  rw [abh]
 rintro σ H' ⟨rfl, o, rfl⟩
 rw [← zf, aau]
 have Bf := nJ (fs.flatMap (·.as)) st
 have GH := j5 (fs := fs) xx
 obtain ⟨Eo, _, _, _⟩ := cU.kn (fs.flatMap (·.as)) NU
 have Io := Sx.kn (fs.flatMap (·.as)) fun n hn => by
  obtain ⟨g, hg, hx⟩ := abx.mp hn
  exact vO g hg n hx
 generalize NZ : dC st (fs.flatMap (·.as)) = C5 at Bf Eo Io Il q ⊢
 have KH := ae (H := H6) (a := d) (o := .dK (C5.map bE))
 have Vi : Paired (Fact K (upd H6 d (.dK (C5.map bE)))) fs mP := ao Vh fun _ _ _ => x5 KG
 have SA : upd H6 d (.dK (C5.map bE)) lf = some (.lst mP) := by rw [aE (qX KG NY)]; exact NY
 have KI : upd H6 d (.dK (C5.map bE)) l0 = some (.lst y0) := by rw [aE (qX KG KD)]; exact KD
 have N1 : upd H6 d (.dK (C5.map bE)) D = some (.lst ((eQ ks).map tx)) := by rw [aE (qX KG LM)]; exact LM
 have sF : af H (upd H6 d (.dK (C5.map bE))) := af.a8 sD Vg _
 generalize upd H6 d (.dK (C5.map bE)) = H7 at KH Vi SA KI N1 sF ⊢
 have SD : ∀ {H' : Hp}, lX d H7 H' → af H H' := fun {H'} sm x o h => sm x o (fun e => by rw [e, Vg] at h; cases h) (sF _ _ h)
 have SE := sF _ _ hlo
 have SF : Paired (Pair K H7) prs gA := ao Vd fun _ _ _ ⟨t, e, z⟩ => ⟨t, e, z.same sF⟩
 refine ⟨_, rfl, lo, rfl, ⟨_, aC.of SE⟩, bK (K := K) (a := lo) (xs := gA) (fun i σ H' => ∃ (BW : b0) (o o9 : Option V), lX d H7 H' ∧ H' d = some (.dK (BW.map bE)) ∧ cU BW ∧ zv BW ∧ BW.length ≤ 7000 + 2 * i ∧ cH C5 prs = cH BW (prs.drop i) ∧ σ = [some (.ref lk), some (.ref p), some (.ref lt), some (.ref lf), some (.ref lo), some (.ref D), some (.ref d), some (.ref l0), o, o9, none, none, none])
  ⟨C5, o, none, fun _ _ _ h => h, KH, Eo, Io, by omega, rfl, rfl⟩ (fun i σ H' _ ⟨_, _, _, sm, _⟩ => aC.of ((SD sm) _ _ hlo)) ?_ ?_⟩
 ·rintro i y σ H' hi ⟨BW, o, o9, sm, Gh, SG, XA, Xa, zx, rfl⟩
  obtain ⟨Jr, ey⟩ := ax hi
  have DB : i < prs.length := by omega
  obtain ⟨t, et, ht⟩ := paired_at SF i DB Jr
  rw [ey] at et
  subst et
  have KJ : aK K H' t ([(prs[i]).1, (prs[i]).2].map tx) := sm.Xq KH ht
  obtain ⟨Gf, G3⟩ := Su _ (ZT DB)
  have IH : ∀ n ∈ [(prs[i]).1, (prs[i]).2], pJ n := fun n hn => by
   rcases aai.mp hn with e | e
   ·rw [e]; exact Gf
   ·rw [ZX.mp e]; exact G3
  refine ⟨_, rfl, _, rfl, d, t, BW, [(prs[i]).1, (prs[i]).2], rfl, Gh, KJ, IH, (by simp; omega), ?_⟩
  have hdr : prs.drop i = prs[i] :: prs.drop (i + 1) := aaw DB
  rw [hdr] at zx
  generalize prs[i] = pr at zx Gf G3 IH KJ ⊢
  obtain ⟨a, b⟩ := pr
  dsimp only at zx Gf G3 IH KJ ⊢
  obtain ⟨Hy, _, hkn, _⟩ := cU.kn [a, b] SG
  have N2 := XA.kn [a, b] IH
  have Fn := nJ [a, b] BW
  have zx : cH C5 prs = if nI (aT (dC BW [a, b]) a) (aT (dC BW [a, b]) b) then none else cH (fQ (dC BW [a, b]) (aT (dC BW [a, b]) a) (aT (dC BW [a, b]) b)) (prs.drop (i + 1)) := zx
  generalize dC BW [a, b] = A5 at zx Hy hkn N2 Fn ⊢
  have Hz := ae (H := H') (a := d) (o := .dK (A5.map bE))
  have SH : lX d H7 (upd H' d (.dK (A5.map bE))) := fun x o hx h => by rw [aE hx]; exact sm x o hx h
  have KL : aK K (upd H' d (.dK (A5.map bE))) t ([a, b].map tx) := pZ Gh KJ
  generalize upd H' d (.dK (A5.map bE)) = H8 at Hz SH KL ⊢
  refine ⟨_, rfl, _, rfl, t, _, 0, _, rfl, rfl, KL, rfl, ?_⟩
  refine ⟨_, rfl, t, _, 1, _, rfl, rfl, KL, rfl, ?_⟩
  have hp := N2.aT Gf
  have hq := N2.aT G3
  have Vj : ∀ {c : Cs}, c ∈ [a, b] → great (aT A5 c) = true → aT A5 c ∈ A5.map (·.1) := fun {c} hc hg => oB Hy (hkn c hc) hg
  simp only [aal, aaQ] at Fn
  refine ⟨d, A5, a, b, rfl, Hz, Hy, N2, Gf, G3, (by omega), fun yz => ⟨_, rfl, dc ?_⟩, fun ip H9 XC N3 => ⟨_, rfl, b5 ?_⟩⟩
  ·rw [if_pos yz] at zx
   exact q.1 zx _ (SD SH)
  ·rw [if_neg ip] at zx
   obtain ⟨SJ, XD⟩ := Hy.tell (Vj (Z5 ..)) (Vj (Z9 _ (Z5 ..)))
   refine ⟨_, _, _, fun x o hx h => XC x o hx (SH x o hx h), N3, SJ, N2.tell hp hq, ?_, zx, rfl⟩
   have z := congrArg abl XD
   rw [Lm9, Lm9] at z
   omega
 rintro σ H8 ⟨bQ, o, o9, sm, Hz, XE, G3, qg, zx, rfl⟩
 rw [aby (by omega)] at zx
 have zx : cH C5 prs = some bQ := zx
 have Bt := Il bQ zx
 have q := q.2 bQ zx
 have sS := SD sm
 have N4 := sm _ _ (qX KH SA) SA
 have Fo := sm _ _ (qX KH KI) KI
 have hL8 := sm _ _ (qX KH N1) N1
 have Qe : Paired (Fact K H8) fs mP := ao Vi fun _ _ _ => sm.fact KH
 have N5 := sS _ _ hlo
 refine ⟨_, rfl, p, _, 1, _, rfl, rfl, Im.same sS, rfl, t1, _, rfl, .inr (NT.same sS), fun l1 qx => ?_⟩
 have s9 : af H8 (upd H8 l1 (.lst y1)) := aj qx _
 have Fp := ae (H := H8) (a := l1) (o := .lst y1)
 generalize upd H8 l1 (.lst y1) = H9 at s9 Fp ⊢
 have SK := af.trans sS s9
 have KN : Paired (Fact K H9) bp y0 := ao Ve fun _ _ _ => Fact.sm SK
 have KO : Paired (Fact K H9) bl y1 := ao Vf fun _ _ _ => Fact.sm SK
 have N3 := s9 _ _ Hz
 have HC := s9 _ _ Fo
 have N6 := s9 _ _ N5
 have XF : ∀ g ∈ bp, g.as.length ≤ 1000 := fun g hg => NQ g (ZY.mpr (.inl hg))
 have XG : ∀ g ∈ bl, g.as.length ≤ 1000 := fun g hg => NQ g (ZY.mpr (.inr hg))
 refine nC ?_
 dsimp only
 refine lI (Good := fun σ' H' => af H9 H' ∧ ∃ (lL lS : aac) (yl yS : List V), H' lL = some (.lst yl) ∧ Paired (Fact K H') (lw prs bQ bp) yl ∧ H' lS = some (.lst yS) ∧ Paired (Fact K H') (lw prs bQ bl) yS ∧ σ' = [some (.ref lk), some (.ref p), some (.ref lt), some (.ref lf), some (.ref lo), some (.ref D), some (.ref d), some (.ref lL), o, o9, some (.ref lS), none, none]) (fun fin => ?_) (fun σ' H' hg => ?_)
 ·refine ⟨_, rfl, lo, _, rfl, .inl (aC.of N6), _, _, rfl, rfl, _, rfl, me (fun sW => ?_) (fun sW => ?_)⟩
  ·have hne : prs ≠ [] := fun e => by
    rw [e] at zp
    have zp : gA.length = 0 := zp.symm
    rw [zp] at sW
    simp at sW
   refine ⟨_, rfl, l0, rfl, ⟨_, aC.of HC⟩, fun E1 Sq => ?_⟩
   refine fK (K := K) (xs := y0) bp (fun _ H f y => Fact K H (wr bQ f) y) (fun _ _ _ _ _ k h => Fact.keep k h) (fun _ _ _ _ _ _ h => h) (n0 (by omega)) Sq (aC.of HC) Xv (fun i x b H' R hx hb sx hQ => ?_) (fun HA yA N7 XH pA => ?_)
   ·obtain ⟨hi, ex⟩ := ax hx
    obtain ⟨fb, eb⟩ := ax hb
    have hFa := Fact.sm sx (paired_at KN i fb hi)
    rw [ex, eb] at hFa
    exact ⟨_, rfl, _, rfl, d, x, bQ, b, rfl, sx _ _ N3, hFa, (by rw [← eb]; exact XF _ (ZT fb)), fun v' jG s'' hF => hQ _ _ s'' hF.fact⟩
   refine ⟨_, rfl, l1, rfl, ⟨_, aC.of (N7 _ _ Fp)⟩, fun E2 M7 => ?_⟩
   refine fK (K := K) (xs := y1) bl (fun _ H f y => Fact K H (wr bQ f) y) (fun _ _ _ _ _ k h => Fact.keep k h) (fun _ _ _ _ _ _ h => h) (n0 (by omega)) M7 (aC.of (N7 _ _ Fp)) Xw (fun i x b H' R hx hb sx hQ => ?_) (fun HB yB SM XI pB => ?_)
   ·obtain ⟨hi, ex⟩ := ax hx
    obtain ⟨fb, eb⟩ := ax hb
    have hFa := Fact.sm sx (Fact.sm N7 (paired_at KO i fb hi))
    rw [ex, eb] at hFa
    exact ⟨_, rfl, _, rfl, d, x, bQ, b, rfl, sx _ _ (N7 _ _ N3), hFa, (by rw [← eb]; exact XG _ (ZT fb)), fun v' jG s'' hF => hQ _ _ s'' hF.fact⟩
   refine fin _ _ ⟨af.trans N7 SM, E1, E2, yA, yB, SM _ _ XH, ?_, XI, ?_, rfl⟩
   ·unfold lw
    rw [if_neg hne]
    exact ao (lM pA) fun _ _ _ => Fact.sm SM
   ·unfold lw
    rw [if_neg hne]
    exact lM pB
  ·have he : prs = [] := abM (by
    have z : ¬ (0 < ((gA.length : Nat) : Int)) := by simpa using sW
    omega)
   refine fin _ _ ⟨af.refl _, l0, l1, y0, y1, HC, ?_, Fp, ?_, rfl⟩
   ·unfold lw
    rw [if_pos he]
    exact KN
   ·unfold lw
    rw [if_pos he]
    exact KO
 obtain ⟨LN, l0, l1, ls, yS, SN, SO, SQ, SR, rfl⟩ := hg
 have sn := af.trans s9 LN
 have Vk := af.trans sS sn
 have N4 := sn _ _ N4
 have hL8 := sn _ _ hL8
 have Qe : Paired (Fact K H') fs mP := ao Qe fun _ _ _ => Fact.sm sn
 have Hz := sn _ _ Hz
 have Zz := aad SO
 have ZA := aad SR
 have ZC : (lw prs bQ bp).length ≤ bp.length := by unfold lw; split <;> simp
 have ZD : (lw prs bQ bl).length ≤ bl.length := by unfold lw; split <;> simp
 clear Fo HC N3 Fp s9 LN N5 N6 KN KO sn sm sS SK
 have Fo := SN
 have N8 := SQ
 generalize H' = H8 at Fo N8 SO SR Vk N4 hL8 Qe Hz ⊢
 refine ⟨_, rfl, lf, rfl, ⟨_, aC.of N4⟩, fun D3 Ip => ?_⟩
 refine fK (K := K) (xs := mP) fs (fun _ H f y => Fact K H (wr bQ f) y) (fun _ _ _ _ _ k h => Fact.keep k h) (fun _ _ _ _ _ _ h => h) (n0 (by omega)) Ip (aC.of N4) zf (fun i x b H' R hx hb sm hQ => ?_) (fun H9 SS s9 hL9 KP => ?_)
 ·obtain ⟨hi, ex⟩ := ax hx
  obtain ⟨fb, eb⟩ := ax hb
  have hFa := Fact.sm sm (paired_at Qe i fb hi)
  rw [ex, eb] at hFa
  exact ⟨_, rfl, _, rfl, d, x, bQ, b, rfl, sm _ _ Hz, hFa, (by have z := (xx _ (ZT fb)).n; rw [eb] at z; omega), fun v' jG s'' hF => hQ _ _ s'' hF.fact⟩
 have KP := lM KP
 have XJ : (fs.map (wr bQ)).length = fs.length := Lm9 _
 have XM := Kn ks bQ fs
 have XN := Ko ks bQ fs
 rw [← XM, ← XN] at q
 generalize fs.map (wr bQ) = fw at KP XJ q
 have LO := s9 _ _ hL8
 have z9 := aad KP
 refine ⟨_, rfl, _, rfl, D3, rfl, ⟨_, aC.of hL9⟩, fun D4 SU => ?_⟩
 refine ij (K := K) (xs := SS) fw (fun f => !decide (f.k ∈ eQ ks)) id (fun _ H f y => Fact K H f y) (fun _ _ _ _ _ k h => Fact.keep k h) (fun _ _ _ _ _ _ h => h) (n0 (by omega)) SU (aC.of hL9) z9 (fun i x b H' R hx hb sm hQ => ?_) (fun i x b H' R hx hb hk sm hQ => ?_) (fun Gi AG LN SV Fq => ?_)
 ·obtain ⟨hi, ex⟩ := ax hx
  obtain ⟨fb, eb⟩ := ax hb
  obtain ⟨t, t2, et, h1, h2⟩ := Fact.sm sm (paired_at KP i fb hi)
  rw [ex] at et
  rw [eb] at h1 h2
  subst et
  refine ⟨_, rfl, t, _, 0, _, rfl, rfl, h1, rfl, _, rfl, D, _, rfl, .inl (aC.of (sm _ _ LO)), rfl, de _, _, rfl, ?_⟩
  rw [if_pos rfl, dF]
  exact hQ _ (af.refl _)
 ·obtain ⟨hi, ex⟩ := ax hx
  obtain ⟨fb, eb⟩ := ax hb
  have hFa := Fact.sm sm (paired_at KP i fb hi)
  rw [ex, eb] at hFa
  exact ⟨_, rfl, hQ _ _ (af.refl _) hFa⟩
 rw [abA] at Fq
 have Fq : Paired (Fact K Gi) (dJ ks fw) AG := Fq
 have ZE := aad Fq
 have zb : (dJ ks fw).length ≤ fw.length := aat _ _
 refine ⟨l0, D4, _, _, rfl, rfl, LN _ _ (s9 _ _ Fo), SV, ?_, fun N9 SW => ?_⟩
 ·rw [aak]
  omega
 have LP : af Gi (upd Gi N9 (.lst (ls ++ AG))) := aj SW _
 have Iq := ae (H := Gi) (a := N9) (o := .lst (ls ++ AG))
 generalize upd Gi N9 (.lst (ls ++ AG)) = Oa at LP Iq ⊢
 have sG : af H9 Oa := af.trans LN LP
 have Ob : Paired (Fact K Oa) fw SS := ao KP fun _ _ _ => Fact.sm sG
 have Oc := sG _ _ hL9
 refine ⟨_, rfl, _, rfl, D3, rfl, ⟨_, aC.of Oc⟩, fun D5 SX => ?_⟩
 refine ij (K := K) (xs := SS) fw (fun f => decide (f.k ∈ eQ ks)) id (fun _ H f y => Fact K H f y) (fun _ _ _ _ _ k h => Fact.keep k h) (fun _ _ _ _ _ _ h => h) (n0 (by omega)) SX (aC.of Oc) z9 (fun i x b H' R hx hb sm hQ => ?_) (fun i x b H' R hx hb hk sm hQ => ?_) (fun KQ C9 AH SY Fs => ?_)
 ·obtain ⟨hi, ex⟩ := ax hx
  obtain ⟨fb, eb⟩ := ax hb
  obtain ⟨t, t2, et, h1, h2⟩ := Fact.sm sm (paired_at Ob i fb hi)
  rw [ex] at et
  rw [eb] at h1 h2
  subst et
  refine ⟨_, rfl, t, _, 0, _, rfl, rfl, h1, rfl, _, rfl, D, _, rfl, .inl (aC.of (sm _ _ (sG _ _ LO))), rfl, de _, _, rfl, ?_⟩
  rw [if_neg (by decide), dF]
  exact hQ _ (af.refl _)
 ·obtain ⟨hi, ex⟩ := ax hx
  obtain ⟨fb, eb⟩ := ax hb
  have hFa := Fact.sm sm (paired_at Ob i fb hi)
  rw [ex, eb] at hFa
  exact ⟨_, rfl, hQ _ _ (af.refl _) hFa⟩
 rw [abA] at Fs
 have Fs : Paired (Fact K KQ) (cL ks fw) C9 := Fs
 have ZF := aad Fs
 have zl : (cL ks fw).length ≤ fw.length := aat _ _
 refine ⟨l1, D5, _, _, rfl, rfl, AH _ _ (sG _ _ (s9 _ _ N8)), SY, (by rw [aak]; omega), fun Qf S0 => ?_⟩
 have Gj : af KQ (upd KQ Qf (.lst (yS ++ C9))) := aj S0 _
 have Ir := ae (H := KQ) (a := Qf) (o := .lst (yS ++ C9))
 generalize upd KQ Qf (.lst (yS ++ C9)) = BX at Gj Ir ⊢
 have sH : af Gi BX := af.trans LP (af.trans AH Gj)
 have sI : af H8 BX := af.trans s9 (af.trans LN sH)
 have sJ : af H BX := af.trans Vk sI
 have S1 := sI _ _ Hz
 have XO : Ts K BX ((lw prs bQ bp ++ dJ ks fw).map fT) (ls ++ AG) := qW (dw (ao SO fun _ _ _ => Fact.sm sI) (ao Fq fun _ _ _ => Fact.sm sH))
 have XQ : Ts K BX ((lw prs bQ bl ++ cL ks fw).map fT) (yS ++ C9) := qW (dw (ao SR fun _ _ _ => Fact.sm sI) (ao Fs fun _ _ _ => Fact.sm Gj))
 have S2 : BX N9 = some (.lst (ls ++ AG)) := Gj _ _ (AH _ _ Iq)
 have allB : ∀ (gs : List Fc), ∀ t ∈ gs.map fT, sj t = 1 ∧ t.toD.deep ≤ 18 := fun gs t ht => by
  obtain ⟨g, _, rfl⟩ := Z1.mp ht
  exact x4 g
 have S3 : ∀ (gs : List Fc), ∀ t ∈ gs.map fT, ∀ u ∈ gs.map fT, oU t u = true := fun gs t ht u hu => by
  obtain ⟨g, _, rfl⟩ := Z1.mp ht
  obtain ⟨g2, _, rfl⟩ := Z1.mp hu
  exact BH g g2
 refine ⟨_, rfl, N9, ls ++ AG, _, 1, rfl, aC.of S2, XO, (by rw [Z6]; omega), .inl rfl, allB _, S3 _, fun a0 r0 S4 hr0 => ?_⟩
 have S5 : af BX (upd BX a0 (.lst r0)) := aj S4 _
 refine ⟨a0, r0, rfl, .inl ⟨aC.of ae, fun u0 S6 => ?_⟩⟩
 have LQ : af BX (upd (upd BX a0 (.lst r0)) u0 (.tup r0)) := af.trans S5 (aj S6 _)
 have Od := ae (H := upd BX a0 (.lst r0)) (a := u0) (o := .tup r0)
 generalize upd (upd BX a0 (.lst r0)) u0 (.tup r0) = KR at LQ Od ⊢
 have S7 := LQ _ _ Ir
 refine ⟨_, rfl, Qf, yS ++ C9, (lw prs bQ bl ++ cL ks fw).map fT, rfl, aC.of S7, bq LQ XQ, (by rw [Z6]; omega), (fun t ht => ?_), fun ps zs tr EG XR S8 => ?_⟩
 ·obtain ⟨g, _, rfl⟩ := Z1.mp ht
  exact ⟨⟨_, rfl⟩, (by unfold fT; rw [dz]; decide), Nj g⟩
 have Vl : af KR (upd KR ps (CI (!w.params.followText "set-order") ps zs)) := aj EG _
 have S9 : ∀ t ∈ tr, ∃ g : Fc, t = fT g := fun t ht => by
  have z := EO (S8.mem_iff.mp ht)
  obtain ⟨g, _, e⟩ := Z1.mp z
  exact ⟨g, e.symm⟩
 have Fn : tr.length < 64 := by
  have z1 := S8.length_eq
  have z2 := jZ ((lw prs bQ bl ++ cL ks fw).map fT) _ (Z0 _)
  rw [aau, Lm9, Z6] at z2
  omega
 refine ⟨ps, zs, tr, 1, rfl, ae, bq Vl XR, Fn, .inl rfl, (fun t ht => by obtain ⟨g, rfl⟩ := S9 t ht; exact x4 g), (fun t ht u hu => by obtain ⟨g, rfl⟩ := S9 t ht; obtain ⟨g2, rfl⟩ := S9 u hu; exact BH g g2), fun a1 r1 LJ hr1 => ?_⟩
 have Ta := af.trans Vl (aj LJ (.lst r1))
 refine ⟨a1, r1, rfl, .inl ⟨aC.of ae, fun u1 Qg => ?_⟩⟩
 have Oe := af.trans Ta (aj Qg (.tup r1))
 have Dc := bq (af.trans (aj LJ (.lst r1)) (aj Qg (.tup r1))) hr1
 have Of := ae (H := upd (upd KR ps (CI (!w.params.followText "set-order") ps zs)) a1 (.lst r1)) (a := u1) (o := .tup r1)
 generalize upd (upd (upd KR ps (CI (!w.params.followText "set-order") ps zs)) a1 (.lst r1)) u1 (.tup r1) = Og at Oe Of Dc ⊢
 rw [fL S8] at Dc
 have KS := Oe _ _ (LQ _ _ S1)
 refine ⟨_, rfl, ?_, d, _, rfl, rfl, KS, fun it hit => ?_⟩
 ·exact .inr (.inr (.inl ⟨rfl, .inl ⟨_, KS⟩⟩))
 have Vm : af Og (upd Og it (vr it d)) := aj hit _
 refine ⟨it, d, bQ.map bE, bQ.map (fun e => (S e.1, Tr.str (S e.2))), rfl, ae, Vm _ _ KS, (by rw [Lm9]; exact Bt), (by rw [Lm9, Lm9]), (fun i h1 h2 => ?_), (fun p hp q' hq' => ?_), fun a2 r2 LR XS LK Dw => ?_⟩
 ·simp only [Z3]
  exact ⟨rfl, .str _, show 0 ≤ 17 by decide⟩
 ·obtain ⟨n, _, rfl⟩ := Z1.mp hp
  obtain ⟨n2, _, rfl⟩ := Z1.mp hq'
  rfl
 refine ⟨a2, r2, rfl, aC.of ae, fun u2 bM n2 F9 Qh => ?_⟩
 have Ft := af.trans (af.trans Vm XS) (af.trans (aj LK (.lst r2)) (aj Qh (.lO ⟨.type "tuple", none, .seq bM n2, F9⟩ (.tup r2))))
 have hr2' := bq (af.trans (aj LK (.lst r2)) (aj Qh (.lO ⟨.type "tuple", none, .seq bM n2, F9⟩ (.tup r2)))) Dw
 have Oh := ae (H := upd LR a2 (.lst r2)) (a := u2) (o := .lO ⟨.type "tuple", none, .seq bM n2, F9⟩ (.tup r2))
 generalize upd (upd LR a2 (.lst r2)) u2 (.lO ⟨.type "tuple", none, .seq bM n2, F9⟩ (.tup r2)) = LS at Ft Oh hr2' ⊢
 refine ⟨(by show 4 ≤ Z2; decide), fun pp XT => ?_⟩
 have Dd : af LS (upd LS pp (.tup [.ref u0, .ref u1, .ref u2, .bl false])) := aj XT _
 refine q _ _ (af.trans sJ (af.trans LQ (af.trans Oe (af.trans Ft Dd)))) ⟨pp, u0, u1, u2, r0, r1, r2, rfl, aK.of ae, aK.of (Dd _ _ (Ft _ _ (Oe _ _ Od))), ?_, aK.of (Dd _ _ (Ft _ _ Of)), ?_, ⟨_, _, _, Dd _ _ Oh⟩, ?_⟩
 ·exact bq (af.trans LQ (af.trans Oe (af.trans Ft Dd))) hr0
 ·exact bq (af.trans Ft Dd) Dc
 ·have e : (bQ.map (fun e => (S e.1, Tr.str (S e.2)))).map xR = bQ.map pE := by rw [aaJ]; rfl
  rw [← e]
  exact bq Dd hr2'
end
end iB
namespace iB
open PySem L2 cI Bk
set_option maxHeartbeats 4000000
section
variable {P : aao} {w : aaO} {K : ZQ} {mg : Str → Option ZS} {base : Heap} {f : aac} {fd : aa0} {C : aac}
theorem sX : aB ["kinds", "facts"] ["kinds", "facts"] (ar i8) := ⟨rfl, rfl, rfl, by decide +kernel, rfl, by decide +kernel, by decide +kernel⟩
theorem sY {u1 : ZS} {pe e0 e1 e2 b1 : aac} (F : b6 K "start_pool" "start_pool" i8 f fd) (gF : qR P w K mg base "moved" 4 ["kinds", "pool", "taken", "put", "told"] (iA K b1)) (HD : mg "EMPTY" = some u1) (HE : RelV (.ref pe) u1)
  (Im : ∀ H, aK K H pe [.ref e0, .ref e1, .ref e2, .bl false]) (NS : ∀ H, aK K H e0 []) (NT : ∀ H, aK K H e1 []) (NV : Nil0 K e2) : bD P w K mg base (zm P w) 5 f fd ["kinds", "facts"] (nK K) := by
 refine F.Mz sX (fun vs H Q E h => ?_) (fun c0 A outer s H vs Q E hr h => ?_)
 ·obtain ⟨lk, lf, ks, fs, rfl, _⟩ := h
  rfl
 obtain ⟨lk, lf, ks, fs, rfl, Dz, Bt, Fu, EU, q⟩ := h
 refine ⟨_, (ak (ay (fO gF (hr.mono (by decide)) rfl (aa (pv 0) (aa (pQ rfl HD HE) (aa (aQ ag) (aa (pv 1) (aa (aQ ag) ag)))))))), ?_⟩
 refine ⟨_, rfl, (by show 0 ≤ Z2; decide), fun l1 qx => ?_⟩
 refine ⟨_, rfl, (by show 0 ≤ Z2; decide), fun l2 qg => ?_⟩
 have s1 := aj qx (.lst [])
 have s2 := aj qg (.lst [])
 have sA := af.trans s1 s2
 refine ⟨lk, lf, l1, l2, _, ks, fs, [], false, [], [], [], rfl, Dz.keep sA, s2 _ _ ae, ⟨[], ae, .nil⟩, .inr ⟨rfl, pe, e0, e1, e2, [], [], rfl, Im _, NS _, .nil, NT _, .nil, ⟨acM, (fun e he => nomatch he), (fun e he => nomatch he)⟩, (fun e he => nomatch he), .inr ⟨NV, rfl⟩⟩, ⟨by simpa using Bt, by decide, by simpa using Bt⟩, by decide, EU, (fun pr Tc => nomatch Tc), (fun g hg => nomatch hg), (fun bQ e => by cases e; exact Fu), (fun z => by cases z), fun _ => ⟨(fun z => by cases z), fun bQ e v H' sm hm => ?_⟩⟩
 cases e
 exact q v H' (af.trans sA sm) hm
theorem lZ : aB ["pool", "name", "pair"] ["pool", "name"] (ar i9) := ⟨rfl, rfl, rfl, by decide +kernel, rfl, by decide +kernel, by decide +kernel⟩
theorem sZ (F : b6 K "stands_for" "stands_for" i9 f fd) (aX : cA P w K mg base "is_great" 1 ["name"] lF) (kJ : abX K C Jg zK = true) (rL : mg "NoName" = some (.ref C)) : bD P w K mg base (zm P w) 2 f fd ["pool", "name"] (rC K C) := by
 refine F.Mz lZ (fun vs H Q E h => ?_) (fun c0 A outer s H vs Q E hr h => ?_)
 ·obtain ⟨p, n, z0, z1, t2, b, st, y2, rfl, _⟩ := h
  rfl
 obtain ⟨p, n, z0, z1, t2, b, st, y2, rfl, hp, h2, pp, hn, hsc, qw, qn, qs⟩ := h
 refine ⟨_, (ah (aU (dq (bj (aq aX (hr.mono (by decide)) rfl (aa (pv 1) ag))))
 (ak (ay (pv 1)))
 aA)
 (ah (cb jW rfl (fE (au av (pv 0) ai (fun _ _ => rfl))) (bx (i := 2) lZ.nd rfl (aax rfl))
 (ak (aU (aD ie (au av (pv 2) ai (fun _ _ => rfl)) (pv 1) (bu _))
 (ak (ay (au av (pv 2) ai (fun _ _ => rfl))))
 aA)))
 (ak (qk kJ rL rfl (aa (ES (pv 1)) ag))))), ?_⟩
 refine ⟨_, rfl, n, rfl, hn.1, (by have := hn.2.1; omega), _, rfl, ?_⟩
 cases hg : great n with
 | false => exact dc ⟨_, rfl, qw hg⟩
 | true =>
  refine b5 ?_
  refine ⟨_, rfl, p, _, 2, _, rfl, rfl, hp, rfl, t2, rfl, ⟨_, h2⟩, u5 (K := K) (a := t2) (xs := y2) (fun i σ H' => H' = H ∧ jN st n = jN (st.drop i) n ∧ ∃ o, σ = [some (.ref p), some (tx n), o]) ⟨rfl, rfl, none, rfl⟩ (fun i σ H' _ e => by rw [e.1]; exact h2) ?_ ?_⟩
  ·rintro i y σ H' hi ⟨rfl, kg, o, rfl⟩
   obtain ⟨Rg, ey⟩ := ax hi
   have zl := aad pp
   rw [Lm9] at zl
   have KA : i < st.length := by omega
   obtain ⟨t, et, ht⟩ := paired_at pp i (by rw [Lm9]; exact KA) Rg
   rw [ey] at et
   subst et
   have ht : aK K H' t [tx (st[i]).1, tx (st[i]).2] := by rw [Z3] at ht; exact ht
   have hdr : st.drop i = st[i] :: st.drop (i + 1) := aaw KA
   have hc := hsc _ (ZT KA)
   refine ⟨_, rfl, t, _, 0, _, rfl, rfl, ht, rfl, _, rfl, rfl, _, rfl, ?_⟩
   by_cases e : (st[i]).1 = n
   ·rw [decide_eq_true (show tx (st[i]).1 = tx n by rw [e])]
    refine dc ⟨_, rfl, t, _, 1, _, rfl, rfl, ht, rfl, ?_⟩
    refine qs hg _ ?_
    rw [kg, hdr]
    unfold jN
    rw [aaP, decide_eq_true e]
    rfl
   ·rw [decide_eq_false (fun z : tx (st[i]).1 = tx n => e (eM (V.str.inj z)))]
    refine b5 ⟨rfl, ?_, _, rfl⟩
    rw [kg, hdr]
    unfold jN
    rw [aaP, decide_eq_false e]
  ·rintro σ H' ⟨rfl, kg, o, rfl⟩
   have zl := aad pp
   rw [Lm9] at zl
   rw [aby (by omega)] at kg
   have kg : jN st n = none := kg
   refine ⟨_, rfl, S n, rfl, (by rw [bc]; have := hn.2.1; omega), (by rw [aZ]; exact hn.2.2), fun x => ⟨(by show 1 ≤ Z2; decide), ?_⟩⟩
   exact qn hg kg _ (af.refl _)
end
end iB
namespace iB
open PySem L2 cI Bk
set_option maxHeartbeats 4000000
section
variable {P : aao} {w : aaO} {K : ZQ} {mg : Str → Option ZS} {base : Heap} {f : aac} {fd : aa0}
theorem pL : aB ["_law_script", "_law_k"] ["_law_script", "_law_k"] (ar fR) := ⟨rfl, rfl, rfl, by decide +kernel, rfl, by decide +kernel, by decide +kernel⟩
theorem pM (F : b6 K "_law_cell_at" "_law_cell_at" fR f fd) (bV : mg "len" = none) : bD P w K mg base jP 1 f fd ["_law_script", "_law_k"] (zT K) := by
 refine F.ok pL (fun vs H Q E h => ?_) (fun c0 A outer s H vs Q E hr h => ?_)
 ·obtain ⟨a, ns, k, rfl, _⟩ := h
  rfl
 obtain ⟨a, ns, k, rfl, hS, h0, q⟩ := h
 refine ⟨_, (ah (aU (aD Me (pv 1) (aG aM rfl bV aaW (aa (pv 0) ag)) (bu _))
 (ak (ay (au cG (pv 0) (pv 1) (fun _ _ => rfl))))
 aA)
 (ak (ay ai))), ?_⟩
 refine ⟨_, rfl, _, rfl, a, _, rfl, .inl hS, _, _, rfl, rfl, _, rfl, ?_⟩
 refine me (fun c => ?_) (fun c => ?_)
 ·have c' : k < (((ns.map V.int).length : Nat) : Int) := of_decide_eq_true c
  have hk : k.toNat < ns.length := by rw [Lm9] at c'; omega
  have e : ug (ns.map V.int) k = some (.int ns[k.toNat]) := by
   have z := fg (xs := ns.map V.int) (j := k.toNat) (v := .int ns[k.toNat]) (by simp [hk])
   rw [show ((k.toNat : Nat) : Int) = k by omega] at z
   exact z
  exact ⟨_, rfl, _, rfl, a, _, k, _, rfl, rfl, hS, e, q _⟩
 ·exact q 0
theorem ph : aB ["_law_cell", "_law_k", "_law_factor"] ["_law_cell", "_law_k"] (ar mC) := ⟨rfl, rfl, rfl, by decide +kernel, rfl, by decide +kernel, by decide +kernel⟩
theorem yC (F : b6 K "_law_mix" "_law_mix" mC f fd) : bD P w K mg base jP 1 f fd ["_law_cell", "_law_k"] uw := by
 refine F.ok ph (fun vs H Q E h => ?_) (fun c0 A outer s H vs Q E hr h => ?_)
 ·obtain ⟨c, k, rfl, _⟩ := h
  rfl
 obtain ⟨c, k, rfl, h0, h1, q⟩ := h
 refine ⟨_, (ah (aw (i := 2) ph.nd rfl (aax rfl) (au cG (aQ (aa ai (aa ai (aa ai (aa ai (aa ai (aa ai (aa ai ag)))))))) (az bL (pv 1) ai) (fun _ _ => rfl)))
 (ak (ay (az bL (az qd (az iI (az bL (pv 0) ai) (az qd ai (pv 1))) (pv 2)) ai)))), ?_⟩
 refine ⟨(by show 7 ≤ Z2; decide), fun p hp => ?_⟩
 have hm := mid (a := k) (b := 7) (by decide)
 have hx : ∃ v : Int, ug [V.int 48271, .int 69621, .int 16807, .int 40692, .int 30269, .int 62089, .int 45991] (k % 7) = some (.int v) ∧ -(2 ^ 64) < v ∧ v < 2 ^ 64 := by
  rcases (by omega : k % 7 = 0 ∨ k % 7 = 1 ∨ k % 7 = 2 ∨ k % 7 = 3 ∨ k % 7 = 4 ∨ k % 7 = 5 ∨ k % 7 = 6) with e | e | e | e | e | e | e <;> rw [e]
  ·exact ⟨48271, rfl, by decide, by decide⟩
  ·exact ⟨69621, rfl, by decide, by decide⟩
  ·exact ⟨16807, rfl, by decide, by decide⟩
  ·exact ⟨40692, rfl, by decide, by decide⟩
  ·exact ⟨30269, rfl, by decide, by decide⟩
  ·exact ⟨62089, rfl, by decide, by decide⟩
  ·exact ⟨45991, rfl, by decide, by decide⟩
 obtain ⟨v, hv, v0, v1⟩ := hx
 refine ⟨_, rfl, _, _, rfl, rfl, (by show (0 : Int) < 7; decide), p, _, _, _, rfl, rfl, .inl (.inl ae), hv, ?_⟩
 refine ⟨_, rfl, _, _, rfl, rfl, (by show (0 : Int) < 1000003; decide), _, rfl, _, _, rfl, rfl, .inl ⟨by decide, by decide⟩, _, _, rfl, rfl, _, rfl, _, _, rfl, rfl, .inr ⟨v0, v1⟩, _, _, rfl, rfl, (by show (0 : Int) < 999983; decide), ?_⟩
 exact q _ _ (aj hp _) (acw _ (by decide))
theorem bt : aB ["_law_cell", "_law_many", "_law_firsts", "_law_rest", "_law_number", "_law_start", "_law_tail", "_law_size", "_law_at"] ["_law_cell", "_law_many", "_law_firsts"] (ar ja) := ⟨rfl, rfl, rfl, by decide +kernel, rfl, by decide +kernel, by decide +kernel⟩
theorem tf (F : b6 K "_law_names" "_law_names" ja f fd) (bA : cA P w K mg base "_law_mix" 1 ["_law_cell", "_law_k"] uw) (bV : mg "len" = none) (gG : mg "range" = none) :
  bD P w K mg base jP 2 f fd ["_law_cell", "_law_many", "_law_firsts"] nh := by
 refine F.ok bt (fun vs H Q E h => ?_) (fun c0 A outer s H vs Q E hr h => ?_)
 ·obtain ⟨c, n, fs, rfl, _⟩ := h
  rfl
 obtain ⟨c, n, fs, rfl, hn, EU, Qi, vO, hnd, q⟩ := h
 have yt : (S fs).length = fs.length := bc fs
 refine ⟨_, (ah (aw (i := 3) bt.nd rfl (ac2 rfl) bh)
 (ah (aw (i := 4) bt.nd rfl (ac2 rfl) (aq bA (hr.mono (by decide)) rfl (aa (pv 0) (aa ai ag))))
 (ah (aw (i := 5) bt.nd rfl (ac2 rfl) (az bL (az cc (pv 4) ai) (aG mW rfl bV aaW (aa (pv 2) ag))))
 (ah (aw (i := 6) bt.nd rfl (ac2 rfl) (da aan aaF aaG cT bh (aa (bo [3, 4] rfl (by kernel_rfl) (fq rfl gG (aa ai ag)) (fun _ _ _ _ _ => bz) (fun _ _ _ _ _ => (au fH (pv 1) (az bL (az iI (az cc (pv 2) (az iI (pv 0) ai)) (az qd (pv 0) (pv 0))) ai) (fun _ _ => rfl)))) ag)))
 (ah (aU (aD ie (az bL (pv 4) ai) ai (bu _))
 (ak (ay (bo [2, 5, 6] rfl (by kernel_rfl) (fq rfl gG (aa (pv 1) ag)) (fun _ _ _ _ _ => bz) (fun _ _ _ _ _ => (az aO (au fH (pv 1) (pv 2) (fun _ _ => rfl)) (cv vc (pv 3) ff (cf (pv 0))))))))
 aA)
 (ah (aU (aD ie (az bL (pv 4) ai) ai (bu _))
 (ah (aw (i := 7) bt.nd rfl (ac2 rfl) (az bL (az cc (pv 4) ai) ai))
 (ak (ay (bo [2, 5, 6, 7] rfl (by kernel_rfl) (fq rfl gG (aa (pv 1) ag)) (fun _ _ _ _ _ => bz) (fun _ _ _ _ _ => (az aO (au fH (pv 1) (az bL (az iI (pv 2) (pv 0)) (aG mW rfl bV aaW (aa (pv 1) ag))) (fun _ _ => rfl)) (cv vc (pv 3) ff (cf (pv 4)))))))))
 aA)
 (ah (aw (i := 7) bt.nd rfl (ac2 rfl) (az bL (az cc (pv 4) ai) ai))
 (ah (aw (i := 8) bt.nd rfl (ac2 rfl) (az bL (az cc (pv 4) ai) (az iI (pv 7) ai)))
 (ah (aw (i := 3) bt.nd rfl (ac2 rfl) (bo [3, 4] rfl (by kernel_rfl) (fq rfl gG (aa (pv 1) ag)) (fun _ _ _ _ _ => bz) (fun _ _ _ _ _ => (au fH (pv 1) (az bL (az iI (az cc (pv 2) ai) (pv 0)) ai) (fun _ _ => rfl)))))
 (ak (ay (bo [2, 5, 6, 8, 7] rfl (by kernel_rfl) (aH (pv 3)) (fun _ _ _ _ _ => bz) (fun _ _ _ _ _ => (az aO (az aO (az aO (au fH (pv 1) (pv 2) (fun _ _ => rfl)) (cv vc (pv 3) ff (cf (pv 4)))) (pv 0)) (cv vc (pv 3) (cf (pv 4)) (cf (pv 5))))))))))))))))), ?_⟩
 refine ⟨_, rfl, c, 0, rfl, by decide, by decide, fun v H1 s1 v0 => ?_⟩
 have LU : (0 : Int) < ((S fs).length : Int) := by rw [yt]; omega
 refine ⟨_, rfl, _, _, rfl, rfl, ⟨by decide, by decide⟩, _, rfl, S fs, rfl, (by rw [yt]; exact sz (by omega)), _, _, rfl, rfl, LU, ?_⟩
 have md := mid (a := v / 5) LU
 obtain ⟨cs, zw, Td⟩ := sign_of (x := S fs) md.1 md.2
 rw [aZ] at Td
 refine ⟨rfl, 11, rfl, by decide, by decide, fun D hD => ?_⟩
 have pU : H D = none := s1.free hD
 refine fI (lo := 0) (n := (11 : Int).toNat) (n0 (by decide)) (fun i ys H' => af H1 H' ∧ H' D = some (.lst ys) ∧ ∃ T : List Nat, ys = (T.map fun c => S [c]).map V.str ∧ T.length = i ∧ T.all m8 = true)
  ⟨aj hD _, ae, [], rfl, rfl, rfl⟩ (fun i ys H' pr => ⟨pr.2.1, ?_⟩) (fun i ys H' hi pr => ?_) (fun ys H' pr => ?_)
 ·obtain ⟨T, rfl, hl, _⟩ := pr.2.2
  rw [Lm9, Lm9]
  omega
 ·obtain ⟨T, rfl, hl, hT⟩ := pr.2.2
  have hi' : i < 11 := hi
  refine ⟨_, rfl, _, rfl, _, rfl, _, _, rfl, rfl, _, _, rfl, rfl, ⟨by omega, by omega⟩, _, rfl, _, rfl, _, _, rfl, rfl, .inl ⟨by omega, by omega⟩, _, _, rfl, rfl, _, _, rfl, rfl, (by show (0 : Int) < 62; decide), ?_⟩
  have Oi := mid (a := v / (0 + (i : Int) + 1) + (0 + (i : Int)) * (0 + (i : Int))) (b := 62) (by decide)
  obtain ⟨d, hd, Qj⟩ := sign_of (x := pF) Oi.1 (by rw [ng]; exact Oi.2)
  refine ⟨_, _, d, rfl, rfl, (by decide +kernel), hd, pr.2.1, ?_⟩
  refine ⟨af.a8 pr.1 hD _, ae, T ++ [d], by simp, by simp [hl], ?_⟩
  have z := Eg
  rw [abg] at z
  rw [List.all_append, hT, ads, z d Qj]
  rfl
 obtain ⟨T, rfl, UP, KU⟩ := pr.2.2
 have sm := pr.1
 have Oj : T.length = 11 := UP
 refine ⟨_, D, T.map fun c => S [c], rfl, rfl, .inl (.inl (.inl pr.2.1)), ?_, ?_⟩
 ·have z : ((T.map fun c => S [c]).map (·.length)).sum ≤ 11 := by
   have z2 := iP (as := T.map fun c => [c]) (B := 1) (by simp)
   rw [Lm9, Oj] at z2
   have e : (T.map fun c => S [c]) = (T.map fun c => [c]).map S := by rw [aaJ]; rfl
   rw [e]
   exact z2
  have z3 : (T.map fun c => S [c]).length = 11 := by rw [Lm9]; exact Oj
  rw [z3, show (aae "").length = 0 by decide]
  omega
 rw [JJ]
 refine ⟨_, rfl, _, _, rfl, rfl, (by show (0 : Int) < 3; decide), rfl, _, rfl, ?_⟩
 have Iu : ∀ l : List Nat, l.length ≤ 100 → (S l).length ≤ Z2 := fun l h => by rw [bc]; exact sz (by omega)
 have hst : ug (S fs).cps.toList (v / 5 % ((S fs).length : Int)) = some cs := zw
 have Vn : (⟨#[cs]⟩ : Str) = S [cs] := rfl
 refine me (fun c1 => ?_) (fun c1 => ?_)
 ·
  refine ⟨_, rfl, n, rfl, by omega, by omega, fun D2 lQ => ?_⟩
  refine fI (lo := 0) (n := ((n : Nat) : Int).toNat) (n0 (by omega)) (fun i ys H2 => af H H2 ∧ H2 D2 = some (.lst ys) ∧ ∃ zs : List (List Nat), ys = zs.map tx ∧ zs.length = i ∧ (∀ z ∈ zs, Good fs z) ∧ zs = (aaz i).map fun k : Nat => [cs] ++ T.take k)
   ⟨af.a8 (af.trans s1 sm) ((af.trans s1 sm).free lQ) _, ae, [], rfl, rfl, (fun _ z => nomatch z), rfl⟩ (fun i ys H2 l8 => ⟨l8.2.1, ?_⟩) (fun i ys H2 hi l8 => ?_) (fun ys H2 l8 => ?_)
  ·obtain ⟨zs, rfl, hl, _, _⟩ := l8.2.2
   rw [Lm9]
   omega
  ·obtain ⟨zs, rfl, hl, hg, BY⟩ := l8.2.2
   have hi' : i < n := by omega
   refine ⟨_, rfl, _, rfl, S fs, _, cs, rfl, rfl, Iu fs (by omega), hst, _, rfl, _, rfl, _, rfl, S T, rfl, Iu T (by omega), ?_⟩
   rw [show (0 : Int) + (i : Int) = ((i : Nat) : Int) by omega, qC (by omega), Vn]
   refine ⟨_, _, rfl, rfl, (by rw [bc, bc, aah]; exact sz (by simp; omega)), ?_⟩
   rw [lR]
   refine ⟨l8.2.1, af.a8 l8.1 ((af.trans s1 sm).free lQ) _, ae, zs ++ [[cs] ++ T.take i], by simp, by simp [hl], fun z hz => ?_, by rw [adG, aaj, BY]; rfl⟩
   rcases ZY.mp hz with hz | hz
   ·exact hg z hz
   ·rw [ZX.mp hz]
    refine vg Td vO ?_ (by rw [aah]; omega)
    rw [abg] at KU ⊢
    exact fun y hy => KU y (aa3 hy)
  ·obtain ⟨zs, rfl, hl, hg, BY⟩ := l8.2.2
   refine q D2 zs H2 l8.1 ((af.trans s1 sm).free lQ) l8.2.1 (by omega) hg ?_
   rw [BY]
   refine fc fun a b ha hb e => ?_
   have e2 := congrArg abl e
   rw [Z6, Z6, aah, aah] at e2
   omega
 refine ⟨_, rfl, _, _, rfl, rfl, (by show (0 : Int) < 3; decide), rfl, _, rfl, ?_⟩
 refine me (fun c2 => ?_) (fun c2 => ?_)
 ·refine ⟨_, rfl, _, _, rfl, rfl, ⟨by decide, by decide⟩, _, _, rfl, rfl, (by show (0 : Int) < 12; decide), ?_⟩
  have XU := mid (a := v / 3) (b := 12) (by decide)
  refine ⟨_, rfl, n, rfl, by omega, by omega, fun D2 lQ => ?_⟩
  refine fI (lo := 0) (n := ((n : Nat) : Int).toNat) (n0 (by omega)) (fun i ys H2 => af H H2 ∧ H2 D2 = some (.lst ys) ∧ ∃ zs : List (List Nat), ys = zs.map tx ∧ zs.length = i ∧ (∀ z ∈ zs, Good fs z) ∧ zs = (aaz i).map fun k : Nat => [fs.getD ((v / 5 % ((S fs).length : Int) + (0 + (k : Int))) % ((S fs).length : Int)).toNat 0] ++ T.take (v / 3 % 12).toNat)
   ⟨af.a8 (af.trans s1 sm) ((af.trans s1 sm).free lQ) _, ae, [], rfl, rfl, (fun _ z => nomatch z), rfl⟩ (fun i ys H2 l8 => ⟨l8.2.1, ?_⟩) (fun i ys H2 hi l8 => ?_) (fun ys H2 l8 => ?_)
  ·obtain ⟨zs, rfl, hl, _, _⟩ := l8.2.2
   rw [Lm9]
   omega
  ·obtain ⟨zs, rfl, hl, hg, BY⟩ := l8.2.2
   have hi' : i < n := by omega
   have Vo := mid (a := v / 5 % ((S fs).length : Int) + (0 + (i : Int))) LU
   have Te := zQ (x := S fs) Vo.1 Vo.2
   have Ol : fs.getD ((v / 5 % ((S fs).length : Int) + (0 + (i : Int))) % ((S fs).length : Int)).toNat 0 ∈ fs := ab5 (getD_get (by rw [← yt]; omega))
   rw [aZ fs] at Te
   generalize Tf : fs.getD ((v / 5 % ((S fs).length : Int) + (0 + (i : Int))) % ((S fs).length : Int)).toNat 0 = ck at Te Ol
   refine ⟨_, rfl, _, rfl, _, rfl, _, _, rfl, rfl, _, rfl, S fs, rfl, Iu fs (by omega), _, _, rfl, rfl, LU, S fs, _, ck, rfl, rfl, Iu fs (by omega), (by rw [aZ]; exact Te), _, rfl, _, rfl, _, rfl, S T, rfl, Iu T (by omega), ?_⟩
   have hsz : v / 3 % 12 = (((v / 3 % 12).toNat : Nat) : Int) := by omega
   rw [hsz, qC (by omega)]
   refine ⟨_, _, rfl, rfl, (by rw [bc, bc, aah]; exact sz (by simp; omega)), ?_⟩
   rw [show (⟨#[ck]⟩ : Str) = S [ck] from rfl, lR]
   refine ⟨l8.2.1, af.a8 l8.1 ((af.trans s1 sm).free lQ) _, ae, zs ++ [[ck] ++ T.take (v / 3 % 12).toNat], by simp, by simp [hl], fun z hz => ?_, by rw [adG, aaj, BY, ← Tf]; rfl⟩
   rcases ZY.mp hz with hz | hz
   ·exact hg z hz
   ·rw [ZX.mp hz]
    refine vg Ol vO ?_ (by rw [aah]; omega)
    rw [abg] at KU ⊢
    exact fun y hy => KU y (aa3 hy)
  ·obtain ⟨zs, rfl, hl, hg, BY⟩ := l8.2.2
   refine q D2 zs H2 l8.1 ((af.trans s1 sm).free lQ) l8.2.1 (by omega) hg ?_
   rw [BY]
   refine fc fun a b ha hb e => ?_
   have e2 : fs.getD ((v / 5 % ((S fs).length : Int) + (0 + (a : Int))) % ((S fs).length : Int)).toNat 0 = fs.getD ((v / 5 % ((S fs).length : Int) + (0 + (b : Int))) % ((S fs).length : Int)).toNat 0 := (List.cons.inj e).1
   have e3 := qD hnd (by have := mid (a := v / 5 % ((S fs).length : Int) + (0 + (a : Int))) LU; omega) (by have := mid (a := v / 5 % ((S fs).length : Int) + (0 + (b : Int))) LU; omega) e2
   exact Br (by omega) (by omega) e3
 refine ⟨_, rfl, _, _, rfl, rfl, ⟨by decide, by decide⟩, _, _, rfl, rfl, (by show (0 : Int) < 11; decide), ?_⟩
 have XU := mid (a := v / 3) (b := 11) (by decide)
 refine ⟨_, rfl, _, _, rfl, rfl, ⟨by decide, by decide⟩, _, rfl, _, _, rfl, rfl, _, _, rfl, rfl, (by show (0 : Int) < _; omega), ?_⟩
 have XW := mid (a := v / 33) (b := v / 3 % 11 + 1) (by omega)
 refine ⟨_, rfl, n, rfl, by omega, by omega, fun D2 lQ => ?_⟩
 refine fI (lo := 0) (n := ((n : Nat) : Int).toNat) (n0 (by omega)) (fun i ys H2 => af H H2 ∧ H2 D2 = some (.lst ys) ∧ ∃ cs : List Nat, ys = (cs.map fun c => [c]).map tx ∧ cs.length = i ∧ (∀ c ∈ cs, m8 c = true) ∧ cs = (aaz i).map fun k : Nat => pF.cps.toList.getD ((v / 7 + (0 + (k : Int))) % ((62 : Nat) : Int)).toNat 0)
  ⟨af.a8 (af.trans s1 sm) ((af.trans s1 sm).free lQ) _, ae, [], rfl, rfl, (fun _ z => nomatch z), rfl⟩ (fun i ys H2 l8 => ⟨l8.2.1, ?_⟩) (fun i ys H2 hi l8 => ?_) (fun ys H2 l8 => ?_)
 ·obtain ⟨cs, rfl, hl, _, _⟩ := l8.2.2
  rw [Lm9, Lm9]
  omega
 ·obtain ⟨zs, rfl, hl, hg, BY⟩ := l8.2.2
  have Oi := mid (a := v / 7 + (0 + (i : Int))) (b := 62) (by decide)
  have hd := zQ (x := pF) Oi.1 (by rw [ng]; exact Oi.2)
  have Qj : pF.cps.toList.getD ((v / 7 + (0 + (i : Int))) % 62).toNat 0 ∈ pF.cps.toList := ab5 (getD_get (by rw [ow, ng]; omega))
  generalize XX : pF.cps.toList.getD ((v / 7 + (0 + (i : Int))) % 62).toNat 0 = d at hd Qj
  refine ⟨_, rfl, _, rfl, _, _, rfl, rfl, ⟨by decide, by decide⟩, _, rfl, _, _, rfl, rfl, _, _, rfl, rfl, (by show (0 : Int) < 62; decide), _, _, d, rfl, rfl, (by decide +kernel), hd, l8.2.1, ?_⟩
  refine ⟨af.a8 l8.1 ((af.trans s1 sm).free lQ) _, ae, zs ++ [d], by simp, by simp [hl], fun z hz => ?_, by rw [adG, aaj, BY, ← XX]; rfl⟩
  rcases ZY.mp hz with hz | hz
  ·exact hg z hz
  ·rw [ZX.mp hz]
   have z := Eg
   rw [abg] at z
   exact z d Qj
 obtain ⟨ks, rfl, Kx, XY, XZ⟩ := l8.2.2
 have Bg := l8.1
 have HF := l8.2.1
 refine ⟨_, rfl, D2, rfl, ⟨_, aC.of HF⟩, fun D3 Ip => ?_⟩
 obtain ⟨pa, Vp⟩ : ∃ pa : Nat, v / 33 % (v / 3 % 11 + 1) = (pa : Int) := ⟨_, (Int.toNat_of_nonneg XW.1).symm⟩
 obtain ⟨pb, X0⟩ : ∃ pb : Nat, v / 3 % 11 = ((pa + pb : Nat) : Int) := ⟨(v / 3 % 11 - pa).toNat, by omega⟩
 have Vq : D2 ≠ D3 := fun z => by rw [z, Ip] at HF; cases HF
 refine ig (K := K) (a := D2) (xs := (ks.map fun c => [c]).map tx) (by rw [Lm9, Lm9]; exact n0 (by omega))
  (fun i ys H3 => af H H3 ∧ H3 D3 = some (.lst ys) ∧ H3 D2 = some (.lst ((ks.map fun c => [c]).map tx)) ∧ ∃ zs : List (List Nat), ys = zs.map tx ∧ zs.length = i ∧ (∀ z ∈ zs, Good fs z) ∧ zs = (aaz i).map fun k : Nat => (([cs] ++ T.take pa) ++ [ks.getD k 0]) ++ (T.drop pa).take pb)
  ⟨af.a8 Bg (Bg.free Ip) _, ae, by rw [aE Vq]; exact HF, [], rfl, rfl, (fun _ z => nomatch z), rfl⟩ (fun i ys H3 De => aC.of De.2.2.1) (fun i ys H3 De => ⟨De.2.1, ?_⟩) (fun i ys H3 hi De => ?_) (fun ys H3 De => ?_)
 ·obtain ⟨zs, rfl, hl, _, _⟩ := De.2.2.2
  rw [Lm9]
  omega
 ·obtain ⟨zs, rfl, hl, hg, BY⟩ := De.2.2.2
  have hi' : i < ks.length := by simpa using hi
  have eg : ((ks.map fun c => [c]).map tx).getD i .bB = tx [ks[i]] := by
   rw [Gd9, aaK, aaK, Ge9 hi']
   rfl
  rw [eg]
  refine ⟨_, rfl, _, rfl, S fs, _, cs, rfl, rfl, Iu fs (by omega), hst, _, rfl, _, rfl, _, rfl, S T, rfl, Iu T (by omega), ?_⟩
  rw [Vp, qC (by omega), Vn]
  refine ⟨_, _, rfl, rfl, (by rw [bc, bc, aah]; exact sz (by simp; omega)), ?_⟩
  rw [lR]
  refine ⟨_, rfl, _, _, rfl, rfl, (by rw [bc, bc, Z6, aah]; exact sz (by simp; omega)), ?_⟩
  rw [lR]
  refine ⟨_, rfl, _, rfl, _, rfl, _, rfl, _, rfl, S T, rfl, Iu T (by omega), ?_⟩
  have e2 := GY (x := S T) (p := pa) (n := pb) (by rw [bc]; omega)
  rw [aZ] at e2
  rw [Vp, X0, e2]
  refine ⟨_, _, rfl, rfl, (by rw [bc, bc, Z6, Z6, aah, aah, abL]; exact sz (by simp; omega)), ?_⟩
  rw [lR]
  refine ⟨De.2.1, af.a8 De.1 (Bg.free Ip) _, ae, by rw [aE Vq]; exact De.2.2.1, zs ++ [(([cs] ++ T.take pa) ++ [ks[i]]) ++ (T.drop pa).take pb], by simp, by simp [hl], fun z hz => ?_, by rw [adG, aaj, BY]; simp only [aap, abO]; rw [Gd9 (i := i), Ge9 hi']; rfl⟩
  rcases ZY.mp hz with hz | hz
  ·exact hg z hz
  ·rw [ZX.mp hz]
   rw [abS, abS]
   refine vg Td vO ?_ ?_
   ·rw [abg] at KU ⊢
    intro y hy
    rcases ZY.mp hy with hy | hy
    ·exact KU y (aa3 hy)
    ·rcases ZY.mp hy with hy | hy
     ·rw [ZX.mp hy]
      exact XY _ (ZT hi')
     ·exact KU y (aeQ (aa3 hy))
   ·rw [Z6, Z6, aah, aah, abL]
    simp
    omega
 ·obtain ⟨zs, rfl, hl, hg, BY⟩ := De.2.2.2
  have X2 : ks.length = n := by omega
  rw [Lm9, Lm9] at BY hl
  refine q D3 zs H3 De.1 (Bg.free Ip) De.2.1 (by omega) hg ?_
  rw [BY]
  refine fc fun a b ha hb e => ?_
  have e3 : [ks.getD a 0] = [ks.getD b 0] := by
   have z := List.append_inj_left' e rfl
   exact List.append_inj_right z rfl
  have e4 : ks.getD a 0 = ks.getD b 0 := (List.cons.inj e3).1
  have gk : ∀ k, k < n → ks.getD k 0 = pF.cps.toList.getD ((v / 7 + (0 + (k : Int))) % ((62 : Nat) : Int)).toNat 0 := fun k hk => by
   rw [XZ, Gd9, aaK, List.getElem?_range (by omega)]
   rfl
  rw [gk a (by omega), gk b (by omega)] at e4
  have e5 := qD (by decide +kernel) (by rw [ow, ng]; have := mid (a := v / 7 + (0 + (a : Int))) (b := 62) (by decide); omega) (by rw [ow, ng]; have := mid (a := v / 7 + (0 + (b : Int))) (b := 62) (by decide); omega) e4
  exact Br (by omega) (by omega) e5
theorem rM : aB ["_law_cell", "_law_many"] ["_law_cell", "_law_many"] (ar gR) := ⟨rfl, rfl, rfl, by decide +kernel, rfl, by decide +kernel, by decide +kernel⟩
theorem rN (F : b6 K "_law_titles" "_law_titles" gR f fd) (bG : cA P w K mg base "_law_names" 2 ["_law_cell", "_law_many", "_law_firsts"] nh) : bD P w K mg base jP 3 f fd ["_law_cell", "_law_many"] (iQ gL.cps.toList) := by
 refine F.ok rM (fun vs H Q E h => ?_) (fun c0 A outer s H vs Q E hr h => ?_)
 ·obtain ⟨c, n, rfl, _⟩ := h
  rfl
 obtain ⟨c, n, rfl, hn, q⟩ := h
 refine ⟨_, (ak (ay (aq bG (hr.mono (by decide)) rfl (aa (pv 0) (aa (pv 1) (aa bh ag)))))), ?_⟩
 exact ⟨_, rfl, _, rfl, c, n, gL.cps.toList, (by show [V.int c, V.int n, V.str gL] = [V.int c, V.int n, V.str (S gL.cps.toList)]; rw [ve]), hn, by decide +kernel, by decide +kernel, by decide +kernel, by decide +kernel, q⟩
theorem ti : aB ["_law_cell", "_law_many"] ["_law_cell", "_law_many"] (ar jb) := ⟨rfl, rfl, rfl, by decide +kernel, rfl, by decide +kernel, by decide +kernel⟩
theorem tm (F : b6 K "_law_opens" "_law_opens" jb f fd) (bG : cA P w K mg base "_law_names" 2 ["_law_cell", "_law_many", "_law_firsts"] nh) : bD P w K mg base jP 3 f fd ["_law_cell", "_law_many"] (iQ eB.cps.toList) := by
 refine F.ok ti (fun vs H Q E h => ?_) (fun c0 A outer s H vs Q E hr h => ?_)
 ·obtain ⟨c, n, rfl, _⟩ := h
  rfl
 obtain ⟨c, n, rfl, hn, q⟩ := h
 refine ⟨_, (ak (ay (aq bG (hr.mono (by decide)) rfl (aa (pv 0) (aa (pv 1) (aa bh ag)))))), ?_⟩
 exact ⟨_, rfl, _, rfl, c, n, eB.cps.toList, (by show [V.int c, V.int n, V.str eB] = [V.int c, V.int n, V.str (S eB.cps.toList)]; rw [ve]), hn, by decide +kernel, by decide +kernel, by decide +kernel, by decide +kernel, q⟩
theorem tq : aB ["_law_cell", "_law_many"] ["_law_cell", "_law_many"] (ar jc) := ⟨rfl, rfl, rfl, by decide +kernel, rfl, by decide +kernel, by decide +kernel⟩
theorem tu (F : b6 K "_law_words" "_law_words" jc f fd) (bG : cA P w K mg base "_law_names" 2 ["_law_cell", "_law_many", "_law_firsts"] nh) : bD P w K mg base jP 3 f fd ["_law_cell", "_law_many"] (iQ LG.cps.toList) := by
 refine F.ok tq (fun vs H Q E h => ?_) (fun c0 A outer s H vs Q E hr h => ?_)
 ·obtain ⟨c, n, rfl, _⟩ := h
  rfl
 obtain ⟨c, n, rfl, hn, q⟩ := h
 refine ⟨_, (ak (ay (aq bG (hr.mono (by decide)) rfl (aa (pv 0) (aa (pv 1) (aa bh ag)))))), ?_⟩
 exact ⟨_, rfl, _, rfl, c, n, LG.cps.toList, (by show [V.int c, V.int n, V.str LG] = [V.int c, V.int n, V.str (S LG.cps.toList)]; rw [ve]), hn, by decide +kernel, by decide +kernel, by decide +kernel, by decide +kernel, q⟩
end
end iB
namespace iB
open PySem L2 cI Bk
set_option maxHeartbeats 4000000
section
variable {P : aao} {w : aaO} {K : ZQ} {mg : Str → Option ZS} {base : Heap} {f : aac} {fd : aa0} {C1 C2 : aac}
theorem l9 : aB ["_law_kinds_here", "_law_fact_here", "_law_kind"] ["_law_kinds_here", "_law_fact_here"] (ar jf) := ⟨rfl, rfl, rfl, by decide +kernel, rfl, by decide +kernel, by decide +kernel⟩
theorem tw (F : b6 K "_law_lasts" "_law_lasts" jf f fd) : bD P w K mg base jP 1 f fd ["_law_kinds_here", "_law_fact_here"] (qZ K) := by
 refine F.ok l9 (fun vs H Q E h => ?_) (fun c0 A outer s H vs Q E hr h => ?_)
 ·obtain ⟨lk, v, ks, g, rfl, _⟩ := h
  rfl
 obtain ⟨lk, v, ks, g, rfl, ⟨kvs, hk, pk⟩, nd, ⟨t, t2, rfl, h1, h2⟩, qx, qg, q⟩ := h
 refine ⟨_, (ah (cb aa5 rfl (aH (pv 0)) (bx (i := 2) l9.nd rfl (aax rfl))
 (ak (aU (aD ie (au av (pv 2) ai (fun _ _ => rfl)) (au av (pv 1) ai (fun _ _ => rfl)) (bu _))
 (ak (ay (au av (pv 2) ai (fun _ _ => rfl))))
 aA)))
 (ak (ay bC))), ?_⟩
 have zk := aad pk
 refine ⟨_, rfl, lk, rfl, ⟨_, aC.of hk⟩, bK (K := K) (a := lk) (xs := kvs) (fun i σ H' => H' = H ∧ (∀ j (hj : j < ks.length), j < i → ks[j].n ≠ g.k) ∧ ∃ o, σ = [some (.ref lk), some (.ref t), o]) ⟨rfl, (fun j _ h => absurd h (ac8 _)), none, rfl⟩ (fun i σ H' _ ⟨e, _⟩ => by rw [e]; exact aC.of hk) ?_ ?_⟩
 ·rintro i y σ H' hi ⟨rfl, vO, o, rfl⟩
  obtain ⟨Nv, ey⟩ := ax hi
  have Vr : i < ks.length := by omega
  obtain ⟨tk, et, ht⟩ := paired_at pk i Vr Nv
  rw [ey] at et
  subst et
  refine ⟨_, rfl, tk, _, 0, _, rfl, rfl, ht, rfl, _, rfl, t, _, 0, _, rfl, rfl, h1, rfl, rfl, _, rfl, ?_⟩
  by_cases hn : ks[i].n = g.k
  ·rw [decide_eq_true (show tx ks[i].n = tx g.k by rw [hn])]
   have e : decide (g.k ∈ eQ ks) = ks[i].l := by rw [← hn]; exact Hj nd Vr
   rw [e] at q
   exact dc ⟨_, rfl, tk, _, 2, _, rfl, rfl, ht, rfl, q⟩
  ·rw [decide_eq_false (fun z : tx ks[i].n = tx g.k => hn (eM (V.str.inj z)))]
   refine b5 ⟨rfl, fun j hj X4 => ?_, _, rfl⟩
   rcases Nat.lt_or_eq_of_le (ad1 X4) with z | z
   ·exact vO j hj z
   ·subst z; exact hn
 ·rintro σ H' ⟨rfl, vO, o, rfl⟩
  have e : decide (g.k ∈ eQ ks) = false := decide_eq_false fun hm => by
   unfold eQ at hm
   obtain ⟨k, Ga, Gg⟩ := Z1.mp hm
   obtain ⟨j, hj, rfl⟩ := aa2.mp (aaq.mp Ga).1
   exact vO j hj (by omega) Gg
  rw [e] at q
  exact q
end
end iB
namespace iB
open PySem L2 cI Bk
set_option maxHeartbeats 4000000
theorem Fv : ∀ c ∈ pF.cps.toList, ae3 ⟨#[c]⟩ = decide (c ∈ eB.cps.toList) := by decide +kernel
theorem KW {c : Nat} (h : m8 c = true) : c ∈ pF.cps.toList := by
 have key : ∀ c ∈ gL.cps.toList ++ (eB.cps.toList ++ Ju.cps.toList), c ∈ pF.cps.toList := by decide +kernel
 refine key c ?_
 unfold m8 at h
 rw [adD, adD] at h
 rcases h with h | h | h
 ·exact ab4 _ (of_decide_eq_true h)
 ·exact aaD _ (ab4 _ (of_decide_eq_true h))
 ·exact aaD _ (aaD _ (of_decide_eq_true h))
theorem fX {n : Cs} (h : aP n = true) : ae3 ⟨#[n.headD 0]⟩ = great n := by
 unfold aP at h
 rw [aaE, aaE] at h
 cases n with
 | nil => have := of_decide_eq_true h.1; simp at this
 | cons c r =>
  have z := abg.mp h.2.2 c (Z5 ..)
  exact Fv c (KW z)
section
variable {P : aao} {w : aaO} {K : ZQ} {mg : Str → Option ZS} {base : Heap} {f : aac} {fd : aa0} {C1 C2 : aac}
theorem gY : aB ["_law_known_here", "_law_names_here", "_law_due_here", "_law_name"] ["_law_known_here", "_law_names_here"] (ar je) := ⟨rfl, rfl, rfl, by decide +kernel, rfl, by decide +kernel, by decide +kernel⟩
theorem tD (F : b6 K "_law_known" "_law_known" je f fd) (gU : mg "list" = none) : bD P w K mg base jP 1 f fd ["_law_known_here", "_law_names_here"] (qY K) := by
 refine F.ok gY (fun vs H Q E h => ?_) (fun c0 A outer s H vs Q E hr h => ?_)
 ·obtain ⟨la, t, acc, ns, rfl, _⟩ := h
  rfl
 obtain ⟨la, t, acc, ns, rfl, PZ, ht, hn, hok, q⟩ := h
 refine ⟨_, (ah (aw (i := 2) gY.nd rfl (aax rfl) (aR dD rfl gU PyProof.Rows.Boot.«list» (aa (pv 0) ag)))
 (ah (cb aa5 rfl (fE (pv 1)) (bx (i := 3) gY.nd rfl (aax rfl))
 (ak (aU (PW.pt (u4 (bj (om aan abJ abK fJ (au fH (pv 3) ai (fun _ _ => rfl)))) (pR (aD fh (pv 3) (pv 2) (by with_unfolding_all rfl)))))
 (ak (cF (da aba aaY aa6 cR (pv 2) (aa (pv 3) ag))))
 aA)))
 (ak (ay (pv 2))))), ?_⟩
 refine ⟨_, rfl, la, _, rfl, .inl (aC.of PZ), fun l hl => ?_⟩
 have s1 : af H (upd H l (.lst (acc.map tx))) := aj hl _
 refine ⟨_, rfl, t, rfl, ⟨_, ht.same s1⟩, u5 (K := K) (a := t) (xs := ns.map tx) (fun i σ H' => af H H' ∧ H' l = some (.lst ((kn acc (ns.take i)).map tx)) ∧ ∃ o, σ = [some (.ref la), some (.ref t), some (.ref l), o]) ⟨s1, ae, none, rfl⟩ (fun i σ H' _ ⟨sm, _⟩ => ht.same sm) ?_ ?_⟩
 ·rintro i y σ H' hi ⟨sm, hL, o, rfl⟩
  obtain ⟨iD, ey⟩ := ax hi
  have Kz : i < ns.length := by simpa using iD
  have ey : tx ns[i] = y := by rw [← ey]; simp
  subst ey
  have ip := hok _ (ZT Kz)
  have hco := cM ip
  have e1 : kn acc (ns.take (i + 1)) = zu (kn acc (ns.take i)) ns[i] := by
   rw [Z4 Kz]
   unfold kn
   rw [abh]
   rfl
  have hlen := qU (ns.take i) acc
  rw [aah] at hlen
  generalize kn acc (ns.take i) = ac at e1 hlen hL ⊢
  have qx : 1 ≤ (S ns[i]).length := by
   rw [bc]
   cases hh : ns[i] with
   | nil => exact absurd hh hco.1
   | cons a r => simp
  refine ⟨_, rfl, S ns[i], 0, _, rfl, rfl, (by rw [bc]; exact sz (by have := hco.2.1; omega)), lE qx, rfl, _, rfl, rfl, _, rfl, ?_⟩
  rw [aZ, fX ip]
  by_cases hg : great ns[i] = true
  ·rw [hg]
   refine dc ?_
   refine ⟨_, rfl, _, rfl, l, _, rfl, .inl (aC.of hL), rfl, de _, _, rfl, ?_⟩
   rw [if_pos rfl, dF]
   by_cases hm : ns[i] ∈ ac
   ·rw [decide_eq_true hm]
    refine b5 ⟨sm, ?_, _, rfl⟩
    rw [hL, e1]
    unfold zu
    rw [if_pos hg, if_pos hm]
   ·rw [decide_eq_false hm]
    refine dc ⟨_, rfl, .inl ⟨rfl, _, aC.of hL⟩, _, rfl, l, _, _, rfl, rfl, hL, (by rw [Lm9, aak]; omega), ?_⟩
    refine ⟨af.a8 sm hl _, ?_, _, rfl⟩
    rw [ae, e1]
    unfold zu
    rw [if_pos hg, if_neg hm, aaj]
    rfl
  ·have hg' : great ns[i] = false := by simpa using hg
   rw [hg']
   refine b5 (b5 ⟨sm, ?_, _, rfl⟩)
   rw [hL, e1]
   unfold zu
   rw [if_neg hg]
 ·rintro σ H' ⟨sm, hL, o, rfl⟩
  rw [Lm9, aau] at hL
  exact ⟨_, rfl, q l H' sm hl hL⟩
end
end iB
namespace iB
open PySem L2 cI Bk
set_option maxHeartbeats 4000000
section
variable {P : aao} {w : aaO} {K : ZQ} {mg : Str → Option ZS} {base : Heap} {f : aac} {fd : aa0}
theorem vT {n : Cs} (h : aP n = true) : 1 ≤ (S n).length ∧ (S n).length ≤ Z2 := by
 have hco := cM h
 refine ⟨?_, by rw [bc]; exact sz (by have := hco.2.1; omega)⟩
 rw [bc]
 cases hh : n with
 | nil => exact absurd hh hco.1
 | cons a r => simp
theorem nO : aB ["_law_classes", "_law_one"] ["_law_classes"] (ar ky) := ⟨rfl, rfl, rfl, by decide +kernel, rfl, by decide +kernel, by decide +kernel⟩
theorem vU (F : b6 K "_law_torn" "_law_torn" ky f fd) (bV : mg "len" = none) (Fm : mg "set" = none) : bD P w K mg base jP 1 f fd ["_law_classes"] p6 := by
 refine F.ok nO (fun vs H Q E h => ?_) (fun c0 A outer s H vs Q E hr h => ?_)
 ·obtain ⟨lc, cl, rfl, _⟩ := h
  rfl
 obtain ⟨lc, cl, rfl, ⟨ls, hc, pc⟩, hok, q⟩ := h
 have zl := aad pc
 refine ⟨_, (ah (cb aa5 rfl (aH (pv 0)) (bx (i := 1) nO.nd rfl (aax rfl))
 (ak (aU (aD DN (aG CT rfl bV aaW (aa (aR (CS rfl) rfl Fm PyProof.Rows.Boot.«set» (aa (bo [] rfl (by kernel_rfl) (aH (pv 1)) (fun _ _ _ _ _ => (dE (dq (bj (id (α := PE _ _ (I0 K "str" zL _)) (om aan abJ abK fJ (au fH (pv 0) ai (fun _ _ => rfl)))))))) (fun _ _ _ _ _ => (pv 0))) ag)) ag)) ai (bu _))
 (ak (ay bC))
 aA)))
 (ak (ay bC))), ?_⟩
 refine ⟨_, rfl, lc, rfl, ⟨_, aC.of hc⟩, bK (K := K) (a := lc) (xs := ls.map V.ref) (fun i σ H' => af H H' ∧ bf (cl.take i) = false ∧ ∃ o, σ = [some (.ref lc), o]) ⟨af.refl _, rfl, none, rfl⟩ (fun i σ H' _ ⟨sm, _⟩ => aC.of (sm _ _ hc)) ?_ ?_⟩
 ·rintro i y σ H' hi ⟨sm, ht, o, rfl⟩
  obtain ⟨iD, ey⟩ := ax hi
  have Om : i < ls.length := by simpa using iD
  have yD : i < cl.length := by omega
  rw [Z3] at ey
  subst ey
  have mF := sm _ _ (paired_at pc i yD Om)
  have pj := hok.nm _ (ZT yD)
  have hle := hok.le _ (ZT yD)
  have Tg : bf (cl.take (i + 1)) = decide (1 < (dS ((bF cl[i]).map S)).length) := by
   rw [Z4 yD]
   unfold bf at ht ⊢
   rw [List.any_append, ht]
   simp
  have BU : bf (cl.take (i + 1)) = true → bf cl = true := fun z => by
   unfold bf at z ⊢
   obtain ⟨o', h1, h2⟩ := abb.mp z
   exact abb.mpr ⟨o', aa3 h1, h2⟩
  generalize cl[i] = one at mF pj hle Tg
  refine ⟨_, rfl, ls[i], rfl, ⟨_, aC.of mF⟩, fun D hD => ?_⟩
  refine pV (K := K) (xs := one.map tx) (n0 (by rw [Lm9]; omega)) hD (aC.of mF) CZ id (fun x H2 R hx sx hQ => ?_) (fun x H2 R hx hk sx hQ => ?_) (fun H2 s2 hL => ?_)
  ·obtain ⟨n, hn, rfl⟩ := Z1.mp hx
   obtain ⟨h1, h2⟩ := vT (pj n hn)
   refine ⟨_, rfl, S n, 0, _, rfl, rfl, h2, lE h1, rfl, _, rfl, rfl, _, rfl, ?_⟩
   have e : CZ (tx n) = !great n := by
    show (!great (S n).cps.toList) = !great n
    rw [aZ]
   have hQ := hQ _ (af.refl _)
   rw [e] at hQ
   rw [aZ, fX (pj n hn)]
   exact hQ
  ·obtain ⟨n, hn, rfl⟩ := Z1.mp hx
   exact ⟨_, rfl, hQ _ (af.refl _)⟩
  rw [abA, uP] at hL
  have hwl : (bF one).length ≤ one.length := aat _ _
  refine ⟨D, (bF one).map S, rfl, aC.of (by rw [← dI]; exact hL), (by rw [Lm9]; omega), fun p hp => ?_⟩
  have s3 := aj hp (.ext (mw P w p (dS ((bF one).map S)).length))
  refine ⟨p, _, rfl, ae, _, _, rfl, rfl, _, rfl, me (fun sW => ?_) (fun sW => ?_)⟩
  ·have sW : 1 < (dS ((bF one).map S)).length := by
    have z : (1 : Int) < ((dS ((bF one).map S)).length : Nat) := by simpa using sW
    omega
   rw [BU (by rw [Tg]; exact decide_eq_true sW)] at q
   exact q _ (af.trans sm (af.trans s2 s3))
  ·have sW : ¬ 1 < (dS ((bF one).map S)).length := by
    have z : ¬ (1 : Int) < ((dS ((bF one).map S)).length : Nat) := by simpa using sW
    omega
   exact ⟨af.trans sm (af.trans s2 s3), by rw [Tg]; exact decide_eq_false sW, _, rfl⟩
 ·rintro σ H' ⟨sm, ht, o, rfl⟩
  rw [Lm9, ← zl, aau] at ht
  rw [ht] at q
  exact q _ sm
theorem gZ : aB ["_law_classes", "_law_name", "_law_one", "_law_words_here"] ["_law_classes", "_law_name"] (ar jg) := ⟨rfl, rfl, rfl, by decide +kernel, rfl, by decide +kernel, by decide +kernel⟩
theorem tE (F : b6 K "_law_stand" "_law_stand" jg f fd) (bV : mg "len" = none) (Fj : mg "min" = none) : bD P w K mg base jP 1 f fd ["_law_classes", "_law_name"] kh := by
 refine F.ok gZ (fun vs H Q E h => ?_) (fun c0 A outer s H vs Q E hr h => ?_)
 ·obtain ⟨lc, cl, n, rfl, _⟩ := h
  rfl
 obtain ⟨lc, cl, n, rfl, ⟨ls, hc, pc⟩, hok, hn, q⟩ := h
 have zl := aad pc
 refine ⟨_, (ah (cb aa5 rfl (aH (pv 0)) (bx (i := 2) gZ.nd rfl (aax rfl))
 (ak (aU (aD ft (pv 1) (pv 2) (by with_unfolding_all rfl))
 (ah (eG (i := 3) [] gZ.nd rfl (aax rfl) rfl (by kernel_rfl) (aH (pv 2)) (fun _ _ _ _ _ => (dE (dq (bj (id (α := PE _ _ (I0 K "str" zL _)) (om aan abJ abK fJ (au fH (pv 0) ai (fun _ _ => rfl)))))))) (fun _ _ _ _ _ => (pv 0)))
 (ah (aU (aD DN (aG aM rfl bV aaW (aa (pv 3) ag)) ai (bu _))
 (ak (ay (au cG (pv 3) ai (fun _ _ => rfl))))
 aA)
 (ak (ay (aG (An rfl) rfl Fj aeI (aa (pv 2) ag))))))
 aA)))
 (ak (ay (pv 1)))), ?_⟩
 refine ⟨_, rfl, lc, rfl, ⟨_, aC.of hc⟩, bK (K := K) (a := lc) (xs := ls.map V.ref) (fun i σ H' => af H H' ∧ (cl.find? fun one => decide (n ∈ one)) = ((cl.drop i).find? fun one => decide (n ∈ one)) ∧ ∃ o o3, σ = [some (.ref lc), some (tx n), o, o3]) ⟨af.refl _, rfl, none, none, rfl⟩ (fun i σ H' _ ⟨sm, _⟩ => aC.of (sm _ _ hc)) ?_ ?_⟩
 ·rintro i y σ H' hi ⟨sm, hf, o, o3, rfl⟩
  obtain ⟨iD, ey⟩ := ax hi
  have Om : i < ls.length := by simpa using iD
  have yD : i < cl.length := by omega
  rw [Z3] at ey
  subst ey
  have mF := sm _ _ (paired_at pc i yD Om)
  have pj := hok.nm _ (ZT yD)
  have hle := hok.le _ (ZT yD)
  have hne := hok.ne _ (ZT yD)
  rw [aaw yD, aaP] at hf
  generalize cl[i] = one at mF pj hle hne hf
  refine ⟨_, rfl, _, rfl, ls[i], _, rfl, .inl (aC.of mF), rfl, de _, _, rfl, ?_⟩
  rw [dF]
  by_cases hm : n ∈ one
  ·rw [decide_eq_true hm] at hf ⊢
   have DG : Un.cls cl n = one := by rw [yj, hf]; rfl
   rw [DG] at q
   refine dc ?_
   refine ⟨_, rfl, ls[i], rfl, ⟨_, aC.of mF⟩, fun D hD => ?_⟩
   refine pV (K := K) (xs := one.map tx) (n0 (by rw [Lm9]; omega)) hD (aC.of mF) CZ id (fun x H2 R hx sx hQ => ?_) (fun x H2 R hx hk sx hQ => ?_) (fun H2 s2 hL => ?_)
   ·obtain ⟨m, hm', rfl⟩ := Z1.mp hx
    obtain ⟨h1, h2⟩ := vT (pj m hm')
    refine ⟨_, rfl, S m, 0, _, rfl, rfl, h2, lE h1, rfl, _, rfl, rfl, _, rfl, ?_⟩
    have e : CZ (tx m) = !great m := by
     show (!great (S m).cps.toList) = !great m
     rw [aZ]
    have hQ := hQ _ (af.refl _)
    rw [e] at hQ
    rw [aZ, fX (pj m hm')]
    exact hQ
   ·exact ⟨_, rfl, hQ _ (af.refl _)⟩
   rw [abA, uP] at hL
   have hwl : (bF one).length ≤ one.length := aat _ _
   refine ⟨_, rfl, D, _, rfl, .inl (aC.of hL), _, _, rfl, rfl, _, rfl, me (fun sW => ?_) (fun sW => ?_)⟩
   ·have sW : 0 < (bF one).length := by simpa using sW
    have kg : ug ((bF one).map tx) (0 : Int) = some (tx (bF one)[0]) := fg (j := 0) (by rw [aaK, Ge9 sW]; rfl)
    refine ⟨_, rfl, D, _, 0, _, rfl, rfl, aC.of hL, kg, ?_⟩
    have hw := aaq.mp (ZT sW)
    exact q _ _ (af.trans sm s2) ⟨hw.1, .inl (by simpa using hw.2)⟩
   ·have sW : (bF one).length = 0 := by
     have z : ¬ 0 < (bF one).length := by simpa using sW
     omega
    have hall : ∀ x ∈ one, great x = true := fun x hx => by
     cases g : great x with
     | true => rfl
     | false =>
      have z : x ∈ bF one := aaq.mpr ⟨hx, by rw [g]; rfl⟩
      rw [abM sW] at z
      cases z
    refine ⟨_, rfl, ls[i], one.map S, rfl, aC.of (by rw [← dI]; exact s2 _ _ mF), (by simpa using hne), fun m hm' Th => ?_⟩
    obtain ⟨r, hr', rfl⟩ := Z1.mp hm'
    exact q r _ (af.trans sm s2) ⟨hr', .inr ⟨hall, fun x hx => Th (S x) (abn hx)⟩⟩
  ·rw [decide_eq_false hm] at hf ⊢
   exact b5 ⟨sm, hf, _, _, rfl⟩
 ·rintro σ H' ⟨sm, hf, o, o3, rfl⟩
  rw [Lm9, aby (by omega)] at hf
  have DG : Un.cls cl n = [n] := by rw [yj, hf]; rfl
  rw [DG] at q
  refine ⟨_, rfl, q n _ sm ⟨ZX.mpr rfl, ?_⟩⟩
  cases g : great n with
  | false => exact .inl rfl
  | true => exact .inr ⟨fun x hx => by rw [ZX.mp hx]; exact g, fun x hx => by rw [ZX.mp hx]; exact sU.Eh n⟩
end
end iB
namespace iB
open PySem L2 cI Bk
set_option maxHeartbeats 4000000
section
variable {P : aao} {w : aaO} {K : ZQ} {mg : Str → Option ZS} {base : Heap} {f : aac} {fd : aa0}
theorem HG (a b : Cs) (one : List Cs) (r : List (List Cs)) (both : List Cs) (rest : List (List Cs)) : Un.go a b (one :: r) (both, rest) = if a ∈ one ∨ b ∈ one then Un.go a b r (both ++ one.filter (fun x => !decide (x ∈ both)), rest) else Un.go a b r (both, rest ++ [one]) := by
 simp only [Un.go]
 by_cases h : a ∈ one ∨ b ∈ one
 ·rw [if_pos h, if_pos h]
  congr 3
  refine List.filter_congr fun x _ => ?_
  by_cases hx : x ∈ both <;> simp [hx]
 ·rw [if_neg h, if_neg h]
def BZ (both : List Cs) (v : V) : Bool := !decide (v ∈ both.map tx)
theorem yE (both : List Cs) (n : Cs) : BZ both (tx n) = !decide (n ∈ both) := by
 unfold BZ
 congr 1
 exact decide_eq_decide.mpr ⟨fun h => by obtain ⟨m, hm, e⟩ := Z1.mp h; rw [← eM (V.str.inj e)]; exact hm, fun h => abn h⟩
theorem Df (both one : List Cs) : (one.map tx).filter (BZ both) = (one.filter fun x => !decide (x ∈ both)).map tx := by
 rw [adE]
 congr 1
 refine List.filter_congr fun x _ => ?_
 exact yE both x
theorem cN : aB ["_law_classes", "_law_pair", "_law_both", "_law_rest", "_law_one"] ["_law_classes", "_law_pair"] (ar gS) := ⟨rfl, rfl, rfl, by decide +kernel, rfl, by decide +kernel, by decide +kernel⟩
theorem rO (F : b6 K "_law_merged" "_law_merged" gS f fd) : bD P w K mg base jP 1 f fd ["_law_classes", "_law_pair"] (oC K) := by
 refine F.ok cN (fun vs H Q E h => ?_) (fun c0 A outer s H vs Q E hr h => ?_)
 ·obtain ⟨lc, t, cl, a, b, rfl, _⟩ := h
  rfl
 obtain ⟨lc, t, cl, a, b, rfl, ⟨ls, hc, pc⟩, hok, ht, ha, hb, hsz, q⟩ := h
 have zl := aad pc
 refine ⟨_, (ah (aw (i := 2) cN.nd rfl (ac2 rfl) (aQ (aa (au av (pv 1) ai (fun _ _ => rfl)) (aa (au av (pv 1) ai (fun _ _ => rfl)) ag))))
 (ah (aw (i := 3) cN.nd rfl (aax rfl) (aQ ag))
 (ah (cb aa5 rfl (aH (pv 0)) (bx (i := 4) cN.nd rfl (aax rfl))
 (ak (aU (PW.pt (t9 (aD ft (au av (pv 1) ai (fun _ _ => rfl)) (pv 4) (by with_unfolding_all rfl)) (qa (aD ft (au av (pv 1) ai (fun _ _ => rfl)) (pv 4) (by with_unfolding_all rfl)))))
 (ak (aw (i := 2) cN.nd rfl (ac2 rfl) (az oo (pv 2) (bo [2] rfl (by kernel_rfl) (aH (pv 4)) (fun _ _ _ _ _ => (dE (aD (r := Mn K true) fh (pv 0) (pv 1) (by with_unfolding_all rfl)))) (fun _ _ _ _ _ => (pv 0))))))
 (ak (cF (da aba aaY aa6 cR (pv 3) (aa (pv 4) ag)))))))
 (ak (ay (az oo (pv 3) (aQ (aa (pv 2) ag)))))))), ?_⟩
 refine ⟨_, rfl, t, _, 0, _, rfl, rfl, ht, rfl, ?_⟩
 refine ⟨_, rfl, t, _, 1, _, rfl, rfl, ht, rfl, (by show 2 ≤ Z2; decide), fun X5 Ti => ?_⟩
 have s1 := aj Ti (.lst [tx a, tx b])
 refine ⟨(by show 0 ≤ Z2; decide), fun lr qy => ?_⟩
 have s2 := aj qy (.lst [])
 have Dg : H lr = none := s1.free qy
 refine ⟨_, rfl, lc, rfl, ⟨_, aC.of (s2 _ _ (s1 _ _ hc))⟩, bK (K := K) (a := lc) (xs := ls.map V.ref) (fun i σ H' => af H H' ∧ ∃ (lb : aac) (both : List Cs) (rest : List (List Cs)) (rr : List aac) (o : Option V), lb ≠ lr ∧ H' lb = some (.lst (both.map tx)) ∧ H' lr = some (.lst (rr.map V.ref)) ∧ Paired (fun (one : List Cs) (l : aac) => H l = some (.lst (one.map tx))) rest rr ∧ rr.length ≤ i ∧ both.length ≤ 2 + ((cl.take i).map abl).sum ∧ Un.go a b cl ([a, b], []) = Un.go a b (cl.drop i) (both, rest) ∧ σ = [some (.ref lc), some (.ref t), some (.ref lb), some (.ref lr), o])
  ⟨af.trans s1 s2, X5, [a, b], [], [], none, (fun e => by rw [← e, ae] at qy; cases qy), s2 _ _ ae, ae, .nil, Z0 _, by simp, rfl, rfl⟩ (fun i σ H' _ ⟨sm, _⟩ => aC.of (sm _ _ hc)) ?_ ?_⟩
 ·rintro i y σ H' hi ⟨sm, lb, both, rest, rr, o, Tj, Oo, Dh, pr, Vs, ND, Co, rfl⟩
  obtain ⟨iD, ey⟩ := ax hi
  have Om : i < ls.length := by simpa using iD
  have yD : i < cl.length := by omega
  rw [Z3] at ey
  subst ey
  have Fw := paired_at pc i yD Om
  have mF := sm _ _ Fw
  have hle := hok.le _ (ZT yD)
  rw [aaw yD, HG] at Co
  have yF : ((cl.take (i + 1)).map abl).sum = ((cl.take i).map abl).sum + (cl[i]).length := by
   rw [Z4 yD, aaj, adF]
   simp
  have LV : ((cl.take i).map abl).sum ≤ (cl.map abl).sum := by
   conv => rhs; rw [← abq i cl, aaj, adF]
   omega
  generalize cl[i] = one at Fw mF hle Co yF
  have KJ := ht.same sm
  refine ⟨_, rfl, t, _, 0, _, rfl, rfl, KJ, rfl, _, rfl, ls[i], _, rfl, .inl (aC.of mF), rfl, de _, _, rfl, ?_⟩
  rw [dF]
  refine (fun (app : a ∈ one ∨ b ∈ one → _) => me (fun c1 => app ?_) (fun c1 => ⟨_, rfl, t, _, 1, _, rfl, rfl, KJ, rfl, _, rfl, ls[i], _, rfl, .inl (aC.of mF), rfl, de _, _, rfl, me (fun c2 => app ?_) (fun c2 => ?_)⟩)) ?_
  ·exact .inl (by simpa using c1)
  ·intro hab
   refine dc ?_
   rw [if_pos hab] at Co
   refine ⟨_, rfl, _, rfl, ls[i], rfl, ⟨_, aC.of mF⟩, fun D hD => ?_⟩
   refine pV (K := K) (xs := one.map tx) (n0 (by rw [Lm9]; omega)) hD (aC.of mF) (BZ both) id (fun x H2 R hx sx hQ => ?_) (fun x H2 R hx hk sx hQ => ?_) (fun H2 s3 hL => ?_)
   ·obtain ⟨m, hm', rfl⟩ := Z1.mp hx
    have hQ := hQ _ (af.refl _)
    rw [yE] at hQ
    refine ⟨_, rfl, _, rfl, lb, _, rfl, .inl (aC.of (sx _ _ Oo)), rfl, de _, _, rfl, ?_⟩
    rw [if_pos rfl, dF]
    exact hQ
   ·exact ⟨_, rfl, hQ _ (af.refl _)⟩
   rw [abA, Df] at hL
   have yt : (one.filter fun x => !decide (x ∈ both)).length ≤ one.length := aat _ _
   refine ⟨lb, D, _, _, rfl, rfl, s3 _ _ Oo, hL, (by rw [Lm9, Lm9, aak]; omega), fun l hl => ?_⟩
   rw [← aaj]
   have s4 := aj hl (.lst ((both ++ one.filter fun x => !decide (x ∈ both)).map tx))
   refine ⟨af.trans sm (af.trans s3 s4), l, _, rest, rr, _, (fun e => by rw [e, s3 _ _ Dh] at hl; cases hl), ae, s4 _ _ (s3 _ _ Dh), pr, by omega, ?_, Co, rfl⟩
   rw [Z6, yF]
   omega
  ·exact .inr (by rw [dF] at c2; simpa using c2)
  ·have hab : ¬ (a ∈ one ∨ b ∈ one) := by
    rintro (z | z)
    ·simp [z] at c1
    ·rw [dF] at c2
     simp [z] at c2
   rw [if_neg hab] at Co
   refine ⟨_, rfl, .inl ⟨rfl, _, aC.of Dh⟩, _, rfl, lr, _, _, rfl, rfl, Dh, (by rw [Lm9, aak]; omega), ?_⟩
   refine ⟨af.a8 sm Dg _, lb, both, rest ++ [one], rr ++ [ls[i]], _, Tj, by rw [aE Tj]; exact Oo, by rw [ae, aaj]; rfl, dw pr (.cons Fw .nil), by rw [Z6]; simp; omega, by rw [yF]; omega, Co, rfl⟩
 ·rintro σ H' ⟨sm, lb, both, rest, rr, o, Tj, Oo, Dh, pr, Vs, ND, Co, rfl⟩
  rw [Lm9, aby (by omega)] at Co
  have Co : Un.go a b cl ([a, b], []) = (both, rest) := Co
  refine ⟨_, rfl, _, rfl, (by show 1 ≤ Z2; decide), fun l1 qx => ?_⟩
  have s3 := aj qx (.lst [.ref lb])
  refine ⟨lr, l1, _, _, rfl, rfl, s3 _ _ Dh, ae, (by rw [Lm9, aak]; simp at Vs ⊢; omega), fun l2 qg => ?_⟩
  have s4 := aj qg (.lst (rr.map V.ref ++ [.ref lb]))
  have Oq := af.trans s3 s4
  refine q l2 _ (af.trans sm Oq) ⟨rr ++ [lb], by rw [ae, aaj]; rfl, ?_⟩
  unfold Un.merged
  rw [Co]
  exact dw (ao pr fun _ _ _ z => (af.trans sm Oq) _ _ z) (.cons (Oq _ _ Oo) .nil)
end
end iB
namespace iB
open PySem L2 cI Bk
set_option maxHeartbeats 4000000
section
variable {P : aao} {w : aaO} {K : ZQ} {mg : Str → Option ZS} {base : Heap} {f : aac} {fd : aa0}
theorem yG : aB ["_law_classes", "_law_fact_here"] ["_law_classes", "_law_fact_here"] (ar mD) := ⟨rfl, rfl, rfl, by decide +kernel, rfl, by decide +kernel, by decide +kernel⟩
theorem yH (F : b6 K "_law_now" "_law_now" mD f fd) (bH : cA P w K mg base "_law_stand" 1 ["_law_classes", "_law_name"] kh) (cq : mg "tuple" = none) : bD P w K mg base jP 2 f fd ["_law_classes", "_law_fact_here"] (Av K) := by
 refine F.ok yG (fun vs H Q E h => ?_) (fun c0 A outer s H vs Q E hr h => ?_)
 ·obtain ⟨lc, v, cl, ρ, g, rfl, _⟩ := h
  rfl
 obtain ⟨lc, v, cl, ρ, g, rfl, tF, hok, vV, ⟨t, t2, rfl, h1, h2⟩, hlen, pj, q⟩ := h
 refine ⟨_, (ak (ay (cY (aa (au av (pv 1) ai (fun _ _ => rfl)) (aa (aR bJ rfl cq PyProof.Rows.Boot.«tuple» (aa (bo [0] rfl (by kernel_rfl) (fE (au av (pv 1) ai (fun _ _ => rfl))) (fun _ _ _ _ _ => bz) (fun _ _ _ _ _ => (aq bH (hr.mono (by decide)) rfl (aa (pv 1) (aa (pv 0) ag))))) ag)) ag))))), ?_⟩
 refine ⟨_, rfl, t, _, 0, _, rfl, rfl, h1, rfl, ?_⟩
 refine ⟨_, rfl, t, _, 1, _, rfl, rfl, h1, rfl, ?_⟩
 refine ⟨t2, rfl, ⟨_, h2⟩, fun D hD => ?_⟩
 refine j6 (K := K) (xs := g.as.map tx) (gs := (g.as.map ρ).map tx) (by simp) (n0 (by rw [Lm9]; omega)) hD h2 (fun i x y H' R hxi Fi sm hQ => ?_) (fun H1 s1 hL => ?_)
 ·obtain ⟨hi, ex⟩ := ax hxi
  have hi' : i < g.as.length := by simpa using hi
  have ex : tx g.as[i] = x := by rw [← ex, Z3]
  subst ex
  obtain ⟨hj, ey⟩ := ax Fi
  have ey : tx (ρ g.as[i]) = y := by rw [← ey, Z3, Z3]
  subst ey
  refine ⟨_, rfl, _, rfl, lc, cl, g.as[i], rfl, tF.sm sm, hok, pj _ (ZT hi'), fun r H2 s2 hr' => ?_⟩
  rw [Un.iy.uniq sU (fun _ => aft) (vV.whole _) hr' (vV.rp g.as[i])]
  exact hQ _ s2
 ·refine ⟨D, _, rfl, .inl ⟨aC.of hL, fun p hp => ?_⟩⟩
  refine ⟨(by show 2 ≤ Z2; decide), fun p2 qr => ?_⟩
  refine q _ _ (af.trans s1 (af.trans (aj hp _) (aj qr _))) ⟨p2, p, rfl, aK.of ae, aK.of ?_⟩
  rw [aE (bg ae qr)]
  exact ae
theorem cV : aB ["_law_bag", "_law_once", "_law_classes", "_law_known_here", "_law_kept", "_law_fact_here", "_law_now_here", "_law_same", "_law_facts"] ["_law_bag", "_law_once", "_law_classes", "_law_known_here"] (ar kz) := ⟨rfl, rfl, rfl, by decide +kernel, rfl, by decide +kernel, by decide +kernel⟩
theorem vW (F : b6 K "_law_pool" "_law_pool" kz f fd) (dA : cA P w K mg base "_law_torn" 1 ["_law_classes"] p6) (bH : cA P w K mg base "_law_stand" 1 ["_law_classes", "_law_name"] kh) (jj : cA P w K mg base "_law_now" 2 ["_law_classes", "_law_fact_here"] (Av K)) (cq : mg "tuple" = none) (fW : mg "sorted" = none) : bD P w K mg base jP 3 f fd ["_law_bag", "_law_once", "_law_classes", "_law_known_here"] (vL K) := by
 refine F.ok cV (fun vs H Q E h => ?_) (fun c0 A outer s H vs Q E hr h => ?_)
 ·obtain ⟨lb, lo, lc, ln, cl, ρ, E8, once, nm, rfl, _⟩ := h
  rfl
 obtain ⟨lb, lo, lc, ln, cl, ρ, E8, once, nm, rfl, ⟨Tn, hb, pb⟩, ⟨Vt, ho, po⟩, tF, HH, vV, pj, hok, X6, X7, X8, X9, qb, q⟩ := h
 have zb := aad pb
 have zo := aad po
 refine ⟨_, (ah (aU (bj (aq dA (hr.mono (by decide)) rfl (aa (pv 2) ag)))
 (ak (ay (cY (aa (cY ag) (aa (cY ag) (aa (cY ag) (aa bC ag)))))))
 aA)
 (ah (aw (i := 4) cV.nd rfl (aax rfl) (aQ ag))
 (ah (cb aa5 rfl (aH (pv 1)) (bx (i := 5) cV.nd rfl (aax rfl))
 (ah (aw (i := 6) cV.nd rfl (aax rfl) (aq jj (hr.mono (by decide)) rfl (aa (pv 2) (aa (pv 5) ag))))
 (ak (aU (aD (CK hr.units) (pv 6) (pv 4) (by with_unfolding_all rfl))
 (ak (cF (da aba aaY aa6 cR (pv 4) (aa (pv 6) ag))))
 aA))))
 (ah (eG (i := 7) [2] cV.nd rfl (aax rfl) rfl (by kernel_rfl) (aH (pv 3)) (fun _ _ _ _ _ => bz) (fun _ _ _ _ _ => (cY (aa (pv 0) (aa (aq bH (hr.mono (by decide)) rfl (aa (pv 1) (aa (pv 0) ag))) ag)))))
 (ah (aw (i := 8) cV.nd rfl (aax rfl) (aG (fi hr.units) rfl fW abr (aa (bo [2] rfl (by kernel_rfl) (aH (pv 0)) (fun _ _ _ _ _ => bz) (fun _ _ _ _ _ => (aq jj (hr.mono (by decide)) rfl (aa (pv 1) (aa (pv 0) ag))))) ag)))
 (ak (ay (cY (aa (aR bJ rfl cq PyProof.Rows.Boot.«tuple» (aa (pv 8) ag)) (aa (aR bJ rfl cq PyProof.Rows.Boot.«tuple» (aa (aG (fi hr.units) rfl fW abr (aa (pv 4) ag)) ag)) (aa (aR bJ rfl cq PyProof.Rows.Boot.«tuple» (aa (aG (fi hr.units) rfl fW abr (aa (pv 7) ag)) ag)) (aa bC ag)))))))))))), ?_⟩
 refine ⟨_, rfl, lc, cl, rfl, tF, HH, fun H0 s0 => ⟨_, rfl, ?_⟩⟩
 cases yz : bf cl with
 | true =>
  refine dc ⟨(by show 0 ≤ Z2; decide), fun u0 S6 => ⟨(by show 0 ≤ Z2; decide), fun u1 Qg => ⟨(by show 0 ≤ Z2; decide), fun u2 Qh => ⟨(by show 4 ≤ Z2; decide), fun u3 Ya => ?_⟩⟩⟩⟩
  have y0 := aj S6 (.tup [])
  have y1 := aj Qg (.tup [])
  have y2 := aj Qh (.tup [])
  have y3 := aj Ya (.tup [.ref u0, .ref u1, .ref u2, .bl true])
  exact qb yz u3 u0 u1 u2 _ (af.trans s0 (af.trans y0 (af.trans y1 (af.trans y2 y3)))) ae (y3 _ _ (y2 _ _ (y1 _ _ ae))) (y3 _ _ (y2 _ _ ae)) (y3 _ _ ae)
 | false =>
 refine b5 ?_
 have vV := vV yz
 have q : ∀ (v : V) (H' : Hp), af H0 H' → eR K H' v (aI ((E8.map (wf ρ)).map fT)) (aI (dd ((once.map (wf ρ)).map fT))) (aI ((nm.map fun n => (n, ρ n)).map pE)) → Q v H' := fun v H' s => q yz v H' (af.trans s0 s)
 clear qb
 have hb := s0 _ _ hb
 have ho := s0 _ _ ho
 have tF := tF.sm s0
 have pj := s0 _ _ pj
 have pb : Paired (Fact K H0) E8 Tn := ao pb fun _ _ _ => Fact.sm s0
 have po : Paired (Fact K H0) once Vt := ao po fun _ _ _ => Fact.sm s0
 clear s0
 generalize H0 = H at *
 refine ⟨(by show 0 ≤ Z2; decide), fun lk Qk => ?_⟩
 refine ⟨_, rfl, lo, rfl, ⟨_, aC.of (aj Qk _ _ _ ho)⟩, bK (K := K) (a := lo) (xs := Vt) (fun i σ H' => af H H' ∧ (∃ yk, H' lk = some (.lst yk) ∧ Ts K H' (dd (((once.take i).map (wf ρ)).map fT)) yk) ∧ ∃ o5 o6, σ = [some (.ref lb), some (.ref lo), some (.ref lc), some (.ref ln), some (.ref lk), o5, o6, none, none])
  ⟨aj Qk _, ⟨[], ae, rfl, fun i h => by simp [dd] at h⟩, none, none, rfl⟩ (fun i σ H' _ ⟨sm, _⟩ => aC.of (sm _ _ ho)) ?_ ?_⟩
 ·rintro i y σ H' hi ⟨sm, ⟨yk, To, Ql⟩, o5, o6, rfl⟩
  obtain ⟨iD, ey⟩ := ax hi
  have xj : i < once.length := by omega
  have hFa := Fact.sm sm (paired_at po i xj iD)
  rw [ey] at hFa
  have Hx := hok _ (ZY.mpr (.inr (ZT xj)))
  refine ⟨_, rfl, _, rfl, lc, y, cl, ρ, once[i], rfl, tF.sm sm, HH, vV, hFa, Hx.1, Hx.2, fun v' H2 s2 Vu => ?_⟩
  have Di := s2 _ _ To
  have HI := bq s2 Ql
  have sB := af.trans sm s2
  have P0 : ∀ t ∈ dd (((once.take i).map (wf ρ)).map fT), (∃ q, t = .tup q) ∧ t.toD.deep ≤ 8 := fun u hu => by
   obtain ⟨g, rfl⟩ := uI hu
   exact ⟨⟨_, rfl⟩, by unfold fT; rw [dz]; decide⟩
  refine ⟨_, rfl, _, rfl, lk, yk, _, _, rfl, aC.of Di, HI, Fact.Hh Vu, (by show (fT (wf ρ once[i])).toD.deep ≤ 8; unfold fT; rw [dz]; decide), P0, _, rfl, ?_⟩
  have e2 : dd (((once.take (i + 1)).map (wf ρ)).map fT) = og (dd (((once.take i).map (wf ρ)).map fT)) (fT (wf ρ once[i])) := by
   rw [Z4 xj, aaj, aaj]
   exact Kf _ _
  show if (!(dd (((once.take i).map (wf ρ)).map fT)).any fun a => eqT a (fT (wf ρ once[i]))) = true then _ else _
  cases ha : (dd (((once.take i).map (wf ρ)).map fT)).any fun a => eqT a (fT (wf ρ once[i])) with
  | true =>
   refine b5 ⟨sB, ⟨yk, Di, ?_⟩, _, _, rfl⟩
   rw [e2]
   unfold og
   rw [if_pos ha]
   exact HI
  | false =>
   have z1 := jZ (((once.take i).map (wf ρ)).map fT) _ (Z0 _)
   rw [aau, Lm9, Lm9, aah] at z1
   have z3 := HI.1
   refine dc ⟨_, rfl, .inl ⟨rfl, _, aC.of Di⟩, _, rfl, lk, _, _, rfl, rfl, Di, (by rw [aak]; omega), ?_⟩
   refine ⟨af.a8 sB Qk _, ⟨_, ae, ?_⟩, _, _, rfl⟩
   rw [e2]
   unfold og
   rw [if_neg (by rw [ha]; decide)]
   exact Ke (Hk Di HI) (Fact.Hh (CL Di Vu))
 ·rintro σ H' ⟨sm, ⟨yk, To, Ql⟩, o5, o6, rfl⟩
  rw [← zo, aau] at Ql
  have Bf := sm _ _ pj
  refine ⟨_, rfl, ln, rfl, ⟨_, aC.of Bf⟩, fun D hD => ?_⟩
  refine fK (K := K) (xs := nm.map tx) nm (fun _ H n y => ∃ t, y = .ref t ∧ aK K H t [tx n, tx (ρ n)]) (fun _ _ _ _ _ k ⟨t, e, h⟩ => ⟨t, e, aK.keep k h⟩) (fun _ _ _ _ _ _ h => h) (n0 (by rw [Lm9]; omega)) hD (aC.of Bf) (by rw [Lm9]) (fun i x b H2 R hx hb' s2 hQ => ?_) (fun H2 yn s2 hL Vv => ?_)
  ·obtain ⟨fb, eb⟩ := ax hb'
   have ex : x = tx b := by
    rw [aaK, hb'] at hx
    cases hx
    rfl
   subst ex
   refine ⟨_, rfl, _, rfl, _, rfl, lc, cl, b, rfl, (tF.sm sm).sm s2, HH, X6 b (by rw [← eb]; exact ZT fb), fun r H3 s3 hr' => ⟨(by show 2 ≤ Z2; decide), fun p hp => ?_⟩⟩
   rw [Un.iy.uniq sU (fun _ => aft) (vV.whole _) hr' (vV.rp b)]
   exact hQ _ _ (af.trans s3 (aj hp _)) ⟨p, rfl, aK.of ae⟩
  have z0 := aad Vv
  have sC := af.trans sm s2
  have G9 := sC _ _ hb
  have Yb : Paired (Fact K H2) E8 Tn := ao pb fun _ _ _ => Fact.sm sC
  refine ⟨_, rfl, lb, rfl, ⟨_, aC.of G9⟩, fun D2 lQ => ?_⟩
  refine fK (K := K) (xs := Tn) E8 (fun _ H f y => Fact K H (wf ρ f) y) (fun _ _ _ _ _ k h => Fact.keep k h) (fun _ _ _ _ _ _ h => h) (n0 (by omega)) lQ (aC.of G9) zb (fun i x b H3 R hx hb' s3 hQ => ?_) (fun H3 yb s3 LW Qm => ?_)
  ·obtain ⟨hi, ex⟩ := ax hx
   obtain ⟨fb, eb⟩ := ax hb'
   have hFa := Fact.sm s3 (paired_at Yb i fb hi)
   rw [ex, eb] at hFa
   have Hx := hok b (ZY.mpr (.inl (by rw [← eb]; exact ZT fb)))
   exact ⟨_, rfl, _, rfl, lc, x, cl, ρ, b, rfl, (tF.sm sC).sm s3, HH, vV, hFa, Hx.1, Hx.2, fun v' H4 s4 hF => hQ _ _ s4 hF⟩
  have Qm : Paired (Fact K H3) (E8.map (wf ρ)) yb := uQ Qm
  have allB : ∀ (gs : List Fc), ∀ t ∈ gs.map fT, sj t = 1 ∧ t.toD.deep ≤ 18 := fun gs t ht => by
   obtain ⟨g, _, rfl⟩ := Z1.mp ht
   exact x4 g
  have S3 : ∀ (gs : List Fc), ∀ t ∈ gs.map fT, ∀ u ∈ gs.map fT, oU t u = true := fun gs t ht u hu => by
   obtain ⟨g, _, rfl⟩ := Z1.mp ht
   obtain ⟨g2, _, rfl⟩ := Z1.mp hu
   exact BH g g2
  have Yc := aad Qm
  rw [Lm9] at Yc
  refine ⟨D2, yb, _, 1, rfl, aC.of LW, qW Qm, (by omega), .inl rfl, allB _, S3 _, fun a0 r0 S4 hr0 => ?_⟩
  have S5 := aj S4 (.lst r0)
  refine ⟨_, rfl, a0, r0, rfl, .inl ⟨aC.of ae, fun t0 Yd => ?_⟩⟩
  have s4 : af H3 (upd (upd H3 a0 (.lst r0)) t0 (.tup r0)) := af.trans S5 (aj Yd _)
  have Ot := ae (H := upd H3 a0 (.lst r0)) (a := t0) (o := .tup r0)
  have Ou := bq s4 hr0
  generalize upd (upd H3 a0 (.lst r0)) t0 (.tup r0) = H4 at s4 Ot Ou ⊢
  have sD := af.trans s2 (af.trans s3 s4)
  have Ov := bq sD Ql
  have z3 := jZ ((once.map (wf ρ)).map fT) _ (Z0 _)
  rw [aau, Lm9, Lm9] at z3
  have z5 := Ov.1
  refine ⟨_, rfl, lk, yk, _, 1, rfl, aC.of (sD _ _ To), Ov, (by omega), .inl rfl, (fun t ht => by obtain ⟨g, rfl⟩ := uI ht; exact x4 g), (fun t ht u hu => by obtain ⟨g, rfl⟩ := uI ht; obtain ⟨g2, rfl⟩ := uI hu; exact BH g g2), fun a1 r1 LJ hr1 => ?_⟩
  have Ta := aj LJ (.lst r1)
  refine ⟨a1, r1, rfl, .inl ⟨aC.of ae, fun t1 Ow => ?_⟩⟩
  have s5 : af H4 (upd (upd H4 a1 (.lst r1)) t1 (.tup r1)) := af.trans Ta (aj Ow _)
  have Ox := ae (H := upd H4 a1 (.lst r1)) (a := t1) (o := .tup r1)
  have Dc := bq s5 hr1
  generalize upd (upd H4 a1 (.lst r1)) t1 (.tup r1) = H5 at s5 Ox Dc ⊢
  have sE := af.trans s3 (af.trans s4 s5)
  have Ye : Ts K H5 ((nm.map fun n => (n, ρ n)).map pE) yn := by
   refine ⟨by rw [Lm9, Lm9]; omega, fun i h1 h2 => ?_⟩
   rw [Z3, Z3]
   obtain ⟨t, et, ht⟩ := paired_at Vv i (by simpa using h1) h2
   rw [et]
   show cC K H5 (.tup [.str (S _), .str (S _)]) (.ref t)
   refine .tup (ht.same sE) rfl fun j j1 j2 => ?_
   match j, j1, j2 with
   | 0, _, _ => exact .str _
   | 1, _, _ => exact .str _
  refine ⟨_, rfl, D, yn, _, 1, rfl, aC.of (sE _ _ hL), Ye, (by omega), .inl rfl, (fun t ht => by obtain ⟨g, _, rfl⟩ := Z1.mp ht; exact ⟨rfl, by show 1 ≤ 18; decide⟩), (fun t ht u hu => by obtain ⟨g, _, rfl⟩ := Z1.mp ht; obtain ⟨g2, _, rfl⟩ := Z1.mp hu; rfl), fun a2 r2 LK Dw => ?_⟩
  have Yf := aj LK (.lst r2)
  refine ⟨a2, r2, rfl, .inl ⟨aC.of ae, fun t2 Ky => ?_⟩⟩
  have s6 : af H5 (upd (upd H5 a2 (.lst r2)) t2 (.tup r2)) := af.trans Yf (aj Ky _)
  have Oy := ae (H := upd H5 a2 (.lst r2)) (a := t2) (o := .tup r2)
  have hr2' := bq s6 Dw
  generalize upd (upd H5 a2 (.lst r2)) t2 (.tup r2) = H6 at s6 Oy hr2' ⊢
  refine ⟨(by show 4 ≤ Z2; decide), fun p hp => ?_⟩
  have s7 : af H6 (upd H6 p (.tup [.ref t0, .ref t1, .ref t2, .bl false])) := aj hp _
  exact q _ _ (af.trans sC (af.trans sE (af.trans s6 s7))) ⟨p, t0, t1, t2, r0, r1, r2, rfl, aK.of ae, aK.of (s7 _ _ (s6 _ _ (s5 _ _ Ot))), bq (af.trans s5 (af.trans s6 s7)) Ou, aK.of (s7 _ _ (s6 _ _ Ox)), bq (af.trans s6 s7) Dc, aK.of (s7 _ _ Oy), bq s7 hr2'⟩
end
end iB
namespace iB
open PySem L2 cI Bk
set_option maxHeartbeats 4000000
section
variable {P : aao} {w : aaO} {K : ZQ} {mg : Str → Option ZS} {base : Heap} {f : aac} {fd : aa0} {Cs : Nat → aac} {CP b1 : aac}
theorem ni {t : ZS} : acj K t t = some true := by
 unfold acj
 rw [if_pos (beq_self_eq_true t)]
theorem pN : aB ["_law_found", "_law_due_here"] ["_law_found", "_law_due_here"] (ar fS) := ⟨rfl, rfl, rfl, by decide +kernel, rfl, by decide +kernel, by decide +kernel⟩
theorem pO (F : b6 K "_law_is_pool" "_law_is_pool" fS f fd) (fj : mg "isinstance" = none) (cq : mg "tuple" = none) (KY : mg "bool" = none) (bV : mg "len" = none) : bD P w K mg base jP 1 f fd ["_law_found", "_law_due_here"] (rl K) := by
 refine F.ok pN (fun vs H Q E h => ?_) (fun c0 A outer s H vs Q E hr h => ?_)
 ·obtain ⟨p, u, z0, z1, z2, b, ds, rfl, _⟩ := h
  rfl
 obtain ⟨p, u, z0, z1, z2, b, ds, rfl, hp, d1, d2, LI, q⟩ := h
 refine ⟨_, (ah (aU (PW.pt (t9 (dq (bj (aG vf rfl fj acp (aa (pv 0) (aa (uZ rfl cq PyProof.Rows.Boot.«tuple» (v := .ty "tuple") rfl) ag))))) (t9 (aD ub (aG aM rfl bV aaW (aa (pv 0) ag)) ai (bu _)) (qa (dq (bj (aG oO rfl fj acp (aa (au av (pv 0) ai (fun _ _ => rfl)) (aa (uZ rfl KY PyProof.Rows.boot_bool (v := .ty "bool") rfl) ag)))))))))
 (ak (ay bC))
 aA)
 (ak (ay (Ba (Je hr.units) (pv 0) (pv 1) (bu _))))), ?_⟩
 refine ⟨_, rfl, p, _, "tuple", true, rfl, hp, ni, _, rfl, b5 ?_⟩
 refine ⟨_, rfl, p, _, rfl, .inr hp, rfl, _, rfl, ?_⟩
 rw [decide_eq_true (show V.int (([z0, z1, z2, .bl b].length : Nat) : Int) = V.int 4 from rfl)]
 refine b5 ?_
 refine ⟨_, rfl, p, _, 3, _, rfl, rfl, hp, rfl, .bl b, "bool", _, true, rfl, .bl _, ni, _, rfl, b5 ?_⟩
 refine ⟨_, rfl, _, rfl, _, _, d1, d2, LI, ⟨_, rfl⟩, ⟨_, rfl⟩, ?_⟩
 rw [nE]
 exact q
end
end iB
namespace iB
open PySem L2 cI Bk
set_option maxHeartbeats 4000000
section
variable {P : aao} {w : aaO} {K : ZQ} {mg : Str → Option ZS} {base : Heap} {f : aac} {fd : aa0}
theorem fact_words {g : Fc} (h : FN g) : ((g.as.map S).map (·.length)).sum + (g.as.map S).length * (aae ",").length ≤ 16777216 := by
 have z := iP h.Ho
 have z2 := h.n
 have e : (aae ",").length = 1 := by decide +kernel
 rw [Lm9, e]
 have : g.as.length * 12 ≤ 4 * 12 := Nat.mul_le_mul_right _ z2
 omega
theorem vX : aae "," = (⟨#[44]⟩ : Str) := by decide +kernel
theorem yI (k : Cs) (as : List Cs) : S k ++ aae "(" ++ ad7 (aae ",") (as.map S) ++ aae ")" = S (((k ++ [40]) ++ qE 44 as) ++ [41]) := by
 have e1 : aae "(" = S [40] := by decide +kernel
 have e2 : aae ")" = S [41] := by decide +kernel
 rw [e1, e2, vX, vh, lR, lR, lR]
theorem vY : aB ["fact"] ["fact"] (ar kj) := ⟨rfl, rfl, rfl, by decide +kernel, rfl, by decide +kernel, by decide +kernel⟩
theorem vZ (F : b6 K "fact_text" "fact_text" kj f fd) (bV : mg "len" = none) : bD P w K mg base jP 1 f fd ["fact"] (uR K) := by
 refine F.ok vY (fun vs H Q E h => ?_) (fun c0 A outer s H vs Q E hr h => ?_)
 ·obtain ⟨v, g, rfl, _⟩ := h
  rfl
 obtain ⟨v, g, rfl, ⟨t, t2, rfl, h1, h2⟩, hg, q⟩ := h
 refine ⟨_, (ah (aU (aD ie (aG aM rfl bV aaW (aa (au av (pv 0) ai (fun _ _ => rfl)) ag)) ai (bu _))
 (ak (ay (au av (pv 0) ai (fun _ _ => rfl))))
 aA)
 (ak (ay (az aO (az aO (az aO (au av (pv 0) ai (fun _ _ => rfl)) bh) (da aan aaF aaG cT bh (aa (au av (pv 0) ai (fun _ _ => rfl)) ag))) bh)))), ?_⟩
 have hk := hg.Kr
 have hj := nG g.as hg.Ho
 have hn := hg.n
 refine ⟨_, rfl, t, _, 1, _, rfl, rfl, h1, rfl, t2, _, rfl, .inr h2, rfl, _, rfl, ?_⟩
 rw [Lm9]
 unfold aN at q
 by_cases e : g.as = []
 ·rw [if_pos e] at q
  rw [e]
  exact dc ⟨_, rfl, t, _, 0, _, rfl, rfl, h1, rfl, q⟩
 ·rw [if_neg e] at q
  have z : decide (V.int (g.as.length : Int) = V.int 0) = false := by
   refine decide_eq_false fun z => e ?_
   have z' : (g.as.length : Int) = 0 := by injection z
   exact abM (by omega)
  rw [z]
  have Yg : (ad7 (aae ",") (g.as.map S)).length ≤ 100 := by rw [vX, vh, bc]; omega
  refine b5 ⟨_, rfl, t, _, 0, _, rfl, rfl, h1, rfl, _, _, rfl, rfl, ?_, ?_⟩
  ·rw [bc, aak]; have : (aae "(").length = 1 := by decide +kernel
   omega
  refine ⟨rfl, _, rfl, t, _, 1, _, rfl, rfl, h1, rfl, _, t2, g.as.map S, rfl, rfl, .inr (by rw [← dI]; exact h2), fact_words hg, _, _, rfl, rfl, ?_, _, _, rfl, rfl, ?_, ?_⟩
  ·rw [strLen_append, bc, aak]
   have : (aae "(").length = 1 := by decide +kernel
   omega
  ·rw [strLen_append, strLen_append, bc, aak]
   have : (aae "(").length = 1 := by decide +kernel
   have : (aae ")").length = 1 := by decide +kernel
   omega
  ·rw [yI]
   exact q
theorem nP : aB ["_law_fact_here"] ["_law_fact_here"] (ar eE) := ⟨rfl, rfl, rfl, by decide +kernel, rfl, by decide +kernel, by decide +kernel⟩
theorem nQ (F : b6 K "_law_fact_text" "_law_fact_text" eE f fd) (bV : mg "len" = none) : bD P w K mg base jP 1 f fd ["_law_fact_here"] (uR K) := by
 refine F.ok nP (fun vs H Q E h => ?_) (fun c0 A outer s H vs Q E hr h => ?_)
 ·obtain ⟨v, g, rfl, _⟩ := h
  rfl
 obtain ⟨v, g, rfl, ⟨t, t2, rfl, h1, h2⟩, hg, q⟩ := h
 refine ⟨_, (ah (aU (aD ie (aG aM rfl bV aaW (aa (au av (pv 0) ai (fun _ _ => rfl)) ag)) ai (bu _))
 (ak (ay (au av (pv 0) ai (fun _ _ => rfl))))
 aA)
 (ak (ay (az aO (az aO (az aO (au av (pv 0) ai (fun _ _ => rfl)) bh) (da aan aaF aaG cT bh (aa (au av (pv 0) ai (fun _ _ => rfl)) ag))) bh)))), ?_⟩
 have hk := hg.Kr
 have hj := nG g.as hg.Ho
 have hn := hg.n
 refine ⟨_, rfl, t, _, 1, _, rfl, rfl, h1, rfl, t2, _, rfl, .inr h2, rfl, _, rfl, ?_⟩
 rw [Lm9]
 unfold aN at q
 by_cases e : g.as = []
 ·rw [if_pos e] at q
  rw [e]
  exact dc ⟨_, rfl, t, _, 0, _, rfl, rfl, h1, rfl, q⟩
 ·rw [if_neg e] at q
  have z : decide (V.int (g.as.length : Int) = V.int 0) = false := by
   refine decide_eq_false fun z => e ?_
   have z' : (g.as.length : Int) = 0 := by injection z
   exact abM (by omega)
  rw [z]
  have Yg : (ad7 (aae ",") (g.as.map S)).length ≤ 100 := by rw [vX, vh, bc]; omega
  refine b5 ⟨_, rfl, t, _, 0, _, rfl, rfl, h1, rfl, _, _, rfl, rfl, ?_, ?_⟩
  ·rw [bc, aak]; have : (aae "(").length = 1 := by decide +kernel
   omega
  refine ⟨rfl, _, rfl, t, _, 1, _, rfl, rfl, h1, rfl, _, t2, g.as.map S, rfl, rfl, .inr (by rw [← dI]; exact h2), fact_words hg, _, _, rfl, rfl, ?_, _, _, rfl, rfl, ?_, ?_⟩
  ·rw [strLen_append, bc, aak]
   have : (aae "(").length = 1 := by decide +kernel
   omega
  ·rw [strLen_append, strLen_append, bc, aak]
   have : (aae "(").length = 1 := by decide +kernel
   have : (aae ")").length = 1 := by decide +kernel
   omega
  ·rw [yI]
   exact q
theorem tG : aB ["facts"] ["facts"] (ar i7) := ⟨rfl, rfl, rfl, by decide +kernel, rfl, by decide +kernel, by decide +kernel⟩
theorem tI (F : b6 K "facts_text" "facts_text" i7 f fd) (gI : cA P w K mg base "fact_text" 1 ["fact"] (uR K)) : bD P w K mg base jP 2 f fd ["facts"] (Aw K) := by
 refine F.ok tG (fun vs H Q E h => ?_) (fun c0 A outer s H vs Q E hr h => ?_)
 ·obtain ⟨a, xs, fs, rfl, _⟩ := h
  rfl
 obtain ⟨a, xs, fs, rfl, hx, pf, hg, hn, q⟩ := h
 have zl := aad pf
 have Vw : ((fs.map aN).map tx).length = xs.length := by simpa using zl
 have yF : (((fs.map aN).map S).map (·.length)).sum + ((fs.map aN).map S).length * (aae ", ").length ≤ 16777216 := by
  have z := iP (as := fs.map aN) (B := 70) fun l hl => by
   obtain ⟨g, hg', rfl⟩ := Z1.mp hl
   exact fB (hg g hg')
  have e : (aae ", ").length = 2 := by decide +kernel
  rw [Lm9, Lm9, e]
  rw [Lm9] at z
  omega
 rcases hx with hx | hx
 ·refine ⟨_, (ak (ay (da aan aaF aaG cT bh (aa (bo [] rfl (by kernel_rfl) (aH (pv 0)) (fun _ _ _ _ _ => bz) (fun _ _ _ _ _ => (aq gI (hr.mono (by decide)) rfl (aa (pv 0) ag)))) ag)))), ?_⟩
  refine ⟨rfl, _, rfl, a, rfl, ⟨_, hx⟩, fun D hD => ?_⟩
  refine EZ (K := K) (xs := xs) (gs := (fs.map aN).map tx) Vw (n0 (by omega)) hD hx (fun i x g H' R hxi Fi sm hQ => ?_) (fun H2 s2 hL => ?_)
  ·obtain ⟨hi, ex⟩ := ax hxi
   have iD : i < fs.length := by omega
   have hF := Fact.sm sm (paired_at pf i iD hi)
   rw [ex] at hF
   obtain ⟨zP, eg⟩ := ax Fi
   have eg : tx (aN fs[i]) = g := by rw [← eg, Z3, Z3]
   exact ⟨_, rfl, x, fs[i], rfl, hF, hg _ (ZT iD), by rw [eg]; exact hQ _ (af.refl _)⟩
  ·refine ⟨_, D, (fs.map aN).map S, rfl, rfl, .inl (aC.of (by rw [← dI]; exact hL)), yF, ?_⟩
   rw [oA]
   exact q _ s2
 ·refine ⟨_, (ak (ay (da aan aaF aaG cT bh (aa (bo [] rfl (by kernel_rfl) (fE (pv 0)) (fun _ _ _ _ _ => bz) (fun _ _ _ _ _ => (aq gI (hr.mono (by decide)) rfl (aa (pv 0) ag)))) ag)))), ?_⟩
  refine ⟨rfl, _, rfl, a, rfl, ⟨_, hx⟩, fun D hD => ?_⟩
  refine j6 (K := K) (xs := xs) (gs := (fs.map aN).map tx) Vw (n0 (by omega)) hD hx (fun i x g H' R hxi Fi sm hQ => ?_) (fun H2 s2 hL => ?_)
  ·obtain ⟨hi, ex⟩ := ax hxi
   have iD : i < fs.length := by omega
   have hF := Fact.sm sm (paired_at pf i iD hi)
   rw [ex] at hF
   obtain ⟨zP, eg⟩ := ax Fi
   have eg : tx (aN fs[i]) = g := by rw [← eg, Z3, Z3]
   exact ⟨_, rfl, x, fs[i], rfl, hF, hg _ (ZT iD), by rw [eg]; exact hQ _ (af.refl _)⟩
  ·refine ⟨_, D, (fs.map aN).map S, rfl, rfl, .inl (aC.of (by rw [← dI]; exact hL)), yF, ?_⟩
   rw [oA]
   exact q _ s2
end
end iB
namespace iB
open PySem L2 cI Bk
set_option maxHeartbeats 4000000
section
variable {P : aao} {w : aaO} {K : ZQ} {mg : Str → Option ZS} {base : Heap} {f : aac} {fd : aa0} {C1 C2 : aac}
theorem v8 {α : Type} {xs : List α} {v : Int} (h : 1 ≤ xs.length) : ∃ (j : Nat) (hj : j < xs.length), ug xs (v % (xs.length : Int)) = some xs[j] := by
 have hp : (0 : Int) < (xs.length : Int) := by omega
 have md := mid (a := v) hp
 refine ⟨(v % (xs.length : Int)).toNat, by omega, ?_⟩
 have z := fg (xs := xs) (j := (v % (xs.length : Int)).toNat) (v := xs[(v % (xs.length : Int)).toNat]'(by omega)) (by rw [Ge9])
 rw [show (((v % (xs.length : Int)).toNat : Nat) : Int) = v % (xs.length : Int) by omega] at z
 exact z
theorem cu : aB ["_law_kinds_here", "_law_names_here", "_law_cell", "_law_number", "_law_kind", "_law_args", "_law_k"] ["_law_kinds_here", "_law_names_here", "_law_cell"] (ar ku) := ⟨rfl, rfl, rfl, by decide +kernel, rfl, by decide +kernel, by decide +kernel⟩
theorem v9 (F : b6 K "_law_fact" "_law_fact" ku f fd) (bA : cA P w K mg base "_law_mix" 1 ["_law_cell", "_law_k"] uw) (bV : mg "len" = none) (gG : mg "range" = none) (cq : mg "tuple" = none) : bD P w K mg base jP 2 f fd ["_law_kinds_here", "_law_names_here", "_law_cell"] (vD K) := by
 refine F.ok cu (fun vs H Q E h => ?_) (fun c0 A outer s H vs Q E hr h => ?_)
 ·obtain ⟨lk, ln, c, ks, ns, rfl, _⟩ := h
  rfl
 obtain ⟨lk, ln, c, ks, ns, rfl, ⟨kvs, hk, pk⟩, h4, Fn, Bf, GH, q⟩ := h
 have zk := aad pk
 have ZG := h4.len
 refine ⟨_, (ah (aw (i := 3) cu.nd rfl (aax rfl) (aq bA (hr.mono (by decide)) rfl (aa (pv 2) (aa ai ag))))
 (ah (aw (i := 4) cu.nd rfl (aax rfl) (au cG (pv 0) (az bL (pv 3) (aG aM rfl bV aaW (aa (pv 0) ag))) (fun _ _ => rfl)))
 (ah (aw (i := 3) cu.nd rfl (aax rfl) (az cc (pv 3) ai))
 (ah (aw (i := 5) cu.nd rfl (aax rfl) (aQ ag))
 (ah (cb aa5 rfl (fq rfl gG (aa (au av (pv 4) ai (fun _ _ => rfl)) ag)) (bx (i := 6) cu.nd rfl (aax rfl))
 (ah (cF (da aba aaY aa6 cR (pv 5) (aa (au cG (pv 1) (az bL (pv 3) (aG aM rfl bV aaW (aa (pv 1) ag))) (fun _ _ => rfl)) ag)))
 (ak (aw (i := 3) cu.nd rfl (aax rfl) (az iI (az cc (pv 3) (aG aM rfl bV aaW (aa (pv 1) ag))) (az qd ai (pv 6)))))))
 (ak (ay (cY (aa (au av (pv 4) ai (fun _ _ => rfl)) (aa (aR bJ rfl cq PyProof.Rows.Boot.«tuple» (aa (pv 5) ag)) ag)))))))))), ?_⟩
 refine ⟨_, rfl, c, 2, rfl, by decide, by decide, fun v H1 s1 v0 => ?_⟩
 obtain ⟨j, hj, ej⟩ := v8 (xs := kvs) (v := v) (by omega)
 refine ⟨_, rfl, _, rfl, _, rfl, lk, _, rfl, .inl (aC.of (s1 _ _ hk)), _, _, rfl, rfl, (by show (0 : Int) < (kvs.length : Int); omega), lk, _, _, _, rfl, rfl, aC.of (s1 _ _ hk), ej, ?_⟩
 have Tp : j < ks.length := by omega
 obtain ⟨tk, et, ht⟩ := paired_at pk j Tp hj
 rw [et]
 have Ow := ht.same s1
 have Yh := h4.ok _ (ZT Tp)
 refine ⟨_, rfl, _, _, rfl, rfl, ⟨by decide, by decide⟩, ?_⟩
 refine ⟨(by show 0 ≤ Z2; decide), fun l hl => ?_⟩
 have s2 : af H1 (upd H1 l (.lst [])) := aj hl _
 have sA := af.trans s1 s2
 have Vx : H l = none := s1.free hl
 have Yi := ae (H := H1) (a := l) (o := .lst [])
 refine ⟨_, rfl, tk, _, 1, _, rfl, rfl, Ow.same s2, rfl, ?_⟩
 have Vy := Yh.2
 refine ⟨(ks[j].c : Int), rfl, by omega, by omega, ?_⟩
 have en : ((ks[j].c : Nat) : Int).toNat = ks[j].c := ab6 _
 rw [en]
 have Yj : upd H1 l (.lst []) ln = some (.lst (ns.map tx)) := sA _ _ Fn
 refine Cc (lo := 0) (n := ks[j].c) (fun i σ H' => af H H' ∧ ∃ (as : List Cs) (nn : Int) (o6 : Option V), as.length = i ∧ (∀ a ∈ as, a ∈ ns) ∧ H' l = some (.lst (as.map tx)) ∧ σ = [some (.ref lk), some (.ref ln), some (.int c), some (.int nn), some (.ref tk), some (.ref l), o6]) ⟨sA, [], v / 5, none, rfl, (fun a ha => nomatch ha), Yi, rfl⟩ ?_ ?_
 ·rintro i σ H' hi ⟨sm, as, nn, o6, NF, Tq, hL, rfl⟩
  obtain ⟨j2, Oz, Yk⟩ := v8 (xs := ns.map tx) (v := nn) (by rw [Lm9]; omega)
  have Tt : ln ≠ l := fun e => by rw [e, Vx] at Fn; cases Fn
  have KZ : H' ln = some (.lst (ns.map tx)) := sm _ _ Fn
  have LX : (0 : Int) < ((ns.map tx).length : Int) := by rw [Lm9]; omega
  have Tu : ((ns.map tx).length : Int) < 2 ^ 30 := by rw [Lm9]; omega
  refine ⟨_, rfl, .inl ⟨rfl, _, aC.of hL⟩, _, rfl, _, rfl, _, rfl, ln, _, rfl, .inl (aC.of KZ), _, _, rfl, rfl, LX, ln, _, _, _, rfl, rfl, aC.of KZ, Yk, l, _, _, rfl, rfl, hL, (by rw [Lm9, aak]; omega), ?_⟩
  have K0 : j2 < ns.length := by simpa using Oz
  refine ⟨_, rfl, _, rfl, ln, _, rfl, .inl (aC.of (by rw [aE Tt]; exact KZ)), _, _, rfl, rfl, ⟨by omega, by omega⟩, _, rfl, _, _, rfl, rfl, .inl ⟨by decide, by decide⟩, _, _, rfl, rfl, ?_⟩
  refine ⟨af.a8 sm Vx _, as ++ [ns[j2]], _, _, by simp [NF], (fun a ha => ?_), (by rw [ae, aaj]; simp), rfl⟩
  rcases ZY.mp ha with z | z
  ·exact Tq a z
  ·rw [ZX.mp z]; exact ZT K0
 ·rintro σ H' ⟨sm, as, nn, o6, NF, Tq, hL, rfl⟩
  have PK : aK K H' tk [tx ks[j].n, .int ks[j].c, .bl ks[j].l] := ht.same sm
  refine ⟨_, rfl, tk, _, 0, _, rfl, rfl, PK, rfl, _, rfl, l, _, rfl, .inl ⟨aC.of hL, fun p hp => ⟨(by show 2 ≤ Z2; decide), fun p2 qr => ?_⟩⟩⟩
  refine q _ ⟨ks[j].n, as⟩ _ (af.trans sm (af.trans (aj hp _) (aj qr _))) ⟨p2, p, rfl, aK.of ae, aK.of ?_⟩ ⟨_, ZT Tp, rfl, NF⟩ Tq
  rw [aE (bg ae qr)]
  exact ae
theorem cB : aB ["_law_cell", "_law_sizes", "_law_titles_here", "_law_number", "_law_rows", "_law_flags"] ["_law_cell", "_law_sizes"] (ar jd) := ⟨rfl, rfl, rfl, by decide +kernel, rfl, by decide +kernel, by decide +kernel⟩
theorem tJ (F : b6 K "_law_kinds" "_law_kinds" jd f fd) (bA : cA P w K mg base "_law_mix" 1 ["_law_cell", "_law_k"] uw) (g0 : cA P w K mg base "_law_titles" 3 ["_law_cell", "_law_many"] (iQ gL.cps.toList)) (bV : mg "len" = none) (gG : mg "range" = none) : bD P w K mg base jP 4 f fd ["_law_cell", "_law_sizes"] (vC K) := by
 refine F.ok cB (fun vs H Q E h => ?_) (fun c0 A outer s H vs Q E hr h => ?_)
 ·obtain ⟨c, l, ns, rfl, _⟩ := h
  rfl
 obtain ⟨c, l, ns, rfl, hl, Bf, GH, hns, q⟩ := h
 refine ⟨_, (ah (aw (i := 2) cB.nd rfl (ac2 rfl) (aq g0 (hr.mono (by decide)) rfl (aa (pv 0) (aa ai ag))))
 (ah (aw (i := 3) cB.nd rfl (ac2 rfl) (aq bA (hr.mono (by decide)) rfl (aa (pv 0) (aa ai ag))))
 (ah (aw (i := 4) cB.nd rfl (aax rfl) (aQ (aa (aQ (aa bC (aa bC (aa bC (aa bC ag))))) (aa (aQ (aa bC (aa bC (aa bC (aa bC ag))))) ag))))
 (ah (aw (i := 4) cB.nd rfl (aax rfl) (az oo (pv 4) (aQ (aa (aQ (aa bC (aa bC (aa bC (aa bC ag))))) (aa (aQ (aa bC (aa bC (aa bC (aa bC ag))))) ag)))))
 (ah (aw (i := 5) cB.nd rfl (ac2 rfl) (au cG (pv 4) (az bL (pv 3) ai) (fun _ _ => rfl)))
 (ak (ay (bo [2, 1, 3, 5] rfl (by kernel_rfl) (fq rfl gG (aa ai ag)) (fun _ _ _ _ _ => bz) (fun _ _ _ _ _ => (cY (aa (au (r := GB K) cG (pv 1) (pv 0) (fun _ _ => rfl)) (aa (au (r := GB K) cG (pv 2) (az bL (az cc (pv 3) (az iI (az qd ai (pv 0)) ai)) (aG (zM (K := K) rfl) rfl bV aaW (aa (pv 2) ag))) (fun _ _ => rfl)) (aa (au (r := GB K) cG (pv 4) (pv 0) (fun _ _ => rfl)) ag))))))))))))), ?_⟩
 refine ⟨_, rfl, c, 4, rfl, by decide, fun lt zs H1 s1 fF Eb Yl Ym Tv => ?_⟩
 refine ⟨_, rfl, c, 1, rfl, by decide, by decide, fun v H2 s2 v0 => ?_⟩
 have z4 : 4 ≤ Z2 := by decide
 have z2 : 2 ≤ Z2 := by decide
 refine ⟨z4, fun r1 h1 => ⟨z4, fun r2 h2 => ⟨z2, fun rr Yn => ?_⟩⟩⟩
 have e1 := aj h1 (.lst [.bl false, .bl true, .bl false, .bl true])
 have e2 := aj h2 (.lst [.bl true, .bl false, .bl false, .bl true])
 have e3 := aj Yn (.lst [.ref r1, .ref r2])
 refine ⟨_, rfl, z4, fun r3 h3 => ⟨z4, fun r4 h4 => ⟨z2, fun rb Yo => ?_⟩⟩⟩
 have e4 := aj h3 (.lst [.bl false, .bl false, .bl true, .bl true])
 have e5 := aj h4 (.lst [.bl true, .bl false, .bl true, .bl false])
 have e6 := aj Yo (.lst [.ref r3, .ref r4])
 have Tw := e6 _ _ (e5 _ _ (e4 _ _ (ae (H := upd (upd H2 r1 (.lst [.bl false, .bl true, .bl false, .bl true])) r2 (.lst [.bl true, .bl false, .bl false, .bl true])) (a := rr) (o := .lst [.ref r1, .ref r2]))))
 refine ⟨rr, rb, _, _, rfl, rfl, Tw, ae, z4, fun rc Yp => ?_⟩
 have e7 := aj Yp (.lst ([.ref r1, .ref r2] ++ [.ref r3, .ref r4]))
 have g1 := e7 _ _ (e6 _ _ (e5 _ _ (e4 _ _ (e3 _ _ (e2 _ _ (ae (H := H2) (a := r1) (o := .lst [.bl false, .bl true, .bl false, .bl true])))))))
 have g2 := e7 _ _ (e6 _ _ (e5 _ _ (e4 _ _ (e3 _ _ (ae (H := upd H2 r1 (.lst [.bl false, .bl true, .bl false, .bl true])) (a := r2) (o := .lst [.bl true, .bl false, .bl false, .bl true]))))))
 have g3 := e7 _ _ (e6 _ _ (e5 _ _ (ae (a := r3) (o := .lst [.bl false, .bl false, .bl true, .bl true]))))
 have g4 := e7 _ _ (e6 _ _ (ae (a := r4) (o := .lst [.bl true, .bl false, .bl true, .bl false])))
 have sC := af.trans e1 (af.trans e2 (af.trans e3 (af.trans e4 (af.trans e5 (af.trans e6 e7)))))
 have HJ := ae (H := upd (upd (upd (upd (upd (upd H2 r1 (.lst [.bl false, .bl true, .bl false, .bl true])) r2 (.lst [.bl true, .bl false, .bl false, .bl true])) rr (.lst [.ref r1, .ref r2])) r3 (.lst [.bl false, .bl false, .bl true, .bl true])) r4 (.lst [.bl true, .bl false, .bl true, .bl false])) rb (.lst [.ref r3, .ref r4])) (a := rc) (o := .lst ([.ref r1, .ref r2] ++ [.ref r3, .ref r4]))
 generalize upd (upd (upd (upd (upd (upd (upd H2 r1 (.lst [.bl false, .bl true, .bl false, .bl true])) r2 (.lst [.bl true, .bl false, .bl false, .bl true])) rr (.lst [.ref r1, .ref r2])) r3 (.lst [.bl false, .bl false, .bl true, .bl true])) r4 (.lst [.bl true, .bl false, .bl true, .bl false])) rb (.lst [.ref r3, .ref r4])) rc (.lst ([.ref r1, .ref r2] ++ [.ref r3, .ref r4])) = H9 at g1 g2 g3 g4 sC HJ ⊢
 have HJ : H9 rc = some (.lst [.ref r1, .ref r2, .ref r3, .ref r4]) := HJ
 obtain ⟨j, hj, ej⟩ := v8 (xs := [V.ref r1, .ref r2, .ref r3, .ref r4]) (v := v) (show 1 ≤ 4 by decide)
 have ej : ug [V.ref r1, .ref r2, .ref r3, .ref r4] (v % 4) = _ := ej
 have yt : ∃ (r : aac) (bs : List Bool), [V.ref r1, .ref r2, .ref r3, .ref r4][j] = .ref r ∧ H9 r = some (.lst (bs.map V.bl)) ∧ bs.length = 4 := by
  match j, hj with
  | 0, _ => exact ⟨r1, [false, true, false, true], rfl, g1, rfl⟩
  | 1, _ => exact ⟨r2, [true, false, false, true], rfl, g2, rfl⟩
  | 2, _ => exact ⟨r3, [false, false, true, true], rfl, g3, rfl⟩
  | 3, _ => exact ⟨r4, [true, false, true, false], rfl, g4, rfl⟩
 obtain ⟨rj, bs, Yq, Yr, UD⟩ := yt
 rw [Yq] at ej
 refine ⟨_, rfl, _, rfl, _, _, rfl, rfl, (by show (0 : Int) < 4; decide), rc, _, _, _, rfl, rfl, aC.of HJ, ej, ?_⟩
 have sD := af.trans s1 (af.trans s2 sC)
 have Ys := sC _ _ (s2 _ _ Eb)
 have Vz : aC K H9 l (ns.map V.int) := sD.seq hl
 refine ⟨4, rfl, by decide, by decide, fun D hD => ?_⟩
 refine fI (n := 4) (lo := 0) (by decide) (fun i ys H' => af H9 H' ∧ H' D = some (.lst ys) ∧ ∃ Gk : List Kd, Paired (Kind K H') Gk ys ∧ Gk.length = i ∧ Gk.map (·.n) = zs.take i ∧ ∀ k ∈ Gk, k.c ≤ 4) ⟨aj hD _, ae, [], .nil, rfl, rfl, fun k hk => nomatch hk⟩ (fun i ys H' p => ⟨p.2.1, ?_⟩) (fun i ys H' hi p => ?_) (fun ys H' p => ?_)
 ·obtain ⟨_, _, Gk, pk, hlen, _⟩ := p
  have := aad pk
  omega
 ·obtain ⟨sm, Jd, Gk, pk, hlen, pj, zw⟩ := p
  unfold zH
  simp only [if_true]
  have VA : i < zs.length := by omega
  have a1 : ug (zs.map tx) (0 + (i : Int)) = some (tx zs[i]) := by rw [Int.zero_add]; exact fg (by rw [aaK, Ge9 VA]; rfl)
  have fb : i < bs.length := by omega
  have a3 : ug (bs.map V.bl) (0 + (i : Int)) = some (V.bl bs[i]) := by rw [Int.zero_add]; exact fg (by rw [aaK, Ge9 fb]; rfl)
  obtain ⟨j2, Oz, a2⟩ := v8 (xs := ns.map V.int) (v := v / (3 * (0 + (i : Int)) + 5)) (by rw [Lm9]; exact Bf)
  have K0 : j2 < ns.length := by simpa using Oz
  have Yt := hns _ (ZT K0)
  have e8 : (ns.map V.int)[j2] = V.int ((ns[j2].toNat : Nat) : Int) := by rw [Z3, Int.toNat_of_nonneg Yt.1]
  rw [e8] at a2
  have LX : (0 : Int) < ((ns.map V.int).length : Int) := by rw [Lm9]; omega
  refine ⟨_, rfl, _, rfl, lt, _, _, _, rfl, rfl, aC.of (sm _ _ Ys), a1, _, rfl, _, rfl, _, rfl, _, _, rfl, rfl, .inl ⟨by decide, by decide⟩, _, _, rfl, rfl, _, _, rfl, rfl, ⟨by omega, by omega⟩, _, rfl, l, _, rfl, .inl (sm.seq Vz), _, _, rfl, rfl, LX, l, _, _, _, rfl, rfl, sm.seq Vz, a2, _, rfl, _, rfl, rj, _, _, _, rfl, rfl, aC.of (sm _ _ Yr), a3, (by show 3 ≤ Z2; decide), fun p hp => ?_⟩
  have s8 : af H' (upd H' p (.tup [tx zs[i], .int ((ns[j2].toNat : Nat) : Int), .bl bs[i]])) := aj hp _
  refine ⟨s8 _ _ Jd, ?_, ae, Gk ++ [⟨zs[i], ns[j2].toNat, bs[i]⟩], ?_, by simp [hlen], ?_, fun k hk => ?_⟩
  ·exact af.a8 (af.trans sm s8) hD _
  ·refine dw (ao pk fun k b _ hk => ?_) (.cons ⟨p, rfl, iu (s8 _ _ Jd) (aK.of ae)⟩ .nil)
   obtain ⟨t, e, h⟩ := Kind.sm s8 hk
   exact ⟨t, e, iu (s8 _ _ Jd) h⟩
  ·rw [aaj, pj, Z4 VA]
   rfl
  ·rcases ZY.mp hk with z | z
   ·exact zw k z
   ·rw [ZX.mp z]
    show ns[j2].toNat ≤ 4
    omega
 ·obtain ⟨sm, Jd, Gk, pk, hlen, pj, zw⟩ := p
  have hnm' : Gk.map (·.n) = zs := by rw [pj, ← Yl, aau]
  refine q D Gk H' (af.trans sD sm) (sD.free hD) ⟨ys, Jd, pk⟩ ⟨hlen, by rw [hnm']; exact Tv, fun k hk => ⟨?_, zw k hk⟩⟩
  have hm : k.n ∈ zs := by rw [← hnm']; exact Z1.mpr ⟨k, hk, rfl⟩
  exact (Ym _ hm).1
end
end iB
namespace iB
open PySem L2 cI Bk
set_option maxHeartbeats 4000000
section
variable {P : aao} {w : aaO} {K : ZQ} {mg : Str → Option ZS} {base : Heap} {f : aac} {fd : aa0}
theorem B0 (e : Cs × Cs) : S e.1 ++ aae "=" ++ S e.2 = S (lY e) := by
 have e1 : aae "=" = S [61] := by decide +kernel
 rw [e1, lR, lR]
 rfl
theorem jk : aB ["pool", "pairs"] ["pool"] (ar km) := ⟨rfl, rfl, rfl, by decide +kernel, rfl, by decide +kernel, by decide +kernel⟩
theorem wa (F : b6 K "pool_text" "pool_text" km f fd) (cW : cA P w K mg base "facts_text" 2 ["facts"] (Aw K)) : bD P w K mg base jP 3 f fd ["pool"] (iZ K) := by
 refine F.ok jk (fun vs H Q E h => ?_) (fun c0 A outer s H vs Q E hr h => ?_)
 ·obtain ⟨v, rfl, _⟩ := h
  rfl
 obtain ⟨v, rfl, ⟨⟨p, z0, z1, z2, rfl, hp⟩, q⟩ | ⟨bp, bl, st, ⟨p, t0, t1, t2, y0, y1, y2, rfl, hp, h0, p0, h1, p1, h2, p2⟩, ⟨xo, hb, hl, hs, LV⟩, q⟩⟩ := h
 ·refine ⟨_, (ah (aU (bj (au av (pv 0) ai (fun _ _ => rfl)))
 (ak (ay bh))
 aA)
 (ah (eG (i := 1) [] jk.nd rfl (aax rfl) rfl (by kernel_rfl) (fE (au av (pv 0) ai (fun _ _ => rfl))) (fun _ _ _ _ _ => (dE (aD ub (au (r := iJ K) av (pv 0) ai (fun _ _ => rfl)) (au (r := iJ K) av (pv 0) ai (fun _ _ => rfl)) (bu _)))) (fun _ _ _ _ _ => (az aO (az aO (au (r := iJ K) av (pv 0) ai (fun _ _ => rfl)) bh) (au (r := iJ K) av (pv 0) ai (fun _ _ => rfl)))))
 (ak (ay (da aan aaF aaG cT bh (aa (aQ (aa (aq cW (hr.mono (by decide)) rfl (aa (au av (pv 0) ai (fun _ _ => rfl)) ag)) (aa (aq cW (hr.mono (by decide)) rfl (aa (au av (pv 0) ai (fun _ _ => rfl)) ag)) (aa (da aan aaF aaG cT bh (aa (pv 1) ag)) ag)))) ag)))))), ?_⟩
  exact ⟨_, rfl, p, _, 3, _, rfl, rfl, hp, rfl, _, rfl, dc (q _ (af.refl _))⟩
 refine ⟨_, (ah (aU (bj (au av (pv 0) ai (fun _ _ => rfl)))
 (ak (ay bh))
 aA)
 (ah (eG (i := 1) [] jk.nd rfl (aax rfl) rfl (by kernel_rfl) (fE (au av (pv 0) ai (fun _ _ => rfl))) (fun _ _ _ _ _ => (dE (aD ub (au (r := iJ K) av (pv 0) ai (fun _ _ => rfl)) (au (r := iJ K) av (pv 0) ai (fun _ _ => rfl)) (bu _)))) (fun _ _ _ _ _ => (az aO (az aO (au (r := iJ K) av (pv 0) ai (fun _ _ => rfl)) bh) (au (r := iJ K) av (pv 0) ai (fun _ _ => rfl)))))
 (ak (ay (da aan aaF aaG cT bh (aa (aQ (aa (aq cW (hr.mono (by decide)) rfl (aa (au av (pv 0) ai (fun _ _ => rfl)) ag)) (aa (aq cW (hr.mono (by decide)) rfl (aa (au av (pv 0) ai (fun _ _ => rfl)) ag)) (aa (da aan aaF aaG cT bh (aa (pv 1) ag)) ag)))) ag)))))), ?_⟩
 have z2 := aad p2
 rw [Lm9] at z2
 refine ⟨_, rfl, p, _, 3, _, rfl, rfl, hp, rfl, _, rfl, b5 ?_⟩
 refine ⟨_, rfl, p, _, 2, _, rfl, rfl, hp, rfl, t2, rfl, ⟨_, h2⟩, fun D hD => ?_⟩
 have at2 : ∀ (i : Nat) x e, y2[i]? = some x → st[i]? = some e → ∃ t, x = .ref t ∧ aK K H t [tx e.1, tx e.2] := fun i x e hx he => by
  obtain ⟨hi, ex⟩ := ax hx
  obtain ⟨hj, ee⟩ := ax he
  obtain ⟨t, et, ht⟩ := paired_at p2 i (by rw [Lm9]; exact hj) hi
  rw [Z3, ee] at ht
  rw [ex] at et
  exact ⟨t, et, ht⟩
 refine uS (K := K) (xs := y2) st (fun e => !decide (e.1 = e.2)) (fun e => tx (lY e)) (n0 (by omega)) hD h2 z2 (fun i x e H' R hx he sm hQ => ?_) (fun i x e H' R hx he hk sm hQ => ?_) (fun H1 s1 hL => ?_)
 ·obtain ⟨t, rfl, ht⟩ := at2 i x e hx he
  have ht := ht.same sm
  refine ⟨_, rfl, t, _, 0, _, rfl, rfl, ht, rfl, _, rfl, t, _, 1, _, rfl, rfl, ht, rfl, rfl, _, rfl, ?_⟩
  have hQ := hQ _ (af.refl _)
  have ed : decide (tx e.1 = tx e.2) = decide (e.1 = e.2) := decide_eq_decide.mpr ⟨fun z => eM (V.str.inj z), fun z => by rw [z]⟩
  rw [ed]
  exact hQ
 ·obtain ⟨t, rfl, ht⟩ := at2 i x e hx he
  have ht := ht.same sm
  obtain ⟨hj, ee⟩ := ax he
  obtain ⟨e1, e2⟩ := LV e (by rw [← ee]; exact ZT hj)
  have e3 : (aae "=").length = 1 := by decide +kernel
  refine ⟨_, rfl, t, _, 0, _, rfl, rfl, ht, rfl, _, _, rfl, rfl, (by rw [bc, aak]; omega), _, rfl, t, _, 1, _, rfl, rfl, ht, rfl, _, _, rfl, rfl, (by simp only [strLen_append, bc, e3]; rw [aak]; omega), ?_⟩
  rw [B0]
  exact hQ _ (af.refl _)
 have Qn := hp.same s1
 refine ⟨rfl, _, rfl, p, _, 0, _, rfl, rfl, Qn, rfl, t0, y0, bp, rfl, .inr (h0.same s1), ao p0 fun _ _ _ => Fact.sm s1, fun g hg => xo g (ZY.mpr (.inl hg)), hb, fun H2 s2 => ?_⟩
 have AH := af.trans s1 s2
 refine ⟨_, rfl, p, _, 1, _, rfl, rfl, hp.same AH, rfl, t1, y1, bl, rfl, .inr (h1.same AH), ao p1 fun _ _ _ => Fact.sm AH, fun g hg => xo g (ZY.mpr (.inr hg)), hl, fun H3 s3 => ?_⟩
 have Gj := af.trans AH s3
 have Yu := af.trans s2 s3
 have LW : H3 D = some (.lst (((st.filter fun e => !decide (e.1 = e.2)).map lY).map tx)) := by rw [aaJ]; exact Yu _ _ hL
 generalize EG : (st.filter fun e => !decide (e.1 = e.2)).map lY = ps at LW
 have hpl : ps.length ≤ 63 := by
  rw [← EG, Lm9]
  exact aaM (aat _ _) hs
 have OA : ∀ a ∈ ps, a.length ≤ 25 := fun a ha => by
  rw [← EG] at ha
  obtain ⟨e, he, rfl⟩ := Z1.mp ha
  have z := LV e (aaq.mp he).1
  unfold lY
  simp only [Z6, aal, aaQ]
  omega
 have ec : (aae ", ").length = 2 := by decide +kernel
 have es : (aae "; ").length = 2 := by decide +kernel
 have yF := iP (as := ps) (B := 25) OA
 refine ⟨rfl, _, rfl, _, D, ps.map S, rfl, rfl, .inl (aC.of (by rw [← dI]; exact LW)), (by rw [Lm9, ec]; omega), ?_⟩
 rw [oA]
 refine ⟨(by show 3 ≤ Z2; decide), fun l hl' => ?_⟩
 have s4 := aj hl' (.lst [tx (dB (bp.map aN)), tx (dB (bl.map aN)), tx (dB ps)])
 have r1 := iW (bp.map aN) fun x hx => by obtain ⟨g, hg, rfl⟩ := Z1.mp hx; exact fB (xo g (ZY.mpr (.inl hg)))
 have r2 := iW (bl.map aN) fun x hx => by obtain ⟨g, hg, rfl⟩ := Z1.mp hx; exact fB (xo g (ZY.mpr (.inr hg)))
 have r3 := iW ps fun x hx => aaM (OA x hx) (by decide)
 rw [Lm9] at r1 r2
 refine ⟨_, l, [dB (bp.map aN), dB (bl.map aN), dB ps].map S, rfl, rfl, .inl (aC.of (ae (a := l))), ?_, ?_⟩
 ·simp only [aap, abO, ace, ado, aal, aaQ, bc, es]
  omega
 ·rw [BO]
  have q := q _ (af.trans Gj s4)
  unfold BP at q
  rw [EG] at q
  exact q
end
end iB
namespace iB
open PySem L2 cI Bk
set_option maxHeartbeats 4000000
section
variable {P : aao} {w : aaO} {K : ZQ} {mg : Str → Option ZS} {base : Heap} {f : aac} {fd : aa0} {C : aac}
theorem jK : aB ["_law_due_here", "_law_rows"] ["_law_due_here"] (ar fU) := ⟨rfl, rfl, rfl, by decide +kernel, rfl, by decide +kernel, by decide +kernel⟩
theorem pP (F : b6 K "_law_written" "_law_written" fU f fd) (cX : cA P w K mg base "_law_fact_text" 1 ["_law_fact_here"] (uR K)) : bD P w K mg base jP 2 f fd ["_law_due_here"] (iZ K) := by
 refine F.ok jK (fun vs H Q E h => ?_) (fun c0 A outer s H vs Q E hr h => ?_)
 ·obtain ⟨v, rfl, _⟩ := h
  rfl
 obtain ⟨v, rfl, h⟩ := h
 refine ⟨_, (ah (aU (bj (au av (pv 0) ai (fun _ _ => rfl)))
 (ak (ay bh))
 aA)
 (ah (aw (i := 1) jK.nd rfl (aax rfl) (aQ (aa (da aan aaF aaG cT bh (aa (bo [] rfl (by kernel_rfl) (fE (au av (pv 0) ai (fun _ _ => rfl))) (fun _ _ _ _ _ => bz) (fun _ _ _ _ _ => (aq cX (hr.mono (by decide)) rfl (aa (pv 0) ag)))) ag)) ag)))
 (ah (cF (da aba aaY aa6 cR (pv 1) (aa (da aan aaF aaG cT bh (aa (bo [] rfl (by kernel_rfl) (fE (au av (pv 0) ai (fun _ _ => rfl))) (fun _ _ _ _ _ => bz) (fun _ _ _ _ _ => (aq cX (hr.mono (by decide)) rfl (aa (pv 0) ag)))) ag)) ag)))
 (ah (cF (da aba aaY aa6 cR (pv 1) (aa (da aan aaF aaG cT bh (aa (bo [] rfl (by kernel_rfl) (fE (au av (pv 0) ai (fun _ _ => rfl))) (fun _ _ _ _ _ => (dE (aD ub (au (r := iJ K) av (pv 0) ai (fun _ _ => rfl)) (au (r := iJ K) av (pv 0) ai (fun _ _ => rfl)) (bu _)))) (fun _ _ _ _ _ => (az aO (az aO (au (r := iJ K) av (pv 0) ai (fun _ _ => rfl)) bh) (au (r := iJ K) av (pv 0) ai (fun _ _ => rfl))))) ag)) ag)))
 (ak (ay (da aan aaF aaG cT bh (aa (pv 1) ag)))))))), ?_⟩
 rcases h with ⟨⟨p, z0, z1, z2, rfl, hp⟩, q⟩ | ⟨bp, bl, st, ⟨p, t0, t1, t2, y0, y1, y2, rfl, hp, h0, p0, h1, p1, h2, p2⟩, ⟨xo, hb, hl, hs, LV⟩, q⟩
 ·exact ⟨_, rfl, p, _, 3, _, rfl, rfl, hp, rfl, _, rfl, dc (q _ (af.refl _))⟩
 have z2 := aad p2
 rw [Lm9] at z2
 have ec : (aae ", ").length = 2 := by decide +kernel
 have es : (aae "; ").length = 2 := by decide +kernel
 have VB : ∀ fs : List Fc, (∀ g ∈ fs, FN g) → fs.length ≤ 63 → (((fs.map aN).map S).map (·.length)).sum + ((fs.map aN).map S).length * (aae ", ").length ≤ 16777216 := fun fs hg hn => by
  have z := iP (as := fs.map aN) (B := 70) fun l hl => by
   obtain ⟨g, hg', rfl⟩ := Z1.mp hl
   exact fB (hg g hg')
  rw [Lm9, Lm9, ec]
  rw [Lm9] at z
  omega
 have Qi : ∀ g ∈ bp, FN g := fun g hg => xo g (ZY.mpr (.inl hg))
 have Tx : ∀ g ∈ bl, FN g := fun g hg => xo g (ZY.mpr (.inr hg))
 have Yv := aad p0
 have Yw := aad p1
 refine ⟨_, rfl, p, _, 3, _, rfl, rfl, hp, rfl, _, rfl, b5 ?_⟩
 refine ⟨rfl, _, rfl, p, _, 0, _, rfl, rfl, hp, rfl, t0, rfl, ⟨_, h0⟩, fun D hD => ?_⟩
 refine j6 (K := K) (xs := y0) (gs := (bp.map aN).map tx) (by simpa using Yv) (n0 (by omega)) hD h0 (fun i x g H' R hxi Fi sm hQ => ?_) (fun H1 s1 hL => ?_)
 ·obtain ⟨hi, ex⟩ := ax hxi
  have iD : i < bp.length := by omega
  have hF := Fact.sm sm (paired_at p0 i iD hi)
  rw [ex] at hF
  obtain ⟨zP, eg⟩ := ax Fi
  have eg : tx (aN bp[i]) = g := by rw [← eg, Z3, Z3]
  exact ⟨_, rfl, x, bp[i], rfl, hF, Qi _ (ZT iD), by rw [eg]; exact hQ _ (af.refl _)⟩
 refine ⟨_, D, (bp.map aN).map S, rfl, rfl, .inl (aC.of (by rw [← dI]; exact hL)), VB bp Qi hb, ?_⟩
 rw [oA]
 refine ⟨(by show 1 ≤ Z2; decide), fun lr qy => ?_⟩
 have s2 := aj qy (.lst [tx (dB (bp.map aN))])
 have Dg : H lr = none := s1.free qy
 have K1 := ae (H := H1) (a := lr) (o := .lst [tx (dB (bp.map aN))])
 have AH := af.trans s1 s2
 generalize upd H1 lr (.lst [tx (dB (bp.map aN))]) = H2 at s2 K1 AH ⊢
 refine ⟨_, rfl, .inl ⟨rfl, _, aC.of K1⟩, ?_⟩
 refine ⟨rfl, _, rfl, p, _, 1, _, rfl, rfl, hp.same AH, rfl, t1, rfl, ⟨_, h1.same AH⟩, fun D2 lQ => ?_⟩
 have Yx : Paired (Fact K H2) bl y1 := ao p1 fun _ _ _ => Fact.sm AH
 refine j6 (K := K) (xs := y1) (gs := (bl.map aN).map tx) (by simpa using Yw) (n0 (by omega)) lQ (h1.same AH) (fun i x g H' R hxi Fi sm hQ => ?_) (fun H3 s3 LW => ?_)
 ·obtain ⟨hi, ex⟩ := ax hxi
  have iD : i < bl.length := by omega
  have hF := Fact.sm sm (paired_at Yx i iD hi)
  rw [ex] at hF
  obtain ⟨zP, eg⟩ := ax Fi
  have eg : tx (aN bl[i]) = g := by rw [← eg, Z3, Z3]
  exact ⟨_, rfl, x, bl[i], rfl, hF, Tx _ (ZT iD), by rw [eg]; exact hQ _ (af.refl _)⟩
 refine ⟨_, D2, (bl.map aN).map S, rfl, rfl, .inl (aC.of (by rw [← dI]; exact LW)), VB bl Tx hl, ?_⟩
 rw [oA]
 refine ⟨lr, _, _, rfl, rfl, s3 _ _ K1, (by show 1 < Z2; decide), ?_⟩
 have s4 : af H (upd H3 lr (.lst ([tx (dB (bp.map aN))] ++ [tx (dB (bl.map aN))]))) := af.a8 (af.trans AH s3) Dg _
 have K2 := ae (H := H3) (a := lr) (o := .lst ([tx (dB (bp.map aN))] ++ [tx (dB (bl.map aN))]))
 generalize upd H3 lr (.lst ([tx (dB (bp.map aN))] ++ [tx (dB (bl.map aN))])) = H4 at s4 K2 ⊢
 refine ⟨_, rfl, .inl ⟨rfl, _, aC.of K2⟩, ?_⟩
 refine ⟨rfl, _, rfl, p, _, 2, _, rfl, rfl, hp.same s4, rfl, t2, rfl, ⟨_, h2.same s4⟩, fun D3 Ip => ?_⟩
 have at2 : ∀ (i : Nat) x e, y2[i]? = some x → st[i]? = some e → ∃ t, x = .ref t ∧ aK K H4 t [tx e.1, tx e.2] := fun i x e hx he => by
  obtain ⟨hi, ex⟩ := ax hx
  obtain ⟨hj, ee⟩ := ax he
  obtain ⟨t, et, ht⟩ := paired_at p2 i (by rw [Lm9]; exact hj) hi
  rw [Z3, ee] at ht
  rw [ex] at et
  exact ⟨t, et, aK.same s4 ht⟩
 refine uS (K := K) (xs := y2) st (fun e => !decide (e.1 = e.2)) (fun e => tx (lY e)) (n0 (by omega)) Ip (h2.same s4) z2 (fun i x e H' R hx he sm hQ => ?_) (fun i x e H' R hx he hk sm hQ => ?_) (fun H5 s5 AF => ?_)
 ·obtain ⟨t, rfl, ht⟩ := at2 i x e hx he
  have ht := ht.same sm
  refine ⟨_, rfl, t, _, 0, _, rfl, rfl, ht, rfl, _, rfl, t, _, 1, _, rfl, rfl, ht, rfl, rfl, _, rfl, ?_⟩
  have hQ := hQ _ (af.refl _)
  have ed : decide (tx e.1 = tx e.2) = decide (e.1 = e.2) := decide_eq_decide.mpr ⟨fun z => eM (V.str.inj z), fun z => by rw [z]⟩
  rw [ed]
  exact hQ
 ·obtain ⟨t, rfl, ht⟩ := at2 i x e hx he
  have ht := ht.same sm
  obtain ⟨hj, ee⟩ := ax he
  obtain ⟨e1, e2⟩ := LV e (by rw [← ee]; exact ZT hj)
  have e3 : (aae "=").length = 1 := by decide +kernel
  refine ⟨_, rfl, t, _, 0, _, rfl, rfl, ht, rfl, _, _, rfl, rfl, (by rw [bc, aak]; omega), _, rfl, t, _, 1, _, rfl, rfl, ht, rfl, _, _, rfl, rfl, (by simp only [strLen_append, bc, e3]; rw [aak]; omega), ?_⟩
  rw [B0]
  exact hQ _ (af.refl _)
 have AF : H5 D3 = some (.lst (((st.filter fun e => !decide (e.1 = e.2)).map lY).map tx)) := by rw [aaJ]; exact AF
 generalize EG : (st.filter fun e => !decide (e.1 = e.2)).map lY = ps at AF
 have hpl : ps.length ≤ 63 := by
  rw [← EG, Lm9]
  exact aaM (aat _ _) hs
 have OA : ∀ a ∈ ps, a.length ≤ 25 := fun a ha => by
  rw [← EG] at ha
  obtain ⟨e, he, rfl⟩ := Z1.mp ha
  have z := LV e (aaq.mp he).1
  unfold lY
  simp only [Z6, aal, aaQ]
  omega
 have yF := iP (as := ps) (B := 25) OA
 refine ⟨_, D3, ps.map S, rfl, rfl, .inl (aC.of (by rw [← dI]; exact AF)), (by rw [Lm9, ec]; omega), ?_⟩
 rw [oA]
 refine ⟨lr, _, _, rfl, rfl, s5 _ _ K2, (by show 2 < Z2; decide), ?_⟩
 have s6 := af.a8 (af.trans s4 s5) Dg (.lst (([tx (dB (bp.map aN))] ++ [tx (dB (bl.map aN))]) ++ [tx (dB ps)]))
 have r1 := iW (bp.map aN) fun x hx => by obtain ⟨g, hg, rfl⟩ := Z1.mp hx; exact fB (Qi g hg)
 have r2 := iW (bl.map aN) fun x hx => by obtain ⟨g, hg, rfl⟩ := Z1.mp hx; exact fB (Tx g hg)
 have r3 := iW ps fun x hx => aaM (OA x hx) (by decide)
 rw [Lm9] at r1 r2
 refine ⟨rfl, _, rfl, _, lr, [dB (bp.map aN), dB (bl.map aN), dB ps].map S, rfl, rfl, .inl (aC.of (ae (a := lr))), ?_, ?_⟩
 ·simp only [aap, abO, ace, ado, aal, aaQ, bc, es]
  omega
 ·rw [BO]
  have q := q _ s6
  unfold BP at q
  rw [EG] at q
  exact q
theorem dh : aB ["_law_pool_here", "_law_name", "_law_found", "_law_good"] ["_law_pool_here", "_law_name"] (ar ji) := ⟨rfl, rfl, rfl, by decide +kernel, rfl, by decide +kernel, by decide +kernel⟩
theorem tK (F : b6 K "_law_asked" "_law_asked" ji f fd) (jl : qR P w K mg base "stands_for" 2 ["pool", "name"] (rC K C)) (rL : mg "NoName" = some (.ref C)) (OB : aeT K (.ref C) (.ref C) = some true) : bD P w K mg base jP 3 f fd ["_law_pool_here", "_law_name"] (rD K) := by
 refine F.ok dh (fun vs H Q E h => ?_) (fun c0 A outer s H vs Q E hr h => ?_)
 ·obtain ⟨p, n, z0, z1, t2, b, st, y2, rfl, _⟩ := h
  rfl
 obtain ⟨p, n, z0, z1, t2, b, st, y2, rfl, hp, h2, pp, hn, hsc, qs⟩ := h
 refine ⟨_, (ah (aw (i := 2) dh.nd rfl (aax rfl) IJ)
 (ah (aw (i := 3) dh.nd rfl (aax rfl) bC)
 (ah (Jk (fun pn R => (ak (aw (i := 2) dh.nd rfl (aax rfl) (EL jl (hr.mono (by decide)) rfl (aa (pv 0) (aa (pv 1) ag)))))) (GK rfl rL (fun _ => (ak (aw (i := 3) dh.nd rfl (aax rfl) bC))) Jj))
 (ah (aU (bj (pv 3))
 (ak (ay (aQ (aa (pv 2) ag))))
 aA)
 (ak (ay (aQ ag))))))), ?_⟩
 refine uJ (uJ ?_)
 refine ⟨_, rfl, _, rfl, p, n, z0, z1, t2, b, st, y2, rfl, hp, h2, pp, hn, hsc, fun hg => ?_, fun hg kg H1 s1 => ?_, fun hg v kg => ?_⟩
 ·refine ⟨_, rfl, _, rfl, dc ⟨_, rfl, (by show 1 ≤ Z2; decide), fun l hl => qs l _ (aj hl _) ?_⟩⟩
  unfold uT
  rw [if_neg (by rw [hg]; decide)]
  exact ae
 ·refine ⟨true, OB, fun _ => ?_, fun z => by cases z⟩
  refine ⟨_, rfl, _, rfl, b5 ⟨(by show 0 ≤ Z2; decide), fun l hl => qs l _ (af.trans s1 (aj hl _)) ?_⟩⟩
  unfold uT
  rw [if_pos hg, kg]
  exact ae
 ·refine ⟨_, rfl, _, rfl, dc ⟨_, rfl, (by show 1 ≤ Z2; decide), fun l hl => qs l _ (aj hl _) ?_⟩⟩
  unfold uT
  rw [if_pos hg, kg]
  exact ae
end
end iB
namespace iB
open PySem L2 cI Bk
set_option maxHeartbeats 4000000
section
variable {P : aao} {w : aaO} {K : ZQ} {mg : Str → Option ZS} {base : Heap} {f : aac} {fd : aa0}
theorem B1 {xs : List Cs} {v : Int} {m : Int} (hm : m = xs.length) (h : 1 ≤ xs.length) : ∃ (j : Nat) (hj : j < xs.length), ug (xs.map tx) (v % m) = some (tx xs[j]) := by
 have hp : (0 : Int) < (xs.length : Int) := by omega
 subst hm
 have md := mid (a := v) hp
 refine ⟨(v % (xs.length : Int)).toNat, by omega, ?_⟩
 have z := fg (xs := xs.map tx) (j := (v % (xs.length : Int)).toNat) (v := tx (xs[(v % (xs.length : Int)).toNat]'(by omega))) (by rw [aaK, Ge9 (by omega)]; rfl)
 rw [show (((v % (xs.length : Int)).toNat : Nat) : Int) = v % (xs.length : Int) by omega] at z
 exact z
theorem K3 {xs : List Cs} {v : Int} (h0 : 0 ≤ v) (h1 : v < xs.length) : ∃ (j : Nat) (hj : j < xs.length), ug (xs.map tx) v = some (tx xs[j]) := by
 refine ⟨v.toNat, by omega, ?_⟩
 have z := fg (xs := xs.map tx) (j := v.toNat) (v := tx (xs[v.toNat]'(by omega))) (by rw [aaK, Ge9 (by omega)]; rfl)
 rw [show ((v.toNat : Nat) : Int) = v by omega] at z
 exact z
theorem aW : aB ["_law_names_here", "_law_way", "_law_cells", "_law_some", "_law_rows", "_law_cell", "_law_number", "_law_left", "_law_right"] ["_law_names_here", "_law_way", "_law_cells"] (ar jh) := ⟨rfl, rfl, rfl, by decide +kernel, rfl, by decide +kernel, by decide +kernel⟩
theorem tL (F : b6 K "_law_pairs" "_law_pairs" jh f fd) (bA : cA P w K mg base "_law_mix" 1 ["_law_cell", "_law_k"] uw) (bV : mg "len" = none) : bD P w K mg base jP 2 f fd ["_law_names_here", "_law_way", "_law_cells"] (rE K) := by
 refine F.ok aW (fun vs H Q E h => ?_) (fun c0 A outer s H vs Q E hr h => ?_)
 ·obtain ⟨ln, lc, way, ns, cs, rfl, _⟩ := h
  rfl
 obtain ⟨ln, lc, way, ns, cs, rfl, hn, ZH, hc, tF, q⟩ := h
 refine ⟨_, (ah (aw (i := 3) aW.nd rfl (aax rfl) (pv 0))
 (ah (aU (aD ie (pv 1) ai (bu _))
 (ak (aw (i := 3) aW.nd rfl (aax rfl) (cv gm (pv 0) ff (cf ai))))
 aA)
 (ah (aU (aD ie (pv 1) ai (bu _))
 (ak (aw (i := 3) aW.nd rfl (aax rfl) (cv gm (pv 0) ff (cf ai))))
 aA)
 (ah (aw (i := 4) aW.nd rfl (aax rfl) (aQ ag))
 (ah (cb aa5 rfl (aH (pv 2)) (bx (i := 5) aW.nd rfl (aax rfl))
 (ah (aw (i := 6) aW.nd rfl (aax rfl) (aq bA (hr.mono (by decide)) rfl (aa (pv 5) (aa ai ag))))
 (ah (aw (i := 7) aW.nd rfl (aax rfl) (au cG (pv 0) (az bL (pv 6) ai) (fun _ _ => rfl)))
 (ah (aw (i := 8) aW.nd rfl (aax rfl) (au cG (pv 3) (az bL (az cc (pv 6) ai) (aG aM rfl bV aaW (aa (pv 3) ag))) (fun _ _ => rfl)))
 (ah (aU (PW.pt (u4 (aD ie (pv 1) ai (bu _)) (pR (aD ie (az bL (az cc (pv 6) ai) ai) ai (bu _)))))
 (ak (aw (i := 7) aW.nd rfl (aax rfl) (au cG (pv 0) (az bL (az cc (pv 6) ai) ai) (fun _ _ => rfl))))
 aA)
 (ak (aU (aD ie (az bL (az cc (pv 6) ai) ai) ai (bu _))
 (ak (cF (da aba aaY aa6 cR (pv 4) (aa (cY (aa (pv 7) (aa (pv 8) ag))) ag))))
 (ak (cF (da aba aaY aa6 cR (pv 4) (aa (cY (aa (pv 8) (aa (pv 7) ag))) ag)))))))))))
 (ak (ay (pv 4)))))))), ?_⟩
 refine ⟨_, rfl, ?_⟩
 refine nC ?_
 dsimp only
 have part : ∀ {H' : Hp}, af H H' → ∀ ls : aac, H' ls = some (.lst (ns.map tx)) → ∃ ss : List Cs, H' ls = some (.lst (ss.map tx)) ∧ 1 ≤ ss.length ∧ ss.length ≤ 8 ∧ ∀ x ∈ ss, x ∈ ns := fun _ ls h => ⟨ns, h, by omega, by omega, fun _ z => z⟩
 refine lI (Good := fun σ' H' => af H H' ∧ ∃ (lS : aac) (ss : List Cs), H' lS = some (.lst (ss.map tx)) ∧ 1 ≤ ss.length ∧ ss.length ≤ 8 ∧ (∀ x ∈ ss, x ∈ ns) ∧ σ' = [some (.ref ln), some (.int way), some (.ref lc), some (.ref lS), none, none, none, none, none]) (fun fin => ?_) (fun σ' H1 hg => ?_)
 ·refine ⟨_, rfl, rfl, _, rfl, me (fun _ => ?_) (fun _ => fin _ _ ⟨af.refl _, ln, ns, hn, by omega, by omega, fun _ z => z, rfl⟩)⟩
  refine ⟨_, rfl, _, rfl, ln, _, rfl, aC.of hn, fun l hl => ?_⟩
  rw [show jM (ns.map tx) none (some 5) = (ns.take 5).map tx from BQ ns 5]
  exact fin _ _ ⟨aj hl _, l, ns.take 5, ae, by rw [aah]; omega, by rw [aah]; omega, fun x hx => aa3 hx, rfl⟩
 obtain ⟨s1, lS, ss, hS, M8, Tz, xX, rfl⟩ := hg
 refine lI (Good := fun σ' H' => af H H' ∧ ∃ (lS : aac) (ss : List Cs), H' lS = some (.lst (ss.map tx)) ∧ 1 ≤ ss.length ∧ ss.length ≤ 8 ∧ (∀ x ∈ ss, x ∈ ns) ∧ σ' = [some (.ref ln), some (.int way), some (.ref lc), some (.ref lS), none, none, none, none, none]) (fun fin => ?_) (fun σ' H2 hg => ?_)
 ·refine ⟨_, rfl, rfl, _, rfl, me (fun _ => ?_) (fun _ => fin _ _ ⟨s1, lS, ss, hS, M8, Tz, xX, rfl⟩)⟩
  refine ⟨_, rfl, _, rfl, ln, _, rfl, aC.of (s1 _ _ hn), fun l hl => ?_⟩
  rw [show jM (ns.map tx) none (some 6) = (ns.take 6).map tx from BQ ns 6]
  exact fin _ _ ⟨af.trans s1 (aj hl _), l, ns.take 6, ae, by rw [aah]; omega, by rw [aah]; omega, fun x hx => aa3 hx, rfl⟩
 clear hS M8 Tz xX s1
 obtain ⟨s2, lS, ss, hS, M8, Tz, xX, rfl⟩ := hg
 refine ⟨(by show 0 ≤ Z2; decide), fun lr qy => ?_⟩
 have s3 := aj qy (.lst [])
 have Dg : H lr = none := s2.free qy
 have Yy : lS ≠ lr := fun e => by rw [e, qy] at hS; cases hS
 refine ⟨_, rfl, lc, rfl, ⟨_, aC.of (s3 _ _ (s2 _ _ hc))⟩, bK (K := K) (a := lc) (xs := cs.map V.int) (fun i σ H' => af H H' ∧ H' lS = some (.lst (ss.map tx)) ∧ (∃ (gA : List V) (prs : List (Cs × Cs)), H' lr = some (.lst gA) ∧ Paired (Pair K H') prs gA ∧ prs.length ≤ i ∧ ∀ pr ∈ prs, pr.1 ∈ ns ∧ pr.2 ∈ ns) ∧ ∃ o5 o6 o7 o8, σ = [some (.ref ln), some (.int way), some (.ref lc), some (.ref lS), some (.ref lr), o5, o6, o7, o8])
  ⟨af.trans s2 s3, s3 _ _ hS, ⟨[], [], ae, .nil, Z0 _, fun _ h => nomatch h⟩, none, none, none, none, rfl⟩ (fun i σ H' _ ⟨sm, _⟩ => aC.of (sm _ _ hc)) ?_ ?_⟩
 ·rintro i y σ H' hi ⟨sm, hS', ⟨gA, prs, hr', pp, hpl, BS⟩, o5, o6, o7, o8, rfl⟩
  obtain ⟨iD, ey⟩ := ax hi
  rw [Z3] at ey
  subst ey
  have yD : i < cs.length := by simpa using iD
  refine ⟨_, rfl, _, 5, rfl, by decide, by decide, fun m H3 s4 m0 => ?_⟩
  have VC := af.trans sm s4
  have Qd := VC _ _ hn
  obtain ⟨j1, Dv, e1⟩ := K3 (xs := ns) (v := m % 5) (by have := mid (a := m) (b := 5) (by decide); omega) (by have := mid (a := m) (b := 5) (by decide); omega)
  refine ⟨_, rfl, _, rfl, _, _, rfl, rfl, (by show (0 : Int) < 5; decide), ln, _, _, _, rfl, rfl, aC.of Qd, e1, ?_⟩
  obtain ⟨j2, Oz, e2⟩ := B1 (xs := ss) (v := m / 5) (m := ((ss.map tx).length : Int)) (by rw [Lm9]) M8
  refine ⟨_, rfl, _, rfl, _, _, rfl, rfl, ⟨by decide, by decide⟩, _, rfl, lS, _, rfl, .inl (aC.of (s4 _ _ hS')), _, _, rfl, rfl, (by rw [Lm9]; omega), lS, _, _, _, rfl, rfl, aC.of (s4 _ _ hS'), e2, ?_⟩
  have Dw := xX _ (ZT Oz)
  generalize ss[j2] = rt at Dw e2 ⊢
  have qx := ZT Dv
  generalize ns[j1] = Yz at qx e1 ⊢
  refine nC ?_
  dsimp only
  refine lI (Good := fun σ' H' => H' = H3 ∧ ∃ l' ∈ ns, σ' = [some (.ref ln), some (.int way), some (.ref lc), some (.ref lS), some (.ref lr), some (.int (cs[i]'yD)), some (.int m), some (tx l'), some (tx rt)]) (fun fin => ?_) (fun σ' H4 hg => ?_)
  ·have Fx := fin _ H3 ⟨rfl, Yz, qx, rfl⟩
   refine ⟨_, rfl, rfl, _, rfl, me (fun _ => ?_) (fun _ => Fx)⟩
   refine ⟨_, rfl, _, _, rfl, rfl, ⟨by decide, by decide⟩, _, _, rfl, rfl, (by show (0 : Int) < 3; decide), rfl, _, rfl, me (fun _ => ?_) (fun _ => Fx)⟩
   obtain ⟨j3, YA, e3⟩ := B1 (xs := ns) (v := m / 120) (m := 8) (by omega) (by omega)
   exact ⟨_, rfl, _, rfl, _, _, rfl, rfl, ⟨by decide, by decide⟩, _, _, rfl, rfl, (by show (0 : Int) < 8; decide), ln, _, _, _, rfl, rfl, aC.of Qd, e3, fin _ _ ⟨rfl, _, ZT YA, rfl⟩⟩
  obtain ⟨rfl, l', hl', rfl⟩ := hg
  have Hc := s4 _ _ hr'
  have YB : Paired (Pair K H4) prs gA := ao pp fun _ _ _ ⟨t, e, z⟩ => ⟨t, e, z.same s4⟩
  have zp := aad pp
  have fin2 : ∀ (x y : Cs), x ∈ ns → y ∈ ns → ∀ t, H4 t = none → (af H (upd (upd H4 t (.tup [tx x, tx y])) lr (.lst (gA ++ [.ref t]))) ∧ upd (upd H4 t (.tup [tx x, tx y])) lr (.lst (gA ++ [.ref t])) lS = some (.lst (ss.map tx)) ∧ ∃ (OC : List V) (K5 : List (Cs × Cs)), upd (upd H4 t (.tup [tx x, tx y])) lr (.lst (gA ++ [.ref t])) lr = some (.lst OC) ∧ Paired (Pair K (upd (upd H4 t (.tup [tx x, tx y])) lr (.lst (gA ++ [.ref t])))) K5 OC ∧ K5.length ≤ i + 1 ∧ ∀ pr ∈ K5, pr.1 ∈ ns ∧ pr.2 ∈ ns) := fun x y hx hy t ht => by
   have s5 := aj ht (.tup [tx x, tx y])
   have YC := s5 _ _ Hc
   have kp : ∀ {t' : aac} {xs : List V}, aK K (upd H4 t (.tup [tx x, tx y])) t' xs → aK K (upd (upd H4 t (.tup [tx x, tx y])) lr (.lst (gA ++ [.ref t]))) t' xs := fun h => iu YC h
   refine ⟨af.a8 (af.trans VC s5) Dg _, by rw [aE Yy]; exact s5 _ _ (s4 _ _ hS'), gA ++ [.ref t], prs ++ [(x, y)], ae, dw (ao YB fun _ _ _ ⟨t', e, z⟩ => ⟨t', e, kp (z.same s5)⟩) (.cons ⟨t, rfl, kp (aK.of ae)⟩ .nil), by rw [Z6]; simp; omega, fun pr Tc => ?_⟩
   rcases ZY.mp Tc with z | z
   ·exact BS pr z
   ·rw [ZX.mp z]; exact ⟨hx, hy⟩
  refine ⟨_, rfl, _, _, rfl, rfl, ⟨by decide, by decide⟩, _, _, rfl, rfl, (by show (0 : Int) < 2; decide), rfl, _, rfl, me (fun _ => ?_) (fun _ => ?_)⟩
  ·refine ⟨_, rfl, .inl ⟨rfl, _, aC.of Hc⟩, _, rfl, _, rfl, (by show 2 ≤ Z2; decide), fun t ht => ?_⟩
   have z := fin2 l' rt hl' Dw t ht
   exact ⟨lr, _, _, rfl, rfl, aj ht _ _ _ Hc, (by rw [aak]; omega), z.1, z.2.1, z.2.2, _, _, _, _, rfl⟩
  ·refine ⟨_, rfl, .inl ⟨rfl, _, aC.of Hc⟩, _, rfl, _, rfl, (by show 2 ≤ Z2; decide), fun t ht => ?_⟩
   have z := fin2 rt l' Dw hl' t ht
   exact ⟨lr, _, _, rfl, rfl, aj ht _ _ _ Hc, (by rw [aak]; omega), z.1, z.2.1, z.2.2, _, _, _, _, rfl⟩
 ·rintro σ H' ⟨sm, hS', ⟨gA, prs, hr', pp, hpl, BS⟩, o5, o6, o7, o8, rfl⟩
  rw [Lm9] at hpl
  exact ⟨_, rfl, q lr gA prs H' sm hr' pp hpl BS⟩
end
end iB
namespace iB
open PySem L2 cI Bk
set_option maxHeartbeats 4000000
section
variable {P : aao} {w : aaO} {K : ZQ} {mg : Str → Option ZS} {base : Heap} {f : aac} {fd : aa0} {C : aac}
theorem bO : aB ["_law_pool_here", "_law_names_here", "_law_classes", "_law_known_here", "_law_name", "_law_due_here"] ["_law_pool_here", "_law_names_here", "_law_classes", "_law_known_here"] (ar dM) := ⟨rfl, rfl, rfl, by decide +kernel, rfl, by decide +kernel, by decide +kernel⟩
theorem mG (F : b6 K "_law_names_told" "_law_names_told" dM f fd) (bH : cA P w K mg base "_law_stand" 1 ["_law_classes", "_law_name"] kh) (dA : cA P w K mg base "_law_torn" 1 ["_law_classes"] p6) (jm : cA P w K mg base "_law_asked" 3 ["_law_pool_here", "_law_name"] (rD K)) : bD P w K mg base jP 4 f fd ["_law_pool_here", "_law_names_here", "_law_classes", "_law_known_here"] (ki K) := by
 refine F.ok bO (fun vs H Q E h => ?_) (fun c0 A outer s H vs Q E hr h => ?_)
 ·obtain ⟨p, ln, lc, lk, ns, nm, cl, ρ, z0, z1, t2, b, st, y2, rfl, _⟩ := h
  rfl
 obtain ⟨p, ln, lc, lk, ns, nm, cl, ρ, z0, z1, t2, b, st, y2, rfl, hp, h2, pp, hsc, hn, hN, tF, hok, hk, Ow, Ky, q⟩ := h
 refine ⟨_, (ah (cb aa5 rfl (aH (pv 1)) (bx (i := 4) bO.nd rfl (aax rfl))
 (ah (aw (i := 5) bO.nd rfl (aax rfl) (aQ (aa (aq bH (hr.mono (by decide)) rfl (aa (pv 2) (aa (pv 4) ag))) ag)))
 (ah (aU (PW.pt (u4 (bj (om aan abJ abK fJ (au fH (pv 4) ai (fun _ _ => rfl)))) (pR (PW.pt (t9 (bj (aq dA (hr.mono (by decide)) rfl (aa (pv 2) ag))) (qa (aD fh (pv 4) (pv 3) (by with_unfolding_all rfl))))))))
 (ak (aw (i := 5) bO.nd rfl (aax rfl) (aQ ag)))
 aA)
 (ah (aU (dq (bj (om aan abJ abK fJ (au fH (pv 4) ai (fun _ _ => rfl)))))
 (ak (aw (i := 5) bO.nd rfl (aax rfl) (aQ (aa (pv 4) ag))))
 aA)
 (ak (aU (aD (Kh hr.units) (aq jm (hr.mono (by decide)) rfl (aa (pv 0) (aa (pv 4) ag))) (pv 5) (bu _))
 (ak (ay bC))
 aA))))))
 (ak (ay bC))), ?_⟩
 refine ⟨_, rfl, ln, rfl, ⟨_, aC.of hn⟩, bK (K := K) (a := ln) (xs := ns.map tx) (fun i σ H' => af H H' ∧ ∃ o o3, σ = [some (.ref p), some (.ref ln), some (.ref lc), some (.ref lk), o, o3]) ⟨af.refl _, none, none, rfl⟩ (fun i σ H' _ ⟨sm, _⟩ => aC.of (sm _ _ hn)) ?_ ?_⟩
 ·rintro i y σ H' hi ⟨sm, o, o3, rfl⟩
  obtain ⟨iD, ey⟩ := ax hi
  rw [Z3] at ey
  subst ey
  have Kz : i < ns.length := by simpa using iD
  have pj := hN _ (ZT Kz)
  have VD := Fe Ow Ky (ns[i])
  generalize ns[i] = n at pj VD
  obtain ⟨u1, u2⟩ := vT pj
  refine ⟨_, rfl, _, rfl, lc, cl, n, rfl, tF.sm sm, hok, pj, fun r H1 s1 TC => ?_⟩
  refine ⟨(by show 1 ≤ Z2; decide), fun l1 qx => ?_⟩
  have s2 := af.trans s1 (aj qx (.lst [tx r]))
  have hl1' := ae (H := H1) (a := l1) (o := .lst [tx r])
  generalize upd H1 l1 (.lst [tx r]) = H2 at s2 hl1' ⊢
  have TF : ∀ (b1 : Bool), great n = b1 → (b1 = true → ¬ (bf cl = true ∨ n ∉ nm) → r = ρ n) := fun b1 _ _ ip => by
   have ht : bf cl = false := by
    cases h : bf cl with
    | false => rfl
    | true => exact absurd (.inl h) ip
   exact Un.iy.uniq sU (fun _ => aft) ((Ky ht).1.whole n) TC ((Ky ht).1.rp n)
  have Bg := af.trans sm s2
  refine nC ?_
  dsimp only
  refine lI (Good := fun σ' H' => af H2 H' ∧ ∃ (l' : aac) (ds : List Cs), H' l' = some (.lst (ds.map tx)) ∧ (great n = true → ds = yr cl ρ nm n) ∧ σ' = [some (.ref p), some (.ref ln), some (.ref lc), some (.ref lk), some (tx n), some (.ref l')]) (fun fin => ?_) (fun σ' H3 hg => ?_)
  ·refine ⟨_, rfl, S n, 0, _, rfl, rfl, u2, lE u1, rfl, _, rfl, rfl, _, rfl, ?_⟩
   rw [aZ, fX pj]
   have Fx : (great n = true → bf cl = false ∧ n ∈ nm) → ∀ H3, af H2 H3 → _ := fun hc H3 s3 => fin _ H3 ⟨s3, l1, [r], s3 _ _ hl1', fun g => by
    have z := hc g
    have ip : ¬ (bf cl = true ∨ n ∉ nm) := by
     rintro (e | e)
     ·rw [z.1] at e; cases e
     ·exact e z.2
    unfold yr
    rw [if_pos g, if_neg ip, TF true g rfl ip], rfl⟩
   have OD : great n = true → (bf cl = true ∨ n ∉ nm) → ∀ H3, af H2 H3 → ∀ l3, H3 l3 = none → _ := fun g ip H3 s3 l3 Gm => fin _ (upd H3 l3 (.lst [])) ⟨af.trans s3 (aj Gm _), l3, [], ae, fun _ => by
    unfold yr
    rw [if_pos g, if_pos ip], rfl⟩
   cases hg : great n with
   | false => exact b5 (Fx (fun z => by rw [hg] at z; cases z) _ (af.refl _))
   | true =>
    refine dc ⟨_, rfl, lc, cl, rfl, tF.sm Bg, hok, fun H3 s3 => ?_⟩
    refine ⟨_, rfl, ?_⟩
    cases ht : bf cl with
    | true => exact dc ⟨(by show 0 ≤ Z2; decide), fun l3 Gm => OD hg (.inl ht) _ s3 l3 Gm⟩
    | false =>
     refine b5 ⟨_, rfl, _, rfl, lk, _, rfl, .inl (aC.of ((af.trans Bg s3) _ _ hk)), rfl, de _, _, rfl, ?_⟩
     rw [if_pos rfl, dF]
     by_cases hm : n ∈ nm
     ·rw [decide_eq_true hm]
      exact b5 (Fx (fun _ => ⟨ht, hm⟩) _ s3)
     ·rw [decide_eq_false hm]
      exact dc ⟨(by show 0 ≤ Z2; decide), fun l3 Gm => OD hg (.inr hm) _ s3 l3 Gm⟩
  obtain ⟨s3, l', ds, hl', VE, rfl⟩ := hg
  refine lI (Good := fun σ' H' => af H3 H' ∧ ∃ (l' : aac), H' l' = some (.lst ((yr cl ρ nm n).map tx)) ∧ σ' = [some (.ref p), some (.ref ln), some (.ref lc), some (.ref lk), some (tx n), some (.ref l')]) (fun fin => ?_) (fun σ' H4 hg => ?_)
  ·refine ⟨_, rfl, S n, 0, _, rfl, rfl, u2, lE u1, rfl, _, rfl, rfl, _, rfl, ?_⟩
   rw [aZ, fX pj]
   cases hg : great n with
   | true => exact b5 (fin _ _ ⟨af.refl _, l', by rw [← VE hg]; exact hl', rfl⟩)
   | false =>
    refine dc ⟨_, rfl, (by show 1 ≤ Z2; decide), fun l3 Gm => fin _ (upd H3 l3 (.lst [tx n])) ⟨aj Gm _, l3, ?_, rfl⟩⟩
    unfold yr
    rw [if_neg (by rw [hg]; decide)]
    exact ae
  clear hl' VE
  obtain ⟨s4, l', hl', rfl⟩ := hg
  have Qo := af.trans Bg (af.trans s3 s4)
  refine ⟨_, rfl, _, rfl, p, n, z0, z1, t2, b, st, y2, rfl, hp.same Qo, h2.same Qo, ao pp (fun _ _ _ ⟨t, e, z⟩ => ⟨t, e, z.same Qo⟩), cM pj, hsc, fun l5 H5 s5 K6 => ?_⟩
  rw [VD] at K6
  refine ⟨_, rfl, Alike.texts (bs := (yr cl ρ nm n).map S) (aC.of (by rw [← dI]; exact K6)) (aC.of (by rw [← dI]; exact s5 _ _ hl')), _, rfl, b5 ⟨af.trans Qo s5, _, _, rfl⟩⟩
 ·rintro σ H' ⟨sm, o, o3, rfl⟩
  exact q _ sm
end
end iB
namespace iB
open PySem L2 cI Bk
set_option maxHeartbeats 4000000
section
variable {P : aao} {w : aaO} {K : ZQ} {mg : Str → Option ZS} {base : Heap} {f : aac} {fd : aa0} {C : aac}
theorem b8 : aB ["_law_kinds_here", "_law_facts", "_law_pairs_here", "_law_classes", "_law_known_here", "_law_fact_here", "_law_pair", "_law_bag", "_law_once"] ["_law_kinds_here", "_law_facts", "_law_pairs_here", "_law_classes"] (ar mE) := ⟨rfl, rfl, rfl, by decide +kernel, rfl, by decide +kernel, by decide +kernel⟩
theorem yJ (F : b6 K "_law_due" "_law_due" mE f fd) (fm : cA P w K mg base "_law_known" 1 ["_law_known_here", "_law_names_here"] (qY K)) (fo : cA P w K mg base "_law_lasts" 1 ["_law_kinds_here", "_law_fact_here"] (qZ K)) (kL : cA P w K mg base "_law_pool" 3 ["_law_bag", "_law_once", "_law_classes", "_law_known_here"] (vL K)) :
  bD P w K mg base jP 4 f fd ["_law_kinds_here", "_law_facts", "_law_pairs_here", "_law_classes"] (Ax K) := by
 refine F.ok b8 (fun vs H Q E h => ?_) (fun c0 A outer s H vs Q E hr h => ?_)
 ·obtain ⟨lk, lf, lp, lc, ks, fs, gA, prs, cl, ρ, rfl, _⟩ := h
  rfl
 obtain ⟨lk, lf, lp, lc, ks, fs, gA, prs, cl, ρ, rfl, TH, h4, YD, xx, OE, pp, BS, tF, hok, hst, Bt, YE, Fu, q⟩ := h
 refine ⟨_, (ah (aw (i := 4) b8.nd rfl (aax rfl) (aQ ag))
 (ah (cb aa5 rfl (aH (pv 1)) (bx (i := 5) b8.nd rfl (aax rfl))
 (ak (aw (i := 4) b8.nd rfl (aax rfl) (aq fm (hr.mono (by decide)) rfl (aa (pv 4) (aa (au av (pv 5) ai (fun _ _ => rfl)) ag))))))
 (ah (cb aa5 rfl (aH (pv 2)) (bx (i := 6) b8.nd rfl (aax rfl))
 (ak (aw (i := 4) b8.nd rfl (aax rfl) (aq fm (hr.mono (by decide)) rfl (aa (pv 4) (aa (pv 6) ag))))))
 (ah (eG (i := 7) [0] b8.nd rfl (aax rfl) rfl (by kernel_rfl) (aH (pv 1)) (fun _ _ _ _ _ => (dE (dq (bj (aq fo (hr.mono (by decide)) rfl (aa (pv 1) (aa (pv 0) ag))))))) (fun _ _ _ _ _ => (pv 0)))
 (ah (eG (i := 8) [0] b8.nd rfl (aax rfl) rfl (by kernel_rfl) (aH (pv 1)) (fun _ _ _ _ _ => (dE (bj (aq fo (hr.mono (by decide)) rfl (aa (pv 1) (aa (pv 0) ag)))))) (fun _ _ _ _ _ => (pv 0)))
 (ak (ay (cY (aa (aq kL (hr.mono (by decide)) rfl (aa (pv 7) (aa (pv 8) (aa (pv 3) (aa (pv 4) ag))))) (aa (pv 4) ag)))))))))), ?_⟩
 refine ⟨(by show 0 ≤ Z2; decide), fun l0 Sz => ?_⟩
 have s1 : af H (upd H l0 (.lst [])) := aj Sz _
 have Ga := ae (H := H) (a := l0) (o := .lst [])
 generalize upd H l0 (.lst []) = H1 at Ga s1 ⊢
 obtain ⟨mP, hf, pf⟩ := YD
 have zf := aad pf
 have zp := aad pp
 refine ⟨_, rfl, lf, rfl, ⟨_, aC.of (s1 _ _ hf)⟩, bK (K := K) (a := lf) (xs := mP) (fun i σ H' => af H H' ∧ ∃ Kl o5 o6 o7 o8, H' Kl = some (.lst ((kn [] ((fs.take i).flatMap (·.as))).map tx)) ∧ σ = [some (.ref lk), some (.ref lf), some (.ref lp), some (.ref lc), some (.ref Kl), o5, o6, o7, o8])
  ⟨s1, l0, none, none, none, none, Ga, rfl⟩ (fun i σ H' _ ⟨sm, _⟩ => aC.of (sm _ _ hf)) ?_ ?_⟩
 ·rintro i y σ H' hi ⟨sm, k1, o5, o6, o7, o8, hk1', rfl⟩
  obtain ⟨iD, ey⟩ := ax hi
  have xj : i < fs.length := by omega
  have hFa := Fact.sm sm (paired_at pf i xj iD)
  rw [ey] at hFa
  have hF := xx _ (ZT xj)
  obtain ⟨t, t2, et, g1, g2⟩ := id hFa
  subst et
  have Bf := qU ((fs.take i).flatMap (·.as)) []
  have GH := j5 (fs := fs.take i) fun g hg => (xx g (aa3 hg)).fs
  rw [aah] at GH
  simp only [aaQ] at Bf
  have Qd := hF.n
  refine ⟨_, rfl, _, rfl, t, _, 1, _, rfl, rfl, g1, rfl, k1, t2, kn [] ((fs.take i).flatMap (·.as)), fs[i].as, rfl, hk1', g2, (by omega), hF.as, fun l H2 s4 hl hL => ?_⟩
  exact ⟨af.trans sm s4, l, _, _, _, _, by rw [uH xj, EN]; exact hL, rfl⟩
 rintro σ H2 ⟨s2, k1, o5, o6, o7, o8, Gg, rfl⟩
 rw [← zf, aau] at Gg
 have GH := j5 (fs := fs) fun g hg => (xx g hg).fs
 have Bf := qU (fs.flatMap (·.as)) []
 simp only [aaQ] at Bf
 refine ⟨_, rfl, lp, rfl, ⟨_, aC.of (s2 _ _ OE)⟩, bK (K := K) (a := lp) (xs := gA) (fun i σ H' => af H H' ∧ ∃ Kl o5 o6 o7 o8, H' Kl = some (.lst ((bW fs (prs.take i)).map tx)) ∧ σ = [some (.ref lk), some (.ref lf), some (.ref lp), some (.ref lc), some (.ref Kl), o5, o6, o7, o8])
  ⟨s2, k1, o5, o6, o7, o8, Gg, rfl⟩ (fun i σ H' _ ⟨sm, _⟩ => aC.of (sm _ _ OE)) ?_ ?_⟩
 ·clear Gg
  rintro i y σ H' hi ⟨sm, k1, o5, o6, o7, o8, hk1', rfl⟩
  obtain ⟨iD, ey⟩ := ax hi
  have DB : i < prs.length := by omega
  obtain ⟨t, et, ht⟩ := paired_at pp i DB iD
  rw [ey] at et
  subst et
  have Bj := BS _ (ZT DB)
  have Kx : (i0 (prs.take i)).length ≤ 2 * i := by
   unfold i0
   have : ∀ l : List (Cs × Cs), (l.flatMap fun p => [p.1, p.2]).length = 2 * l.length := fun l => by
    induction l with
    | nil => rfl
    | cons a r ih => rw [acE, Z6, ih]; simp; omega
   rw [this, aah]
   omega
  have ZI := qU (i0 (prs.take i)) (kn [] (fs.flatMap (·.as)))
  refine ⟨_, rfl, _, rfl, k1, t, bW fs (prs.take i), [(prs[i]).1, (prs[i]).2], rfl, hk1', ht.same sm, ?_, ?_, fun l H3 s4 hl hL => ?_⟩
  ·unfold bW
   simp only [aal, aaQ]
   omega
  ·intro n hn
   rcases aai.mp hn with e | e
   ·rw [e]; exact Bj.1
   ·rw [ZX.mp e]; exact Bj.2
  ·refine ⟨af.trans sm s4, l, _, _, _, _, ?_, rfl⟩
   have e : bW fs (prs.take (i + 1)) = kn (bW fs (prs.take i)) [(prs[i]).1, (prs[i]).2] := by
    unfold bW i0
    rw [Z4 DB, acQ, EN]
    rfl
   rw [e]
   exact hL
 clear Gg s2
 rintro σ H3 ⟨s3, k1, o5, o6, o7, o8, Kc, rfl⟩
 rw [← zp, aau] at Kc
 have TJ := s3 _ _ hf
 have TK : Paired (Fact K H3) fs mP := ao pf fun _ _ _ => Fact.sm s3
 have OG := TH.sm s3
 have Kx : ∀ k ∈ ks, k.n.length ≤ 1000 := fun k hk => by have := (cM (h4.ok k hk).1).2.1; omega
 have yt : ∀ f ∈ fs, f.k.length ≤ 1000 := fun f hf => by have := (cM (xx f hf).k).2.1; omega
 refine ⟨_, rfl, lf, rfl, ⟨_, aC.of TJ⟩, fun D4 SU => ?_⟩
 refine ij (K := K) (xs := mP) fs (fun f => !decide (f.k ∈ eQ ks)) id (fun _ H f y => Fact K H f y) (fun _ _ _ _ _ k h => Fact.keep k h) (fun _ _ _ _ _ _ h => h) (n0 (by omega)) SU (aC.of TJ) zf (fun i x b H' R hx hb sm hQ => ?_) (fun i x b H' R hx hb hk sm hQ => ?_) (fun H4 VF s4 YF Qp => ?_)
 ·obtain ⟨hi, ex⟩ := ax hx
  obtain ⟨fb, eb⟩ := ax hb
  have hFa := Fact.sm sm (paired_at TK i fb hi)
  rw [ex, eb] at hFa
  have hb' : b ∈ fs := by rw [← eb]; exact ZT fb
  exact ⟨_, rfl, _, rfl, lk, x, ks, b, rfl, OG.sm sm, h4.nd, hFa, yt b hb', Kx, _, rfl, hQ _ (af.refl _)⟩
 ·obtain ⟨hi, ex⟩ := ax hx
  obtain ⟨fb, eb⟩ := ax hb
  have hFa := Fact.sm sm (paired_at TK i fb hi)
  rw [ex, eb] at hFa
  exact ⟨_, rfl, hQ _ _ (af.refl _) hFa⟩
 rw [abA] at Qp
 have Qp : Paired (Fact K H4) (dJ ks fs) VF := Qp
 have Oq := af.trans s3 s4
 have VG := s4 _ _ TJ
 have VH : Paired (Fact K H4) fs mP := ao TK fun _ _ _ => Fact.sm s4
 have TL := OG.sm s4
 refine ⟨_, rfl, lf, rfl, ⟨_, aC.of VG⟩, fun D5 SX => ?_⟩
 refine ij (K := K) (xs := mP) fs (fun f => decide (f.k ∈ eQ ks)) id (fun _ H f y => Fact K H f y) (fun _ _ _ _ _ k h => Fact.keep k h) (fun _ _ _ _ _ _ h => h) (n0 (by omega)) SX (aC.of VG) zf (fun i x b H' R hx hb sm hQ => ?_) (fun i x b H' R hx hb hk sm hQ => ?_) (fun H5 VI s5 AF Qq => ?_)
 ·obtain ⟨hi, ex⟩ := ax hx
  obtain ⟨fb, eb⟩ := ax hb
  have hFa := Fact.sm sm (paired_at VH i fb hi)
  rw [ex, eb] at hFa
  have hb' : b ∈ fs := by rw [← eb]; exact ZT fb
  exact ⟨_, rfl, _, rfl, lk, x, ks, b, rfl, TL.sm sm, h4.nd, hFa, yt b hb', Kx, _, rfl, hQ _ (af.refl _)⟩
 ·obtain ⟨hi, ex⟩ := ax hx
  obtain ⟨fb, eb⟩ := ax hb
  have hFa := Fact.sm sm (paired_at VH i fb hi)
  rw [ex, eb] at hFa
  exact ⟨_, rfl, hQ _ _ (af.refl _) hFa⟩
 rw [abA] at Qq
 have Qq : Paired (Fact K H5) (cL ks fs) VI := Qq
 have TM := af.trans Oq s5
 have z1 : (dJ ks fs).length ≤ fs.length := aat _ _
 have z2 : (cL ks fs).length ≤ fs.length := aat _ _
 have LY := s5 _ _ (s4 _ _ Kc)
 have pj : ∀ n ∈ bW fs prs, aP n = true := fun n hn => by
  unfold bW at hn
  rcases (mz _ n).mp hn with h | ⟨h, _⟩
  ·rcases (mz _ n).mp h with h | ⟨h, _⟩
   ·cases h
   ·obtain ⟨g, hg, h⟩ := abx.mp h
    exact (xx g hg).as n h
  ·unfold i0 at h
   obtain ⟨p, hp, h⟩ := abx.mp h
   rcases aai.mp h with e | e
   ·rw [e]; exact (BS p hp).1
   ·rw [ZX.mp e]; exact (BS p hp).2
 refine ⟨_, rfl, _, rfl, _, rfl, _, rfl, D4, D5, lc, k1, cl, ρ, dJ ks fs, cL ks fs, bW fs prs, rfl, ⟨VF, s5 _ _ YF, ao Qp fun _ _ _ => Fact.sm s5⟩, ⟨VI, AF, Qq⟩, tF.sm TM, hok, hst, LY, ?_, pj, (by omega), (by omega), Fu, fun ht p d0 d1 d2 H6 s6 hp h0 h1 h2 => ?_, fun ht v H6 s6 hP => ?_⟩
 ·intro g hg
  have hg' : g ∈ fs := by
   rcases ZY.mp hg with z | z
   ·exact (aaq.mp z).1
   ·exact (aaq.mp z).1
  have := (xx g hg').n
  exact ⟨by omega, (xx g hg').as⟩
 ·refine ⟨_, rfl, (by show 2 ≤ Z2; decide), fun t BU => ?_⟩
  have s7 := aj BU (.tup [.ref p, .ref k1])
  exact q t k1 _ _ (af.trans TM (af.trans s6 s7)) (aK.of ae) (s7 _ _ (s6 _ _ LY)) (fun _ => ⟨p, d0, d1, d2, rfl, aK.of (s7 _ _ hp), aK.of (s7 _ _ h0), aK.of (s7 _ _ h1), aK.of (s7 _ _ h2)⟩) fun z => by rw [ht] at z; cases z
 ·refine ⟨_, rfl, (by show 2 ≤ Z2; decide), fun t BU => ?_⟩
  have s7 := aj BU (.tup [v, .ref k1])
  exact q t k1 _ _ (af.trans TM (af.trans s6 s7)) (aK.of ae) (s7 _ _ (s6 _ _ LY)) (fun z => by rw [ht] at z; cases z) fun _ => hP.sm s7
end
end iB
namespace iB
open PySem L2 cI Bk
set_option maxHeartbeats 4000000
section
variable {P : aao} {w : aaO} {K : ZQ} {mg : Str → Option ZS} {base : Heap} {f : aac} {fd : aa0} {b1 d0 d1 d2 : aac}
theorem cD : aB ["_law_script", "_law_kinds_here", "_law_names_here", "_law_way", "_law_cut", "_law_facts", "_law_pairs_here", "_law_half", "_law_handed", "_law_start", "_law_found", "_law_classes", "_law_step", "_law_pair", "_law_due_here", "_law_told"] ["_law_script"] (ar nN) := ⟨rfl, rfl, rfl, by decide +kernel, rfl, by decide +kernel, by decide +kernel⟩
theorem K7 (F : b6 K "law" "law" nN f fd) (bP : cA P w K mg base "_law_cell_at" 1 ["_law_script", "_law_k"] (zT K)) (jn : cA P w K mg base "_law_kinds" 4 ["_law_cell", "_law_sizes"] (vC K)) (jo : cA P w K mg base "_law_opens" 3 ["_law_cell", "_law_many"] (iQ eB.cps.toList)) (jq : cA P w K mg base "_law_words" 3 ["_law_cell", "_law_many"] (iQ LG.cps.toList))
  (kO : cA P w K mg base "_law_fact" 2 ["_law_kinds_here", "_law_names_here", "_law_cell"] (vD K)) (jr : cA P w K mg base "_law_pairs" 2 ["_law_names_here", "_law_way", "_law_cells"] (rE K)) (js : qR P w K mg base "start_pool" 5 ["kinds", "facts"] (nK K)) (gF : qR P w K mg base "moved" 4 ["kinds", "pool", "taken", "put", "told"] (iA K b1)) (g6 : cA P w K mg base "_law_merged" 1 ["_law_classes", "_law_pair"] (oC K)) (mH : cA P w K mg base "_law_due" 4 ["_law_kinds_here", "_law_facts", "_law_pairs_here", "_law_classes"] (Ax K))
  (dO : cA P w K mg base "_law_is_pool" 1 ["_law_found", "_law_due_here"] (rl K)) (kU : cA P w K mg base "pool_text" 3 ["pool"] (iZ K)) (fY : cA P w K mg base "_law_written" 2 ["_law_due_here"] (iZ K)) (dP : cA P w K mg base "_law_names_told" 4 ["_law_pool_here", "_law_names_here", "_law_classes", "_law_known_here"] (ki K))
  (hb1 : ∀ H, aK K H b1 [.ref d0, .ref d1, .ref d2, .bl true]) (hd0 : ∀ H, aK K H d0 []) (xQ : ∀ H, aK K H d1 []) (hd2 : ∀ H, aK K H d2 []) (gU : mg "list" = none) (bV : mg "len" = none) (fj : mg "isinstance" = none) (OH : mg "str" = none) : bD P w K mg base (zm P w) 6 f fd ["_law_script"] (Bq K) := by
 refine F.Mz cD (fun vs H Q E h => ?_) (fun c0 A outer s H vs Q E hr h => ?_)
 ·obtain ⟨a, ns, rfl, _⟩ := h
  rfl
 obtain ⟨a, ns, rfl, hS, hn, q⟩ := h
 refine ⟨_, (@ah _ _ _ _ _ (aw (i := 1) cD.nd rfl (ac2 rfl) (aq jn (hr.mono (by decide)) rfl (aa (aq bP (hr.mono (by decide)) rfl (aa (pv 0) (aa ai ag))) (aa (aQ (aa ai (aa ai (aa ai (aa ai (aa ai (aa ai ag))))))) ag)))) (@ah _ _ _ _ _ (aw (i := 2) cD.nd rfl (ac2 rfl) (az oo (aq jo (hr.mono (by decide)) rfl (aa (aq bP (hr.mono (by decide)) rfl (aa (pv 0) (aa ai ag))) (aa ai ag))) (aq jq (hr.mono (by decide)) rfl (aa (aq bP (hr.mono (by decide)) rfl (aa (pv 0) (aa ai ag))) (aa ai ag))))) (@ah _ _ _ _ _ (aw (i := 3) cD.nd rfl (aax rfl) (az bL (aq bP (hr.mono (by decide)) rfl (aa (pv 0) (aa ai ag))) ai)) (@ah _ _ _ _ _ (aw (i := 4) cD.nd rfl (aax rfl) (az iI ai (az bL (az cc (aq bP (hr.mono (by decide)) rfl (aa (pv 0) (aa ai ag))) ai) ai))) (@ah _ _ _ _ _ (eG (i := 5) [1, 2] cD.nd rfl (aax rfl) rfl (by kernel_rfl) (aH (cv gm (pv 0) (cf ai) (cf (pv 4)))) (fun _ _ _ _ _ => bz) (fun _ _ _ _ _ => (aq kO (hr.mono (by decide)) rfl (aa (pv 1) (aa (pv 2) (aa (pv 0) ag)))))) (@ah _ _ _ _ _ (aw (i := 6) cD.nd rfl (aax rfl) (aq jr (hr.mono (by decide)) rfl (aa (pv 2) (aa (pv 3) (aa (cv gm (pv 0) (cf (pv 4)) (cf ai)) ag))))) (@ah _ _ _ _ _ (aw (i := 7) cD.nd rfl (aax rfl) (az cc (aG aM rfl bV aaW (aa (pv 5) ag)) ai)) (@ah _ _ _ _ _ (@aw _ _ 8 _ _ _ _ cD.nd rfl (aax rfl) (@aQ _ _ _ _ (@aa _ _ _ _ _ (aR dD rfl gU PyProof.Rows.Boot.«list» (aa (cv gm (pv 5) (cf (pv 7)) ff) ag)) (@aa _ _ _ _ _ (aR dD rfl gU PyProof.Rows.Boot.«list» (aa (pv 6) ag)) (@ag _) rfl) rfl)) (by kernel_rfl) (aax rfl)) (@ah _ _ _ _ _ (aw (i := 9) cD.nd rfl (aax rfl) (fO js (hr.mono (by decide)) rfl (aa (pv 1) (aa (cv gm (pv 5) ff (cf (pv 7))) ag)))) (@ah _ _ _ _ _ (aw (i := 10) cD.nd rfl (aax rfl) (fO gF (hr.mono (by decide)) rfl (aa (pv 1) (aa (pv 9) (aa (aQ ag) (aa (au cG (pv 8) ai (fun _ _ => rfl)) (aa (au cG (pv 8) ai (fun _ _ => rfl)) ag))))))) (@ah _ _ _ _ _ (aU (aD (Hl hr.units) (pv 8) (aQ (aa (cv gm (pv 5) (cf (pv 7)) ff) (aa (pv 6) ag))) (bu _))
 (ak (ay bC))
 aA) (@ah _ _ _ _ _ (@aw _ _ 11 _ _ _ _ cD.nd rfl (aax rfl) (@aQ _ _ _ _ (@ag _)) (by kernel_rfl) (aax rfl)) (@ah _ _ _ _ _ (aw (i := 12) cD.nd rfl (aax rfl) (fO gF (hr.mono (by decide)) rfl (aa (pv 1) (aa (pv 9) (aa (aQ ag) (aa (cv gm (pv 5) (cf (pv 7)) ff) (aa (aQ ag) ag))))))) (@ah _ _ _ _ _ (cb jW rfl (aH (pv 6)) (bx (i := 13) cD.nd rfl (aax rfl))
 (ah (aw (i := 11) cD.nd rfl (aax rfl) (aq g6 (hr.mono (by decide)) rfl (aa (pv 11) (aa (pv 13) ag))))
 (ak (aw (i := 12) cD.nd rfl (aax rfl) (fO gF (hr.mono (by decide)) rfl (aa (pv 1) (aa (pv 12) (aa (aQ ag) (aa (aQ ag) (aa (aQ (aa (pv 13) ag)) ag)))))))))) (@ah _ _ _ _ _ (aw (i := 14) cD.nd rfl (aax rfl) (aq mH (hr.mono (by decide)) rfl (aa (pv 1) (aa (pv 5) (aa (pv 6) (aa (pv 11) ag)))))) (@ah _ _ _ _ _ (aU (PW.pt (t9 (dq (bj (aq dO (hr.mono (by decide)) rfl (aa (pv 10) (aa (au av (pv 14) ai (fun _ _ => rfl)) ag))))) (qa (dq (bj (aq dO (hr.mono (by decide)) rfl (aa (pv 12) (aa (au av (pv 14) ai (fun _ _ => rfl)) ag))))))))
 (ak (ay bC))
 aA) (@ah _ _ _ _ _ (aw (i := 15) cD.nd rfl (aax rfl) (aq kU (hr.mono (by decide)) rfl (aa (pv 10) ag))) (@ah _ _ _ _ _ (aU (PW.pt (t9 (dq (bj (aG oO rfl fj acp (aa (pv 15) (aa (uZ rfl OH PyProof.Rows.Boot.«str» (v := .ty "str") rfl) ag))))) (qa (aD ub (pv 15) (aq fY (hr.mono (by decide)) rfl (aa (au av (pv 14) ai (fun _ _ => rfl)) ag)) (bu _)))))
 (ak (ay bC))
 aA) (ak (ay (aq dP (hr.mono (by decide)) rfl (aa (pv 10) (aa (pv 2) (aa (pv 11) (aa (au av (pv 14) ai (fun _ _ => rfl)) ag))))))))))))))))))))))))), ?_⟩
 refine ⟨_, rfl, a, ns, 0, rfl, hS, by decide, fun v0 => ?_⟩
 refine ⟨(by show 6 ≤ Z2; decide), fun lz hlz => ⟨v0, lz, [0, 1, 2, 2, 1, 3], rfl, aC.of ae, by decide, by decide, by decide, fun lk ks H1 s1 Qk TH h4 => ?_⟩⟩
 have sA : af H H1 := af.trans (aj hlz _) s1
 have hS1 : aC K H1 a (ns.map V.int) := sA.seq hS
 refine ⟨_, rfl, a, ns, 1, rfl, hS1, by decide, fun v1 => ⟨v1, 5, rfl, by decide, fun lo os H3 s3 hlo YG ho YH YI => ?_⟩⟩
 have YJ : aC K H3 a (ns.map V.int) := s3.seq hS1
 refine ⟨_, rfl, a, ns, 2, rfl, YJ, by decide, fun v2 => ⟨v2, 3, rfl, by decide, fun lw ws H4 s4 ZJ YK hw YL YM => ?_⟩⟩
 refine ⟨lo, lw, _, _, rfl, rfl, s4 _ _ YG, YK, (by rw [Lm9, Lm9, aak]; omega), fun ln Fn => ?_⟩
 have s5 : af H4 (upd H4 ln (.lst (os.map tx ++ ws.map tx))) := aj Fn _
 have AF := ae (H := H4) (a := ln) (o := .lst (os.map tx ++ ws.map tx))
 rw [← aaj] at s5 AF ⊢
 have sC := af.trans sA (af.trans s3 (af.trans s4 s5))
 have OI := TH.sm (af.trans s3 (af.trans s4 s5))
 generalize upd H4 ln (.lst ((os ++ ws).map tx)) = H5 at s5 AF sC OI ⊢
 have TN : aC K H5 a (ns.map V.int) := sC.seq hS
 refine ⟨_, rfl, a, ns, 3, rfl, TN, by decide, fun v3 => ⟨_, _, rfl, rfl, (by show (0 : Int) < 3; decide), ?_⟩⟩
 refine ⟨_, rfl, a, ns, 3, rfl, TN, by decide, fun v4 => ⟨_, _, rfl, rfl, ⟨by decide, by decide⟩, _, _, rfl, rfl, (by show (0 : Int) < 60; decide), _, _, rfl, rfl, ?_⟩⟩
 have ZK := mid (a := v4 / 3) (b := 60) (by decide)
 obtain ⟨c, hc, Vy⟩ : ∃ c : Nat, 4 + v4 / 3 % 60 = (c : Int) ∧ 4 ≤ c := ⟨(4 + v4 / 3 % 60).toNat, by omega, by omega⟩
 obtain ⟨ms, Kv, YN, TQ, ZL⟩ := So ns Vy
 show oN 4 (V.int (4 + v4 / 3 % 60)) _ _ _
 rw [hc]
 refine ⟨_, rfl, _, rfl, _, rfl, _, rfl, a, _, rfl, TN, fun Qr TR => ?_⟩
 rw [YN]
 have s6 : af H5 (upd H5 Qr (.lst (ms.map V.int))) := aj TR _
 have LM := ae (H := H5) (a := Qr) (o := .lst (ms.map V.int))
 generalize upd H5 Qr (.lst (ms.map V.int)) = H6 at s6 LM ⊢
 have OJ := OI.sm s6
 have K8 := s6 _ _ AF
 have VJ : (os ++ ws).length = 8 := by rw [Z6]; omega
 have hN : ∀ x ∈ os ++ ws, aP x = true := fun x hx => by
  rcases ZY.mp hx with z | z
  ·exact (YH x z).1
  ·exact (YL x z).1
 generalize os ++ ws = nn at VJ hN K8 AF ⊢
 refine ⟨Qr, rfl, ⟨_, aC.of LM⟩, fun D hD => ?_⟩
 refine fK (K := K) (xs := ms.map V.int) (List.replicate ms.length ()) (fun _ H _ y => ∃ f, Fact K H f y ∧ ((∃ k ∈ ks, f.k = k.n ∧ f.as.length = k.c) ∧ ∀ a ∈ f.as, a ∈ nn)) (fun _ _ _ _ _ k ⟨f, h, g⟩ => ⟨f, Fact.keep k h, g⟩) (fun _ _ _ _ _ _ h => h) (n0 (by rw [Lm9]; omega)) hD (aC.of LM) (by rw [adk, Lm9]) (fun i x b H' R hx hb sm hQ => ?_) (fun H7 ys s7 N1 po => ?_)
 ·obtain ⟨hi, ex⟩ := ax hx
  have ex : V.int (ms[i]'(by simpa using hi)) = x := by rw [← ex, Z3]
  subst ex
  exact ⟨_, rfl, _, rfl, _, rfl, lk, ln, _, ks, nn, rfl, OJ.sm sm, h4, sm _ _ K8, (by omega), (by omega), fun v' g jG s'' hF hk ha => hQ _ _ s'' ⟨g, hF, hk, ha⟩⟩
 obtain ⟨fs, TU, VL⟩ := rg po
 have zf := aad TU
 have ZM : fs.length = ms.length := by
  have z2 := aad po
  rw [adk] at z2
  omega
 clear po
 have sE : af H H7 := af.trans sC (af.trans s6 s7)
 have TV := OJ.sm s7
 have OK := s7 _ _ K8
 have YO : aC K H7 a (ns.map V.int) := sE.seq hS
 refine ⟨_, rfl, _, rfl, _, rfl, _, rfl, _, rfl, _, rfl, a, _, rfl, YO, fun Qs TX => ?_⟩
 rw [TQ]
 have s8 : af H7 (upd H7 Qs (.lst (Kv.map V.int))) := aj TX _
 have hL8 := ae (H := H7) (a := Qs) (o := .lst (Kv.map V.int))
 generalize upd H7 Qs (.lst (Kv.map V.int)) = H8 at s8 hL8 ⊢
 refine ⟨ln, Qs, _, nn, Kv, rfl, s8 _ _ OK, VJ, hL8, (by omega), fun lp gA prs H9 s9 LX pp YQ AI => ?_⟩
 have OL := af.trans s8 s9
 have TY := TV.sm OL
 have TZ := OL _ _ OK
 have LO := OL _ _ N1
 have YR : Paired (Fact K H9) fs ys := ao TU fun _ _ _ => Fact.sm OL
 have sG := af.trans sE OL
 clear TU
 refine ⟨_, rfl, D, _, rfl, .inl (aC.of LO), _, _, rfl, rfl, ⟨by decide, by decide⟩, ?_⟩
 show oN 7 (V.int (((ys.length : Nat) : Int) / 2)) _ _ _
 rw [show ((ys.length : Nat) : Int) / 2 = ((ys.length / 2 : Nat) : Int) by omega]
 have T3 : ys.length / 2 ≤ ys.length := by omega
 generalize ys.length / 2 = hf at T3 ⊢
 have C4 : ∀ g ∈ fs, FL g ∧ (∀ a ∈ g.as, a ∈ nn) ∧ FN g := fun g hg => by
  obtain ⟨⟨k, Ga, Gg, Kc⟩, ha⟩ := VL g hg
  have P8 := h4.ok k Ga
  have LY : aP g.k = true := by rw [Gg]; exact P8.1
  exact ⟨⟨LY, fun a h => hN a (ha a h), by rw [Kc]; omega⟩, ha, ⟨LY, fun a h => hN a (ha a h), by rw [Kc]; omega⟩⟩
 have K9 : ∀ gs : List Fc, (∀ g ∈ gs, g ∈ fs) → dH ks gs = 0 := fun gs h => uM h4.nd fun g hg => (VL g (h g hg)).1
 have hmul : ms.length ≤ 59 ∧ prs.length ≤ 59 := by omega
 have eD : jM ys (some ((hf : Nat) : Int)) none = ys.drop hf := D6 T3
 have eT : jM ys none (some ((hf : Nat) : Int)) = ys.take hf := Kw T3
 refine ⟨_, rfl, _, rfl, _, rfl, D, _, rfl, aC.of LO, fun l1 qx => ?_⟩
 rw [eD]
 have r1 := aj qx (.lst (ys.drop hf))
 refine ⟨l1, _, rfl, .inl (aC.of ae), fun q1 RN => ?_⟩
 have r2 := aj RN (.lst (ys.drop hf))
 have T4 := af.trans r1 r2
 refine ⟨_, rfl, lp, _, rfl, .inl (aC.of (T4 _ _ LX)), fun q2 YS => ?_⟩
 have r3 := aj YS (.lst gA)
 refine ⟨(by show 2 ≤ Z2; decide), fun lh YT => ?_⟩
 have r4 := aj YT (.lst [.ref q1, .ref q2])
 have sr := af.trans T4 (af.trans r3 r4)
 have HK := r4 _ _ (r3 _ _ (ae (H := upd H9 l1 (.lst (ys.drop hf))) (a := q1) (o := .lst (ys.drop hf))))
 have HL := r4 _ _ (ae (H := upd (upd H9 l1 (.lst (ys.drop hf))) q1 (.lst (ys.drop hf))) (a := q2) (o := .lst gA))
 have Fy := ae (H := upd (upd (upd H9 l1 (.lst (ys.drop hf))) q1 (.lst (ys.drop hf))) q2 (.lst gA)) (a := lh) (o := .lst [.ref q1, .ref q2])
 generalize upd (upd (upd (upd H9 l1 (.lst (ys.drop hf))) q1 (.lst (ys.drop hf))) q2 (.lst gA)) lh (.lst [.ref q1, .ref q2]) = Gi at r4 sr HK HL Fy ⊢
 clear r1 r2 T4 r3 r4
 have Iv := TY.sm sr
 have HM := sr _ _ LO
 have Fz : Paired (Fact K Gi) fs ys := ao YR fun _ _ _ => Fact.sm sr
 have Iw := sr _ _ LX
 have La : Paired (Pair K Gi) prs gA := ao pp fun _ _ _ ⟨t, e, z⟩ => ⟨t, e, z.same sr⟩
 have OM := sr _ _ TZ
 have T6 : ∀ H, P9 K H (.ref b1) := fun H => ⟨b1, _, _, _, rfl, hb1 H⟩
 have HN : ∀ {H' : Hp} {l : aac} {gs : List Fc} {gv : List V}, af Gi H' → H' l = some (.lst gv) → Paired (Fact K H') gs gv → (∀ g ∈ gs, g ∈ fs) → KF K H' lk l ks gs := fun s1 h1 h2 h3 => ⟨Iv.sm s1, h4.nd, (by rw [h4.len]; decide), ⟨_, h1, h2⟩, fun g hg => (C4 g (h3 g hg)).1.fs⟩
 have FA : ∀ g ∈ fs.take hf, g ∈ fs := fun g hg => aa3 hg
 have Dj : ∀ g ∈ fs.drop hf, g ∈ fs := fun g hg => aeQ hg
 have zt : (fs.take hf).length + (fs.drop hf).length = fs.length := by rw [← Z6, abq]
 refine ⟨_, rfl, _, rfl, _, rfl, _, rfl, D, _, rfl, aC.of HM, fun l2 qg => ?_⟩
 rw [eT]
 have t1 := aj qg (.lst (ys.take hf))
 refine Ff (E := E) (b1 := b1) (ns := nn) (by omega) (by omega) (fun g hg => (C4 g (FA g hg)).2.1) (HN t1 ae (ao (pd hf Fz) fun _ _ _ => Fact.sm t1) FA) (K9 _ FA) (fun VM Oa LP Lb => ?_)
 have sH := af.trans t1 LP
 clear t1 LP
 refine ⟨_, rfl, _, rfl, (by show 0 ≤ Z2; decide), fun l3 Gm => ?_⟩
 have t1 := aj Gm (.lst [])
 have Lc := ae (H := Oa) (a := l3) (o := .lst [])
 have sI := af.trans sH t1
 generalize upd Oa l3 (.lst []) = KQ at t1 Lc sI ⊢
 refine ⟨_, rfl, lh, _, 0, _, rfl, rfl, aC.of (sI _ _ Fy), rfl, ?_⟩
 refine ⟨_, rfl, lh, _, 1, _, rfl, rfl, aC.of (sI _ _ Fy), rfl, ?_⟩
 dsimp only [Cg]
 show iA K b1 [.ref lk, VM, .ref l3, .ref q1, .ref q2] KQ _ _
 refine rF (T6 _) hN (by omega) (fun g hg => (C4 g (FA g hg)).1.n) (fs2 := fs.drop hf) (by omega) (by omega) (fun g hg => (C4 g (Dj g hg)).2.1) AI (Lb.sm t1) (HN sI (sI _ _ HK) (ao (gD hf Fz) fun _ _ _ => Fact.sm sI) Dj) Lc (sI _ _ HL) (ao La fun _ _ _ ⟨t, e, z⟩ => ⟨t, e, z.same sI⟩) (K9 _ Dj) (fun VN BX Gj DC => ?_)
 rw [abq, abv] at DC
 have sJ := af.trans sI Gj
 have ON := Lb.sm (af.trans t1 Gj)
 clear Lb Lc t1
 refine ⟨_, rfl, _, rfl, _, rfl, _, rfl, D, _, rfl, aC.of (sJ _ _ HM), fun l4 VO => ?_⟩
 rw [eD]
 have t1 := aj VO (.lst (ys.drop hf))
 refine ⟨_, rfl, (by show 2 ≤ Z2; decide), fun lq Tu => ?_⟩
 have t2 := aj Tu (.lst [.ref l4, .ref lp])
 have sK := af.trans sJ (af.trans t1 t2)
 refine ⟨lh, lq, _, _, rfl, rfl, aC.of (sK _ _ Fy), aC.of ae, rfl, ?_, _, rfl, b5 ?_⟩
 ·intro i h1 h2
  match i, h1, h2 with
  | 0, _, _ => exact Am (aC.of (sK _ _ HK)) (aC.of (t2 _ _ ae)) (ao (gD hf Fz) fun _ _ _ => Fact.sm sK)
  | 1, _, _ => exact Ay (aC.of (sK _ _ HL)) (aC.of (sK _ _ Iw)) (ao La fun _ _ _ ⟨t, e, z⟩ => ⟨t, e, z.same sK⟩)
 have Qt := af.trans t1 t2
 have hW1' := DC.sm Qt
 have Lb := ON.sm Qt
 clear DC ON Tu VO Gm sH sI Gj Fy HK HL
 generalize upd (upd BX l4 (.lst (ys.drop hf))) lq (.lst [.ref l4, .ref lp]) = KR at t1 t2 Qt hW1' Lb sK ⊢
 refine ⟨(by show 0 ≤ Z2; decide), fun lc YU => ?_⟩
 have t3 := aj YU (.lst [])
 have Ld := ae (H := KR) (a := lc) (o := .lst [])
 generalize upd KR lc (.lst []) = Og at t3 Ld ⊢
 refine ⟨_, rfl, _, rfl, (by show 0 ≤ Z2; decide), fun l5 K6 => ?_⟩
 have t4 := aj K6 (.lst [])
 have Dk := ae (H := Og) (a := l5) (o := .lst [])
 have OO := af.trans t3 t4
 have sL := af.trans sK OO
 generalize upd Og l5 (.lst []) = LR at t4 Dk OO sL ⊢
 refine ⟨_, rfl, _, rfl, _, rfl, D, _, rfl, aC.of (sL _ _ HM), fun l6 Qu => ?_⟩
 rw [eD]
 have t5 := aj Qu (.lst (ys.drop hf))
 have hl6' := ae (H := LR) (a := l6) (o := .lst (ys.drop hf))
 refine ⟨(by show 0 ≤ Z2; decide), fun l7 Qv => ?_⟩
 have t6 := aj Qv (.lst [])
 have hl7' := ae (H := upd LR l6 (.lst (ys.drop hf))) (a := l7) (o := .lst [])
 have Le := af.trans t5 t6
 have hl6' := t6 _ _ hl6'
 have sM := af.trans sL Le
 generalize upd (upd LR l6 (.lst (ys.drop hf))) l7 (.lst []) = ZN at t6 hl7' Le hl6' sM ⊢
 dsimp only [Cg]
 refine rF (T6 _) hN (by omega) (fun g hg => (C4 g (FA g hg)).1.n) (fs2 := fs.drop hf) (prs2 := []) (by omega) (by decide) (fun g hg => (C4 g (Dj g hg)).2.1) (fun p hp => nomatch hp) (Lb.sm (af.trans OO Le)) (HN sM hl6' (ao (gD hf Fz) fun _ _ _ => Fact.sm sM) Dj) (Le _ _ Dk) hl7' .nil (K9 _ Dj) (fun VP LS Ft FC => ?_)
 rw [abq, abv] at FC
 have FC : WG K b1 LS VP ks fs nn [] [] := FC
 have t7 := af.trans OO (af.trans Le Ft)
 have FD := (af.trans t4 (af.trans Le Ft)) _ _ Ld
 have sN := af.trans sM Ft
 have DC := hW1'.sm t7
 clear hW1' Lb Ld hl7' hl6' Dk K6 Qu Qv OO Le t3 t4 t5 t6 sM sL sK Qt t1 t2 sJ Ft
 have FF := sN _ _ Iw
 have OP : Paired (Pair K LS) prs gA := ao La fun _ _ _ ⟨t, e, z⟩ => ⟨t, e, z.same sN⟩
 have zp := aad pp
 have OQ := Iv.sm sN
 refine ⟨_, rfl, lp, rfl, ⟨_, aC.of FF⟩, bK (K := K) (a := lp) (xs := gA) (fun i σ H' => af LS H' ∧ ∃ (lc : aac) (v : V) (o : Option V), pK H' lc (eo [] (prs.take i)) ∧ Hq nn i (eo [] (prs.take i)) ∧ WG K b1 H' v ks fs nn (prs.take i) (eo [] (prs.take i)) ∧ σ = [some (.ref a), some (.ref lk), some (.ref ln), some (.int (v3 % 3)), some (.int c), some (.ref D), some (.ref lp), some (.int hf), some (.ref lh), some VM, some VN, some (.ref lc), some v, o, none, none])
  ⟨af.refl _, lc, VP, none, ⟨[], FD, .nil⟩, Hq.nil nn, FC, rfl⟩ (fun i σ H' _ ⟨sm, _⟩ => aC.of (sm _ _ FF)) ?_ ?_⟩
 ·clear FD FC
  rintro i y σ H' hi ⟨sm, lc, v, o, tF, zw, hW, rfl⟩
  obtain ⟨iD, ey⟩ := ax hi
  have DB : i < prs.length := by omega
  obtain ⟨t, et, ht⟩ := paired_at OP i DB iD
  rw [ey] at et
  subst et
  have Bj := AI _ (ZT DB)
  have T7 : eo [] (prs.take (i + 1)) = Un.merged (eo [] (prs.take i)) (prs[i]).1 (prs[i]).2 := by
   unfold eo
   rw [Z4 DB, abh]
   rfl
  have z1 := zw.sz
  have z2 := zw.ln
  refine ⟨_, rfl, _, rfl, lc, t, _, (prs[i]).1, (prs[i]).2, rfl, tF, zw.ok (by omega) hN, ht.same sm, hN _ Bj.1, hN _ Bj.2, (by omega), fun YV H2 s2 OR => ?_⟩
  rw [← T7] at OR
  have OS := zw.merged Bj.1 Bj.2
  rw [← T7] at OS
  refine ⟨_, rfl, _, rfl, (by show 0 ≤ Z2; decide), fun l5 K6 => ?_⟩
  have t1 := aj K6 (.lst [])
  refine ⟨(by show 0 ≤ Z2; decide), fun l6 Qu => ?_⟩
  have t2 := aj Qu (.lst [])
  refine ⟨_, rfl, (by show 1 ≤ Z2; decide), fun l7 Qv => ?_⟩
  have t3 := aj Qv (.lst [.ref t])
  have hl7' := ae (H := upd (upd H2 l5 (.lst [])) l6 (.lst [])) (a := l7) (o := .lst [.ref t])
  have hl6' := t3 _ _ (ae (H := upd H2 l5 (.lst [])) (a := l6) (o := .lst []))
  have Dk := t3 _ _ (t2 _ _ (ae (H := H2) (a := l5) (o := .lst [])))
  have T8 := af.trans t1 (af.trans t2 t3)
  generalize upd (upd (upd H2 l5 (.lst [])) l6 (.lst [])) l7 (.lst [.ref t]) = H3 at t3 hl7' hl6' Dk T8 ⊢
  have s3 := af.trans s2 T8
  have MA := af.trans sm s3
  dsimp only [Cg]
  refine rF (T6 _) hN (by omega) (fun g hg => (C4 g hg).1.n) (fs2 := []) (prs2 := [prs[i]]) (by simp; omega) (by show 1 < 64; decide) (fun g hg => nomatch hg) (fun p hp => by rw [ZX.mp hp]; exact Bj) (hW.sm s3) (HN (af.trans sN MA) hl6' .nil (fun g hg => nomatch hg)) Dk hl7' (.cons ⟨t, rfl, ht.same MA⟩ .nil) rfl (fun v' H4 s4 OT => ?_)
  rw [abt, ← Z4 DB] at OT
  have OT : WG K b1 H4 v' ks fs nn (prs.take (i + 1)) (Un.merged (eo [] (prs.take i)) (prs[i]).1 (prs[i]).2) := OT
  rw [← T7] at OT
  exact ⟨af.trans MA s4, YV, v', _, OR.sm (af.trans T8 s4), OS, OT, rfl⟩
 clear FD FC
 rintro σ T9 ⟨Dd, lc, v, o, tF, zw, FC, rfl⟩
 rw [← zp, aau] at tF zw FC
 have DC := DC.sm Dd
 have sO := af.trans sN Dd
 have Lf : vK (eo [] prs) := zw.ok (by omega) hN
 have OU := OQ.sm Dd
 have Ua := sO _ _ HM
 have OV := Dd _ _ FF
 have OW := sO _ _ OM
 have Ub : Paired (Fact K T9) fs ys := ao Fz fun _ _ _ => Fact.sm sO
 have Uc : Paired (Pair K T9) prs gA := ao OP fun _ _ _ ⟨t, e, z⟩ => ⟨t, e, z.same Dd⟩
 have hkn : ∀ x ∈ bW fs prs, x ∈ nn := fun x hx => by
  unfold bW at hx
  rcases (mz _ x).mp hx with h | ⟨h, _⟩
  ·rcases (mz _ x).mp h with h | ⟨h, _⟩
   ·cases h
   ·obtain ⟨g, hg, h⟩ := abx.mp h
    exact (C4 g hg).2.1 x h
  ·unfold i0 at h
   obtain ⟨p, hp, h⟩ := abx.mp h
   rcases aai.mp h with e | e
   ·rw [e]; exact (AI p hp).1
   ·rw [ZX.mp e]; exact (AI p hp).2
 have Kx : (bW fs prs).length < 64 := by
  have z := lJ _ nn (gB fs prs) hkn
  omega
 obtain ⟨ρ, hρ⟩ : ∃ ρ, bf (eo [] prs) = false → Un.Std great lK ρ (eo [] prs) := by
  rcases DC with ⟨a1, _⟩ | ⟨C5, _, s1, _⟩
  ·exact ⟨id, fun z => by rw [(nM _).mpr a1] at z; cases z⟩
  ·exact ⟨_, fun _ => s1⟩
 have DC : WG K b1 T9 VN ks fs nn prs (eo [] prs) := DC
 generalize eo [] prs = cl at tF Lf hρ DC FC
 refine ⟨_, rfl, _, rfl, _, rfl, _, rfl, lk, D, lp, lc, ks, fs, gA, prs, cl, ρ, rfl, OU, h4, ⟨ys, Ua, Ub⟩, (fun g hg => (C4 g hg).1), OV, Uc, (fun p hp => ⟨hN _ (AI p hp).1, hN _ (AI p hp).2⟩), tF, Lf, hρ, (by omega), (by omega), Kx, fun td YW dv YX Qw Qx YY VQ OE => ?_⟩
 obtain ⟨p1, p2, x0, x1, w0, w1, w2, bb, ds, tv, t2, st, y2, rfl, rfl, Qn, qr, i1, i2, i3, LI, hT, h2, YZ, hsc, NZ, Ud⟩ := Ht hN (by omega) (fun g hg => (C4 g hg).2) (by omega) AI (hb1 YX) (hd0 _) (xQ _) (hd2 _) (DC.sm Qw) (FC.sm Qw) hρ VQ OE
 clear DC FC VQ OE
 refine ⟨_, rfl, _, rfl, td, _, 0, _, rfl, rfl, Qx, rfl, p1, dv, x0, x1, _, bb, ds, rfl, Qn, i1, i3, LI, _, rfl, b5 ?_⟩
 refine ⟨_, rfl, _, rfl, td, _, 0, _, rfl, rfl, Qx, rfl, p2, dv, w0, w1, w2, bb, ds, rfl, qr, i2, i3, LI, _, rfl, b5 ?_⟩
 refine ⟨_, rfl, ?_⟩
 dsimp only [Cg]
 refine hT _ (.inl rfl) _ _ _ (af.refl _) fun ZO Ue => ?_
 refine ⟨_, rfl, .str tv, "str", _, true, rfl, .str _, ni, _, rfl, b5 ?_⟩
 refine ⟨_, rfl, _, rfl, td, _, 0, _, rfl, rfl, Qx.same Ue, rfl, ?_⟩
 dsimp only [Cg]
 refine hT dv (.inr rfl) _ _ _ Ue fun ZP Y0 => ?_
 have rP := af.trans Ue Y0
 have e9 : (!decide (V.str tv = V.str tv)) = false := by simp
 refine ⟨rfl, _, rfl, ?_⟩
 rw [e9]
 refine b5 ?_
 refine ⟨_, rfl, _, rfl, _, rfl, _, rfl, td, _, 1, _, rfl, rfl, Qx.same rP, rfl, p1, ln, lc, YW, nn, bW fs prs, cl, ρ, x0, x1, t2, bb, st, y2, rfl, Qn.same rP, h2.same rP, ao YZ (fun _ _ _ ⟨t, e, z⟩ => ⟨t, e, z.same rP⟩), hsc, (af.trans Qw rP) _ _ OW, hN, tF.sm (af.trans Qw rP), Lf, rP _ _ YY, NZ, Ud, fun H' _ => q _⟩
end
end iB
namespace iB
open PySem L2 cI Bk
open PySem.W (nsIn findIn keepIn mg_of isFn mroIn)
set_option maxHeartbeats 4000000
theorem all_mk {l : aey} {w : aaO} {K : ZQ} {h : Heap} {mg : Str → Option ZS} {fa rQ oF kW VR VS VT VU VW VX VY VZ V0 V1 OX OY OZ O3 O4 O5 O6 O7 O8 O9 Pa Pb Pc Pd Pe Pf Pg Ph Pj Pk Pl Pm Pn Po Pp Pq Lg : aac} (X : K.In h) (G : h.Ns aaa mg) (vO : mg "law" = some (.ref fa))
  {tM AJ tN Lh Dl FH yK yL HP wb wc rR AK wd tO we wg wj wk yM wm tP AL yN rS yO oG wo yP wq yQ rT wt wu nS AM : aa0} {Li FI : Option aac} {Lj : Array (Option ZS)} {Ll FJ FO FP AO FQ : ZS}
  {B2 : Tok}
  {wx nU Qy Qz QA QB QC QD : aac}
  {V2 V3 V4 Y1 V5 V6 V7 V8 : Nat}
  {Ug Uh Ui Uj Uk Ul Um Uo : Array (Option ZS)}
  (oH : nsIn K aaa "NoKind" = some (some (.ref rQ)))
  (mI : nsIn K aaa "BadArgs" = some (some (.ref oF)))
  (oI : nsIn K aaa "NoName" = some (some (.ref kW)))
  (g7 : nsIn K aaa "check_facts" = some (some (.ref VR)))
  (mJ : nsIn K aaa "is_great" = some (some (.ref VS)))
  (g8 : nsIn K aaa "check_taken" = some (some (.ref VT)))
  (AQ : nsIn K aaa "know" = some (some (.ref VU)))
  (oJ : nsIn K aaa "written" = some (some (.ref VW)))
  (rU : nsIn K aaa "chosen" = some (some (.ref VX)))
  (kY : nsIn K aaa "tell_same" = some (some (.ref VY)))
  (kZ : nsIn K aaa "taken_out" = some (some (.ref VZ)))
  (wy : nsIn K aaa "moved" = some (some (.ref V0)))
  (jt : nsIn K aaa "start_pool" = some (some (.ref V1)))
  (ju : nsIn K aaa "stands_for" = some (some (.ref OX)))
  (fZ : nsIn K aaa "_law_cell_at" = some (some (.ref OY)))
  (mK : nsIn K aaa "_law_mix" = some (some (.ref OZ)))
  (jv : nsIn K aaa "_law_names" = some (some (.ref O3)))
  (g9 : nsIn K aaa "_law_titles" = some (some (.ref O4)))
  (jw : nsIn K aaa "_law_opens" = some (some (.ref O5)))
  (jx : nsIn K aaa "_law_words" = some (some (.ref O6)))
  (jy : nsIn K aaa "_law_lasts" = some (some (.ref O7)))
  (jz : nsIn K aaa "_law_known" = some (some (.ref O8)))
  (lg : nsIn K aaa "_law_torn" = some (some (.ref O9)))
  (jA : nsIn K aaa "_law_stand" = some (some (.ref Pa)))
  (hV : nsIn K aaa "_law_merged" = some (some (.ref Pb)))
  (mL : nsIn K aaa "_law_now" = some (some (.ref Pc)))
  (lj : nsIn K aaa "_law_pool" = some (some (.ref Pd)))
  (f7 : nsIn K aaa "_law_is_pool" = some (some (.ref Pe)))
  (lu : nsIn K aaa "fact_text" = some (some (.ref Pf)))
  (eF : nsIn K aaa "_law_fact_text" = some (some (.ref Pg)))
  (jB : nsIn K aaa "facts_text" = some (some (.ref Ph)))
  (ly : nsIn K aaa "_law_fact" = some (some (.ref Pj)))
  (jC : nsIn K aaa "_law_kinds" = some (some (.ref Pk)))
  (lA : nsIn K aaa "pool_text" = some (some (.ref Pl)))
  (f9 : nsIn K aaa "_law_written" = some (some (.ref Pm)))
  (jD : nsIn K aaa "_law_asked" = some (some (.ref Pn)))
  (jE : nsIn K aaa "_law_pairs" = some (some (.ref Po)))
  (dQ : nsIn K aaa "_law_names_told" = some (some (.ref Pp)))
  (mM : nsIn K aaa "_law_due" = some (some (.ref Pq)))
  (B3 : nsIn K aaa "law" = some (some (.ref Lg)))
  (di : b6 K "check_facts" "check_facts" gP VR tM)
  (gb : b6 K "is_great" "is_great" mB VS AJ)
  (dk : b6 K "check_taken" "check_taken" gQ VT tN)
  (rV : b6 K "know" "know" AA VU Lh)
  (iE : b6 K "written" "written" oE VW Dl)
  (lB : b6 K "chosen" "chosen" rG VX FH)
  (eS : b6 K "tell_same" "tell_same" kr VY yK)
  (eU : b6 K "taken_out" "taken_out" kq VZ yL)
  (nV : b6 K "moved" "moved" vN V0 HP)
  (dR : b6 K "start_pool" "start_pool" i8 V1 wb)
  (dU : b6 K "stands_for" "stands_for" i9 OX wc)
  (cO : b6 K "_law_cell_at" "_law_cell_at" fR OY rR)
  (gc : b6 K "_law_mix" "_law_mix" mC OZ AK)
  (dW : b6 K "_law_names" "_law_names" ja O3 wd)
  (dm : b6 K "_law_titles" "_law_titles" gR O4 tO)
  (dX : b6 K "_law_opens" "_law_opens" jb O5 we)
  (dY : b6 K "_law_words" "_law_words" jc O6 wg)
  (dZ : b6 K "_law_lasts" "_law_lasts" jf O7 wj)
  (d3 : b6 K "_law_known" "_law_known" je O8 wk)
  (eV : b6 K "_law_torn" "_law_torn" ky O9 yM)
  (d4 : b6 K "_law_stand" "_law_stand" jg Pa wm)
  (dn : b6 K "_law_merged" "_law_merged" gS Pb tP)
  (gf : b6 K "_law_now" "_law_now" mD Pc AL)
  (eW : b6 K "_law_pool" "_law_pool" kz Pd yN)
  (cP : b6 K "_law_is_pool" "_law_is_pool" fS Pe rS)
  (eX : b6 K "fact_text" "fact_text" kj Pf yO)
  (bZ : b6 K "_law_fact_text" "_law_fact_text" eE Pg oG)
  (d5 : b6 K "facts_text" "facts_text" i7 Ph wo)
  (eY : b6 K "_law_fact" "_law_fact" ku Pj yP)
  (d6 : b6 K "_law_kinds" "_law_kinds" jd Pk wq)
  (eZ : b6 K "pool_text" "pool_text" km Pl yQ)
  (cQ : b6 K "_law_written" "_law_written" fU Pm rT)
  (d7 : b6 K "_law_asked" "_law_asked" ji Pn wt)
  (d8 : b6 K "_law_pairs" "_law_pairs" jh Po wu)
  (bY : b6 K "_law_names_told" "_law_names_told" dM Pp nS)
  (gg : b6 K "_law_due" "_law_due" mE Pq AM)
  (FT : K.lookup Lg = some ⟨Ll, Li, .func (acu "law" "law" (lD nN) (gn nN) (ar nN) .none FJ FO FP FI AO FQ), Lj⟩)
  (FU : adU K AO "law" = true)
  (FW : keepIn K (.ref Lg) = true)
  (wz : nsIn K aaa "GREAT" = some (some (.str eB B2)))
  (AR : nsIn K aaa "bool" = some none)
  (AS : nsIn K aaa "dict" = some none)
  (jF : nsIn K aaa "isinstance" = some none)
  (FX : nsIn K aaa "len" = some none)
  (AU : nsIn K aaa "list" = some none)
  (FY : nsIn K aaa "min" = some none)
  (wA : nsIn K aaa "range" = some none)
  (FZ : nsIn K aaa "set" = some none)
  (rW : nsIn K aaa "sorted" = some none)
  (F0 : nsIn K aaa "str" = some none)
  (wB : nsIn K aaa "tuple" = some none)
  (wC : nsIn K aaa "EMPTY" = some (some (.ref wx)))
  (rY : nsIn K aaa "BROKEN" = some (some (.ref nU)))
  (wD : K.lookup wx = some ⟨.type "tuple", none, .seq #[.ref Qy, .ref Qz, .ref QA, .bool false] V2, Ug⟩)
  (rZ : K.lookup nU = some ⟨.type "tuple", none, .seq #[.ref QB, .ref QC, .ref QD, .bool true] V5, Uk⟩)
  (Lm : K.lookup Qy = some ⟨.type "tuple", none, .seq #[] V3, Uh⟩)
  (Ln : K.lookup QB = some ⟨.type "tuple", none, .seq #[] V6, Ul⟩)
  (Lo : K.lookup Qz = some ⟨.type "tuple", none, .seq #[] V4, Ui⟩)
  (Lp : K.lookup QC = some ⟨.type "tuple", none, .seq #[] V7, Um⟩)
  (Lq : K.lookup QA = some ⟨.type "tuple", none, .seq #[] Y1, Uj⟩)
  (Lr : K.lookup QD = some ⟨.type "tuple", none, .seq #[] V8, Uo⟩)
  (kC : abX K rQ Jg zK = true)
  (iC : abX K oF Jg zK = true)
  (kJ : abX K kW Jg zK = true)
  (OB : aeT K (.ref kW) (.ref kW) = some true)
  : ∃ fd : aa0, (∀ (s : ZU) (v : ZS), BindsTo s fd ⟨[v], []⟩ [("_law_script", v)]) ∧ ∀ base : Heap, K.In base → base.Ns aaa mg → bD l.prog w K mg base (zm l.prog w) 6 fa fd ["_law_script"] (Bq K) := by
 have e := vO.symm.trans (mg_of X G B3)
 cases e
 have tQ := di.binds (ps := ["kinds", "facts"]) fun _ _ _ _ _ _ us hl => match us, hl with | [_, _], _ => rfl
 have tR := mg_of X G g7
 have AV := gb.binds (ps := ["name"]) fun _ _ _ _ _ _ us hl => match us, hl with | [_], _ => rfl
 have AW := mg_of X G mJ
 have tT := dk.binds (ps := ["lasts", "taken"]) fun _ _ _ _ _ _ us hl => match us, hl with | [_, _], _ => rfl
 have tU := mg_of X G g8
 have Ls := rV.binds (ps := ["stand", "names"]) fun _ _ _ _ _ _ us hl => match us, hl with | [_, _], _ => rfl
 have Lu := mg_of X G AQ
 have Dm := iE.binds (ps := ["stand", "fact"]) fun _ _ _ _ _ _ us hl => match us, hl with | [_, _], _ => rfl
 have Dn := mg_of X G oJ
 have F3 := lB.binds (ps := ["first", "second"]) fun _ _ _ _ _ _ us hl => match us, hl with | [_, _], _ => rfl
 have F4 := mg_of X G rU
 have yR := eS.binds (ps := ["stand", "one", "other"]) fun _ _ _ _ _ _ us hl => match us, hl with | [_, _, _], _ => rfl
 have yT := mg_of X G kY
 have yU := eU.binds (ps := ["passing", "taken"]) fun _ _ _ _ _ _ us hl => match us, hl with | [_, _], _ => rfl
 have yV := mg_of X G kZ
 have HQ := nV.binds (ps := ["kinds", "pool", "taken", "put", "told"]) fun _ _ _ _ _ _ us hl => match us, hl with | [_, _, _, _, _], _ => rfl
 have HR := mg_of X G wy
 have wF := dR.binds (ps := ["kinds", "facts"]) fun _ _ _ _ _ _ us hl => match us, hl with | [_, _], _ => rfl
 have wG := mg_of X G jt
 have wH := dU.binds (ps := ["pool", "name"]) fun _ _ _ _ _ _ us hl => match us, hl with | [_, _], _ => rfl
 have wI := mg_of X G ju
 have r6 := cO.binds (ps := ["_law_script", "_law_k"]) fun _ _ _ _ _ _ us hl => match us, hl with | [_, _], _ => rfl
 have r9 := mg_of X G fZ
 have AX := gc.binds (ps := ["_law_cell", "_law_k"]) fun _ _ _ _ _ _ us hl => match us, hl with | [_, _], _ => rfl
 have AY := mg_of X G mK
 have wJ := dW.binds (ps := ["_law_cell", "_law_many", "_law_firsts"]) fun _ _ _ _ _ _ us hl => match us, hl with | [_, _, _], _ => rfl
 have wK := mg_of X G jv
 have tV := dm.binds (ps := ["_law_cell", "_law_many"]) fun _ _ _ _ _ _ us hl => match us, hl with | [_, _], _ => rfl
 have tW := mg_of X G g9
 have wL := dX.binds (ps := ["_law_cell", "_law_many"]) fun _ _ _ _ _ _ us hl => match us, hl with | [_, _], _ => rfl
 have wM := mg_of X G jw
 have wN := dY.binds (ps := ["_law_cell", "_law_many"]) fun _ _ _ _ _ _ us hl => match us, hl with | [_, _], _ => rfl
 have wO := mg_of X G jx
 have wQ := dZ.binds (ps := ["_law_kinds_here", "_law_fact_here"]) fun _ _ _ _ _ _ us hl => match us, hl with | [_, _], _ => rfl
 have wR := mg_of X G jy
 have wU := d3.binds (ps := ["_law_known_here", "_law_names_here"]) fun _ _ _ _ _ _ us hl => match us, hl with | [_, _], _ => rfl
 have wV := mg_of X G jz
 have yW := eV.binds (ps := ["_law_classes"]) fun _ _ _ _ _ _ us hl => match us, hl with | [_], _ => rfl
 have yX := mg_of X G lg
 have wW := d4.binds (ps := ["_law_classes", "_law_name"]) fun _ _ _ _ _ _ us hl => match us, hl with | [_, _], _ => rfl
 have wX := mg_of X G jA
 have tX := dn.binds (ps := ["_law_classes", "_law_pair"]) fun _ _ _ _ _ _ us hl => match us, hl with | [_, _], _ => rfl
 have tY := mg_of X G hV
 have AZ := gf.binds (ps := ["_law_classes", "_law_fact_here"]) fun _ _ _ _ _ _ us hl => match us, hl with | [_, _], _ => rfl
 have A0 := mg_of X G mL
 have yY := eW.binds (ps := ["_law_bag", "_law_once", "_law_classes", "_law_known_here"]) fun _ _ _ _ _ _ us hl => match us, hl with | [_, _, _, _], _ => rfl
 have yZ := mg_of X G lj
 have sd := cP.binds (ps := ["_law_found", "_law_due_here"]) fun _ _ _ _ _ _ us hl => match us, hl with | [_, _], _ => rfl
 have se := mg_of X G f7
 have y4 := eX.binds (ps := ["fact"]) fun _ _ _ _ _ _ us hl => match us, hl with | [_], _ => rfl
 have y6 := mg_of X G lu
 have oK := bZ.binds (ps := ["_law_fact_here"]) fun _ _ _ _ _ _ us hl => match us, hl with | [_], _ => rfl
 have oM := mg_of X G eF
 have wY := d5.binds (ps := ["facts"]) fun _ _ _ _ _ _ us hl => match us, hl with | [_], _ => rfl
 have wZ := mg_of X G jB
 have y7 := eY.binds (ps := ["_law_kinds_here", "_law_names_here", "_law_cell"]) fun _ _ _ _ _ _ us hl => match us, hl with | [_, _, _], _ => rfl
 have y8 := mg_of X G ly
 have w4 := d6.binds (ps := ["_law_cell", "_law_sizes"]) fun _ _ _ _ _ _ us hl => match us, hl with | [_, _], _ => rfl
 have w5 := mg_of X G jC
 have y9 := eZ.binds (ps := ["pool"]) fun _ _ _ _ _ _ us hl => match us, hl with | [_], _ => rfl
 have zc := mg_of X G lA
 have sf := cQ.binds (ps := ["_law_due_here"]) fun _ _ _ _ _ _ us hl => match us, hl with | [_], _ => rfl
 have sg := mg_of X G f9
 have w6 := d7.binds (ps := ["_law_pool_here", "_law_name"]) fun _ _ _ _ _ _ us hl => match us, hl with | [_, _], _ => rfl
 have w9 := mg_of X G jD
 have xa := d8.binds (ps := ["_law_names_here", "_law_way", "_law_cells"]) fun _ _ _ _ _ _ us hl => match us, hl with | [_, _, _], _ => rfl
 have xb := mg_of X G jE
 have nW := bY.binds (ps := ["_law_pool_here", "_law_names_here", "_law_classes", "_law_known_here"]) fun _ _ _ _ _ _ us hl => match us, hl with | [_, _, _, _], _ => rfl
 have nY := mg_of X G dQ
 have A1 := gg.binds (ps := ["_law_kinds_here", "_law_facts", "_law_pairs_here", "_law_classes"]) fun _ _ _ _ _ _ us hl => match us, hl with | [_, _, _, _], _ => rfl
 have A2 := mg_of X G mM
 have Pu := aL (st := nN) FT FU FW
 have V9 := mg_of X G B3
 have Dp := mg_of X G oH
 have A3 := mg_of X G mI
 have uU := mg_of X G oI
 have Lv := aa8 X G AR
 have F5 := aa8 X G AS
 have nZ := aa8 X G jF
 have gJ := aa8 X G FX
 have sh := aa8 X G AU
 have Iy := aa8 X G FY
 have xc := aa8 X G wA
 have Iz := aa8 X G FZ
 have zd := aa8 X G rW
 have Pw := aa8 X G F0
 have lN := aa8 X G wB
 have HS := mg_of X G wz
 refine ⟨acu "law" "law" (lD nN) (gn nN) (ar nN) .none FJ FO FP FI AO FQ, fun s v => .of_eq rfl, fun base _ _ => ?_⟩
 have HU := mg_of X G wC
 have F6 := mg_of X G rY
 have Im : ∀ H : Hp, aK K H wx [.ref Qy, .ref Qz, .ref QA, .bl false] := fun H => .inr ⟨_, _, V2, wD, rfl, rfl, (by show 4 ≤ Z2; decide), .cons rfl (.cons rfl (.cons rfl (.cons rfl .nil)))⟩
 have hb1 : ∀ H : Hp, aK K H nU [.ref QB, .ref QC, .ref QD, .bl true] := fun H => .inr ⟨_, _, V5, rZ, rfl, rfl, (by show 4 ≤ Z2; decide), .cons rfl (.cons rfl (.cons rfl (.cons rfl .nil)))⟩
 have NS : ∀ H : Hp, aK K H Qy [] := fun H => .inr ⟨_, _, V3, Lm, rfl, rfl, (by show 0 ≤ Z2; decide), .nil⟩
 have NT : ∀ H : Hp, aK K H Qz [] := fun H => .inr ⟨_, _, V4, Lo, rfl, rfl, (by show 0 ≤ Z2; decide), .nil⟩
 have NV : Nil0 K QA := ⟨_, _, Lq⟩
 have hd0 : ∀ H : Hp, aK K H QB [] := fun H => .inr ⟨_, _, V6, Ln, rfl, rfl, (by show 0 ≤ Z2; decide), .nil⟩
 have xQ : ∀ H : Hp, aK K H QC [] := fun H => .inr ⟨_, _, V7, Lp, rfl, rfl, (by show 0 ≤ Z2; decide), .nil⟩
 have hd2 : ∀ H : Hp, aK K H QD [] := fun H => .inr ⟨_, _, V8, Lr, rfl, rfl, (by show 0 ≤ Z2; decide), .nil⟩
 have eI : qR l.prog w K mg base "check_facts" 1 ["kinds", "facts"] (qT K rQ oF) := ⟨_, _, rH di F5 gJ kC Dp iC A3, tQ, di.2, tR⟩
 have aX : cA l.prog w K mg base "is_great" 1 ["name"] lF := ⟨_, _, yw gb HS ⟨B2, rfl⟩, AV, gb.2, AW⟩
 have gW : cA l.prog w K mg base "check_taken" 1 ["lasts", "taken"] (qB K) := ⟨_, _, rJ dk, tT, dk.2, tU⟩
 have vS : cA l.prog w K mg base "know" 2 ["stand", "names"] (vI K) := ⟨_, _, Hw rV aX, Ls, rV.2, Lu⟩
 have fC : cA l.prog w K mg base "written" 1 ["stand", "fact"] (mx K) := ⟨_, _, AE iE lN, Dm, iE.2, Dn⟩
 have rK : cA l.prog w K mg base "chosen" 2 ["first", "second"] rA := ⟨_, _, C8 lB aX Iy, F3, lB.2, F4⟩
 have kI : cA l.prog w K mg base "tell_same" 3 ["stand", "one", "other"] vJ := ⟨_, _, vP eS aX rK sh, yR, eS.2, yT⟩
 have kH : cA l.prog w K mg base "taken_out" 1 ["passing", "taken"] (rB K) := ⟨_, _, vR eU sh gJ, yU, eU.2, yV⟩
 have gF : qR l.prog w K mg base "moved" 4 ["kinds", "pool", "taken", "put", "told"] (iA K nU) := ⟨_, _, Fl nV eI gW kH vS fC kI F6 rfl F5 sh gJ lN zd Iz, HQ, nV.2, HR⟩
 have js : qR l.prog w K mg base "start_pool" 5 ["kinds", "facts"] (nK K) := ⟨_, _, sY dR gF HU rfl Im NS NT NV, wF, dR.2, wG⟩
 have jl : qR l.prog w K mg base "stands_for" 2 ["pool", "name"] (rC K kW) := ⟨_, _, sZ dU aX kJ uU, wH, dU.2, wI⟩
 have bP : cA l.prog w K mg base "_law_cell_at" 1 ["_law_script", "_law_k"] (zT K) := ⟨_, _, pM cO gJ, r6, cO.2, r9⟩
 have bA : cA l.prog w K mg base "_law_mix" 1 ["_law_cell", "_law_k"] uw := ⟨_, _, yC gc, AX, gc.2, AY⟩
 have bG : cA l.prog w K mg base "_law_names" 2 ["_law_cell", "_law_many", "_law_firsts"] nh := ⟨_, _, tf dW bA gJ xc, wJ, dW.2, wK⟩
 have g0 : cA l.prog w K mg base "_law_titles" 3 ["_law_cell", "_law_many"] (iQ gL.cps.toList) := ⟨_, _, rN dm bG, tV, dm.2, tW⟩
 have jo : cA l.prog w K mg base "_law_opens" 3 ["_law_cell", "_law_many"] (iQ eB.cps.toList) := ⟨_, _, tm dX bG, wL, dX.2, wM⟩
 have jq : cA l.prog w K mg base "_law_words" 3 ["_law_cell", "_law_many"] (iQ LG.cps.toList) := ⟨_, _, tu dY bG, wN, dY.2, wO⟩
 have fo : cA l.prog w K mg base "_law_lasts" 1 ["_law_kinds_here", "_law_fact_here"] (qZ K) := ⟨_, _, tw dZ, wQ, dZ.2, wR⟩
 have fm : cA l.prog w K mg base "_law_known" 1 ["_law_known_here", "_law_names_here"] (qY K) := ⟨_, _, tD d3 sh, wU, d3.2, wV⟩
 have dA : cA l.prog w K mg base "_law_torn" 1 ["_law_classes"] p6 := ⟨_, _, vU eV gJ Iz, yW, eV.2, yX⟩
 have bH : cA l.prog w K mg base "_law_stand" 1 ["_law_classes", "_law_name"] kh := ⟨_, _, tE d4 gJ Iy, wW, d4.2, wX⟩
 have g6 : cA l.prog w K mg base "_law_merged" 1 ["_law_classes", "_law_pair"] (oC K) := ⟨_, _, rO dn, tX, dn.2, tY⟩
 have jj : cA l.prog w K mg base "_law_now" 2 ["_law_classes", "_law_fact_here"] (Av K) := ⟨_, _, yH gf bH lN, AZ, gf.2, A0⟩
 have kL : cA l.prog w K mg base "_law_pool" 3 ["_law_bag", "_law_once", "_law_classes", "_law_known_here"] (vL K) := ⟨_, _, vW eW dA bH jj lN zd, yY, eW.2, yZ⟩
 have dO : cA l.prog w K mg base "_law_is_pool" 1 ["_law_found", "_law_due_here"] (rl K) := ⟨_, _, pO cP nZ lN Lv gJ, sd, cP.2, se⟩
 have gI : cA l.prog w K mg base "fact_text" 1 ["fact"] (uR K) := ⟨_, _, vZ eX gJ, y4, eX.2, y6⟩
 have cX : cA l.prog w K mg base "_law_fact_text" 1 ["_law_fact_here"] (uR K) := ⟨_, _, nQ bZ gJ, oK, bZ.2, oM⟩
 have cW : cA l.prog w K mg base "facts_text" 2 ["facts"] (Aw K) := ⟨_, _, tI d5 gI, wY, d5.2, wZ⟩
 have kO : cA l.prog w K mg base "_law_fact" 2 ["_law_kinds_here", "_law_names_here", "_law_cell"] (vD K) := ⟨_, _, v9 eY bA gJ xc lN, y7, eY.2, y8⟩
 have jn : cA l.prog w K mg base "_law_kinds" 4 ["_law_cell", "_law_sizes"] (vC K) := ⟨_, _, tJ d6 bA g0 gJ xc, w4, d6.2, w5⟩
 have kU : cA l.prog w K mg base "pool_text" 3 ["pool"] (iZ K) := ⟨_, _, wa eZ cW, y9, eZ.2, zc⟩
 have fY : cA l.prog w K mg base "_law_written" 2 ["_law_due_here"] (iZ K) := ⟨_, _, pP cQ cX, sf, cQ.2, sg⟩
 have jm : cA l.prog w K mg base "_law_asked" 3 ["_law_pool_here", "_law_name"] (rD K) := ⟨_, _, tK d7 jl uU OB, w6, d7.2, w9⟩
 have jr : cA l.prog w K mg base "_law_pairs" 2 ["_law_names_here", "_law_way", "_law_cells"] (rE K) := ⟨_, _, tL d8 bA gJ, xa, d8.2, xb⟩
 have dP : cA l.prog w K mg base "_law_names_told" 4 ["_law_pool_here", "_law_names_here", "_law_classes", "_law_known_here"] (ki K) := ⟨_, _, mG bY bH dA jm, nW, bY.2, nY⟩
 have mH : cA l.prog w K mg base "_law_due" 4 ["_law_kinds_here", "_law_facts", "_law_pairs_here", "_law_classes"] (Ax K) := ⟨_, _, yJ gg fm fo kL, A1, gg.2, A2⟩
 exact K7 Pu bP jn jo jq kO jr js gF g6 mH dO kU fY dP hb1 hd0 xQ hd2 sh gJ nZ Pw
theorem walk {l : aey} {q : aao} {loose : List Str} {XP : (Str → Option ZS) → Heap → Prop} {YP : aaO → Heap → Prop} {d : DefRec} {K : Params → ZQ} (hn : l.most = some 63) (Mq : d.params.defaults = [])
  (hY : ∀ (w : aaO) (h : Heap), YP w h → (K w.params).In h)
  (F : ∀ (w : aaO) (mg : Str → Option ZS) (fa : aac) (h : Heap), (K w.params).In h → h.Ns aaa mg → mg d.name = some (.ref fa) →
   ∃ fd : aa0, (∀ (s : ZU) (u : ZS), BindsTo s fd ⟨[u], []⟩ [("_law_script", u)]) ∧ ∀ base : Heap, (K w.params).In base → base.Ns aaa mg → bD l.prog w (K w.params) mg base (zm l.prog w) 6 fa fd ["_law_script"] (Bq (K w.params))) :
  PySem.W.WalkO q loose XP YP l.row.toRowW d [] (fun f vs => PySem.call f vs) :=
 L2.GG (n := 63) (k := 6) (x := "_law_script") (CX := fun w => zm l.prog w) (sp := fun w => Bq (K w.params)) hn (by decide) Mq ⟨rfl, by decide, by decide, rfl⟩ hY F (fun _ _ a ns hl _ hS => ⟨a, ns, rfl, hS, hl, fun _ => rfl⟩) fun _ _ _ _ _ z => by obtain ⟨_, _, _, _, _, z⟩ := z; exact z
end iB
open PySem PySem.W PyProof.Rows
def PySem.W.Fast.tw2277596286325260213 : Nat := 0
def PySem.W.Fast.tw7443281074066576926 : Nat := 0
def PySem.W.Fast.tw6681511092468685289 : Nat := 0
def PySem.W.Fast.tw12619422939429877001 : Nat := 0
def PySem.W.Fast.tw523781931884647377 : Nat := 0
def PySem.W.Fast.tw18245457292547895332 : Nat := 0
def PySem.W.Fast.tw7754745321054333019 : Nat := 0
def PySem.W.Fast.tw8604223164147313422 : Nat := 0
def PySem.W.Fast.tw10011445316279663543 : Nat := 0
def PySem.W.Fast.tw15776606423060597913 : Nat := 0
def PySem.W.Fast.tw11673271859313541797 : Nat := 0
def PySem.W.Fast.tw9882686236017131374 : Nat := 0
def PySem.W.Fast.tw2608593699654181996 : Nat := 0
def PySem.W.Fast.tw2088911827925201624 : Nat := 0
def PySem.W.Fast.tw16646735865884234195 : Nat := 0
def PySem.W.Fast.tw12301701627714610552 : Nat := 0
def PySem.W.Fast.tw2337936357566772929 : Nat := 0
def PySem.W.Fast.tw12747361104992609855 : Nat := 0
def PySem.W.Fast.tw2655330355484637882 : Nat := 0
def PySem.W.Fast.tw14285771898557697505 : Nat := 0
def PySem.W.Fast.tw1341374101535865985 : Nat := 0
def PySem.W.Fast.tw15575807417972356606 : Nat := 0
def PySem.W.Fast.tw8312778124798681577 : Nat := 0
def PySem.W.Fast.tw12778480107484636389 : Nat := 0
def PySem.W.Fast.tw10194497705482282538 : Nat := 0
def PySem.W.Fast.tw15906951133374484865 : Nat := 0
def PySem.W.Fast.tw9058757500400314583 : Nat := 0
def PySem.W.Fast.tw18338412927609144974 : Nat := 0
def PySem.W.Fast.tw11607512400495043067 : Nat := 0
def PySem.W.Fast.tw15519060785304824843 : Nat := 0
def PySem.W.Fast.tw4379208947479223530 : Nat := 0
def PySem.W.Fast.tw1382315573500217632 : Nat := 0
def PySem.W.Fast.tw5757576782232261106 : Nat := 0
def PySem.W.Fast.tw10953269371631885975 : Nat := 0
def PySem.W.Fast.tw7898951642436394758 : Nat := 0
def PySem.W.Fast.tw7273860700406140009 : Nat := 0
def PySem.W.Fast.tw5540042152400523577 : Nat := 0
def PySem.W.Fast.tw6724779085748366926 : Nat := 0
def PySem.W.Fast.tw5194406529540453908 : Nat := 0
def PySem.W.Fast.tw7742797412746093172 : Nat := 0
def PySem.W.Fast.tw791388178004298120 : Nat := 0
def PySem.W.Fast.tw5103282784665265760 : Nat := 0
def PySem.W.Fast.tw4785721511542917653 : Nat := 0
def PySem.W.Fast.tw3239488832865661011 : Nat := 0
def PySem.W.Fast.tw11020210509480746702 : Nat := 0
def PySem.W.Fast.tw14977269912660113054 : Nat := 0
def PySem.W.Fast.tw786856885632068856 : Nat := 0
def PySem.W.Fast.tw15642827372775352779 : Nat := 0
def PySem.W.Fast.tw8373510328583681920 : Nat := 0
def PySem.W.Fast.tw1563440272635004945 : Nat := 0
def PySem.W.Fast.tw15290059799853147349 : Nat := 0
def PySem.W.Fast.tw12240290324182809512 : Nat := 0
def PySem.W.Fast.tw1899066865715170226 : Nat := 0
def PySem.W.Fast.tw16658627536501757582 : Nat := 0
def PySem.W.Fast.tw149854255082429102 : Nat := 0
def PySem.W.Fast.tw11865498029533424438 : Nat := 0
def PySem.W.Fast.tw3785748651662790941 : Nat := 0
def PySem.W.Fast.tw6044270866486553855 : Nat := 0
def PySem.W.Fast.tw1030605737238237346 : Nat := 0
def PySem.W.Fast.tw12340898350211905515 : Nat := 0
def PySem.W.Fast.tw17621414698323826058 : Nat := 0
def PySem.W.Fast.tw14938607566489879542 : Nat := 0
def PySem.W.Fast.tw8223958341452124673 : Nat := 0
def PySem.W.Fast.tw11061973681228028020 : Nat := 0
def PySem.W.Fast.tw11938813820096199045 : Nat := 0
def PySem.W.Fast.tw13093912916404104077 : Nat := 0
def PySem.W.Fast.tw6064975049336415088 : Nat := 0
def PySem.W.Fast.tw14701243935280796675 : Nat := 0
set_option maxRecDepth 100000 in
set_option maxHeartbeats 0 in
theorem PySem.Challenge.cw_poolrules_k06_names_told_the_same_holds : PySem.Challenge.rw_poolrules_k06_names_told_the_same.Holds := by
 w_on; o_law; k_head; (case hw => w_witness2)
 k_fill
 refine iB.walk (l := PySem.Challenge.rw_poolrules_k06_names_told_the_same) rfl rfl (fun w h Y => PySem.W.kIn_of Y) ?F
 case F =>
  intro w mg fa h KX G hmg
  refine' iB.all_mk KX G hmg ?oH ?mI ?oI ?g7 ?mJ ?g8 ?AQ ?oJ ?rU ?kY ?kZ ?wy ?jt ?ju ?fZ ?mK ?jv ?g9 ?jw ?jx ?jy ?jz ?lg ?jA ?hV ?mL ?lj ?f7 ?lu ?eF ?jB ?ly ?jC ?lA ?f9 ?jD ?jE ?dQ ?mM ?B3 ?di ?gb ?dk ?rV ?iE ?lB ?eS ?eU ?nV ?dR ?dU ?cO ?gc ?dW ?dm ?dX ?dY ?dZ ?d3 ?eV ?d4 ?dn ?gf ?eW ?cP ?eX ?bZ ?d5 ?eY ?d6 ?eZ ?cQ ?d7 ?d8 ?bY ?gg ?FT ?FU ?FW ?wz ?AR ?AS ?jF ?FX ?AU ?FY ?wA ?FZ ?rW ?F0 ?wB ?wC ?rY ?wD ?rZ ?Lm ?Ln ?Lo ?Lp ?Lq ?Lr ?kC ?iC ?kJ ?OB
  (case oH => k_is)
  (case mI => k_is)
  (case oI => k_is)
  (case g7 => k_is)
  (case mJ => k_is)
  (case g8 => k_is)
  (case AQ => k_is)
  (case oJ => k_is)
  (case rU => k_is)
  (case kY => k_is)
  (case kZ => k_is)
  (case wy => k_is)
  (case jt => k_is)
  (case ju => k_is)
  (case fZ => k_is)
  (case mK => k_is)
  (case jv => k_is)
  (case g9 => k_is)
  (case jw => k_is)
  (case jx => k_is)
  (case jy => k_is)
  (case jz => k_is)
  (case lg => k_is)
  (case jA => k_is)
  (case hV => k_is)
  (case mL => k_is)
  (case lj => k_is)
  (case f7 => k_is)
  (case lu => k_is)
  (case eF => k_is)
  (case jB => k_is)
  (case ly => k_is)
  (case jC => k_is)
  (case lA => k_is)
  (case f9 => k_is)
  (case jD => k_is)
  (case jE => k_is)
  (case dQ => k_is)
  (case mM => k_is)
  (case B3 => k_is)
  (case di => exact L2.aL (by k_is) (by k_is) (by k_is))
  (case gb => exact L2.aL (by k_is) (by k_is) (by k_is))
  (case dk => exact L2.aL (by k_is) (by k_is) (by k_is))
  (case rV => exact L2.aL (by k_is) (by k_is) (by k_is))
  (case iE => exact L2.aL (by k_is) (by k_is) (by k_is))
  (case lB => exact L2.aL (by k_is) (by k_is) (by k_is))
  (case eS => exact L2.aL (by k_is) (by k_is) (by k_is))
  (case eU => exact L2.aL (by k_is) (by k_is) (by k_is))
  (case nV => exact L2.aL (by k_is) (by k_is) (by k_is))
  (case dR => exact L2.aL (by k_is) (by k_is) (by k_is))
  (case dU => exact L2.aL (by k_is) (by k_is) (by k_is))
  (case cO => exact L2.aL (by k_is) (by k_is) (by k_is))
  (case gc => exact L2.aL (by k_is) (by k_is) (by k_is))
  (case dW => exact L2.aL (by k_is) (by k_is) (by k_is))
  (case dm => exact L2.aL (by k_is) (by k_is) (by k_is))
  (case dX => exact L2.aL (by k_is) (by k_is) (by k_is))
  (case dY => exact L2.aL (by k_is) (by k_is) (by k_is))
  (case dZ => exact L2.aL (by k_is) (by k_is) (by k_is))
  (case d3 => exact L2.aL (by k_is) (by k_is) (by k_is))
  (case eV => exact L2.aL (by k_is) (by k_is) (by k_is))
  (case d4 => exact L2.aL (by k_is) (by k_is) (by k_is))
  (case dn => exact L2.aL (by k_is) (by k_is) (by k_is))
  (case gf => exact L2.aL (by k_is) (by k_is) (by k_is))
  (case eW => exact L2.aL (by k_is) (by k_is) (by k_is))
  (case cP => exact L2.aL (by k_is) (by k_is) (by k_is))
  (case eX => exact L2.aL (by k_is) (by k_is) (by k_is))
  (case bZ => exact L2.aL (by k_is) (by k_is) (by k_is))
  (case d5 => exact L2.aL (by k_is) (by k_is) (by k_is))
  (case eY => exact L2.aL (by k_is) (by k_is) (by k_is))
  (case d6 => exact L2.aL (by k_is) (by k_is) (by k_is))
  (case eZ => exact L2.aL (by k_is) (by k_is) (by k_is))
  (case cQ => exact L2.aL (by k_is) (by k_is) (by k_is))
  (case d7 => exact L2.aL (by k_is) (by k_is) (by k_is))
  (case d8 => exact L2.aL (by k_is) (by k_is) (by k_is))
  (case bY => exact L2.aL (by k_is) (by k_is) (by k_is))
  (case gg => exact L2.aL (by k_is) (by k_is) (by k_is))
  (case FT => k_is)
  (case FU => k_is)
  (case FW => k_is)
  (case wz => k_is)
  (case AR => k_is)
  (case AS => k_is)
  (case jF => k_is)
  (case FX => k_is)
  (case AU => k_is)
  (case FY => k_is)
  (case wA => k_is)
  (case FZ => k_is)
  (case rW => k_is)
  (case F0 => k_is)
  (case wB => k_is)
  (case wC => k_is)
  (case rY => k_is)
  (case wD => k_is)
  (case rZ => k_is)
  (case Lm => k_is)
  (case Ln => k_is)
  (case Lo => k_is)
  (case Lp => k_is)
  (case Lq => k_is)
  (case Lr => k_is)
  (case kC => k_exc)
  (case iC => k_exc)
  (case kJ => k_exc)
  (case OB => kts_exm)
