import PyProof.Rows.All
import Wide.All
import OpenK.AllK
import Wide.FinOn
import Lean
import PyProof.EqAt
import PyProof.EqKinds
import PyProof.TupleCall
import KE.KIntText
import KE.KDictList
import KE.KDictOf
import PyProof.AttrMissHeap
import PyProof.DictUpdate
import PyProof.ToksMono
import PyProof.NeKinds
import PyProof.EnumFor
import PyProof.EnumStmt
import PyProof.EnumMake
import KE.KRevIter
import PyProof.StrOps2
import PyProof.ZipIter
import PyProof.SumWalkG
import KE.KMinKey
import KE.KTryMore
import KE.KSortAsk
import KE.KSortTup
import KE.KDictLaws
import KE.KItemsList
import KE.RegKTryMore
import KE.KIsNot
import PyProof.WalkInts
import PyProof.SeqI3
import PySem.Challenge.RW_poolrules_k34_weights_or_a_round
set_option Elab.async false
set_option linter.all false
set_option maxRecDepth 100000
open PySem.W renaming Frag->aaa,mg_none_of->abg,kia_one->aby,emptyDict->abH,findIn->abR,plainGet->abS,hasDictIn->ab0,instObj->ab2,kitOne->acd,plainOver->acj,fnOf->acu,makesIn->acI,keepIn->acV,methodCall_KW->adC,plainGet_of->adM,callWith_K->adZ,lookIn->ad6,codeIn->ad7,methodObj->ad8,cellsFrom_some->aey,takerIn->aeH,OpenLaw->aeL,kitx_tuple->afe,mg_of->afk,specialIn->afl,kitx_list->afm,kitx_dict->afn,isFn->afu,nsIn->afy,handedIn->afz
open List renaming length_append->aab,length_cons->aad,mem_map->aah,map_append->aai,range->aal,replicate->aam,mem_cons_of_mem->aan,getElem?_map->aaq,getElem?_eq_some_iff->aar,getElem_mem->aas,size_toArray->aau,mem_singleton->aaw,length_range->aax,mem_range->aaz,take_succ_eq_append_getElem->aaA,mem_cons->aaB,length_take->aaF,mem_cons_self->aaN,length_nil->aaO,mem_append->aaS,mem_append_right->aaT,length_replicate->aaU,map_cons->aaZ,getElem_map->aa1,append_assoc->aa2,append_nil->aa8,length_drop->aa9,take_length->aba,range_succ->abe,map_map->abf,length_singleton->abh,replicate_succ->abl,lookup_cons->abm,all_eq_true->abn,length_filter_le->abp,mem_of_getElem?->abr,mem_filter->abt,all_append->abw,take_append_drop->abz,filter_append->abD,nil_append->abE,flatMap_append->abG,nodup_append->abJ,getElem?_append_right->abO,mem_append_left->abT,all_cons->abV,getElem?_replicate->abW,take_succ->abY,foldl_append->ab1,find?_cons->ab3,getD_cons_succ->ab5,take_of_length_le->ab6,nodup_range->aca,mem_of_find?_eq_some->acf,take_zero->acg,mem_of_mem_drop->ach,nodup_cons->ack,flatten_cons->acn,length_erase_of_mem->acq,map_nil->acv,getElem?_cons_succ->acz,getElem_of_mem->acA,filter_cons->acB,mem_replicate->acF,zip_cons_cons->acG,sum_append->acK,getElem?_eq_none->acM,pairwise_map->acR,sum_cons->acS,exists_cons_of_ne_nil->acT,mem_of_mem_take->acU,getElem?_append_left->acW,drop_eq_getElem_cons->acY,cons_append->ac1,ext_getElem->ac2,lookup->ac5,length_reverse->ac6,map_id->ac7,map_congr_left->ac8,getElem?_range->ac9,length_pos_iff->ada,of_mem_zip->adi,any_cons->adj,getElem?_drop->adm,getElem_range->ado,filter_cons_of_pos->adq,filter_cons_of_neg->ads,drop_eq_nil_of_le->adw,drop_drop->adA,singleton_append->adE,mem_of_mem_erase->adF,exists_mem_of_length_pos->adI,foldl->adK,filterMap_cons->adL,foldl_cons->adN,takeWhile_cons->adQ,map_eq_nil_iff->adS,filter_sublist->adU,getElem?_take->ad3,getElem?_eq_none_iff->ad5,getElem?_set->aee,any_eq_true->aeu,countP_cons->aev,getElem?_set_self->aew,range_succ_eq_map->aeE,length_set->aeK,zip_append->aeQ,getElem?_set_ne->aeU,dropLast_concat->aeX,drop_zero->ae0,find?_map->ae1,length->ae3,dropWhile_cons->ae4,filter_eq_self->ae7,map_drop->afi,filter->afD
open PySem.Str renaming ofString->aac,join->aen,empty->afd
open PySem renaming Value->aae,Shared->aak,sizeLine->aao,wpAny_bind->aap,Addr->aaD,boot_len->aaH,wpAny_pure->aaP,mainGlobals->aaX,Program->aa4,mem_of_lookup->aa6,wpAny->abb,FuncData->abo,World->abu,Around->abC,sizeLine_eq->ac4,Within->aft
open Nat renaming le_refl->aaf,le_of_ble_eq_true->aaI,ne_of_lt->aaW,lt_of_lt_of_le->aa0,zero_le->aa3,le_trans->aa5,lt_irrefl->abM,pow_le_pow_right->abU,gcd->acp,lt_of_le_of_lt->acD,ne_of_gt->acH,lt_succ_of_lt->acQ,mul_le_mul->acZ,eq_of_mul_eq_mul_left->ac0,pos_of_ne_zero->adp,le_mul_of_pos_left->adv,le_add_right->adH,gcd_zero_right->ad2,le_succ->aei,pow_add->aep,mul_one->aeq,lt_succ_self->aes,le_of_lt->aeG,lt_or_ge->aeP,not_lt_zero->aeS,add_mul->ae5,mul_assoc->afj,mul_comm->afw,pow_succ->afx
open PySem.Heap renaming get?_push_of_some->aag,lt_size->aay,get?_push_size->aaM,size_push->acb,get?_update_other->adt,SameBut->adB,get?_update_self->aeJ
open PySem.Paired renaming length->aat,snoc->adz
open PySem.F renaming plainAttrs_list->aaC,slot_list_append->aaV,type_list_append->aaY,slot_list_extend->abN,plainAttrs_str->abP,type_list_extend->acs,slot_list_getattribute->acw,slot_str_split->acC,slot_str_join->acN,type_str_join->acO,args_str_split_2->ade,entry_str_split->adl,slot_list_count->adn,slot_dict_get->adD,slot_tuple_index->aec,args_list_extend_2->aej,args_dict_get_3->ael,type_list_count->aer,entry_list_extend->aez,slot_list_reverse->aeA,entry_dict_get->aeB
open Bool renaming false_ne_true->aaE,and_eq_true->abc,eq_iff_iff->aci,false_eq_true->acE,beq_eq_decide_eq->aeN,false_or->afh
open PySem.PassesOwn renaming never->aaG
open Int renaming mul_zero->aaL,mul_assoc->abk,mul_comm->abA,mul_ediv_cancel_left->abK,natAbs_mul->abZ,mul_nonpos_of_nonpos_of_nonneg->ab7,zero_mul->acx,mul_pos->acL,le_refl->adb,zero_sub->adf,zero_add->adg,le_of_lt->adG,mul_eq_zero->adT,fdiv_eq_ediv_of_nonneg->adW,ofNat_dvd_left->ad1,mul_left_comm->aef,sub_zero->aeR,mul_ediv_cancel'->aeY,neg_mul->ae8,mul_neg->ae9,not_lt->afr
open Or renaming inl->aaQ,inr->ad0
open Option.some renaming inj->aaR,injEq->aea
open Sum renaming inr->aa7,inl->ac3
open PySem.Value renaming ref->abd,str->abL,type->adx,bool->adJ,int->aeF,none->aeT,float->afB
open PyProof.Rows renaming boot_enumerate->abi,slot_tuple_getitem->abv,callWith_type1->abx,boot_isinstance->abX
open Option renaming isSome_iff_exists->abj,map_some->aco,getD_some->aet,none->ae2,isSome_some->afg,isSome_map->afo
open Classical renaming byContradiction->abq
open Ne renaming symm->abB
open PySem.NameKind renaming free->abF,cell->acP
open PySem.Builtin.List renaming listTooLong->abI,listExtendWith->ab4,listLengthHint->adR,listSameRef->aed,listItems->aeD
open PySem.W.KT renaming app_list->abQ
open False renaming elim->ab8
open True renaming intro->ab9
open PySem.Builtin.Slice renaming slicePlaces->ace,sliceAdjust->acX,sliceApplied->adX
open PySem.Builtin.Tuple renaming tupleExact->acm,tupleItemsOf->adY
open PySem.StrLaws renaming found_one->acr,glued_eq_join->aeO
open Array renaming length_toList->acy,getD_eq_getD_getElem?->adO,getElem?_toList->aeM,append_assoc->afc
open ForInStep renaming yield->acJ
open PySem.Calls renaming spliced_cons->adh,callWith_builtin->adu,Name_function_global->adV,spliced_nil->ad9,evalArgs_plain->aeV
open PySem.Txt renaming split->adk,join->aek,stripChars->aeZ,slice->aff
open PySem.Obj renaming mapSeq->ady
open PySem.Builtin.Str renaming strSliceIndices->adP,glued->afq
open List.Nodup renaming sublist->ad4
open PySem.AutoSeq1 renaming wpAny_loadPart'->aeb
open Sum.inl renaming inj->aeg
open Sum.inr renaming inj->aeh
open PySem.Builtin.Dict renaming updateFrom->aem,pairItems->aeC
open List.cons renaming inj->aeo
open PyProof renaming noPylong_small->aex
open PySem.Around renaming under->aeI,under_plainId->aeW
open PySem.Builtin.Int renaming intBits->ae6
open PySem.SeqAt.EqAt renaming int_str->afa,str_int->afb
open List.Pairwise renaming imp->afp
open Function renaming comp_def->afs
open PySem.Code renaming isFrame->afv
open Std.Legacy renaming Range->afA
open PySem.Heap.DictOf renaming new->afC
theorem Lm9 {α:Type _} {β:Type _} {as:List α} (f:α→β):(as.map f).length=as.length:=List.length_map f
theorem Ge9 {α:Type _} {l:List α} {i:Nat} (h:i<l.length):l[i]?=some l[i]:=List.getElem?_eq_getElem h
theorem Gd9 {α:Type _} {l:List α} {i:Nat} {a:α}:l.getD i a=(l[i]?).getD a:=List.getD_eq_getElem?_getD
namespace L2
open PySem PySem.Spec PyProof.Rows
abbrev Key:=Sum Int Str
def wc:Key→aae→Bool
 | .inl k,v=>Value.isInt k v
 | .inr x,v=>Value.isStrOf x v
def Ta (w:abu):Key→Int
 | .inl k=>hashInt k
 | .inr x=>hashStr w x
theorem bT:∀{k:Key} {v:aae},wc k v=true→(∃i t,k=ac3 i∧v=aeF i t)∨(∃x t,k=aa7 x∧v=abL x t)
 | .inl i,v,h=>by
  obtain⟨t,e⟩:=Value.isInt_shape (k:=i) (v:=v) h
  exact .inl ⟨i,t,rfl,e⟩
 | .inr x,v,h=>by
  obtain⟨t,e⟩:=Value.isStrOf_shape (x:=x) (v:=v) h
  exact .inr ⟨x,t,rfl,e⟩
theorem EJ (i:Int) (t:Tok):wc (.inl i) (.int i t)=true:=by simp [wc,Value.isInt]
theorem EK (x:Str) (t:Tok):wc (.inr x) (.str x t)=true:=by simp [wc,Value.isStrOf]
theorem ML (a b:Int):decide ((ac3 a:Key)=ac3 b)=(a == b):=by
 by_cases e:a=b
 ·subst e;simp
 ·have h:¬ (ac3 a:Key)=ac3 b:=fun q=>e (aeg q)
  rw [decide_eq_false h]
  exact(beq_eq_false_iff_ne.mpr e).symm
theorem MM (a b:Str):decide ((aa7 a:Key)=aa7 b)=decide (a=b):=by
 by_cases e:a=b
 ·subst e;simp
 ·have h:¬ (aa7 a:Key)=aa7 b:=fun q=>e (aeh q)
  rw [decide_eq_false h,decide_eq_false e]
theorem MN (a:Int) (b:Str):decide ((ac3 a:Key)=aa7 b)=false:=decide_eq_false (fun q=>nomatch q)
theorem MO (a:Str) (b:Int):decide ((aa7 a:Key)=ac3 b)=false:=decide_eq_false (fun q=>nomatch q)
def bo (prog:aa4) (w:abu):PySem.KeyKind prog w Key where
 is:=wc
 hash:=Ta w
 inj:=fun v a b ha hb=>by
  rcases bT ha with⟨i,t,rfl,rfl⟩|⟨x,t,rfl,rfl⟩
  ·rcases bT hb with⟨j,u,rfl,e⟩|⟨y,u,rfl,e⟩
   ·injection e with e1 _;rw [e1]
   ·exact nomatch e
  ·rcases bT hb with⟨j,u,rfl,e⟩|⟨y,u,rfl,e⟩
   ·exact nomatch e
   ·injection e with e1 _;rw [e1]
 byValue:=fun k v h=>by
  rcases bT h with⟨i,t,rfl,rfl⟩|⟨x,t,rfl,rfl⟩ <;> rfl
 pyHash:=fun hv h=>by
  rcases bT hv with⟨i,t,rfl,rfl⟩|⟨x,t,rfl,rfl⟩
  ·exact wpAny_pyHash_int h
  ·exact wpAny_pyHash_str h
 eqBool:=fun hu hv h=>by
  rcases bT hu with⟨i,t,rfl,rfl⟩|⟨x,t,rfl,rfl⟩
  ·rcases bT hv with⟨j,u,rfl,rfl⟩|⟨y,u,rfl,rfl⟩
   ·rw [ML] at h;exact wpAny_eqBool_int h
   ·rw [MN] at h;exact afa i t y u _ _ _ _ h
  ·rcases bT hv with⟨j,u,rfl,rfl⟩|⟨y,u,rfl,rfl⟩
   ·rw [MO] at h;exact afb x t j u _ _ _ _ h
   ·rw [MM] at h;exact wpAny_eqBool_str h
 «strs»:=fun k x t v h=>by
  rcases bT h with⟨i,u,rfl,e⟩|⟨y,u,rfl,e⟩
  ·exact nomatch e
  ·injection e with e1 _
   subst e1
   cases v <;> rfl
theorem Aa (prog:aa4) (w:abu) (i:Int) (t:Tok):(bo prog w).is (.inl i) (.int i t)=true:=EJ i t
theorem Ab (prog:aa4) (w:abu) (x:Str) (t:Tok):(bo prog w).is (.inr x) (.str x t)=true:=EK x t
inductive V where
 | cU|bl (b:Bool)|int (i:Int)|str (x:Str)|Gj (b:Array UInt8)|iK (b:UInt64)|ref (a:aaD)|ty (n:String)|tok (x:Str) (t:Nat)
 deriving DecidableEq
def V.pl:V→Bool
 | .tok _ _=>false
 | _=>true
def RelV:V→aae→Prop
 | .cU,u=>u=aeT
 | .bl b,u=>u=adJ b
 | .int i,u=>∃t,u=aeF i t
 | .str x,u=>∃t,u=abL x t
 | .Gj b,u=>∃t,u=Value.bytes b t
 | .iK b,u=>∃t,u=afB b t
 | .ref a,u=>u=abd a
 | .ty n,u=>u=adx n
 | .tok x t,u=>u=abL x t
abbrev Vals:List V→List aae→Prop:=Paired RelV
theorem Vals.length {xs:List V} {us:List aae} (r:Vals xs us):xs.length=us.length:=aat r
theorem Vals.get:∀{xs:List V} {us:List aae} {i:Nat} {x:V},Vals xs us→xs[i]?=some x→∃u,us[i]?=some u∧RelV x u
 | _,_,_,_,.nil,e=>by simp at e
 | _,_,0,_,.cons r _,e=>by simp at e;subst e;exact⟨_,rfl,r⟩
 | _,_,i+1,x,.cons _ t,e=>by
  obtain⟨u,h1,h2⟩:=Vals.get (i:=i) (x:=x) t (by simpa using e)
  exact⟨u,by simpa using h1,h2⟩
theorem Vals.set {x:V} {u:aae} (r:RelV x u):∀{xs:List V} {us:List aae} (i:Nat),Vals xs us→Vals (xs.set i x) (us.set i u)
 | _,_,_,.nil=>.nil
 | _,_,0,.cons _ t=>.cons r t
 | _,_,i+1,.cons q t=>.cons q (Vals.set r i t)
theorem Vals.append:∀{xs ys:List V} {us ws:List aae},Vals xs us→Vals ys ws→Vals (xs++ys) (us++ws)
 | _,_,_,_,.nil,s=>s
 | _,_,_,_,.cons r t,s=>.cons r (Vals.append t s)
theorem Vals.take:∀{xs:List V} {us:List aae} (n:Nat),Vals xs us→Vals (xs.take n) (us.take n)
 | _,_,0,_=>.nil
 | _,_,_+1,.nil=>.nil
 | _,_,n+1,.cons r t=>.cons r (Vals.take n t)
theorem Vals.drop:∀{xs:List V} {us:List aae} (n:Nat),Vals xs us→Vals (xs.drop n) (us.drop n)
 | _,_,0,r=>r
 | _,_,_+1,.nil=>.nil
 | _,_,n+1,.cons _ t=>Vals.drop n t
theorem Vals.none_of:∀{xs:List V} {us:List aae} {i:Nat},Vals xs us→xs[i]?=none→us[i]?=none:=fun {xs us i} r e=>by
 have h1:=r.length
 have h2:xs.length≤i:=ad5.mp e
 exact ad5.mpr (by omega)
def jJ:Option V→Option aae→Prop
 | some v,some u=>RelV v u
 | none,none=>True
 | _,_=>False
def KV {κ:Type}:List (κ × V)→List (κ × aae)→Prop:=Paired fun(p:κ × V) (q:κ × aae)=>p.1=q.1∧RelV p.2 q.2
def kV:Key→V
 | .inl i=>.int i
 | .inr x=>.str x
inductive HO where
 | lst (xs:List V)
 | tup (xs:List V)
 | dK (kvs:List (Key × V))|dT (kvs:List (List Key × V))
 | set (S:Int→Bool) (n:Nat)
 | ins (C dx:aaD) (fs:List (Str × V))
 | own (x:aaD)
 | xd (fs:List (Str × V))
 | met (f x:aaD)
 | Tc (lo hi:Int)
 | sv (o:Obj) (u:HO)
 | MP (ps:Array aae)
 | ext (φ:Heap→Prop)
abbrev Hp:=aaD→Option HO
def upd (H:Hp) (a:aaD) (o:HO):Hp:=fun b=>if b=a then some o else H b
theorem ab {H:Hp} {a:aaD} {o:HO}:upd H a o a=some o:=by unfold upd;rw [if_pos rfl]
theorem ar {H:Hp} {a b:aaD} {o:HO} (h:b≠a):upd H a o b=H b:=by unfold upd;rw [if_neg h]
theorem Ac {H:Hp} {a b:aaD} {o u:HO} (h:H a=some o) (h':H b=some u) (d:o≠u):a≠b:=by
 intro e;subst e;rw [h] at h';exact d (aaR h')
theorem aI {H:Hp} {a b:aaD} {o:HO} (h:H a=some o) (h':H b=none):a≠b:=by
 intro e;subst e;rw [h] at h';cases h'
section
variable (P:aa4) (w:abu)
def cD (H:Hp) (h:Heap) (a:aaD):HO→Prop
 | .lst xs=>xs.length≤aao∧∃(its:List aae) (n:Nat),Vals xs its∧h.get? a=some { cls:=.type "list",data:=.seq its.toArray n }
 | .tup xs=>xs.length≤aao∧∃its:List aae,Vals xs its∧IsTup h a its.toArray
 | .dK kvs=>kvs.length≤aao∧(a == sysModules)=false∧∃vs,KV kvs vs∧h.DictOf (bo P w) a vs
 | .dT kvs=>kvs.length≤aao∧(a == sysModules)=false∧∃xs:List (List Key × aaD × aae),
   Paired (fun(p:List Key × V) (q:List Key × aaD × aae)=>p.1=q.1∧H q.2.1=some (.tup (p.1.map kV))∧RelV p.2 q.2.2) kvs xs ∧
   ∃o es ep,h.get? a=some o∧o.ExactDict∧o.data=.dict es ep∧es.toList=xs.map (entryOfKey (tupleKind (bo P w)))∧(xs.map (·.1)).Nodup
 | .set S n=>h.SetOf (intKind P w) a S n
 | .ins C dx fs=>H dx=some (.own a)∧fs.length≤1000∧dx≠a∧h.get? a=some (ab2 C dx) ∧
   ∃mA,h.Ns1 dx mA∧(∀f,jJ (fs.lookup f) (mA f))∧aft mA (fs.map (·.1))
 | .own _=>∃o,h.get? a=some o
 | .xd fs=>∃mA,h.Ns1 a mA∧∀f,jJ (fs.lookup f) (mA f)
 | .Tc lo hi=>∃t u v,h.get? a=some { cls:=.type "range",data:=.fields #[.int lo t,.int hi u,.int 1 v] }
 | .sv o u=>h.get? a=some o∧cD H h a u
 | .MP ps=>h.get? a=some { cls:=.none,data:=.fields ps }
 | .met f x=>h.get? a=some (ad8 (.ref f) (.ref x))
 | .ext φ=>φ h∧(∃o,h.get? a=some o)∧∀h1 h2:Heap,φ h1→(∀o,h1.get? a=some o→h2.get? a=some o)→φ h2
def mm (H:Hp) (h:Heap):Prop:=∀a o,H a=some o→cD P w H h a o
end
section
variable {P:aa4} {w:abu} {H H':Hp} {h h':Heap} {a:aaD} {o:HO}
theorem cD.lt (x:cD P w H h a o):a<h.objs.size:=by
 cases o with
 | lst xs=>obtain⟨_,_,_,_,e⟩:=x;exact aay e
 | tup xs=>obtain⟨_,_,_,p⟩:=x;exact p.lt
 | dK kvs=>obtain⟨_,_,_,_,o,_,_,e,_⟩:=x;exact aay e
 | dT kvs=>obtain⟨_,_,_,_,o,_,_,e,_⟩:=x;exact aay e
 | set S n=>obtain⟨o,_,_,_,e,_⟩:=x;exact aay e
 | ins C dx fs=>obtain⟨_,_,_,e,_⟩:=x;exact aay e
 | own y=>obtain⟨_,e⟩:=x;exact aay e
 | xd fs=>obtain⟨_,⟨_,_,_,e,_⟩,_⟩:=x;exact aay e
 | Tc lo hi=>obtain⟨_,_,_,e⟩:=x;exact aay e
 | sv ob u=>obtain⟨e,_⟩:=x;exact aay e
 | MP ps=>exact aay (show h.get? a=some _ from x)
 | met f y=>exact aay (show h.get? a=some _ from x)
 | ext φ=>obtain⟨_,⟨_,e⟩,_⟩:=x;exact aay e
theorem Paired.cj {α β:Type} {F G:α→β→Prop}:∀{l₁:List α} {l₂:List β},Paired F l₁ l₂→(∀a b,F a b→G a b)→Paired G l₁ l₂
 | _,_,.nil,_=>.nil
 | _,_,.cons r t,f=>.cons (f _ _ r) (Paired.cj t f)
theorem cD.jP (x:cD P w H h a o) (k:∀b u,(b=a∨H b=some (.own a))→h.get? b=some u→h'.get? b=some u)
  (ho:∀b,H b=some (.own a)→H' b=some (.own a)) (ht:∀b xs,H b=some (.tup xs)→H' b=some (.tup xs)):cD P w H' h' a o:=by
 induction o with
 | lst xs=>obtain⟨z,its,n,r,e⟩:=x;exact⟨z,its,n,r,k _ _ (.inl rfl) e⟩
 | tup xs=>obtain⟨z,its,r,ob,e,c⟩:=x;exact⟨z,its,r,ob,k _ _ (.inl rfl) e,c⟩
 | dK kvs=>obtain⟨z,y,vs,r,ob,es,ep,e,c⟩:=x;exact⟨z,y,vs,r,ob,es,ep,k _ _ (.inl rfl) e,c⟩
 | dT kvs =>
  obtain⟨z,y,xs,r,ob,es,ep,e,c⟩:=x
  exact⟨z,y,xs,Paired.cj r fun p q z=>⟨z.1,ht _ _ z.2.1,z.2.2⟩,ob,es,ep,k _ _ (.inl rfl) e,c⟩
 | set S n=>obtain⟨ob,es,ep,t,e,c⟩:=x;exact⟨ob,es,ep,t,k _ _ (.inl rfl) e,c⟩
 | ins C dx fs =>
  obtain⟨d,z,ne,e,mA,⟨od,es,ep,e2,c⟩,r⟩:=x
  exact⟨ho _ d,z,ne,k _ _ (.inl rfl) e,mA,⟨od,es,ep,k _ _ (.inr d) e2,c⟩,r⟩
 | own y=>obtain⟨ob,e⟩:=x;exact⟨ob,k _ _ (.inl rfl) e⟩
 | xd fs=>obtain⟨mA,⟨od,es,ep,e,c⟩,r⟩:=x;exact⟨mA,⟨od,es,ep,k _ _ (.inl rfl) e,c⟩,r⟩
 | Tc lo hi=>obtain⟨t,u,v,e⟩:=x;exact⟨t,u,v,k _ _ (.inl rfl) e⟩
 | sv ob u ih=>obtain⟨e,q⟩:=x;exact⟨k _ _ (.inl rfl) e,ih q⟩
 | MP ps =>
  have e:h.get? a=some { cls:=.none,data:=.fields ps }:=x
  show h'.get? a=some { cls:=.none,data:=.fields ps }
  exact k a _ (.inl rfl) e
 | met f y =>
  have e:h.get? a=some (ad8 (.ref f) (.ref y)):=x
  show h'.get? a=some (ad8 (.ref f) (.ref y))
  exact k a _ (.inl rfl) e
 | ext φ=>obtain⟨p,⟨o,e⟩,st⟩:=x;exact⟨st _ _ p fun o q=>k _ _ (.inl rfl) q,⟨o,k _ _ (.inl rfl) e⟩,st⟩
theorem mm.lt (x:mm P w H h) (e:H a=some o):a<h.objs.size:=(x a o e).lt
theorem mm.fresh (x:mm P w H h) (e:h.objs.size≤a):H a=none:=by
 cases q:H a with
 | none=>rfl
 | some u=>exact absurd (aa0 (x.lt q) e) (abM _)
theorem mm.kept (x:mm P w H h) (k:∀b u,h.get? b=some u→h'.get? b=some u):mm P w H h':=fun a o e =>
 (x a o e).jP (fun b u _ q=>k b u q) (fun _ q=>q) fun _ _ q=>q
theorem mm.laid (x:mm P w H h) (k:∀b u,h.get? b=some u→h'.get? b=some u) (hp:h.objs.size≤a) (new:cD P w (upd H a o) h' a o):mm P w (upd H a o) h':=fun b u e=>by
 have hn:=x.fresh hp
 by_cases hb:b=a
 ·subst hb;rw [ab] at e;cases e;exact new
 ·rw [ar hb] at e
  exact(x b u e).jP (fun c v _ q=>k c v q) (fun c q=>by rw [ar (aI q hn)];exact q) fun c xs q=>by rw [ar (aI q hn)];exact q
end
def Rd (H:Hp) (a:aaD) (u:HO):Prop:=H a=some u∨∃o,H a=some (.sv o u)
theorem Rd.ok {P:aa4} {w:abu} {H:Hp} {h:Heap} {a:aaD} {u:HO} (r:Rd H a u) (x:mm P w H h):cD P w H h a u:=by
 rcases r with r|⟨o,r⟩
 ·exact x a u r
 ·obtain⟨_,q⟩:=x a _ r
  exact q
def O9:Option HO→Prop
 | some (.lst _)=>True
 | some (.dK _)=>True
 | some (.dT _)=>True
 | some (.set _ _)=>True
 | some (.ins _ _ _)=>True
 | some (.ext _)=>True
 | _=>False
section
variable {P:aa4} {w:abu} {H:Hp} {h h':Heap} {x e:aaD} {o':HO}
theorem mm.write (ok:mm P w H h) (mu:O9 (H x)) (he:e=x∨H e=some (.own x)) (k:∀b u,b≠e→h.get? b=some u→h'.get? b=some u) (LP:∃u,h'.get? e=some u)
  (new:cD P w (upd H x o') h' x o'):mm P w (upd H x o') h':=fun b u q=>by
 have Pa:∀c y,H c=some (.own y)→c≠x:=fun c y r z=>by subst z;rw [r] at mu;exact mu
 have Td:∀c xs,H c=some (.tup xs)→c≠x:=fun c xs r z=>by subst z;rw [r] at mu;exact mu
 by_cases hb:b=x
 ·subst hb;rw [ab] at q;cases q;exact new
 ·rw [ar hb] at q
  by_cases MQ:b=e
  ·have q':H b=some (.own x):=by
    rcases he with z|z
    ·exact absurd (MQ.trans z) hb
    ·rw [MQ];exact z
   rw [q] at q';cases q'
   obtain⟨v,hv⟩:=LP
   exact⟨v,by rw [MQ];exact hv⟩
  ·refine(ok b u q).jP (fun c v hc r=>k c v ?_ r) (fun c r=>by rw [ar (Pa c b r)];exact r) fun c xs r=>by rw [ar (Td c xs r)];exact r
   rcases hc with rfl|hc
   ·exact MQ
   ·rintro rfl
    rcases he with z|z
    ·exact Pa c b hc z
    ·rw [hc] at z;cases z;exact hb rfl
end
structure Un (fs ex:List aaD) (H H':Hp) (h h':Heap):Prop where
 keep:∀b o,h.get? b=some o→H b=none→b∉fs→b∉ex→h'.get? b=some o
 slot:∀b o,h.get? b=some o→H b=none→b∈fs→b∉ex→∃sl,h'.get? b=some { o with slots:=sl }
 free:∀b o,h.get? b=some o→H b=none→b∉ex→H' b=none
 there:∀b o,h.get? b=some o→b∉ex→∃o',h'.get? b=some o'
 sx:∀b xs,H b=some (.tup xs)→H' b=some (.tup xs)
 rl:∀b o u,H b=some (.sv o u)→H' b=some (.sv o u)
 sy:∀b ps,H b=some (.MP ps)→∃more,H' b=some (.MP (ps++more))
section
variable {fs fs' ex WW:List aaD} {H H1 H2:Hp} {h h1 h2 h':Heap} {a x e:aaD} {o:HO}
theorem Un.any (u:Un fs ex H H1 h h1) {b:aaD} {ob:Obj} (q:h.get? b=some ob) (n:H b=none) (hx:b∉ex):∃sl,h1.get? b=some { ob with slots:=sl }:=by
 by_cases hb:b∈fs
 ·exact u.slot b ob q n hb hx
 ·exact⟨ob.slots,u.keep b ob q n hb hx⟩
theorem Un.trans (a:Un fs ex H H1 h h1) (b:Un fs ex H1 H2 h1 h2):Un fs ex H H2 h h2 where
 keep:=fun c ob q n hc hx=>b.keep c ob (a.keep c ob q n hc hx) (a.free c ob q n hx) hc hx
 slot:=fun c ob q n hc hx=>by
  obtain⟨sl,e1⟩:=a.slot c ob q n hc hx
  obtain⟨sl',e2⟩:=b.slot c _ e1 (a.free c ob q n hx) hc hx
  exact⟨sl',e2⟩
 free:=fun c ob q n hx=>by
  obtain⟨o',e1⟩:=a.there c ob q hx
  exact b.free c o' e1 (a.free c ob q n hx) hx
 there:=fun c ob q hx=>by
  obtain⟨o',e1⟩:=a.there c ob q hx
  exact b.there c o' e1 hx
 sx:=fun c xs q=>b.sx c xs (a.sx c xs q)
 rl:=fun c ob xs q=>b.rl c ob xs (a.rl c ob xs q)
 sy:=fun c ps q=>by
  obtain⟨m1,e1⟩:=a.sy c ps q
  obtain⟨m2,e2⟩:=b.sy c _ e1
  exact⟨m1++m2,by rw [e2,afc]⟩
theorem Un.kept (k:∀b u,h.get? b=some u→h'.get? b=some u):Un fs ex H H h h' :=
 ⟨fun b ob q _ _ _=>k b ob q,fun b ob q _ _ _=>⟨ob.slots,k b ob q⟩,fun _ _ _ n _=>n,fun b ob q _=>⟨ob,k b ob q⟩,fun _ _ q=>q,fun _ _ _ q=>q,fun _ ps q=>⟨#[],by rw [q];simp⟩⟩
theorem Un.refl:Un fs ex H H h h:=Un.kept fun _ _ q=>q
theorem Un.laid (k:∀b u,h.get? b=some u→h'.get? b=some u) (hp:h.objs.size≤a) (hn:H a=none):Un fs ex H (upd H a o) h h' where
 keep:=fun b u q _ _ _=>k b u q
 slot:=fun b u q _ _ _=>⟨u.slots,k b u q⟩
 free:=fun b u q n _=>by rw [ar (aaW (aa0 (aay q) hp))];exact n
 there:=fun b u q _=>⟨u,k b u q⟩
 sx:=fun b xs q=>by rw [ar (aI q hn)];exact q
 rl:=fun b u xs q=>by rw [ar (aI q hn)];exact q
 sy:=fun b ps q=>⟨#[],by rw [ar (aI q hn),q];simp⟩
theorem Un.write (mu:O9 (H x)) (he:e=x∨H e=some (.own x)) (k:∀b u,b≠e→h.get? b=some u→h'.get? b=some u) (LP:∃u,h'.get? e=some u):Un fs ex H (upd H x o) h h':=by
 have hx:∀b,H b=none→b≠x:=fun b n z=>by subst z;rw [n] at mu;exact mu
 have hb:∀b,H b=none→b≠e:=fun b n z=>by
  subst z
  rcases he with r|r
  ·exact hx b n r
  ·rw [n] at r;cases r
 have hm:∀b u,H b=some u→¬ O9 (some u)→b≠x:=fun b u q nm z=>by subst z;rw [q] at mu;exact nm mu
 refine⟨fun b u q n _ _=>k b u (hb b n) q,fun b u q n _ _=>⟨u.slots,k b u (hb b n) q⟩,fun b u q n _=>by rw [ar (hx b n)];exact n,fun b u q _=>?_,
  fun b xs q=>by rw [ar (hm b _ q fun z=>z)];exact q,fun b u xs q=>by rw [ar (hm b _ q fun z=>z)];exact q,fun b ps q=>⟨#[],by rw [ar (hm b _ q fun z=>z),q];simp⟩⟩
 by_cases MQ:b=e
 ·subst MQ;exact LP
 ·exact⟨u,k b u MQ q⟩
end
def Sh (h:Heap) (H:Hp):List aaD:=(aal h.objs.size).filter fun a=>(H a).isSome
def xy (h:Heap) (H:Hp):Heap:=PySem.W.hideAll h (Sh h H)
theorem EL (h:Heap) (H:Hp):(xy h H).objs.size=h.objs.size:=PySem.W.hideAll_size _ _
theorem Gu {h:Heap} {H:Hp} {b:aaD} {o:Obj} (e:h.get? b=some o) (n:H b=none):(xy h H).get? b=some o :=
 PySem.W.hideAll_get _ e fun hm=>by
  have q:(H b).isSome=true:=(abt.mp hm).2
  rw [n] at q;simp at q
theorem JO {h:Heap} {H:Hp} {b:aaD} {o:Obj} (e:(xy h H).get? b=some o):h.get? b=some o∧H b=none:=by
 have e':h.get? b=some o:=PySem.W.of_hideAll (Sh h H) e
 refine⟨e',?_⟩
 cases q:H b with
 | none=>rfl
 | some x =>
  have hm:b∈Sh h H:=abt.mpr ⟨aaz.mpr (aay e'),by simp [q]⟩
  have z:(xy h H).get? b=none:=PySem.W.hideAll_none (Sh h H) hm
  rw [z] at e;cases e
structure Mod (K:aaa) (mg:Str→Option aae) (base:Heap):Prop where
 OM:K.In base
 glob:base.Ns aaX mg
 blt:∃mb,base.Ns builtinsNs mb∧∀x:Str,x≠"__name__"→mb x=bootBuiltins x
 nolimit:base.NoLimit
structure Cx where
 prog:aa4
 w:abu
 K:aaa
 mg:Str→Option aae
 base:Heap
 A:abC
 N:List Str
 s₀:aak
 H₀:Hp
 env:Env
 outer:List Env
 stack:List Env
 ex:List aaD
 fn:Str→Bool
 calm:Bool
 pn:List (aaD × Obj)
 xe:aae→aak→Prop
def Ad (l:List Env):List aaD:=l.filterMap (·.frame)
abbrev Cx.fs (X:Cx):List aaD:=Ad X.outer
def Si (sc:Scope) (x:Str):Prop:=sc.names.lookup x=some .local∨sc.names.lookup x=some .cell∨sc.names.lookup x=some .free
def Loc (sc:Scope) (x:Str):Prop:=sc.names.lookup x=some .local∨sc.names.lookup x=some .cell
def Look (env:Env) (h:Heap) (m:Str→Option aae) (x:Str) (u:aae):Prop :=
 (env.kindOf x=some .local∧m x=some u)∨((env.kindOf x=some .cell∨env.kindOf x=some .free)∧∃c,env.cells.lookup x=some c∧h.IsCell c (some u))
structure Cx.Ok (X:Cx):Prop where
 mod:Mod X.K X.mg X.base
 kind:X.env.scope.kind=.function
 glob:X.env.globals=aaX
 blt:X.env.builtins=builtinsNs
 above:X.s₀.heap.objs.size≤X.env.locals
 inj:∀x y c,X.env.cells.lookup x=some c→X.env.cells.lookup y=some c→x=y
 has:∀x,(X.env.kindOf x=some .cell∨X.env.kindOf x=some .free)→∃c,X.env.cells.lookup x=some c
 Pb:∀x c,X.fn x=true→X.env.cells.lookup x=some c→X.s₀.heap.objs.size≤c
 hd:X.calm=true→X.A.handled=none
 frames:X.A.frames=some X.stack
 Sj:X.stack=X.outer∨(X.stack=X.env::X.outer∧X.env.frame=some X.env.locals)
 WX:∀b∈X.ex,b≠X.env.locals∧∀x c,X.env.cells.lookup x=some c→c≠b
 bs:∀b o,X.base.get? b=some o→X.s₀.heap.get? b=some o∧X.H₀ b=none
 EM:X.base.objs.size≤X.s₀.heap.objs.size
 B3:∀b o,X.base.get? b=some o→b∉X.ex
 JP:∀b∈X.ex,b∉X.fs
 rm:X.s₀.heap.FunFrames X.base X.outer
 MR:∀b∈X.fs,X.H₀ b=none
structure Inv (X:Cx) (pins:List (aaD × Obj)) (σ:List (Option V)) (H:Hp) (s:aak):Prop where
 ok:X.Ok
 os:s.os=X.s₀.os
 bare:AllBare s.gens
 base:Un X.fs X.ex X.H₀ H X.s₀.heap s.heap
 loc:∃m,s.heap.Ns X.env.locals m∧∀(i:Nat) (x:Str) (v:V),X.N[i]?=some x→σ[i]?=some (some v)→Si X.env.scope x→∃u,RelV v u∧Look X.env s.heap m x u
 cell:∀x c,X.env.cells.lookup x=some c→∃v,s.heap.IsCell c v
 free:H X.env.locals=none
 jC:∀x c,X.env.cells.lookup x=some c→H c=none
 pin:∀p∈X.pn++pins,s.heap.get? p.1=some p.2∧H p.1=none∧p.1≠X.env.locals∧p.1∉X.fs∧∀v,p.2.data≠.cell v
 hok:mm X.prog X.w H s.heap
 len:σ.length=X.N.length
section
variable {X:Cx} {pins:List (aaD × Obj)} {σ:List (Option V)} {H H':Hp} {s:aak} {h':Heap}
theorem Cx.Ok.Te (ok:X.Ok) {b:aaD} {o:Obj} (e:X.base.get? b=some o):b∉X.fs:=fun hb=>by
 have:=(ok.rm.mem hb).1
 rw [e] at this;cases this
theorem Inv.bs (I:Inv X pins σ H s):∀b o,X.base.get? b=some o→s.heap.get? b=some o∧H b=none:=fun b o e =>
 ⟨I.base.keep b o (I.ok.bs b o e).1 (I.ok.bs b o e).2 (I.ok.Te e) (I.ok.B3 b o e),I.base.free b o (I.ok.bs b o e).1 (I.ok.bs b o e).2 (I.ok.B3 b o e)⟩
theorem Inv.bk (I:Inv X pins σ H s):∀b o,X.base.get? b=some o→s.heap.get? b=some o:=fun b o e=>(I.bs b o e).1
theorem Inv.mod (I:Inv X pins σ H s):Mod X.K X.mg X.base:=I.ok.mod
theorem Inv.qE (I:Inv X pins σ H s):X.K.In s.heap:=I.ok.mod.OM.keeps I.bk
theorem Inv.nolimit (I:Inv X pins σ H s):s.heap.NoLimit:=I.ok.mod.nolimit.keeps I.bk
theorem Inv.lt (I:Inv X pins σ H s):X.env.locals<s.heap.objs.size:=let ⟨_,hn,_⟩:=I.loc;hn.lt
theorem Inv.sz (I:Inv X pins σ H s):X.s₀.heap.objs.size≤s.heap.objs.size:=aa5 I.ok.above (aeG I.lt)
theorem Inv.Tf (I:Inv X pins σ H s) {a:aaD} (h:s.heap.objs.size≤a):a∉X.fs:=fun hb=>by
 obtain⟨_,o,ho,_⟩:=I.ok.rm.mem hb
 exact absurd (aa0 (aay ho) (aa5 I.sz h)) (abM _)
theorem Inv.Gv (I:Inv X pins σ H s):∀x c,X.env.cells.lookup x=some c→c≠X.env.locals:=fun x c e z=>by
 obtain⟨v,o,ho,hd⟩:=I.cell x c e
 obtain⟨m,⟨o',es,ep,ho',hd',_⟩,_⟩:=I.loc
 rw [z,ho'] at ho;cases ho;rw [hd'] at hd;cases hd
theorem Inv.rm (I:Inv X pins σ H s):s.heap.FunFrames X.base X.outer:=by
 have all:∀(l:List Env),(∀b∈Ad l,b∈X.fs)→X.s₀.heap.FunFrames X.base l→s.heap.FunFrames X.base l:=by
  intro l
  induction l with
  | nil=>intro _ _;trivial
  | cons env r ih =>
   intro hs hl
   obtain⟨hk,⟨L,o,hf,hn,ho,hd⟩,hr⟩:=hl
   have hL:L∈X.fs:=hs L (by unfold Ad;rw [adL,hf];exact aaN)
   obtain⟨sl,e⟩:=I.base.slot L o ho (I.ok.MR L hL) hL fun z=>I.ok.JP L z hL
   exact⟨hk,⟨L,_,hf,hn,e,hd⟩,ih (fun b hb=>hs b (by unfold Ad;rw [adL,hf];exact aan _ hb)) hr⟩
 exact all X.outer (fun _ hb=>hb) I.ok.rm
theorem Inv.stack (I:Inv X pins σ H s):s.heap.FunFrames X.base X.stack:=by
 rcases I.ok.Sj with e|⟨e,hf⟩
 ·rw [e];exact I.rm
 ·rw [e]
  obtain⟨m,hn,_⟩:=I.loc
  refine .cons (by rw [I.ok.kind];decide) hf hn ?_ I.rm
  exact Heap.get?_none_of_le (aa5 I.ok.EM I.ok.above)
theorem Inv.jQ (I:Inv X pins σ H s):∀b∈Ad X.stack,b∈X.env.locals::X.fs:=fun b hb=>by
 rcases I.ok.Sj with e|⟨e,hf⟩
 ·rw [e] at hb;exact aan _ hb
 ·rw [e] at hb
  unfold Ad at hb
  rw [adL,hf] at hb
  exact hb
theorem Inv.rO (I:Inv X pins σ H s):∀b∈Ad X.stack,H b=none:=fun b hb=>by
 rcases aaB.mp (I.jQ b hb) with e|hb
 ·rw [e];exact I.free
 ·obtain⟨_,o,ho,_⟩:=I.ok.rm.mem hb
  exact I.base.free b o ho (I.ok.MR b hb) fun z=>I.ok.JP b z hb
theorem Inv.step {g':Array GenState} {t':Nat} {d':Drawn} {ch:List aaD} (I:Inv X pins σ H s)
  (JG:∀b∈ch,(b∈X.ex∨X.s₀.heap.objs.size≤b)∧b≠X.env.locals∧(∀x c,X.env.cells.lookup x=some c→c≠b)∧∀p∈X.pn++pins,p.1≠b)
  (keep:∀b o,b≠X.env.locals→b∉X.fs→b∉ch→s.heap.get? b=some o→H b=none→h'.get? b=some o)
  (slot:∀b o,b≠X.env.locals→b∈X.fs→b∉ch→s.heap.get? b=some o→H b=none→∃sl,h'.get? b=some { o with slots:=sl }) (free:∀b o,b∉ch→s.heap.get? b=some o→H b=none→H' b=none)
  (there:∀b o,b∉ch→s.heap.get? b=some o→∃o',h'.get? b=some o')
  (sx:∀b xs,H b=some (.tup xs)→H' b=some (.tup xs)) (rl:∀b o u,H b=some (.sv o u)→H' b=some (.sv o u)) (sy:∀b ps,H b=some (.MP ps)→∃more,H' b=some (.MP (ps++more)))
  (ns:∀m,s.heap.Ns X.env.locals m→h'.Ns X.env.locals m) (hok:mm X.prog X.w H' h') (hg:AllBare g') :
  Inv X pins σ H' { s with heap:=h',gens:=g',drawn:=d',toks:=t' }:=by
 have WY:∀b o,X.s₀.heap.get? b=some o→b≠X.env.locals:=fun b o e=>aaW (aa0 (aay e) I.ok.above)
 have Sk:∀b o,X.s₀.heap.get? b=some o→b∉X.ex→b∉ch:=fun b o e hx hb=>by
  rcases(JG b hb).1 with z|z
  ·exact hx z
  ·exact absurd (aa0 (aay e) z) (abM _)
 have cellK:∀x c,X.env.cells.lookup x=some c→∀v,s.heap.IsCell c v→h'.IsCell c v:=fun x c e v ⟨o,ho,hd⟩=>by
  have Pc:c∉ch:=fun z=>(JG c z).2.2.1 x c e rfl
  by_cases hc:c∈X.fs
  ·obtain⟨sl,q⟩:=slot c o (I.Gv x c e) hc Pc ho (I.jC x c e)
   exact⟨_,q,hd⟩
  ·exact⟨o,keep c o (I.Gv x c e) hc Pc ho (I.jC x c e),hd⟩
 refine⟨I.ok,I.os,hg,⟨fun b o e n hb hx=>?_,fun b o e n hb hx=>?_,fun b o e n hx=>?_,fun b o e hx=>?_,fun b xs e=>sx b xs (I.base.sx b xs e),fun b o xs e=>rl b o xs (I.base.rl b o xs e),fun b ps e=>?_⟩,?_,fun x c e=>?_,?_,fun x c e=>?_,fun p hp=>?_,hok,I.len⟩
 ·exact keep b o (WY b o e) hb (Sk b o e hx) (I.base.keep b o e n hb hx) (I.base.free b o e n hx)
 ·obtain⟨sl,e1⟩:=I.base.slot b o e n hb hx
  obtain⟨sl',e2⟩:=slot b _ (WY b o e) hb (Sk b o e hx) e1 (I.base.free b o e n hx)
  exact⟨sl',e2⟩
 ·obtain⟨o',e1⟩:=I.base.there b o e hx
  exact free b o' (Sk b o e hx) e1 (I.base.free b o e n hx)
 ·obtain⟨o',e1⟩:=I.base.there b o e hx
  exact there b o' (Sk b o e hx) e1
 ·obtain⟨m1,e1⟩:=I.base.sy b ps e
  obtain⟨m2,e2⟩:=sy b _ e1
  exact⟨m1++m2,by rw [e2,afc]⟩
 ·obtain⟨m,hn,hl⟩:=I.loc
  refine⟨m,ns m hn,fun i x v e1 e2 e3=>?_⟩
  obtain⟨u,r,l⟩:=hl i x v e1 e2 e3
  refine⟨u,r,?_⟩
  rcases l with l|⟨k,c,e,z⟩
  ·exact .inl l
  ·exact .inr ⟨k,c,e,cellK x c e _ z⟩
 ·obtain⟨v,z⟩:=I.cell x c e
  exact⟨v,cellK x c e v z⟩
 ·obtain⟨m,⟨o,_,_,ho,_⟩,_⟩:=I.loc
  exact free _ o (fun z=>(JG _ z).2.1 rfl) ho I.free
 ·obtain⟨v,o,ho,hd⟩:=I.cell x c e
  exact free c o (fun z=>(JG c z).2.2.1 x c e rfl) ho (I.jC x c e)
 ·obtain⟨e,n,ne,nf,d⟩:=I.pin p hp
  have Pc:p.1∉ch:=fun z=>(JG p.1 z).2.2.2 p hp rfl
  exact⟨keep p.1 p.2 ne nf Pc e n,free p.1 p.2 Pc e n,ne,nf,d⟩
theorem Inv.un {t':Nat} (I:Inv X pins σ H s) (u:Un X.fs [] H H' s.heap h') (hok:mm X.prog X.w H' h'):Inv X pins σ H' { s with heap:=h',toks:=t' }:=by
 obtain⟨m,⟨o,es,ep,ho,r⟩,_⟩:=id I.loc
 obtain⟨sl,hL⟩:=u.any ho I.free (by simp)
 exact I.step (g':=s.gens) (d':=s.drawn) (ch:=[]) (fun _ z=>nomatch z) (fun b o _ hb _ e n=>u.keep b o e n hb (by simp)) (fun b o _ hb _ e n=>u.slot b o e n hb (by simp)) (fun b o _ e n=>u.free b o e n (by simp)) (fun b o _ e=>u.there b o e (by simp)) u.sx u.rl u.sy (fun m' hm=>by
  obtain⟨o',Tg,Th,ho',r'⟩:=hm
  rw [ho] at ho';cases ho'
  exact⟨_,Tg,Th,hL,r'⟩) hok I.bare
theorem Inv.call {g':Array GenState} {t':Nat} {d':Drawn} {ch:List aaD} (I:Inv X pins σ H s) (u:Un (Ad X.stack) ch H H' s.heap h') (hok:mm X.prog X.w H' h') (hg:AllBare g')
  (JG:∀b∈ch,(b∈X.ex∨X.s₀.heap.objs.size≤b)∧b≠X.env.locals∧(∀x c,X.env.cells.lookup x=some c→c≠b)∧∀p∈X.pn++pins,p.1≠b) :
  Inv X pins σ H' { s with heap:=h',gens:=g',drawn:=d',toks:=t' }:=by
 obtain⟨m,⟨o,es,ep,ho,r⟩,_⟩:=id I.loc
 obtain⟨sl,hL⟩:=u.any ho I.free fun z=>(JG _ z).2.1 rfl
 exact I.step (ch:=ch) JG (fun b o hL hb hc e n=>u.keep b o e n (fun z=>(aaB.mp (I.jQ b z)).elim hL hb) hc) (fun b o _ _ hc e n=>u.any e n hc) (fun b o hc e n=>u.free b o e n hc) (fun b o hc e=>u.there b o e hc) u.sx u.rl u.sy (fun m' hm=>by
  obtain⟨o',Tg,Th,ho',r'⟩:=hm
  rw [ho] at ho';cases ho'
  exact⟨_,Tg,Th,hL,r'⟩) hok hg
theorem Inv.turned {t':Nat} {it:aaD} (I:Inv X pins σ H s) (k:∀b o,b≠it→s.heap.get? b=some o→h'.get? b=some o) (hn:H it=none) (hL:it≠X.env.locals)
  (h1:it∈X.ex∨X.s₀.heap.objs.size≤it) (h2:∀x c,X.env.cells.lookup x=some c→c≠it) (h3:∀p∈X.pn++pins,p.1≠it):Inv X pins σ H { s with heap:=h',toks:=t' }:=by
 have Pd:∀b u,H b=some u→b≠it:=fun b u e z=>by rw [z,hn] at e;cases e
 refine I.step (g':=s.gens) (d':=s.drawn) (ch:=[it]) (fun b hb=>?_) (fun b o _ _ hc e _=>k b o (fun z=>hc (by simp [z])) e) (fun b o _ _ hc e _=>⟨o.slots,k b o (fun z=>hc (by simp [z])) e⟩) (fun _ _ _ _ n=>n)
  (fun b o hc e=>⟨o,k b o (fun z=>hc (by simp [z])) e⟩) (fun _ _ e=>e) (fun _ _ _ e=>e) (fun b ps e=>⟨#[],by rw [e];simp⟩) (fun m hm=>?_) (fun b u e=>?_) I.bare
 ·have e:b=it:=by simpa using hb
  subst e
  exact⟨h1,hL,h2,h3⟩
 ·obtain⟨o,es,ep,ho,r⟩:=hm
  exact⟨o,es,ep,k _ o (abB hL) ho,r⟩
 ·refine(I.hok b u e).jP (fun c v hc q=>k c v ?_ q) (fun _ q=>q) fun _ _ q=>q
  rcases hc with z|z
  ·rw [z];exact Pd b u e
  ·exact Pd c _ z
theorem Inv.tok (I:Inv X pins σ H s) (t:Nat):Inv X pins σ H { s with toks:=t }:=I.un (h':=s.heap) (t':=t) Un.refl I.hok
theorem Inv.kept {t':Nat} (I:Inv X pins σ H s) (k:∀b u,s.heap.get? b=some u→h'.get? b=some u):Inv X pins σ H { s with heap:=h',toks:=t' }:=I.un (Un.kept k) (I.hok.kept k)
theorem Inv.laid {a:aaD} {o:HO} {t':Nat} (I:Inv X pins σ H s) (k:∀b u,s.heap.get? b=some u→h'.get? b=some u) (hp:s.heap.objs.size≤a) (new:cD X.prog X.w (upd H a o) h' a o) :
  Inv X pins σ (upd H a o) { s with heap:=h',toks:=t' }:=I.un (Un.laid k hp (I.hok.fresh hp)) (I.hok.laid k hp new)
theorem Inv.write {x e:aaD} {o:HO} {t':Nat} (I:Inv X pins σ H s) (mu:O9 (H x)) (he:e=x∨H e=some (.own x)) (k:∀b u,b≠e→s.heap.get? b=some u→h'.get? b=some u) (LP:∃u,h'.get? e=some u)
  (new:cD X.prog X.w (upd H x o) h' x o):Inv X pins σ (upd H x o) { s with heap:=h',toks:=t' }:=I.un (Un.write mu he k LP) (I.hok.write mu he k LP new)
theorem Inv.DH {LQ:List (aaD × Obj)} (I:Inv X pins σ H s) (h:∀p∈LQ,s.heap.get? p.1=some p.2∧H p.1=none∧p.1≠X.env.locals∧p.1∉X.fs∧∀v,p.2.data≠.cell v):Inv X LQ σ H s :=
 ⟨I.ok,I.os,I.bare,I.base,I.loc,I.cell,I.free,I.jC,fun p hp=>(aaS.mp hp).elim (fun z=>I.pin p (abT _ z)) (h p),I.hok,I.len⟩
theorem Ae {N:List Str} (hN:N.Nodup) {i j:Nat} {x:Str} (a:N[i]?=some x) (b:N[j]?=some x):i=j:=by
 obtain⟨h1,e1⟩:=aar.mp a
 obtain⟨h2,e2⟩:=aar.mp b
 exact(List.getElem_inj hN).mp (e1.trans e2.symm)
theorem pC {M:Model} {A:abC} {E:aae→aak→Prop} {i:Nat} {x:Str} {v:V} {u:aae} {Q:Unit→aak→Prop} (I:Inv X pins σ H s) (hN:X.N.Nodup) (hi:X.N[i]?=some x) (hx:Loc X.env.scope x) (r:RelV v u)
  (h:∀s',Inv X pins (σ.set i (some v)) H s'→(∃a,adB a s.heap s'.heap∧(a=X.env.locals∨X.env.cells.lookup x=some a))→Q () s') (hf:X.fn x=true∨X.env.scope.names.lookup x=some .local:=by first|exact .inl rfl|exact .inr rfl|assumption):abb M A (storeName X.env x u) Q E s:=by
 obtain⟨m,hn,hl⟩:=id I.loc
 have Ti:(X.env.scope.kind == .class || (X.env.scope.kind == .module && X.env.locals != X.env.globals))=false:=by rw [I.ok.kind];rfl
 have WZ:i<σ.length:=by rw [I.len];exact(aar.mp hi).1
 have Gv:=I.Gv
 have tracked:∀{a:aaD} {h':Heap},(∃o,s.heap.get? a=some o∧H a=none)→adB a s.heap h'→mm X.prog X.w H h':=fun {a h'} ha hs b ob e=>by
  obtain⟨_,_,hfree⟩:=ha
  refine(I.hok b ob e).jP (fun c w' hc q=>(hs.2 c ?_).trans q) (fun _ q=>q) fun _ _ q=>q
  rintro rfl
  rcases hc with rfl|hc
  ·rw [hfree] at e;cases e
  ·rw [hfree] at hc;cases hc
 rcases hx with hk|hk
 ·refine wpAny_storeName_local hk hn (fun h' hn' hs=>?_) Ti
  obtain⟨oL,_,_,YE,_⟩:=id hn
  refine h _ ⟨I.ok,I.os,I.bare,⟨fun b o e n hb hx=>?_,fun b o e n hb hx=>?_,I.base.free,fun b o e hx=>?_,I.base.sx,I.base.rl,I.base.sy⟩,⟨_,hn',fun j y v' e1 e2 e3=>?_⟩,fun y c e=>?_,I.free,I.jC,fun p hp=>?_,tracked ⟨oL,YE,I.free⟩ hs,by simpa using I.len⟩ ⟨_,hs,.inl rfl⟩
  ·exact(hs.2 b (aaW (aa0 (aay e) I.ok.above))).trans (I.base.keep b o e n hb hx)
  ·obtain⟨sl,e1⟩:=I.base.slot b o e n hb hx
   exact⟨sl,(hs.2 b (aaW (aa0 (aay e) I.ok.above))).trans e1⟩
  ·obtain⟨o',e1⟩:=I.base.there b o e hx
   exact⟨o',(hs.2 b (aaW (aa0 (aay e) I.ok.above))).trans e1⟩
  ·by_cases hj:j=i
   ·subst hj
    rw [hi] at e1;cases e1
    rw [aew WZ] at e2
    cases e2
    exact⟨u,r,.inl ⟨hk,by simp⟩⟩
   ·rw [aeU (abB hj)] at e2
    obtain⟨u',r',q⟩:=hl j y v' e1 e2 e3
    refine⟨u',r',?_⟩
    rcases q with⟨k,e⟩|⟨k,c,e,z⟩
    ·refine .inl ⟨k,?_⟩
     have:y≠x:=fun e=>hj (Ae hN e1 (e ▸ hi))
     simp [this,e]
    ·exact .inr ⟨k,c,e,z.sameBut hs (Gv y c e)⟩
  ·obtain⟨w',z⟩:=I.cell y c e
   exact⟨w',z.sameBut hs (Gv y c e)⟩
  ·obtain⟨e,n,ne,nf,d⟩:=I.pin p hp
   exact⟨(hs.2 p.1 ne).trans e,n,ne,nf,d⟩
 ·have JQ:X.fn x=true:=by
   rcases hf with z|z
   ·exact z
   ·rw [z] at hk;cases hk
  obtain⟨c,hc⟩:=I.ok.has x (.inl hk)
  obtain⟨w',z⟩:=I.cell x c hc
  refine wpAny_storeName_cell I.ok.kind hk hc z (fun h' hc' hs=>?_)
  obtain⟨oc,W0,Tj⟩:=id z
  refine h { s with heap:=h' } ⟨I.ok,I.os,I.bare,⟨fun b o e n hb hx=>?_,fun b o e n hb hx=>?_,I.base.free,fun b o e hx=>?_,I.base.sx,I.base.rl,I.base.sy⟩,⟨m,hn.sameBut hs (abB (Gv x c hc)),fun j y v' e1 e2 e3=>?_⟩,fun y c' e=>?_,I.free,I.jC,fun p hp=>?_,tracked ⟨oc,W0,I.jC x c hc⟩ hs,by simpa using I.len⟩ ⟨c,hs,.inr hc⟩
  ·exact(hs.2 b (aaW (aa0 (aay e) (I.ok.Pb x c JQ hc)))).trans (I.base.keep b o e n hb hx)
  ·obtain⟨sl,e1⟩:=I.base.slot b o e n hb hx
   exact⟨sl,(hs.2 b (aaW (aa0 (aay e) (I.ok.Pb x c JQ hc)))).trans e1⟩
  ·obtain⟨o',e1⟩:=I.base.there b o e hx
   exact⟨o',(hs.2 b (aaW (aa0 (aay e) (I.ok.Pb x c JQ hc)))).trans e1⟩
  ·by_cases hj:j=i
   ·subst hj
    rw [hi] at e1;cases e1
    rw [aew WZ] at e2
    cases e2
    exact⟨u,r,.inr ⟨.inl hk,c,hc,hc'⟩⟩
   ·rw [aeU (abB hj)] at e2
    obtain⟨u',r',q⟩:=hl j y v' e1 e2 e3
    refine⟨u',r',?_⟩
    rcases q with q|⟨k,c',e,z'⟩
    ·exact .inl q
    ·refine .inr ⟨k,c',e,z'.sameBut hs ?_⟩
     rintro rfl
     exact hj (Ae hN e1 (I.ok.inj _ _ _ e hc ▸ hi))
  ·by_cases W2:c'=c
   ·subst W2;exact⟨_,hc'⟩
   ·obtain⟨w2,z2⟩:=I.cell y c' e
    exact⟨w2,z2.sameBut hs W2⟩
  ·obtain⟨e,n,ne,nf,d⟩:=I.pin p hp
   refine⟨(hs.2 p.1 ?_).trans e,n,ne,nf,d⟩
   intro q
   rw [q,W0] at e
   have q':oc=p.2:=aaR e
   exact d w' (by rw [← q'];exact Tj)
theorem sE {M:Model} {A:abC} {E:aae→aak→Prop} {i:Nat} {x:Str} {v:V} {u:aae} {Q:Unit→aak→Prop} (I:Inv X pins σ H s) (hN:X.N.Nodup) (hi:X.N[i]?=some x) (hx:Loc X.env.scope x) (r:RelV v u)
  (h:∀s',Inv X pins (σ.set i (some v)) H s'→Q () s') (hf:X.fn x=true∨X.env.scope.names.lookup x=some .local:=by first|exact .inl rfl|exact .inr rfl|assumption):abb M A (storeName X.env x u) Q E s :=
 pC I hN hi hx r (fun s' I' _=>h s' I') hf
theorem Inv.Gw {s':aak} {ch:List aaD} (I:Inv X pins σ H s) (ho:s'.os=s.os) (u:Un (Ad X.stack) ch H H' s.heap s'.heap) (hok:mm X.prog X.w H' s'.heap) (hg:AllBare s'.gens)
  (JG:∀b∈ch,(b∈X.ex∨X.s₀.heap.objs.size≤b)∧b≠X.env.locals∧(∀x c,X.env.cells.lookup x=some c→c≠b)∧∀p∈X.pn++pins,p.1≠b):Inv X pins σ H' s':=by
 obtain⟨h',g',d',t',o'⟩:=s'
 have e:o'=s.os:=ho
 subst e
 exact I.call (g':=g') (t':=t') (d':=d') u hok hg JG
end
abbrev XK:=aae→Option aaD→Hp→Prop
abbrev St:=List (Option V)
abbrev VK:=V→Hp→Prop
abbrev TE:=St→Hp→VK→Prop
abbrev TT:=St→Hp→(Bool→Hp→Prop)→Prop
abbrev TA:=St→Hp→(List V→Hp→Prop)→Prop
structure Ends where
 nx:St→Hp→Prop
 rt:VK
 bk:St→Hp→Prop:=fun _ _=>False
 ct:St→Hp→Prop:=fun _ _=>False
abbrev TS:=Ends→St→Hp→Prop
def EP (X:Cx) (pins:List (aaD × Obj)) (σ:St) (Q:VK) (u:aae) (s':aak):Prop:=∃v H',Inv X pins σ H' s'∧RelV v u∧Q v H'
def TP (X:Cx) (pins:List (aaD × Obj)) (σ:St) (Q:Bool→Hp→Prop) (b:Bool) (s':aak):Prop:=∃H',Inv X pins σ H' s'∧Q b H'
def AP (X:Cx) (pins:List (aaD × Obj)) (σ:St) (Q:List V→Hp→Prop) (us:List aae) (s':aak):Prop:=∃vs H',Inv X pins σ H' s'∧Vals vs us∧Q vs H'
def SP (X:Cx) (pins:List (aaD × Obj)) (D:Ends) (f:Flow) (s':aak):Prop :=
 match f with
 | .next=>∃σ' H',Inv X pins σ' H' s'∧D.nx σ' H'
 | .brk=>∃σ' H',Inv X pins σ' H' s'∧D.bk σ' H'
 | .cont=>∃σ' H',Inv X pins σ' H' s'∧D.ct σ' H'
 | .ret u=>∃v σ' H',Inv X pins σ' H' s'∧RelV v u∧D.rt v H'
def PE (X:Cx) (e:Expr) (t:TE):Prop :=
 ∀(pins:List (aaD × Obj)) (s:aak) (σ:St) (H:Hp) (Q:VK),Inv X pins σ H s→t σ H Q→abb (model X.prog X.w) X.A (eval e X.env) (EP X pins σ Q) X.xe s
def PT (X:Cx) (e:Expr) (t:TT):Prop :=
 ∀(pins:List (aaD × Obj)) (s:aak) (σ:St) (H:Hp) (Q:Bool→Hp→Prop),Inv X pins σ H s→t σ H Q→abb (model X.prog X.w) X.A (isTrue e X.env (eval e X.env)) (TP X pins σ Q) X.xe s
def PW (X:Cx) (e:Expr) (t:TT):Prop :=
 ∀(whole:Sem aae) (pins:List (aaD × Obj)) (s:aak) (σ:St) (H:Hp) (Q:Bool→Hp→Prop),Inv X pins σ H s→t σ H Q→abb (model X.prog X.w) X.A (isTrue e X.env whole) (TP X pins σ Q) X.xe s
theorem PW.pt {X:Cx} {e:Expr} {t:TT} (h:PW X e t):PT X e t:=h _
def PA (X:Cx) (es:List Expr) (t:TA):Prop :=
 ∀(pos:Pos) (pins:List (aaD × Obj)) (s:aak) (σ:St) (H:Hp) (Q:List V→Hp→Prop),Inv X pins σ H s→t σ H Q→abb (model X.prog X.w) X.A (spliced (backTo pos (starEach es X.env))) (AP X pins σ Q) X.xe s
def PS (X:Cx) (st:Stmt) (t:TS):Prop :=
 ∀(pins:List (aaD × Obj)) (s:aak) (σ:St) (H:Hp) (D:Ends),Inv X pins σ H s→t D σ H→abb (model X.prog X.w) X.A (exec st X.env) (SP X pins D) X.xe s
def DI (X:Cx) (st:List Stmt) (t:TS):Prop :=
 ∀(pins:List (aaD × Obj)) (s:aak) (σ:St) (H:Hp) (D:Ends),Inv X pins σ H s→t D σ H→abb (model X.prog X.w) X.A (execs st X.env) (SP X pins D) X.xe s
theorem thn {α:Type} {t:Sem α} {Q Q':α→aak→Prop} {M:Model} {A:abC} {E:aae→aak→Prop} {s:aak} (h:abb M A t Q E s) (hQ:∀a s,Q a s→Q' a s):abb M A t Q' E s:=wpAny_mono h hQ fun _ _ x=>x
section
variable {X:Cx}
theorem bin {a b:Expr} {ta tb:TE} (ha:PE X a ta) (hb:PE X b tb) {pins:List (aaD × Obj)} {s:aak} {σ:St} {H:Hp} {R:V→V→Hp→Prop} (I:Inv X pins σ H s) (h:ta σ H fun x H1=>tb σ H1 fun y H2=>R x y H2)
  {α:Type} {Q:α→aak→Prop} {f:aae→aae→Sem α}
  (hf:∀v u s2 x y H2,Inv X pins σ H2 s2→RelV x v→RelV y u→R x y H2→abb (model X.prog X.w) X.A (f v u) Q X.xe s2) :
  abb (model X.prog X.w) X.A (eval a X.env) (fun v s₁=>abb (model X.prog X.w) X.A (eval b X.env) (fun u s₂=>abb (model X.prog X.w) X.A (f v u) Q X.xe s₂) X.xe s₁) X.xe s:=by
 refine thn (ha pins s σ H _ I h) fun v s1 ⟨x,H1,I1,r1,q1⟩=>?_
 refine thn (hb pins s1 σ H1 _ I1 q1) fun u s2 ⟨y,H2,I2,r2,q2⟩=>?_
 exact hf v u s2 x y H2 I2 r1 r2 q2
def Pe (i:Nat):TE:=fun σ H Q=>∃v,σ[i]?=some (some v)∧Q v H
def tC (v:V):TE:=fun _ H Q=>Q v H
theorem MS {i:Nat} {x:Str} {pos:Pos} (hN:X.N[i]?=some x) (hv:Si X.env.scope x) (hd:(x == ("__debug__":Str))=false:=by decide) (hcd:(x == ("__classdict__":Str))=false:=by decide):PE X (.Name x pos) (Pe i):=by
 intro pins s σ H Q I h
 obtain⟨v,e,h⟩:=h
 obtain⟨m,hn,hl⟩:=I.loc
 obtain⟨u,r,l⟩:=hl i x v hN e hv
 have fin:EP X pins σ Q u s:=⟨v,H,I,r,h⟩
 rcases l with⟨hk,hm⟩|⟨hk,c,hc,hcell⟩
 ·exact wpAny_Name (wpAny_loadName_local I.ok.kind hk hn hm fin) hd
 ·rcases hk with hk|hk
  ·exact wpAny_Name (wpAny_loadName_cell I.ok.kind hk hc hcell fin) hd
  ·exact wpAny_Name (wpAny_loadName_free I.ok.kind hk hc hcell fin hcd) hd
theorem aj {i j pos}:PE X (.Constant (.int i) j pos) (tC (.int i)):=fun _ _ _ H _ I h=>wpAny_Constant_int ⟨.int i,H,I.tok _,⟨_,rfl⟩,h⟩
theorem d5 {b j pos}:PE X (.Constant (.bool b) j pos) (tC (.bl b)):=fun _ _ _ H _ I h=>Constant_bool ⟨.bl b,H,I,rfl,h⟩
theorem sF {j pos}:PE X (.Constant .none j pos) (tC .cU):=fun _ _ _ H _ I h=>Constant_none ⟨.cU,H,I,rfl,h⟩
theorem aM {x j pos}:PE X (.Constant (.str x) j pos) (tC (.str x)):=fun _ _ _ H _ I h=>Calls.Constant_str ⟨.str x,H,I.tok _,⟨_,rfl⟩,h⟩
def Gl (X:Cx) (x:Str):Prop:=X.env.kindOf x=some .globalImplicit
theorem xA {E:aae→aak→Prop} {pins:List (aaD × Obj)} {s:aak} {σ:St} {H:Hp} {x:Str} {u:aae} {pos:Pos} {Q:aae→aak→Prop} (I:Inv X pins σ H s) (hg:Gl X x) (hm:X.mg x=some u) (h:Q u s)
  (hd:(x == ("__debug__":Str))=false:=by decide):abb (model X.prog X.w) X.A (eval (.Name x pos) X.env) Q E s :=
 adV I.ok.kind hg (Calls.loadGlobal_global (by rw [I.ok.glob];exact I.mod.glob.keeps I.bk) hm h) hd
theorem jR {E:aae→aak→Prop} {pins:List (aaD × Obj)} {s:aak} {σ:St} {H:Hp} {x:Str} {u:aae} {pos:Pos} {Q:aae→aak→Prop} (I:Inv X pins σ H s) (hg:Gl X x) (hm:X.mg x=none) (hv:bootBuiltins x=some u) (h:Q u s)
  (hn:x≠"__name__":=by decide) (hd:(x == ("__debug__":Str))=false:=by decide):abb (model X.prog X.w) X.A (eval (.Name x pos) X.env) Q E s:=by
 obtain⟨mb,h1,h2⟩:=I.mod.blt
 exact adV I.ok.kind hg (Calls.loadGlobal_builtin (by rw [I.ok.glob];exact I.mod.glob.keeps I.bk) hm (by rw [I.ok.blt];exact h1.keeps I.bk) ((h2 x hn).trans hv) h) hd
theorem de {x:Str} {v:V} {u:aae} {pos:Pos} (hg:Gl X x) (hm:X.mg x=some u) (r:RelV v u) (hd:(x == ("__debug__":Str))=false:=by decide):PE X (.Name x pos) (tC v) :=
 fun _ _ _ H _ I h=>xA I hg hm ⟨v,H,I,r,h⟩ hd
theorem rP {x:Str} {v:V} {u:aae} {pos:Pos} (hg:Gl X x) (hm:X.mg x=none) (hv:bootBuiltins x=some u) (r:RelV v u) (hn:x≠"__name__":=by decide) (hd:(x == ("__debug__":Str))=false:=by decide):PE X (.Name x pos) (tC v) :=
 fun _ _ _ H _ I h=>jR I hg hm hv ⟨v,H,I,r,h⟩ hn hd
variable {a b:Expr} {ta tb:TE} {pos:Pos}
def PC (X:Cx) (op:CmpOp) (a b:Expr) (t:TE):Prop :=
 ∀(pins:List (aaD × Obj)) (s:aak) (σ:St) (H:Hp) (Q:VK),Inv X pins σ H s→t σ H Q →
  abb (model X.prog X.w) X.A (eval a X.env) (fun v s₁=>abb (model X.prog X.w) X.A (eval b X.env) (fun u s₂=>abb (model X.prog X.w) X.A (compareOp op v u) (EP X pins σ Q) X.xe s₂) X.xe s₁) X.xe s
theorem Gx (b:Expr) {op:CmpOp} (h:op≠.In) (h2:op≠.NotIn):behindInMarks op b=false:=by
 have e1:(op == CmpOp.In)=false:=by cases op <;> first|rfl|exact absurd rfl h
 have e2:(op == CmpOp.NotIn)=false:=by cases op <;> first|rfl|exact absurd rfl h2
 cases b <;> simp [behindInMarks,e1,e2]
def tB (t:TE):TT:=fun σ H Q=>t σ H fun x H1=>∃c,x=.bl c∧Q c H1
theorem B5 {op:CmpOp} {t:TE} (h:PC X op a b t) (h1:behindInMarks op b=false:=by first|exact Gx _ (by decide) (by decide)|rfl):PT X (.Compare a [op] [b] pos) (tB t):=by
 intro pins s σ H Q I hw
 refine wpAny_isTrue_Compare1 (thn (h pins s σ H _ I hw) fun v s1 h1=>thn h1 fun u s2 h2=>thn h2 fun c s3 ⟨x,H1,I1,r1,q1⟩=>?_) h1
 obtain⟨d,rfl,q⟩:=q1
 cases r1
 exact wpAny_truthy_bool ⟨H1,I1,q⟩
theorem bV {e:Expr} {t:TE} (h:PE X e t) (he:∀whole,isTrue e X.env whole=(do let v ← whole;standAt e.pos;holding [v] (truthy v)):=by intro _;rfl):PT X e (tB t):=by
 intro pins s σ H Q I hw
 refine isTrue_plain (thn (h pins s σ H _ I hw) fun v s1 ⟨x,H1,I1,r1,q1⟩=>?_) (he _)
 obtain⟨d,rfl,q⟩:=q1
 cases r1
 exact wpAny_truthy_bool ⟨H1,I1,q⟩
variable {tA Sl:TT} {rest:List Expr}
def Tn (t u:TT):TT:=fun σ H Q=>t σ H fun c H1=>if c=true then u σ H1 Q else Q false H1
def YF (t u:TT):TT:=fun σ H Q=>t σ H fun c H1=>if c=true then Q true H1 else u σ H1 Q
def To (t:TT):TT:=fun σ H Q=>t σ H fun c H1=>Q (!c) H1
theorem fD (ha:PT X a tA):PW X (.BoolOp .And [a] pos) tA:=by
 intro wh pins s σ H Q I h
 refine isTrue_and (thn (ha pins s σ H Q I h) fun c s1 e=>?_)
 cases c with
 | true=>exact isTrue_and_nil e
 | false=>exact e
theorem iM (ha:PT X a tA):PW X (.BoolOp .Or [a] pos) tA:=by
 intro wh pins s σ H Q I h
 refine isTrue_or (thn (ha pins s σ H Q I h) fun c s1 e=>?_)
 cases c with
 | false=>exact isTrue_or_nil e
 | true=>exact e
theorem gP (ha:PT X a tA) (hb:PW X (.BoolOp .And (b::rest) pos) Sl):PW X (.BoolOp .And (a::b::rest) pos) (Tn tA Sl):=by
 intro wh pins s σ H Q I h
 refine isTrue_and (thn (ha pins s σ H _ I h) fun c s1 ⟨H1,I1,q1⟩=>?_)
 cases c with
 | true=>exact hb wh pins s1 σ H1 Q I1 q1
 | false=>exact⟨H1,I1,q1⟩
theorem jS (ha:PT X a tA) (hb:PW X (.BoolOp .Or (b::rest) pos) Sl):PW X (.BoolOp .Or (a::b::rest) pos) (YF tA Sl):=by
 intro wh pins s σ H Q I h
 refine isTrue_or (thn (ha pins s σ H _ I h) fun c s1 ⟨H1,I1,q1⟩=>?_)
 cases c with
 | true=>exact⟨H1,I1,q1⟩
 | false=>exact hb wh pins s1 σ H1 Q I1 q1
theorem dH (ha:PT X a tA):PT X (.UnaryOp .Not a pos) (To tA):=by
 intro pins s σ H Q I h
 exact isTrue_not (ha pins s σ H (fun c H1=>Q (!c) H1) I h)
def Pf (ta tb:TE):TE:=fun σ H Q=>ta σ H fun x H1=>∃c,x=.bl c∧if c=true then tb σ H1 Q else Q (.bl false) H1
def Tp (ta tb:TE):TE:=fun σ H Q=>ta σ H fun x H1=>∃c,x=.bl c∧if c=true then Q (.bl true) H1 else tb σ H1 Q
theorem mY {op} {t:TE} (h:PE X a t):PE X (.BoolOp op [a] pos) t:=fun pins s σ H Q I hw=>BoolOp_one (h pins s σ H Q I hw)
theorem mZ (ha:PE X a ta) (hb:PE X (.BoolOp .And (b::rest) pos) tb):PE X (.BoolOp .And (a::b::rest) pos) (Pf ta tb):=by
 intro pins s σ H Q I h
 refine BoolOp_and (thn (ha pins s σ H _ I h) fun v s1 ⟨x,H1,I1,r1,q1⟩=>?_)
 obtain⟨c,rfl,q1⟩:=q1
 cases r1
 refine wpAny_truthy_bool ?_
 cases c with
 | true=>exact hb pins s1 σ H1 Q I1 q1
 | false=>exact⟨.bl false,H1,I1,rfl,q1⟩
theorem LR (ha:PE X a ta) (hb:PE X (.BoolOp .Or (b::rest) pos) tb):PE X (.BoolOp .Or (a::b::rest) pos) (Tp ta tb):=by
 intro pins s σ H Q I h
 refine BoolOp_or (thn (ha pins s σ H _ I h) fun v s1 ⟨x,H1,I1,r1,q1⟩=>?_)
 obtain⟨c,rfl,q1⟩:=q1
 cases r1
 refine wpAny_truthy_bool ?_
 cases c with
 | false=>exact hb pins s1 σ H1 Q I1 q1
 | true=>exact⟨.bl true,H1,I1,rfl,q1⟩
def YG (t:TT) (ta tb:TE):TE:=fun σ H Q=>t σ H fun c H1=>if c=true then ta σ H1 Q else tb σ H1 Q
theorem Af {c:Expr} (hc:PT X c tA) (ha:PE X a ta) (hb:PE X b tb):PE X (.IfExp c a b pos) (YG tA ta tb):=by
 intro pins s σ H Q I h
 refine wpAny_IfExp (thn (hc pins s σ H _ I h) fun d s1 ⟨H1,I1,q1⟩=>?_)
 cases d with
 | true=>exact ha pins s1 σ H1 Q I1 q1
 | false=>exact hb pins s1 σ H1 Q I1 q1
end
def aB (K:aaa) (H:Hp) (a:aaD) (xs:List V):Prop :=
 Rd H a (.lst xs) ∨
  ∃(o:Obj) (its:Array aae) (n:Nat),K.lookup a=some o∧o.cls=.type "list"∧o.dict=none∧o.data=.seq its n∧its.size≤aao∧xs.all V.pl=true∧Vals xs its.toList
def b8 (K:aaa) (H:Hp) (a:aaD) (xs:List V):Prop :=
 Rd H a (.tup xs) ∨
  ∃(o:Obj) (its:Array aae) (n:Nat),K.lookup a=some o∧o.cls=.type "tuple"∧o.data=.seq its n∧its.size≤aao∧xs.all V.pl=true∧Vals xs its.toList
def Tq:aae→Option V
 | .none=>some .cU
 | .bool b=>some (.bl b)
 | .int i _=>some (.int i)
 | .str x _=>some (.str x)
 | .bytes b _=>some (.Gj b)
 | .float b _=>some (.iK b)
 | .ref a=>some (.ref a)
 | .type n=>some (.ty n)
 | _=>none
theorem RelV.abs {x:V} {u:aae} (r:RelV x u) (hp:x.pl=true):Tq u=some x:=by
 cases x with
 | tok _ _=>cases hp
 | cU=>cases r;rfl
 | bl _=>cases r;rfl
 | int _=>obtain⟨t,rfl⟩:=r;rfl
 | str _=>obtain⟨t,rfl⟩:=r;rfl
 | Gj _=>obtain⟨t,rfl⟩:=r;rfl
 | iK _=>obtain⟨t,rfl⟩:=r;rfl
 | ref _=>cases r;rfl
 | ty _=>cases r;rfl
theorem RelV.inj {x y:V} {u:aae} (r:RelV x u) (q:RelV y u) (hx:x.pl=true) (hy:y.pl=true):x=y:=aaR ((r.abs hx).symm.trans (q.abs hy))
theorem Vals.inj:∀{xs ys:List V} {us:List aae},Vals xs us→Vals ys us→xs.all V.pl=true→ys.all V.pl=true→xs=ys
 | _,_,_,.nil,.nil,_,_=>rfl
 | _,_,_,.cons r t,.cons r' t',h,h'=>by
  rw [abV,abc] at h h'
  rw [r.inj r' h.1 h'.1,Vals.inj t t' h.2 h'.2]
section
variable {X:Cx} {pins:List (aaD × Obj)} {σ:St} {H:Hp} {s:aak} {a:aaD} {xs ys:List V}
theorem aB.of {K:aaa} (h:H a=some (.lst xs)):aB K H a xs:=.inl (.inl h)
theorem b8.of {K:aaa} (h:H a=some (.tup xs)):b8 K H a xs:=.inl (.inl h)
theorem Inv.list (I:Inv X pins σ H s) (h:aB X.K H a xs):∃its:List aae,Vals xs its∧PlainL s.heap a its.toArray∧xs.length≤aao:=by
 rcases h with h|⟨o,its,n,hk,hc,hd,hs,hz,_,r⟩
 ·obtain⟨z,its,n,r,e⟩:=h.ok I.hok
  exact⟨its,r,⟨_,n,e,rfl,rfl,rfl⟩,z⟩
 ·refine⟨its.toList,r,⟨o,n,I.qE a o hk,hc,hd,by simpa using hs⟩,?_⟩
  have e:=r.length
  simp only [acy] at e
  omega
theorem Inv.tuple (I:Inv X pins σ H s) (h:b8 X.K H a xs):∃its:List aae,Vals xs its∧IsTup s.heap a its.toArray∧xs.length≤aao:=by
 rcases h with h|⟨o,its,n,hk,hc,hs,hz,_,r⟩
 ·obtain⟨z,its,r,p⟩:=h.ok I.hok
  exact⟨its,r,p,z⟩
 ·refine⟨its.toList,r,⟨o,I.qE a o hk,hc,n,by simpa using hs⟩,?_⟩
  have e:=r.length
  simp only [acy] at e
  omega
theorem Rd.none {u:HO} (h:Rd H a u) (z:H a=ae2):False:=by
 rcases h with h|⟨o,h⟩
 ·rw [z] at h;cases h
 ·rw [z] at h;cases h
theorem Inv.kH (I:Inv X pins σ H s) {o:Obj} (h:X.K.lookup a=some o):H a=ae2:=(I.bs a o (I.ok.mod.OM a o h)).2
theorem Inv.nQ (I:Inv X pins σ H s) (h:aB X.K H a xs) (h':aB X.K H a ys):xs=ys:=by
 rcases h with h|⟨o,its,n,hk,hc,hd,hs,hz,hp,r⟩ <;> rcases h' with h'|⟨o',its',n',hk',hc',hd',hs',hz',hp',r'⟩
 ·rcases h with h|⟨o,h⟩ <;> rcases h' with h'|⟨o',h'⟩ <;> rw [h] at h' <;> cases h' <;> rfl
 ·exact(h.none (I.kH hk')).elim
 ·exact(h'.none (I.kH hk)).elim
 ·rw [hk] at hk';cases hk'
  rw [hs] at hs'
  injection hs' with d1 _
  subst d1
  exact r.inj r' hp hp'
theorem Inv.EN (I:Inv X pins σ H s) (h:b8 X.K H a xs) (h':b8 X.K H a ys):xs=ys:=by
 rcases h with h|⟨o,its,n,hk,hc,hs,hz,hp,r⟩ <;> rcases h' with h'|⟨o',its',n',hk',hc',hs',hz',hp',r'⟩
 ·rcases h with h|⟨o,h⟩ <;> rcases h' with h'|⟨o',h'⟩ <;> rw [h] at h' <;> cases h' <;> rfl
 ·exact(h.none (I.kH hk')).elim
 ·exact(h'.none (I.kH hk)).elim
 ·rw [hk] at hk';cases hk'
  rw [hs] at hs'
  injection hs' with d1 _
  subst d1
  exact r.inj r' hp hp'
end
abbrev Cx.u6 (X:Cx) (E:aae→aak→Prop):Cx:={ X with xe:=E }
abbrev Cx.Sm (X:Cx):Cx:=X.u6 fun _ _=>False
theorem Cx.Ok.u6 {X:Cx} (ok:X.Ok) (E:aae→aak→Prop):(X.u6 E).Ok :=
 ⟨ok.mod,ok.kind,ok.glob,ok.blt,ok.above,ok.inj,ok.has,ok.Pb,ok.hd,ok.frames,ok.Sj,ok.WX,ok.bs,ok.EM,ok.B3,ok.JP,ok.rm,ok.MR⟩
theorem Cx.Ok.jT {X:Cx} {E:aae→aak→Prop} (ok:(X.u6 E).Ok):X.Ok :=
 ⟨ok.mod,ok.kind,ok.glob,ok.blt,ok.above,ok.inj,ok.has,ok.Pb,ok.hd,ok.frames,ok.Sj,ok.WX,ok.bs,ok.EM,ok.B3,ok.JP,ok.rm,ok.MR⟩
section
variable {X:Cx} {pins:List (aaD × Obj)} {σ:St} {H:Hp} {s:aak} {E:aae→aak→Prop}
theorem Inv.u6 (I:Inv X pins σ H s) (E:aae→aak→Prop):Inv (X.u6 E) pins σ H s:=⟨I.ok.u6 E,I.os,I.bare,I.base,I.loc,I.cell,I.free,I.jC,I.pin,I.hok,I.len⟩
theorem Inv.jT (I:Inv (X.u6 E) pins σ H s):Inv X pins σ H s:=⟨I.ok.jT,I.os,I.bare,I.base,I.loc,I.cell,I.free,I.jC,I.pin,I.hok,I.len⟩
theorem SP.jT {D:Ends} {f:Flow} {s':aak} (h:SP (X.u6 E) pins D f s'):SP X pins D f s':=by
 cases f with
 | next=>obtain⟨σ',H',I,q⟩:=h;exact⟨σ',H',I.jT,q⟩
 | brk=>obtain⟨σ',H',I,q⟩:=h;exact⟨σ',H',I.jT,q⟩
 | cont=>obtain⟨σ',H',I,q⟩:=h;exact⟨σ',H',I.jT,q⟩
 | ret u=>obtain⟨v,σ',H',I,r,q⟩:=h;exact⟨v,σ',H',I.jT,r,q⟩
theorem DI.Sm {st:List Stmt} {t:TS} (h:DI X.Sm st t):DI X st t:=fun pins s σ H D I hw =>
 wpAny_mono (h pins s σ H D (I.u6 _) hw) (fun _ _ q=>q.jT) fun _ _ z=>ab8 z
end
section
variable {X:Cx} {st:Stmt} {rest:List Stmt} {t u:TS} {e:Expr} {te:TE} {pos:Pos}
def Pg:TS:=fun D σ H=>D.nx σ H
def Tr (t u:TS):TS:=fun D σ H=>t { D with nx:=u D } σ H
theorem aC:DI X [] Pg:=fun _ _ σ H _ I h=>wpAny_execs_nil ⟨σ,H,I,h⟩
theorem ae (h1:PS X st t) (h2:DI X rest u):DI X (st::rest) (Tr t u):=by
 intro pins s σ H D I h
 refine wpAny_execs_cons (thn (h1 pins s σ H { D with nx:=u D } I h) fun f s1 q=>?_)
 cases f with
 | next =>
  obtain⟨σ',H',I',q⟩:=q
  exact h2 pins s1 σ' H' D I' q
 | ret v=>exact q
 | brk=>exact q
 | cont=>exact q
theorem ah (h1:PS X st t):DI X [st] t:=by
 intro pins s σ H D I h
 refine wpAny_execs_cons (thn (h1 pins s σ H D I h) fun f s1 q=>?_)
 cases f with
 | next=>exact wpAny_execs_nil q
 | ret v=>exact q
 | brk=>exact q
 | cont=>exact q
def Ph:TS:=fun D σ H=>D.ct σ H
theorem Ag:PS X (.Continue pos) Ph:=fun _ _ σ H _ I h=>wpAny_Continue ⟨σ,H,I,h⟩
theorem Inv.quiet {pins:List (aaD × Obj)} {σ:St} {H:Hp} {s:aak} (I:Inv X pins σ H s):interactive X.env=false:=by simp [interactive,I.ok.kind]
def Pj (te:TE):TS:=fun D σ H=>te σ H fun _ H1=>D.nx σ H1
theorem a7 (he:PE X e te) (hs:swapsWith e none pos.line X.env=pure false:=by rfl):PS X (.Expr e pos) (Pj te):=by
 intro pins s σ H D I h
 exact wpAny_Expr_any (thn (he pins s σ H _ I h) fun v s1 ⟨x,H1,I1,r1,q1⟩=>⟨σ,H1,I1,q1⟩) I.quiet hs
def Tt (te:TE):TS:=fun D σ H=>te σ H D.rt
theorem ay (he:PE X e te):PS X (.Return (some e) pos) (Tt te):=by
 intro pins s σ H D I h
 exact wpAny_Return_some (thn (he pins s σ H _ I h) fun v s1 ⟨x,H1,I1,r1,q1⟩=>⟨x,σ,H1,I1,r1,q1⟩)
def Pk:TS:=fun D _ H=>D.rt .cU H
theorem JR:PS X (.Return none pos) Pk:=fun _ _ σ H _ I h=>wpAny_Return_none ⟨.cU,σ,H,I,rfl,h⟩
def Tv (c:TT) (t u:TS):TS:=fun D σ H=>c σ H fun b H1=>if b=true then t D σ H1 else u D σ H1
theorem aV {c:Expr} {a b:List Stmt} {tc:TT} (hc:PT X c tc) (ha:DI X a t) (hb:DI X b u):PS X (.If c a b pos) (Tv tc t u):=by
 intro pins s σ H D I h
 refine wpAny_If (thn (hc pins s σ H _ I h) fun d s1 ⟨H1,I1,q1⟩=>?_)
 cases d with
 | true=>exact ha pins s1 σ H1 D I1 q1
 | false=>exact hb pins s1 σ H1 D I1 q1
def Gy:TS:=fun _ _ _=>False
theorem Gz:PS X st Gy:=fun _ _ _ _ _ _ h=>h.elim
theorem aZ {YH:List Stmt}:DI X YH Gy:=fun _ _ _ _ _ _ h=>h.elim
end
abbrev TG:=V→St→Hp→(St→Hp→Prop)→Prop
abbrev MT:=List V→St→Hp→(St→Hp→Prop)→Prop
def PG (X:Cx) (target:Expr) (t:TG):Prop :=
 ∀(pins:List (aaD × Obj)) (s:aak) (σ:St) (H:Hp) (v:V) (u:aae) (Q:St→Hp→Prop),Inv X pins σ H s→RelV v u→t v σ H Q →
  abb (model X.prog X.w) X.A (assign target X.env u) (fun _ s'=>∃σ' H',Inv X pins σ' H' s'∧Q σ' H') X.xe s
def Sn (X:Cx) (ts:List Expr) (t:MT):Prop :=
 ∀(pins:List (aaD × Obj)) (s:aak) (σ:St) (H:Hp) (vs:List V) (us:List aae) (Q:St→Hp→Prop),Inv X pins σ H s→Vals vs us→t vs σ H Q →
  abb (model X.prog X.w) X.A (assignInOrder ((assignEach ts X.env).map (·.2)) us) (fun _ s'=>∃σ' H',Inv X pins σ' H' s'∧Q σ' H') X.xe s
abbrev MU:=V→V→V→Hp→(Hp→Prop)→Prop
def Pl (X:Cx) (t:MU):Prop :=
 ∀(pins:List (aaD × Obj)) (s:aak) (σ:St) (H:Hp) (o i v:V) (ov iv u:aae) (Q:Hp→Prop),Inv X pins σ H s→RelV o ov→RelV i iv→RelV v u→t o i v H Q →
  abb (model X.prog X.w) X.A (setItem ov iv u) (fun _ s'=>∃H',Inv X pins σ H' s'∧Q H') X.xe s
abbrev So:=V→V→Hp→VK→Prop
def W3 (X:Cx) (op:Operator) (t:So):Prop :=
 ∀(pins:List (aaD × Obj)) (s:aak) (σ:St) (H:Hp) (x y:V) (v u:aae) (Q:VK),Inv X pins σ H s→RelV x v→RelV y u→t x y H Q →
  abb (model X.prog X.w) X.A (inplaceOp op v u) (EP X pins σ Q) X.xe s
section
variable {X:Cx} {pos:Pos}
def jD (i:Nat):TG:=fun v σ H Q=>Q (σ.set i (some v)) H
theorem aH {i:Nat} {x:Str} (hN:X.N.Nodup) (hi:X.N[i]?=some x) (hx:Loc X.env.scope x) (hf:X.fn x=true∨X.env.scope.names.lookup x=some .local:=by first|exact .inl rfl|exact .inr rfl|assumption):PG X (.Name x pos) (jD i):=by
 intro pins s σ H v u Q I r h
 exact wpAny_assign_Name (sE I hN hi hx r (fun s' I'=>⟨_,H,I',h⟩) hf)
def JS:MT:=fun vs σ H Q=>vs=[]∧Q σ H
def sG (t:TG) (u:MT):MT:=fun vs σ H Q=>∃v r,vs=v::r∧t v σ H fun σ' H'=>u r σ' H' Q
theorem dI:Sn X [] JS:=by
 intro pins s σ H vs us Q I r h
 obtain⟨e,h⟩:=h
 subst e
 cases r
 exact assignInOrder_nil ⟨σ,H,I,h⟩
theorem a8 {e:Expr} {es:List Expr} {t:TG} {u:MT} (h1:PG X e t) (h2:Sn X es u)
  (hs:(assignEach (e::es) X.env).map (·.2)=assign e X.env::(assignEach es X.env).map (·.2):=by rfl):Sn X (e::es) (sG t u):=by
 intro pins s σ H vs us Q I r h
 obtain⟨v,vr,e1,h⟩:=h
 subst e1
 cases r with
 | cons r rr =>
  rw [hs]
  refine assignInOrder_cons (thn (h1 pins s σ H _ _ _ I r h) fun _ s1 ⟨σ1,H1,I1,q1⟩=>?_)
  exact h2 pins s1 σ1 H1 _ _ Q I1 rr q1
def JT (K:aaa) (n:Nat) (t:MT):TG:=fun v σ H Q=>∃a xs,v=.ref a∧b8 K H a xs∧xs.length=n∧t xs σ H Q
theorem fS {es:List Expr} {k:Nat} {t:MT} {n:Nat} (hc:X.calm=true) (h:Sn X es t)
  (hn:(assignEach es X.env).length=n:=by rfl) (MV:(assignEach es X.env).findIdx? (·.1)=none:=by rfl):PG X (.Tuple es k pos) (JT X.K n t):=by
 intro pins s σ H v u Q I r hw
 obtain⟨a,xs,e1,hq,hl,hw⟩:=hw
 subst e1
 cases r
 obtain⟨its,rv,ht,hz⟩:=I.tuple hq
 refine assign_Tuple_tuple (I.ok.hd hc) ht (by simp [hn,← hl,rv.length]) MV fun h' hx=>?_
 have I1:Inv X pins σ H { s with heap:=h' }:=I.kept (t':=s.toks) fun b o e=>hx b o (aaW (aay e)) e
 exact h pins _ σ H xs _ Q I1 (by simpa using rv) hw
def Tw (to ti:TE) (t:MU):TG:=fun v σ H Q=>to σ H fun o H1=>ti σ H1 fun i H2=>t o i v H2 fun H3=>Q σ H3
theorem GA {o i:Expr} {to ti:TE} {t:MU} (ho:PE X o to) (hi:PE X i ti) (hs:Pl X t)
  (ha:∀v,assign (.Subscript o i pos) X.env v=(do
   let ov ← holding [v] (eval o X.env)
   let iv ← holding [v,ov] (eval i X.env)
   standAt pos
   holding [v,ov,iv] (setItem ov iv v)
   release [v,ov,iv] []):=by intro _;rfl):PG X (.Subscript o i pos) (Tw to ti t):=by
 intro pins s σ H v u Q I r h
 rw [ha]
 refine aap (wpAny_holding (thn (ho pins s σ H _ I h) fun ov s1 ⟨x,H1,I1,r1,q1⟩=>?_))
 refine aap (wpAny_holding (thn (hi pins s1 σ H1 _ I1 q1) fun iv s2 ⟨y,H2,I2,r2,q2⟩=>?_))
 refine aap (wpAny_standAt (aap (wpAny_holding (thn (hs pins s2 σ H2 x y v ov iv u _ I2 r1 r2 r q2) fun _ s3 ⟨H3,I3,q3⟩=>?_))))
 exact wpAny_release ⟨σ,H3,I3,q3⟩
def JU (te:TE) (g:TG):TS:=fun D σ H=>te σ H fun x H1=>g x σ H1 D.nx
theorem B6 {tg e:Expr} {te:TE} {g:TG} (he:PE X e te) (hg:PG X tg g) (hs:swapsWithSole [tg] e pos.line X.env=pure false:=by rfl) (hw:swappedStores [tg] e X.env=pure none:=by rfl)
  (h1:(assignEach [tg] X.env).map (·.2)=[assign tg X.env]:=by rfl):PS X (.Assign [tg] e pos) (JU te g):=by
 intro pins s σ H D I h
 refine wpAny_Assign_stores (thn (he pins s σ H _ I h) fun v s1 ⟨x,H1,I1,r1,q1⟩=>?_) hs hw
 rw [h1]
 exact thn (hg pins s1 σ H1 x v _ I1 r1 q1) fun _ s2 q=>q
theorem aA {i:Nat} {x:Str} {e:Expr} {te:TE} {pos':Pos} (hN:X.N.Nodup) (hi:X.N[i]?=some x) (hx:Loc X.env.scope x) (he:PE X e te) (hs:swapsWith e (some (.Name x pos')) pos.line X.env=pure false:=by rfl) (hf:X.fn x=true∨X.env.scope.names.lookup x=some .local:=by first|exact .inl rfl|exact .inr rfl|assumption) :
  PS X (.Assign [.Name x pos'] e pos) (JU te (jD i)):=by
 intro pins s σ H D I h
 refine wpAny_Assign_Name (thn (he pins s σ H _ I h) fun v s1 ⟨y,H1,I1,r1,q1⟩=>?_) hs
 exact sE I1 hN hi hx r1 (fun s2 I2=>⟨_,H1,I2,q1⟩) hf
def Tx (i:Nat) (te:TE) (ti:So):TS:=fun D σ H=>∃x,σ[i]?=some (some x)∧te σ H fun y H1=>ti x y H1 fun z H2=>D.nx (σ.set i (some z)) H2
theorem xB {i:Nat} {x:Str} {e:Expr} {te:TE} {op:Operator} {ti:So} {pos':Pos} (hN:X.N.Nodup) (hi:X.N[i]?=some x) (hx:Loc X.env.scope x) (he:PE X e te) (ho:W3 X op ti) (hf:X.fn x=true∨X.env.scope.names.lookup x=some .local:=by first|exact .inl rfl|exact .inr rfl|assumption) :
  PS X (.AugAssign (.Name x pos') op e pos) (Tx i te ti):=by
 intro pins s σ H D I h
 obtain⟨v,e1,h⟩:=h
 obtain⟨m,hn,hl⟩:=I.loc
 have YI:Si X.env.scope x:=by rcases hx with k|k;exact .inl k;exact .inr (.inl k)
 obtain⟨u,r,l⟩:=hl i x v hi e1 YI
 refine wpAny_AugAssign_Name ?_
 have go:abb (model X.prog X.w) X.A (eval e X.env) (fun w s₂=>abb (model X.prog X.w) X.A (inplaceOp op u w) (fun r s₃=>abb (model X.prog X.w) X.A (storeName X.env x r) (fun _=>SP X pins D .next) X.xe s₃) X.xe s₂) X.xe s:=by
  refine thn (he pins s σ H _ I h) fun w s1 ⟨y,H1,I1,r1,q1⟩=>?_
  refine thn (ho pins s1 σ H1 v y u w _ I1 r r1 q1) fun z s2 ⟨zv,H2,I2,r2,q2⟩=>?_
  exact sE I2 hN hi hx r2 (fun s3 I3=>⟨_,H2,I3,q2⟩) hf
 rcases l with⟨hk,hm⟩|⟨hk,c,hc,hcell⟩
 ·exact wpAny_loadName_local I.ok.kind hk hn hm go
 ·rcases hk with hk|hk
  ·exact wpAny_loadName_cell I.ok.kind hk hc hcell go
  ·rcases hx with k|k
   ·have:X.env.scope.names.lookup x=some .free:=hk
    rw [k] at this;cases this
   ·have:X.env.scope.names.lookup x=some .free:=hk
    rw [k] at this;cases this
def YJ (f:Int→Int→Int):So:=fun x y H Q=>∃i j,x=.int i∧y=.int j∧Q (.int (f i j)) H
theorem xC:W3 X .Add (YJ fun i j=>i+j):=by
 intro pins s σ H x y v u Q I r1 r2 h
 obtain⟨i,j,e1,e2,q⟩:=h
 subst e1;subst e2
 obtain⟨t,rfl⟩:=r1
 obtain⟨t',rfl⟩:=r2
 exact iadd_int ⟨.int _,H,I.tok _,⟨_,rfl⟩,q⟩
end
section
variable {X:Cx} {pos:Pos}
def GB (c:TT) (tb:TS):TS:=fun D σ H=>∃W:Nat→St→Hp→Prop,(∃m,W m σ H)∧∀m σ H,W m σ H →
 c σ H fun b H1=>if b=true then ∃N:St→Hp→Prop,(∀σ' H',N σ' H'→∃m',m'<m∧W m' σ' H')∧tb { D with nx:=N,ct:=N,bk:=D.nx } σ H1 else D.nx σ H1
theorem iu {c:Expr} {body:List Stmt} {tc:TT} {tb:TS} (hp:PassesOwn (model X.prog X.w) X.A X.env X.xe) (hc:PT X c tc) (hb:DI X body tb):PS X (.While c body [] pos) (GB tc tb):=by
 intro pins s σ H D I h
 obtain⟨W,⟨m0,w0⟩,turn⟩:=h
 refine wpAny_While (codeAny_whileLoop (fun n s'=>∃σ' H',Inv X pins σ' H' s'∧W n σ' H') ?_ m0 ⟨σ,H,I,w0⟩)
 rintro n s1 ⟨σ1,H1,I1,w1⟩
 refine wpAny_passesOwn hp (thn (hc pins s1 σ1 H1 _ I1 (turn n σ1 H1 w1)) fun b s2 ⟨H2,I2,q2⟩=>?_)
 cases b with
 | true =>
  obtain⟨N,hN,q2⟩:=q2
  rw [if_pos rfl]
  refine wpAny_passesOwn hp (thn (hb pins s2 σ1 H2 _ I2 q2) fun f s3 q3=>?_)
  cases f with
  | next =>
   obtain⟨σ3,H3,I3,n3⟩:=q3
   obtain⟨m',hm,w3⟩:=hN σ3 H3 n3
   exact⟨m',hm,σ3,H3,I3,w3⟩
  | cont =>
   obtain⟨σ3,H3,I3,n3⟩:=q3
   obtain⟨m',hm,w3⟩:=hN σ3 H3 n3
   exact⟨m',hm,σ3,H3,I3,w3⟩
  | brk=>exact q3
  | ret v=>exact q3
 | false =>
  rw [if_neg aaE]
  exact wpAny_execs_nil ⟨σ1,H2,I2,q2⟩
end
structure It where
 go:Nat→Hp→Prop
 JV:Nat→Hp→V→Hp→Prop
 stop:Nat→Hp→Prop
def jK (X:Cx) (pins:List (aaD × Obj)) (H:Hp) (b:aaD):Prop :=
 H b=none∧b≠X.env.locals∧b∉X.fs∧(b∈X.ex∨X.s₀.heap.objs.size≤b)∧(∀x c,X.env.cells.lookup x=some c→c≠b)∧∀p∈X.pn++pins,p.1≠b
theorem Inv.xD {X:Cx} {pins:List (aaD × Obj)} {σ:St} {H H':Hp} {s:aak} {b:aaD} (I:Inv X pins σ H s) (hb:s.heap.objs.size≤b) (hn:H' b=none):jK X pins H' b:=by
 refine⟨hn,acH (aa0 I.lt hb),I.Tf hb,.inr (aa5 I.sz hb),fun x c e z=>?_,fun p hp z=>?_⟩
 ·obtain⟨v,q⟩:=I.cell x c e
  exact absurd (aa0 q.lt (by rw [z];exact hb)) (abM _)
 ·exact absurd (aa0 (aay (I.pin p hp).1) (by rw [z];exact hb)) (abM _)
structure Turn (P:aa4) (w:abu) (K:aaa) (tg:Expr) (J:It) (fp:List aaD) (it:aaD) (tn:Nat→Heap→Prop):Prop where
 mem:it∈fp
 obj:∀i h,tn i h→∀b∈fp,∃o,h.get? b=some o∧∀v,o.data≠.cell v
 keep:∀i h h',tn i h→(∀b∈fp,∀o,h.get? b=some o→h'.get? b=some o)→tn i h'
 item:∀(X:Cx),X.prog=P→X.w=w→X.K=K→X.calm=true→∀(i:Nat) (pins:List (aaD × Obj)) (s:aak) (σ:St) (H:Hp) (E:aae→aak→Prop),Inv X pins σ H s→(∀b∈fp,jK X pins H b)→tn i s.heap→J.go i H →
  abb (model P w) X.A (pyNext (.ref it)) (fun r s1=>∃u,r=some u ∧
   abb (model P w) X.A (letOwnedTupleGo tg (.ref it) u) (fun _ s2=>∃x H',Inv X pins σ H' s2∧RelV x u∧J.JV i H x H'∧tn (i+1) s2.heap∧∀b∈fp,H' b=none) E s1) E s
 done:∀(X:Cx),X.prog=P→X.w=w→X.K=K→X.calm=true→∀(i:Nat) (pins:List (aaD × Obj)) (s:aak) (σ:St) (H:Hp) (E:aae→aak→Prop),Inv X pins σ H s→(∀b∈fp,jK X pins H b)→tn i s.heap→J.stop i H →
  abb (model P w) X.A (pyNext (.ref it)) (fun r s1=>r=none∧Inv X pins σ H s1) E s
 self:∀(A:abC) (i:Nat) (s:aak) (Q:aae→aak→Prop) (E:aae→aak→Prop),tn i s.heap→Q (.ref it) s→abb (model P w) A (pyIter (.ref it)) Q E s
abbrev TI:=St→Hp→(It→Hp→Prop)→Prop
def Tz (X:Cx) (pins:List (aaD × Obj)) (σ:St) (tg:Expr) (R:It→Hp→Prop) (Pm:aae) (s2:aak):Prop :=
 ∃(it:aaD) (fp:List aaD) (tn:Nat→Heap→Prop) (J:It) (H':Hp),Pm=.ref it∧Inv X pins σ H' s2∧Turn X.prog X.w X.K tg J fp it tn∧tn 0 s2.heap∧(∀b∈fp,jK X pins H' b)∧R J H'
def PI (X:Cx) (tg iter:Expr) (wi:TI):Prop :=
 ∀(pins:List (aaD × Obj)) (s:aak) (σ:St) (H:Hp) (R:It→Hp→Prop),Inv X pins σ H s→wi σ H R →
  abb (model X.prog X.w) X.A (eval iter X.env) (fun v s1=>abb (model X.prog X.w) X.A (pyIter v) (Tz X pins σ tg R) X.xe s1) X.xe s
theorem DJ {M:Model} {A:abC} {E:aae→aak→Prop} {s:aak} {tg:Expr} {it:aaD} {u:aae} {o:Obj} {n:String} {vs:Array aae} {Q:Unit→aak→Prop} (ho:s.heap.get? it=some o) (hc:o.cls=.type n) (hd:o.data=.fields vs)
    (hn:["enumerate","zip","dict_itemiterator","dict_reverseitemiterator","odict_iterator","itertools.zip_longest","itertools.pairwise"].contains n=false) (hQ:Q () s):abb M A (letOwnedTupleGo tg (.ref it) u) Q E s:=by
  unfold letOwnedTupleGo
  cases tg <;> first
    | exact aaP hQ
    | (cases u <;> first
        | exact aaP hQ
        | (refine aap (wpAny_load ho ?_)
           rw [hc,hd]
           show abb M A (if (["enumerate","zip","dict_itemiterator","dict_reverseitemiterator","odict_iterator","itertools.zip_longest","itertools.pairwise"].contains n && vs[0]? == some (rawInt _))=true then _ else _) Q E s
           rw [if_neg (by intro h;rw [hn,Bool.false_and] at h;cases h)]
           exact aaP hQ))
def JH (K:aaa) (a:aaD):It :=
 ⟨fun i H=>∃xs x,aB K H a xs∧xs[i]?=some x,fun i H x H'=>H'=H∧∀xs,aB K H a xs→xs[i]?=some x,fun i H=>∃xs,aB K H a xs∧xs.length≤i⟩
def Pn (K:aaa) (a:aaD):It :=
 ⟨fun i H=>∃xs x,b8 K H a xs∧xs[i]?=some x,fun i H x H'=>H'=H∧∀xs,b8 K H a xs→xs[i]?=some x,fun i H=>∃xs,b8 K H a xs∧xs.length≤i⟩
def LS (lo:Int) (n:Nat):It:=⟨fun i _=>i<n,fun i H x H'=>H'=H∧x=.int (lo+i),fun i _=>n≤i⟩
theorem EO {P:aa4} {w:abu} {K:aaa} {tg:Expr} (a it:aaD):Turn P w K tg (JH K a) [it] it (fun i h=>h.IsListIter it a i) where
 mem:=by simp
 obj:=fun i h st b hb=>by
  have e:b=it:=by simpa using hb
  subst e
  obtain⟨o,e,c,d⟩:=st
  exact⟨o,e,fun v z=>by rw [d] at z;cases z⟩
 keep:=fun i h h' st k=>st.at fun o e=>k it (by simp) o e
 item:=by
  intro X hP hw hK hc i pins s σ H E I hf st hg
  subst hP hw hK
  obtain⟨xs,x,hq,hx⟩:=hg
  obtain⟨its,rv,p,hz⟩:=I.list hq
  obtain⟨u,hu,ru⟩:=rv.get hx
  obtain⟨f0,f1,f2,f3,f4,f5⟩:=hf it (by simp)
  refine wpAny_pyNext_list_item st p.isList (x:=u) (by simpa using hu) fun h' wd sb=>?_
  have I1:Inv X pins σ H { s with heap:=h' }:=I.turned (t':=s.toks) (fun b o hb e=>(sb.2 b hb).trans e) f0 f1 f3 f4 f5
  obtain⟨o,e,c,d⟩:=id wd
  exact⟨u,rfl,DJ (s:={ s with heap:=h' }) e c d (by decide) ⟨x,H,I1,ru,⟨rfl,fun ys hy=>by rw [I.nQ hy hq];exact hx⟩,wd,fun b hb=>(hf b hb).1⟩⟩
 done:=by
  intro X hP hw hK hc i pins s σ H E I hf st hg
  subst hP hw hK
  obtain⟨xs,hq,hx⟩:=hg
  obtain⟨its,rv,p,hz⟩:=I.list hq
  obtain⟨f0,f1,f2,f3,f4,f5⟩:=hf it (by simp)
  have hl:=rv.length
  exact wpAny_pyNext_list_end (I.ok.hd hc) st p.isList (by simp;omega) fun h' eb=>⟨rfl,I.turned (t':=s.toks) (fun b o hb e=>eb b o hb e) f0 f1 f3 f4 f5⟩
 self:=fun _ _ _ _ _ st h=>wpAny_pyIter_listiter st h
theorem B7 {P:aa4} {w:abu} {K:aaa} {tg:Expr} (a it:aaD):Turn P w K tg (Pn K a) [it] it (fun i h=>h.IsTupleIter it a i) where
 mem:=by simp
 obj:=fun i h st b hb=>by
  have e:b=it:=by simpa using hb
  subst e
  obtain⟨o,e,c,d⟩:=st
  exact⟨o,e,fun v z=>by rw [d] at z;cases z⟩
 keep:=fun i h h' st k=>st.at fun o e=>k it (by simp) o e
 item:=by
  intro X hP hw hK hc i pins s σ H E I hf st hg
  subst hP hw hK
  obtain⟨xs,x,hq,hx⟩:=hg
  obtain⟨its,rv,p,hz⟩:=I.tuple hq
  obtain⟨u,hu,ru⟩:=rv.get hx
  obtain⟨f0,f1,f2,f3,f4,f5⟩:=hf it (by simp)
  refine wpAny_pyNext_tuple_item st (show s.heap.IsTuple a its.toArray from p) (x:=u) (by simpa using hu) fun h' wd sb=>?_
  have I1:Inv X pins σ H { s with heap:=h' }:=I.turned (t':=s.toks) (fun b o hb e=>(sb.2 b hb).trans e) f0 f1 f3 f4 f5
  obtain⟨o,e,c,d⟩:=id wd
  exact⟨u,rfl,DJ (s:={ s with heap:=h' }) e c d (by decide) ⟨x,H,I1,ru,⟨rfl,fun ys hy=>by rw [I.EN hy hq];exact hx⟩,wd,fun b hb=>(hf b hb).1⟩⟩
 done:=by
  intro X hP hw hK hc i pins s σ H E I hf st hg
  subst hP hw hK
  obtain⟨xs,hq,hx⟩:=hg
  obtain⟨its,rv,p,hz⟩:=I.tuple hq
  obtain⟨f0,f1,f2,f3,f4,f5⟩:=hf it (by simp)
  have hl:=rv.length
  exact wpAny_pyNext_tuple_end (I.ok.hd hc) st (show s.heap.IsTuple a its.toArray from p) (by simp;omega) fun h' eb=>⟨rfl,I.turned (t':=s.toks) (fun b o hb e=>eb b o hb e) f0 f1 f3 f4 f5⟩
 self:=fun _ _ _ _ _ st h=>wpAny_pyIter_tupleiter st h
theorem B8 {P:aa4} {w:abu} {K:aaa} {tg:Expr} (it:aaD) (lo:Int) (n:Nat):Turn P w K tg (LS lo n) [it] it (fun i h=>IsRangeIter h it (lo+(i:Nat) * 1) ((n:Int) - (i:Nat)) 1) where
 mem:=by simp
 obj:=fun i h st b hb=>by
  have e:b=it:=by simpa using hb
  subst e
  exact⟨_,st,fun v z=>by
   have z':Data.fields _=Data.cell v:=z
   cases z'⟩
 keep:=fun i h h' st k=>k it (by simp) _ st
 item:=by
  intro X hP hw hK hc i pins s σ H E I hf st hg
  subst hP hw hK
  obtain⟨f0,f1,f2,f3,f4,f5⟩:=hf it (by simp)
  have W:=Walks.range (prog:=X.prog) (w:=X.w) (I.ok.hd hc) it lo 1 n
  refine W.item i s _ _ hg st fun v h' tk hv wd kk=>?_
  obtain⟨t,rfl⟩:=hv
  have I1:Inv X pins σ H { s with heap:=h',toks:=tk }:=I.turned (fun b o hb e=>kk b o (by simpa using hb) e) f0 f1 f3 f4 f5
  refine⟨_,rfl,DJ (s:={ s with heap:=h',toks:=tk }) (n:="range_iterator") wd rfl rfl (by decide) ⟨.int (lo+i),H,I1,⟨t,?_⟩,⟨rfl,rfl⟩,wd,fun b hb=>(hf b hb).1⟩⟩
  rw [Int.mul_one]
 done:=by
  intro X hP hw hK hc i pins s σ H E I hf st hg
  subst hP hw hK
  obtain⟨f0,f1,f2,f3,f4,f5⟩:=hf it (by simp)
  exact wpAny_pyNext_range_end (I.ok.hd hc) st (by have:n≤i:=hg;omega) fun h' eb=>⟨rfl,I.turned (t':=s.toks) (fun b o hb e=>eb b o hb e) f0 f1 f3 f4 f5⟩
 self:=fun _ _ _ _ _ st h=>wpAny_pyIter_rangeiter st h
section
variable {X:Cx} {tg:Expr}
def LU (K:aaa) (tl:TE):TI:=fun σ H R=>tl σ H fun x H1=>∃a,x=.ref a∧(∃xs,aB K H1 a xs)∧R (JH K a) H1
def TC (K:aaa) (tl:TE):TI:=fun σ H R=>tl σ H fun x H1=>∃a,x=.ref a∧(∃xs,b8 K H1 a xs)∧R (Pn K a) H1
theorem aS {l:Expr} {tl:TE} (hl:PE X l tl):PI X tg l (LU X.K tl):=by
 intro pins s σ H R I h
 refine thn (hl pins s σ H _ I h) fun v s1 ⟨x,H1,I1,r1,q1⟩=>?_
 obtain⟨a,e,⟨xs,hq⟩,q⟩:=q1
 subst e
 cases r1
 obtain⟨its,rv,p,hz⟩:=I1.list hq
 refine wpAny_pyIter_list p.isList ?_
 refine⟨s1.heap.objs.size,[s1.heap.objs.size],_,_,H1,rfl,I1.kept (t':=s1.toks) fun b o e=>aag _ e,EO a _,⟨_,aaM _ rfl,rfl,rfl⟩,fun b hb=>?_,q⟩
 have e:b=s1.heap.objs.size:=by simpa using hb
 subst e
 exact I1.xD (aaf _) (I1.hok.fresh (aaf _))
theorem MW {l:Expr} {tl:TE} (hl:PE X l tl):PI X tg l (TC X.K tl):=by
 intro pins s σ H R I h
 refine thn (hl pins s σ H _ I h) fun v s1 ⟨x,H1,I1,r1,q1⟩=>?_
 obtain⟨a,e,⟨xs,hq⟩,q⟩:=q1
 subst e
 cases r1
 obtain⟨its,rv,p,hz⟩:=I1.tuple hq
 refine wpAny_pyIter_tuple (show s1.heap.IsTuple a its.toArray from p) ?_
 refine⟨s1.heap.objs.size,[s1.heap.objs.size],_,_,H1,rfl,I1.kept (t':=s1.toks) fun b o e=>aag _ e,B7 a _,⟨_,aaM _ rfl,rfl,rfl⟩,fun b hb=>?_,q⟩
 have e:b=s1.heap.objs.size:=by simpa using hb
 subst e
 exact I1.xD (aaf _) (I1.hok.fresh (aaf _))
theorem GC {pins:List (aaD × Obj)} {σ:St} {H:Hp} {s:aak} {R:It→Hp→Prop} {E:aae→aak→Prop} {lo hi:Int} {t u v:Tok} {tk:Nat} (I:Inv X pins σ H s) (h1:-(2 ^ 62)≤lo) (h2:lo<2 ^ 62) (h3:-(2 ^ 62)≤hi) (h4:hi<2 ^ 62)
  (q:R (LS lo (hi - lo).toNat) H):abb (model X.prog X.w) X.A (pyIter (.ref s.heap.objs.size)) (Tz X pins σ tg R) E { s with heap:=s.heap.push { cls:=.type "range",data:=.fields #[.int lo t,.int hi u,.int 1 v] },toks:=tk }:=by
 refine wpAny_pyIter_range (IsRange.new ..) (small_one h1 h2 h3 h4) ?_
 have I1:Inv X pins σ H { s with heap:=s.heap.push { cls:=.type "range",data:=.fields #[.int lo t,.int hi u,.int 1 v] },toks:=tk }:=I.kept fun b o e=>aag _ e
 refine⟨(s.heap.push { cls:=.type "range",data:=.fields #[.int lo t,.int hi u,.int 1 v] }).objs.size,[(s.heap.push { cls:=.type "range",data:=.fields #[.int lo t,.int hi u,.int 1 v] }).objs.size],_,_,H,rfl,
  I1.kept (t':=tk) fun b o e=>aag _ e,B8 _ lo (hi - lo).toNat,?_,fun b hb=>?_,q⟩
 ·have e1:lo+((0:Nat):Int) * 1=lo:=by simp
  have e2:(((hi - lo).toNat:Nat):Int) - ((0:Nat):Int)=Builtin.Range.rangeSize lo hi 1:=by rw [rangeSize_one];split <;> omega
  show IsRangeIter _ _ (lo+((0:Nat):Int) * 1) ((((hi - lo).toNat:Nat):Int) - ((0:Nat):Int)) 1
  rw [e1,e2]
  exact aaM _ rfl
 ·have e:b=(s.heap.push { cls:=.type "range",data:=.fields #[.int lo t,.int hi u,.int 1 v] }).objs.size:=by simpa using hb
  subst e
  exact I1.xD (aaf _) (I1.hok.fresh (aaf _))
def Po (ta:TA):TI:=fun σ H R=>ta σ H fun vs H1=>∃j:Int,vs=[.int j]∧-(2 ^ 62)≤j∧j<2 ^ 62∧R (LS 0 j.toNat) H1
theorem cH {a:Expr} {ta:TA} {p pos:Pos} (hg:Gl X "range") (hm:X.mg "range"=none) (ha:PA X [a] ta) (hs:starEach [a] X.env=[(false,eval a X.env)]:=by rfl):PI X tg (.Call (.Name "range" p) [a] [] pos) (Po ta):=by
 intro pins s σ H R I h
 refine Call_ (jR I hg hm boot_range (abx (thn (ha pos pins s σ H _ I h) fun us s1 ⟨vs,H1,I1,r1,q1⟩=>?_) hs rfl))
 obtain⟨j,e,q1,q2,q⟩:=q1
 subst e
 cases r1 with
 | cons r rr =>
  cases rr
  obtain⟨t,rfl⟩:=r
  exact call_range_1 (GC I1 (by omega) (by omega) q1 q2 (by simpa using q))
def TF (wi:TI) (g:TG) (tb:TS):TS:=fun D σ H=>wi σ H fun J H1=>∃W:Nat→Nat→St→Hp→Prop,(∃m,W 0 m σ H1)∧∀i m σ H,W i m σ H →
 (J.stop i H∧D.nx σ H)∨(J.go i H∧∃N:St→Hp→Prop,(∀σ' H',N σ' H'→∃m',m'<m∧W (i+1) m' σ' H')∧∀x H',J.JV i H x H'→g x σ H' fun σ2 H2=>tb { D with nx:=N,ct:=N,bk:=D.nx } σ2 H2)
def m3 (fp:List aaD) (h:Heap):List (aaD × Obj):=fp.filterMap fun b=>(h.get? b).map fun o=>(b,o)
theorem cW {fp:List aaD} {h:Heap} {b:aaD} {o:Obj} (hb:b∈fp) (e:h.get? b=some o):(b,o)∈m3 fp h:=List.mem_filterMap.mpr ⟨b,hb,by rw [e];rfl⟩
theorem ER {fp:List aaD} {h:Heap} {p:aaD × Obj} (hp:p∈m3 fp h):p.1∈fp∧h.get? p.1=some p.2:=by
 obtain⟨b,hb,e⟩:=List.mem_filterMap.mp hp
 cases q:h.get? b with
 | none=>rw [q] at e;cases e
 | some o =>
  rw [q] at e
  have e':(b,o)=p:=aaR e
  subst e'
  exact⟨hb,q⟩
theorem Inv.pinned {pins:List (aaD × Obj)} {σ:St} {H:Hp} {s:aak} {fp:List aaD} (I:Inv X pins σ H s) (hf:∀b∈fp,jK X pins H b) (ho:∀b∈fp,∃o,s.heap.get? b=some o∧∀v,o.data≠.cell v):Inv X (pins++m3 fp s.heap) σ H s :=
 I.DH fun p hp=>(aaS.mp hp).elim (fun z=>I.pin p (aaT _ z)) fun z=>by
  obtain⟨hb,e⟩:=ER z
  obtain⟨f0,f1,f2,_⟩:=hf p.1 hb
  obtain⟨o,e',d⟩:=ho p.1 hb
  rw [e] at e';cases e'
  exact⟨e,f0,f1,f2,d⟩
theorem Inv.iw {pins pl:List (aaD × Obj)} {σ:St} {H:Hp} {s:aak} (I:Inv X (pins++pl) σ H s):Inv X pins σ H s:=I.DH fun p hp=>I.pin p (aaT _ (abT _ hp))
theorem bI {iter:Expr} {body:List Stmt} {wi:TI} {g:TG} {tb:TS} {pos:Pos} (hp:PassesOwn (model X.prog X.w) X.A X.env X.xe) (hc:X.calm=true) (hi:PI X tg iter wi) (hg:PG X tg g) (hb:DI X body tb)
  (hs:∀x,foldedSetIterable iter X.env x=pure x:=by intro _;rfl):PS X (.For tg iter body [] pos) (TF wi g tb):=by
 intro pins s σ H D I h
 refine wpAny_For (thn (hi pins s σ H _ I h) fun v s1 h1=>thn h1 fun Pm s2 h2=>?_) hs
 obtain⟨it,fp,tn,J,H2,e,I2,T,nS,f2,W,⟨m0,w0⟩,turn⟩:=h2
 subst e
 have m4:∀{H':Hp},(∀b∈fp,H' b=none)→∀b∈fp,jK X pins H' b:=fun hn b hb=>⟨hn b hb,(f2 b hb).2⟩
 refine codeAny_forLoop_any (fun n s'=>∃i σ' H',Inv X pins σ' H' s'∧tn i s'.heap∧(∀b∈fp,H' b=none)∧W i n σ' H') ?_ m0 ⟨0,σ,H2,I2,nS,fun b hb=>(f2 b hb).1,w0⟩
 rintro n s3 ⟨i,σ3,H3,I3,we,W4,w3⟩
 rcases turn i n σ3 H3 w3 with⟨stop,qn⟩|⟨go,N,hN,step⟩
 ·refine wpAny_passesOwn hp (thn (T.done X rfl rfl rfl hc i pins s3 σ3 H3 X.xe I3 (m4 W4) we stop) fun r s4 ⟨hr,I4⟩=>?_)
  subst hr
  exact wpAny_execs_nil ⟨σ3,H3,I4,qn⟩
 ·refine wpAny_passesOwn hp (thn (T.item X rfl rfl rfl hc i pins s3 σ3 H3 X.xe I3 (m4 W4) we go) fun r s4 ⟨u,hr,h4⟩=>?_)
  subst hr
  refine wpAny_passesOwn hp (thn h4 fun _ s5 ⟨x,H5,I5,r5,y5,rQ,MX⟩=>?_)
  have YK:=I5.pinned (m4 MX) (T.obj _ _ rQ)
  refine wpAny_passesOwn hp (thn (hg _ s5 σ3 H5 x u _ YK r5 (step x H5 y5)) fun _ s6 ⟨σ6,H6,I6,q6⟩=>?_)
  refine wpAny_passesOwn hp (thn (hb _ s6 σ6 H6 _ I6 q6) fun f s7 q7=>?_)
  have again:∀{σ7:St} {H7:Hp},Inv X (pins++m3 fp s5.heap) σ7 H7 s7→N σ7 H7→∃m,m<n∧∃i σ' H',Inv X pins σ' H' s7∧tn i s7.heap∧(∀b∈fp,H' b=none)∧W i m σ' H':=fun {σ7 H7} I7 n7=>by
   obtain⟨m',hm,w7⟩:=hN σ7 H7 n7
   refine⟨m',hm,i+1,σ7,H7,I7.iw,T.keep _ _ _ rQ fun b hb o e=>(I7.pin (b,o) (aaT _ (aaT _ (cW hb e)))).1,fun b hb=>?_,w7⟩
   obtain⟨o,e,d⟩:=T.obj _ _ rQ b hb
   exact(I7.pin (b,o) (aaT _ (aaT _ (cW hb e)))).2.1
  cases f with
  | next=>obtain⟨σ7,H7,I7,n7⟩:=q7;exact again I7 n7
  | cont=>obtain⟨σ7,H7,I7,n7⟩:=q7;exact again I7 n7
  | brk=>obtain⟨σ7,H7,I7,q7⟩:=q7;exact⟨σ7,H7,I7.iw,q7⟩
  | ret v=>obtain⟨x7,σ7,H7,I7,r7,q7⟩:=q7;exact⟨x7,σ7,H7,I7.iw,r7,q7⟩
end
theorem bN {K:aaa} {a:aaD} {xs:List V} {g:TG} {tb:TS} {D:Ends} {σ:St} {H:Hp} (Pv:Nat→St→Hp→Prop) (h0:Pv 0 σ H) (hl:∀i σ H,i≤xs.length→Pv i σ H→aB K H a xs)
  (hs:∀i x σ H,xs[i]?=some x→Pv i σ H→g x σ H fun σ2 H2=>tb { D with nx:=Pv (i+1),ct:=Pv (i+1),bk:=D.nx } σ2 H2) (hd:∀σ H,Pv xs.length σ H→D.nx σ H) :
  ∃W:Nat→Nat→St→Hp→Prop,(∃m,W 0 m σ H)∧∀i m σ H,W i m σ H →
   ((JH K a).stop i H∧D.nx σ H)∨((JH K a).go i H∧∃N:St→Hp→Prop,(∀σ' H',N σ' H'→∃m',m'<m∧W (i+1) m' σ' H')∧∀x H',(JH K a).JV i H x H'→g x σ H' fun σ2 H2=>tb { D with nx:=N,ct:=N,bk:=D.nx } σ2 H2):=by
 refine⟨fun i m σ H=>m=xs.length - i∧i≤xs.length∧Pv i σ H,⟨xs.length,by simp,aa3 _,h0⟩,?_⟩
 rintro i m σ H ⟨rfl,hi,p⟩
 have q:=hl i σ H hi p
 by_cases eE:i<xs.length
 ·refine .inr ⟨⟨xs,xs[i],q,by simp [eE]⟩,Pv (i+1),fun σ' H' p'=>⟨xs.length - (i+1),by omega,rfl,eE,p'⟩,fun x H' y=>?_⟩
  obtain⟨e,y⟩:=y
  subst e
  exact hs i x σ _ (y xs q) p
 ·have e:i=xs.length:=by omega
  subst e
  exact .inl ⟨⟨xs,q,aaf _⟩,hd σ H p⟩
theorem JW {K:aaa} {a:aaD} {xs:List V} {g:TG} {tb:TS} {D:Ends} {σ:St} {H:Hp} (Pv:Nat→St→Hp→Prop) (h0:Pv 0 σ H) (hl:∀i σ H,i≤xs.length→Pv i σ H→b8 K H a xs)
  (hs:∀i x σ H,xs[i]?=some x→Pv i σ H→g x σ H fun σ2 H2=>tb { D with nx:=Pv (i+1),ct:=Pv (i+1),bk:=D.nx } σ2 H2) (hd:∀σ H,Pv xs.length σ H→D.nx σ H) :
  ∃W:Nat→Nat→St→Hp→Prop,(∃m,W 0 m σ H)∧∀i m σ H,W i m σ H →
   ((Pn K a).stop i H∧D.nx σ H)∨((Pn K a).go i H∧∃N:St→Hp→Prop,(∀σ' H',N σ' H'→∃m',m'<m∧W (i+1) m' σ' H')∧∀x H',(Pn K a).JV i H x H'→g x σ H' fun σ2 H2=>tb { D with nx:=N,ct:=N,bk:=D.nx } σ2 H2):=by
 refine⟨fun i m σ H=>m=xs.length - i∧i≤xs.length∧Pv i σ H,⟨xs.length,by simp,aa3 _,h0⟩,?_⟩
 rintro i m σ H ⟨rfl,hi,p⟩
 have q:=hl i σ H hi p
 by_cases eE:i<xs.length
 ·refine .inr ⟨⟨xs,xs[i],q,by simp [eE]⟩,Pv (i+1),fun σ' H' p'=>⟨xs.length - (i+1),by omega,rfl,eE,p'⟩,fun x H' y=>?_⟩
  obtain⟨e,y⟩:=y
  subst e
  exact hs i x σ _ (y xs q) p
 ·have e:i=xs.length:=by omega
  subst e
  exact .inl ⟨⟨xs,q,aaf _⟩,hd σ H p⟩
theorem lW {lo:Int} {n:Nat} {g:TG} {tb:TS} {D:Ends} {σ:St} {H:Hp} (Pv:Nat→St→Hp→Prop) (h0:Pv 0 σ H)
  (hs:∀i σ H,i<n→Pv i σ H→g (.int (lo+i)) σ H fun σ2 H2=>tb { D with nx:=Pv (i+1),ct:=Pv (i+1),bk:=D.nx } σ2 H2) (hd:∀σ H,Pv n σ H→D.nx σ H) :
  ∃W:Nat→Nat→St→Hp→Prop,(∃m,W 0 m σ H)∧∀i m σ H,W i m σ H →
   ((LS lo n).stop i H∧D.nx σ H)∨((LS lo n).go i H∧∃N:St→Hp→Prop,(∀σ' H',N σ' H'→∃m',m'<m∧W (i+1) m' σ' H')∧∀x H',(LS lo n).JV i H x H'→g x σ H' fun σ2 H2=>tb { D with nx:=N,ct:=N,bk:=D.nx } σ2 H2):=by
 refine⟨fun i m σ H=>m=n - i∧i≤n∧Pv i σ H,⟨n,by simp,aa3 _,h0⟩,?_⟩
 rintro i m σ H ⟨rfl,hi,p⟩
 by_cases eE:i<n
 ·refine .inr ⟨eE,Pv (i+1),fun σ' H' p'=>⟨n - (i+1),by omega,rfl,eE,p'⟩,fun x H' y=>?_⟩
  obtain⟨e,y⟩:=y
  subst e y
  exact hs i σ _ eE p
 ·have e:i=n:=by omega
  subst e
  exact .inl ⟨aaf _,hd σ H p⟩
theorem GD {c:TT} {tb:TS} {D:Ends} {σ:St} {H:Hp} (Pv:St→Hp→Prop) (μ:St→Hp→Nat) (h0:Pv σ H)
  (hs:∀σ H,Pv σ H→c σ H fun b H1=>if b=true then tb { D with nx:=fun σ' H'=>Pv σ' H'∧μ σ' H'<μ σ H,ct:=fun σ' H'=>Pv σ' H'∧μ σ' H'<μ σ H,bk:=D.nx } σ H1 else D.nx σ H1)
  (mono:∀σ H Q Q',(∀b H1,Q b H1→Q' b H1)→c σ H Q→c σ H Q'):GB c tb D σ H:=by
 refine⟨fun m σ H=>m=μ σ H∧Pv σ H,⟨_,rfl,h0⟩,?_⟩
 rintro m σ H ⟨rfl,p⟩
 refine mono σ H _ _ (fun b H1 q=>?_) (hs σ H p)
 cases b with
 | true=>exact⟨_,fun σ' H' ⟨p',l⟩=>⟨_,l,rfl,p'⟩,q⟩
 | false=>exact q
abbrev R2:=V→V→Hp→VK→Prop
def nM (X:Cx) (f:aae→aae→Sem aae) (r:R2):Prop :=
 ∀(pins:List (aaD × Obj)) (s:aak) (σ:St) (H:Hp) (x y:V) (v u:aae) (Q:VK),Inv X pins σ H s→RelV x v→RelV y u→r x y H Q →
  abb (model X.prog X.w) X.A (f v u) (EP X pins σ Q) X.xe s
def TH (X:Cx) (f:aae→Sem aae) (r:V→Hp→VK→Prop):Prop :=
 ∀(pins:List (aaD × Obj)) (s:aak) (σ:St) (H:Hp) (x:V) (v:aae) (Q:VK),Inv X pins σ H s→RelV x v→r x H Q →
  abb (model X.prog X.w) X.A (f v) (EP X pins σ Q) X.xe s
def fT (X:Cx) (f:aae) (r:List V→Hp→VK→Prop):Prop :=
 ∀(pins:List (aaD × Obj)) (s:aak) (σ:St) (H:Hp) (xs:List V) (us:List aae) (Q:VK),Inv X pins σ H s→Vals xs us→r xs H Q →
  abb (model X.prog X.w) X.A (call f us) (EP X pins σ Q) X.xe s
def Sq (r:R2) (ta tb:TE):TE:=fun σ H Q=>ta σ H fun x H1=>tb σ H1 fun y H2=>r x y H2 Q
def YL (r:V→Hp→VK→Prop) (ta:TE):TE:=fun σ H Q=>ta σ H fun x H1=>r x H1 Q
def rI (C:Int→Int→Prop) (g:Int→Int→V):R2:=fun x y H Q=>∃i j,x=.int i∧y=.int j∧C i j∧Q (g i j) H
def LV (g:Int→Int→V):R2:=fun x y H Q=>∃i j,x=.int i∧y=.int j∧Q (g i j) H
def rU (g:Int→V):V→Hp→VK→Prop:=fun x H Q=>∃i,x=.int i∧Q (g i) H
section
variable {X:Cx} {a b c:Expr} {ta tb tc:TE} {pos:Pos}
theorem MY (ha:PE X a ta) (hb:PE X b tb) {pins:List (aaD × Obj)} {s:aak} {σ:St} {H:Hp} {R:V→V→Hp→Prop} (I:Inv X pins σ H s)
  (h:ta σ H fun x H1=>tb σ H1 fun y H2=>R x y H2) {Q:aae→aak→Prop} {f:aae→aae→Sem aae}
  (hf:∀v u s2 x y H2,Inv X pins σ H2 s2→RelV x v→RelV y u→R x y H2→abb (model X.prog X.w) X.A (f v u) Q X.xe s2) :
  abb (model X.prog X.w) X.A (eval a X.env) (fun v s₁=>abb (model X.prog X.w) X.A (eval b X.env) (fun u s₂=>abb (model X.prog X.w) X.A (f v u) Q X.xe s₂) X.xe s₁) X.xe s:=by
 refine thn (ha pins s σ H _ I h) fun v s1 ⟨x,H1,I1,r1,q1⟩=>?_
 refine thn (hb pins s1 σ H1 _ I1 q1) fun u s2 ⟨y,H2,I2,r2,q2⟩=>?_
 exact hf v u s2 x y H2 I2 r1 r2 q2
theorem aL {op:Operator} {r:R2} (ho:nM X (binaryOp op) r) (ha:PE X a ta) (hb:PE X b tb):PE X (.BinOp a op b pos) (Sq r ta tb):=by
 intro pins s σ H Q I h
 exact wpAny_BinOp (MY ha hb I h fun v u s2 x y H2 I2 rx ry q=>ho pins s2 σ H2 x y v u Q I2 rx ry q)
theorem Pp {op:UnaryOp} {r:V→Hp→VK→Prop} (ho:TH X (unaryOp op) r) (ha:PE X a ta):PE X (.UnaryOp op a pos) (YL r ta):=by
 intro pins s σ H Q I h
 exact UnaryOp_ (thn (ha pins s σ H _ I h) fun v s1 ⟨x,H1,I1,r1,q1⟩=>ho pins s1 σ H1 x v Q I1 r1 q1)
theorem ON {f:aae→aae→Sem aae} {C:Int→Int→Prop} {g:Int→Int→Int}
  (rule:∀(i j:Int) (t u:Tok) (s:aak) (Q:aae→aak→Prop) (E:aae→aak→Prop),C i j→Q (.int (g i j) s.toks) { s with toks:=s.toks+1 }→abb (model X.prog X.w) X.A (f (.int i t) (.int j u)) Q E s) :
  nM X f (rI C fun i j=>.int (g i j)):=by
 intro pins s σ H x y v u Q I rx ry h
 obtain⟨i,j,rfl,rfl,hc,q⟩:=h
 obtain⟨t,rfl⟩:=rx
 obtain⟨t',rfl⟩:=ry
 exact rule i j t t' s _ _ hc ⟨.int (g i j),H,I.tok _,⟨_,rfl⟩,q⟩
theorem Pq {f:aae→aae→Sem aae} {g:Int→Int→Int}
  (rule:∀(i j:Int) (t u:Tok) (s:aak) (Q:aae→aak→Prop) (E:aae→aak→Prop),Q (.int (g i j) s.toks) { s with toks:=s.toks+1 }→abb (model X.prog X.w) X.A (f (.int i t) (.int j u)) Q E s) :
  nM X f (LV fun i j=>.int (g i j)):=by
 intro pins s σ H x y v u Q I rx ry h
 obtain⟨i,j,rfl,rfl,q⟩:=h
 obtain⟨t,rfl⟩:=rx
 obtain⟨t',rfl⟩:=ry
 exact rule i j t t' s _ _ ⟨.int (g i j),H,I.tok _,⟨_,rfl⟩,q⟩
theorem JX {f:aae→aae→Sem aae} {g:Int→Int→Bool}
  (rule:∀(i j:Int) (t u:Tok) (s:aak) (Q:aae→aak→Prop) (E:aae→aak→Prop),Q (.bool (g i j)) s→abb (model X.prog X.w) X.A (f (.int i t) (.int j u)) Q E s) :
  nM X f (LV fun i j=>.bl (g i j)):=by
 intro pins s σ H x y v u Q I rx ry h
 obtain⟨i,j,rfl,rfl,q⟩:=h
 obtain⟨t,rfl⟩:=rx
 obtain⟨t',rfl⟩:=ry
 exact rule i j t t' s _ _ ⟨.bl (g i j),H,I,rfl,q⟩
def TJ (i j:Int):Prop:=0<j∧j<1073741824
def TK (i j:Int):Prop:=0≤j∧j≤1000000∧i.natAbs<2 ^ 64
def MZ (i j:Int):Prop:=(-(2 ^ 64)<i∧i<2 ^ 64)∨(-(2 ^ 64)<j∧j<2 ^ 64)
theorem MZ.ok {i j:Int} (h:MZ i j):IntMulOk i j:=by
 rcases h with⟨h1,h2⟩|⟨h1,h2⟩
 ·exact .of_left (intBits_le_64 h1 h2)
 ·exact .of_right (intBits_le_64 h1 h2)
theorem d6:nM X (binaryOp .Add) (LV fun i j=>.int (i+j)):=Pq fun _ _ _ _ _ _ _ q=>add_int q
theorem gQ:nM X (binaryOp .Sub) (LV fun i j=>.int (i - j)):=Pq fun _ _ _ _ _ _ _ q=>sub_int q
theorem GF:nM X (binaryOp .Mult) (rI MZ fun i j=>.int (i * j)):=ON fun _ _ _ _ _ _ _ hc q=>mul_int q hc.ok
theorem rR:nM X (binaryOp .FloorDiv) (rI TJ fun i j=>.int (i / j)):=ON fun i j _ _ _ _ _ hc q=>by
 have h1:(0:Int)<j:=hc.1
 have h2:j<1073741824:=hc.2
 exact floordiv_int (by omega) (by rw [adW i (by omega)];exact q) (.inl (aex (by omega)))
theorem gS:nM X (binaryOp .Mod) (rI (fun _ j=>0<j) fun i j=>.int (i % j)):=ON fun i j _ _ _ _ _ hc q=>by
 have h1:(0:Int)<j:=hc
 exact mod_int' (by omega) (by rw [Int.fmod_eq_emod_of_nonneg i (by omega)];exact q)
theorem M0:nM X (binaryOp .Pow) (rI TK fun i j=>.int (i ^ j.toNat)):=ON fun _ _ _ _ _ _ _ hc q=>pow_int_small hc.1 hc.2.1 hc.2.2 q
theorem YM {f:aae→Sem aae} {g:Int→Int}
  (rule:∀(i:Int) (t:Tok) (s:aak) (Q:aae→aak→Prop) (E:aae→aak→Prop),Q (.int (g i) s.toks) { s with toks:=s.toks+1 }→abb (model X.prog X.w) X.A (f (.int i t)) Q E s) :
  TH X f (rU fun i=>.int (g i)):=by
 intro pins s σ H x v Q I rx h
 obtain⟨i,rfl,q⟩:=h
 obtain⟨t,rfl⟩:=rx
 exact rule i t s _ _ ⟨.int (g i),H,I.tok _,⟨_,rfl⟩,q⟩
theorem M1:TH X (unaryOp .USub) (rU fun i=>.int (-i)):=YM fun _ _ _ _ _ q=>neg_int q
end
def Pu:V→V→Bool
 | .cU,.cU=>true|.cU,.int _=>true|.int _,.cU=>true|.cU,.bl _=>true|.bl _,.cU=>true|.cU,.str _=>true|.str _,.cU=>true
 | .int _,.int _=>true|.bl _,.bl _=>true|.str _,.str _=>true|.Gj _,.Gj _=>true
 | .int _,.str _=>true|.str _,.int _=>true|.bl _,.str _=>true|.str _,.bl _=>true
 | _,_=>false
def YN:R2:=fun x y H Q=>Pu x y=true∧Q (.bl (decide (x=y))) H
def YO:R2:=fun x y H Q=>Pu x y=true∧Q (.bl (!decide (x=y))) H
theorem DK {i j:Int}:decide (V.int i=V.int j)=(i == j):=by
 rw [aci]
 simp
theorem GG {i j:Bool}:decide (V.bl i=V.bl j)=(i == j):=by
 rw [aci]
 simp
theorem DL {i j:Str}:decide (V.str i=V.str j)=(i == j):=by
 rw [aci]
 simp
theorem DM {i j:Array UInt8}:decide (V.Gj i=V.Gj j)=(i.toList == j.toList):=by
 rw [aci]
 cases i
 cases j
 simp
section
variable {X:Cx} {a b c:Expr} {ta tb tc:TE} {pos:Pos}
theorem bj {pins:List (aaD × Obj)} {σ:St} {H:Hp} {s:aak} {Q:VK} {k k':Bool} (I:Inv X pins σ H s) (q:Q (.bl k) H) (e:k=k'):EP X pins σ Q (.bool k') s:=by
 subst e
 exact⟨.bl k,H,I,rfl,q⟩
theorem cP:nM X (compareOp .Eq) YN:=by
 intro pins s σ H x y v u Q I rx ry h
 obtain⟨hs,q⟩:=h
 cases x with
 | cU =>
  cases rx
  cases y with
  | cU=>cases ry;exact PySem.EqNone.eq_none_none (bj I q (by simp))
  | bl j=>cases ry;exact PySem.EqNone.eq_none_bool (bj I q (by simp))
  | int j=>obtain⟨t',rfl⟩:=ry;exact PySem.EqNone.eq_none_int (bj I q (by simp))
  | str j=>obtain⟨t',rfl⟩:=ry;exact PySem.EqNone.eq_none_str (bj I q (by simp))
  | _=>exact absurd (show false=true from hs) aaE
 | bl i =>
  cases rx
  cases y with
  | cU=>cases ry;exact PySem.EqNone.eq_bool_none (bj I q (by simp))
  | bl j=>cases ry;exact eq_bool (bj I q GG)
  | str j=>obtain⟨t',rfl⟩:=ry;exact PySem.EqMixed.eq_bool_str (bj I q (by simp))
  | _=>exact absurd (show false=true from hs) aaE
 | int i =>
  obtain⟨t,rfl⟩:=rx
  cases y with
  | cU=>cases ry;exact PySem.EqNone.eq_int_none (bj I q (by simp))
  | int j=>obtain⟨t',rfl⟩:=ry;exact eq_int (bj I q DK)
  | str j=>obtain⟨t',rfl⟩:=ry;exact PySem.EqMixed.eq_int_str (bj I q (by simp))
  | _=>exact absurd (show false=true from hs) aaE
 | str i =>
  obtain⟨t,rfl⟩:=rx
  cases y with
  | cU=>cases ry;exact PySem.EqNone.eq_str_none (bj I q (by simp))
  | bl j=>cases ry;exact PySem.EqMixed.eq_str_bool (bj I q (by simp))
  | int j=>obtain⟨t',rfl⟩:=ry;exact PySem.EqMixed.eq_str_int (bj I q (by simp))
  | str j=>obtain⟨t',rfl⟩:=ry;exact eq_str (bj I q DL)
  | _=>exact absurd (show false=true from hs) aaE
 | Gj i =>
  obtain⟨t,rfl⟩:=rx
  cases y with
  | Gj j=>obtain⟨t',rfl⟩:=ry;exact PySem.W.eq_bytes (bj I q DM)
  | _=>exact absurd (show false=true from hs) aaE
 | _=>cases y <;> exact absurd (show false=true from hs) aaE
theorem eU:nM X (compareOp .NotEq) YO:=by
 intro pins s σ H x y v u Q I rx ry h
 obtain⟨hs,q⟩:=h
 cases x with
 | cU =>
  cases rx
  cases y with
  | cU=>cases ry;exact PySem.EqNone.ne_none_none (bj I q (by simp))
  | bl j=>cases ry;exact PySem.EqNone.ne_none_bool (bj I q (by simp))
  | int j=>obtain⟨t',rfl⟩:=ry;exact PySem.EqNone.ne_none_int (bj I q (by simp))
  | str j=>obtain⟨t',rfl⟩:=ry;exact PySem.EqNone.ne_none_str (bj I q (by simp))
  | _=>exact absurd (show false=true from hs) aaE
 | bl i =>
  cases rx
  cases y with
  | cU=>cases ry;exact PySem.EqNone.ne_bool_none (bj I q (by simp))
  | bl j=>cases ry;exact ne_bool (bj I q (congrArg not GG))
  | str j=>obtain⟨t',rfl⟩:=ry;exact PySem.EqMixed.ne_bool_str (bj I q (by simp))
  | _=>exact absurd (show false=true from hs) aaE
 | int i =>
  obtain⟨t,rfl⟩:=rx
  cases y with
  | cU=>cases ry;exact PySem.EqNone.ne_int_none (bj I q (by simp))
  | int j=>obtain⟨t',rfl⟩:=ry;exact ne_int (bj I q (congrArg not DK))
  | str j=>obtain⟨t',rfl⟩:=ry;exact PySem.EqMixed.ne_int_str (bj I q (by simp))
  | _=>exact absurd (show false=true from hs) aaE
 | str i =>
  obtain⟨t,rfl⟩:=rx
  cases y with
  | cU=>cases ry;exact PySem.EqNone.ne_str_none (bj I q (by simp))
  | bl j=>cases ry;exact PySem.EqMixed.ne_str_bool (bj I q (by simp))
  | int j=>obtain⟨t',rfl⟩:=ry;exact PySem.EqMixed.ne_str_int (bj I q (by simp))
  | str j=>obtain⟨t',rfl⟩:=ry;exact ne_str (bj I q (congrArg not DL))
  | _=>exact absurd (show false=true from hs) aaE
 | Gj i =>
  obtain⟨t,rfl⟩:=rx
  cases y with
  | Gj j=>obtain⟨t',rfl⟩:=ry;exact PySem.W.ne_bytes (bj I q (congrArg not DM))
  | _=>exact absurd (show false=true from hs) aaE
 | _=>cases y <;> exact absurd (show false=true from hs) aaE
theorem sJ:nM X (compareOp .Lt) (LV fun i j=>.bl (decide (i<j))):=JX fun _ _ _ _ _ _ _ q=>lt_int q
theorem LW:nM X (compareOp .LtE) (LV fun i j=>.bl (decide (i≤j))):=JX fun _ _ _ _ _ _ _ q=>le_int q
theorem jU:nM X (compareOp .Gt) (LV fun i j=>.bl (decide (j<i))):=JX fun _ _ _ _ _ _ _ q=>gt_int q
theorem LX:nM X (compareOp .GtE) (LV fun i j=>.bl (decide (j≤i))):=JX fun _ _ _ _ _ _ _ q=>ge_int q
theorem fN:nM X (compareOp .In) (fun x y H Q=>∃i j,x=.str i∧y=.str j∧Q (.bl (!(Builtin.Str.occurrences j i 0 j.length 1).isEmpty)) H):=by
 intro pins s σ H x y v u Q I rx ry h
 obtain⟨i,j,rfl,rfl,q⟩:=h
 obtain⟨t,rfl⟩:=rx
 obtain⟨t',rfl⟩:=ry
 exact in_str (bj I q rfl)
theorem Ca:nM X (compareOp .Is) (fun x y H Q=>y=.cU∧Q (.bl (decide (x=.cU))) H):=by
 intro pins s σ H x y v u Q I rx ry h
 obtain⟨rfl,q⟩:=h
 cases ry
 refine is_none_gen (bj I q ?_)
 cases x <;> first
  | (cases rx;rfl)
  | (obtain⟨t,rfl⟩:=rx;rfl)
theorem aF (b:Expr) {op:CmpOp} (h:op≠.In:=by decide) (h2:op≠.NotIn:=by decide):behindInMarks op b=false:=by
 have e1:(op == CmpOp.In)=false:=by cases op <;> first|rfl|exact absurd rfl h
 have e2:(op == CmpOp.NotIn)=false:=by cases op <;> first|rfl|exact absurd rfl h2
 cases b <;> simp [behindInMarks,e1,e2]
theorem eG {op:CmpOp} {r:R2} (ho:nM X (compareOp op) r) (ha:PE X a ta) (hb:PE X b tb) (hm:behindInMarks op b=false):PE X (.Compare a [op] [b] pos) (Sq r ta tb):=by
 intro pins s σ H Q I h
 exact wpAny_Compare1 (MY ha hb I h fun v u s2 x y H2 I2 rx ry q=>ho pins s2 σ H2 x y v u Q I2 rx ry q) hm
def Pw (t:TE):TT:=fun σ H Q=>t σ H fun x H'=>∃k,x=.bl k∧Q k H'
theorem au {op:CmpOp} {r:R2} (ho:nM X (compareOp op) r) (ha:PE X a ta) (hb:PE X b tb) (hm:behindInMarks op b=false):PT X (.Compare a [op] [b] pos) (Pw (Sq r ta tb)):=by
 intro pins s σ H Q I h
 refine wpAny_isTrue_Compare1 (thn (ha pins s σ H _ I h) fun v s1 ⟨x,H1,I1,r1,q1⟩=>thn (hb pins s1 σ H1 _ I1 q1) fun u s2 ⟨y,H2,I2,r2,q2⟩ =>
  thn (ho pins s2 σ H2 x y v u _ I2 r1 r2 q2) fun c s3 ⟨z,H3,I3,r3,k,e,q3⟩=>?_) hm
 subst e
 cases r3
 exact wpAny_truthy_bool ⟨H3,I3,q3⟩
def M3 (r r':R2) (ta tb tc:TE):TE:=fun σ H Q=>ta σ H fun x H1=>tb σ H1 fun y H2=>r x y H2 fun z H3=>∃k,z=.bl k ∧
 (if k=true then tc σ H3 fun w' H4=>r' y w' H4 Q else Q (.bl false) H3)
theorem GH {op TL:CmpOp} {r r':R2} (ho:nM X (compareOp op) r) (ho':nM X (compareOp TL) r') (ha:PE X a ta) (hb:PE X b tb) (hc:PE X c tc)
  (hm:lastMarks [op,TL] [b,c]=false:=by with_unfolding_all rfl):PE X (.Compare a [op,TL] [b,c] pos) (M3 r r' ta tb tc):=by
 intro pins s σ H Q I h
 refine Compare_chain (thn (ha pins s σ H _ I h) fun v s1 ⟨x,H1,I1,r1,q1⟩=>chain_link (thn (hb pins s1 σ H1 _ I1 q1) fun u s2 ⟨y,H2,I2,r2,q2⟩ =>
  thn (ho pins s2 σ H2 x y v u _ I2 r1 r2 q2) fun d s3 ⟨z,H3,I3,r3,k,e,q3⟩=>?_)) hm
 subst e
 cases r3
 refine wpAny_truthy_bool ?_
 cases k with
 | false=>exact ite_ff ⟨.bl false,H3,I3,rfl,q3⟩
 | true=>exact ite_tt (chain_last (thn (hc pins s3 σ H3 _ I3 q3) fun w' s4 ⟨z',H4,I4,r4,q4⟩=>ho' pins s4 σ H4 y z' u w' Q I4 r2 r4 q4))
theorem pE:(aao:Nat)<2 ^ 63:=by rw [ac4];decide
theorem bW:nM X (binaryOp .Add) (fun x y H Q=>∃i j,x=.str i∧y=.str j∧i.length+j.length≤aao∧Q (.str (i++j)) H):=by
 intro pins s σ H x y v u Q I rx ry h
 obtain⟨i,j,rfl,rfl,hz,q⟩:=h
 obtain⟨t,rfl⟩:=rx
 obtain⟨t',rfl⟩:=ry
 exact add_str (fun t' tk=>⟨.str (i++j),H,I.tok _,⟨_,rfl⟩,q⟩) hz
theorem vals1 {x:V} {us:List aae} (r:Vals [x] us):∃u,us=[u]∧RelV x u:=by
 cases r with
 | cons r1 r2=>cases r2;exact⟨_,rfl,r1⟩
theorem vals2 {x y:V} {us:List aae} (r:Vals [x,y] us):∃u w',us=[u,w']∧RelV x u∧RelV y w':=by
 cases r with
 | cons r1 r2 =>
  cases r2 with
  | cons r3 r4=>cases r4;exact⟨_,_,rfl,r1,r3⟩
theorem GI:fT X (.builtin "abs") (fun xs H Q=>∃i,xs=[.int i]∧Q (.int (if i<0 then -i else i)) H):=by
 intro pins s σ H xs us Q I r h
 obtain⟨i,rfl,q⟩:=h
 obtain⟨u,rfl,t,rfl⟩:=vals1 r
 exact call_abs_int fun u tk=>⟨.int (if i<0 then -i else i),H,I.tok _,⟨_,rfl⟩,q⟩
theorem xE:fT X (.type "str") (fun xs H Q=>∃i,xs=[.int i]∧i.natAbs.log2<1920∧Q (.str (toString i)) H):=by
 intro pins s σ H xs us Q I r h
 obtain⟨i,rfl,hz,q⟩:=h
 obtain⟨u,rfl,t,rfl⟩:=vals1 r
 exact PySem.P.str_of_int hz ⟨.str _,H,I.tok _,⟨_,rfl⟩,q⟩
end
structure Cb (h:Heap) (x dx C:aaD) (mA:Str→Option aae):Prop where
 obj:h.get? x=some (ab2 C dx)
 ns:h.Ns1 dx mA
 ne:dx≠x
theorem ES {h:Heap} {dx:aaD} {mA:Str→Option aae} (n:h.Ns1 dx mA):∃od,h.get? dx=some od∧∀name,ad6 name od=some (mA name):=by
 obtain⟨o,es,ep,ho,hd,hk,_,hm⟩:=n
 refine⟨o,ho,fun name=>?_⟩
 have e:=hm name
 unfold nsFind findBy at e
 rw [← Array.find?_toList] at e
 unfold ad6
 rw [hd]
 dsimp only
 split
 ·rename_i y q
  rw [q] at e
  exact congrArg some e
 ·rename_i q
  rw [q] at e
  have a:es.toList.any (·.refKey)=false:=by
   rw [List.any_eq_false]
   intro y hy
   obtain⟨z,t,hkey⟩:=hk y (Array.mem_toList_iff.mp hy)
   simp [DictEntry.refKey,hkey]
  have a':¬ es.toList.any (·.refKey)=true:=by rw [a];exact aaE
  rw [if_neg a']
  exact congrArg some e
theorem Cb.look {h:Heap} {x dx C:aaD} {mA:Str→Option aae} (I:Cb h x dx C mA):∃od,PySem.W.InstAt h x (ab2 C dx) C (some od)∧∀name,ad6 name od=some (mA name) :=
 let ⟨od,ho,hl⟩:=ES I.ns
 ⟨od,⟨I.obj,rfl,rfl,ho⟩,hl⟩
section
variable {prog:aa4} {w:abu} {A:abC} {E:aae→aak→Prop} {s:aak} {K:aaa} {x dx C f:aaD} {mA:Str→Option aae} {name:Str} {v:aae}
theorem get_map {expr:Bool} {Q:aae→aak→Prop} (X:K.In s.heap) (I:Cb s.heap x dx C mA) (hg:abS K C name=true) (hh:ab0 K C=true)
  (ha:abR K (.ref C) name=some none) (hv:mA name=some v) (hv':afz v=true) (h:Q v { s with toks:=s.toks+1 }) :
  abb (model prog w) A (getAttr (.ref x) name expr) Q E s:=by
 obtain⟨od,J,hl⟩:=I.look
 exact PySem.W.get_value X J (adM hg).1 (PySem.W.findObj_own hh ha rfl (by rw [hl,hv])) hv' h
theorem GJ {pl:Sem Bool} {Q:aae × List aae→aak→Prop} (X:K.In s.heap) (I:Cb s.heap x dx C mA) (hg:abS K C name=true)
  (hf:abR K (.ref C) name=some (some (.ref f))) (ht:afu K (.ref f)=true) (hv:mA name=none) (h:Q (.ref f,[.ref x]) s) :
  abb (model prog w) A (getMethod (.ref x) name pl) Q E s:=by
 obtain⟨od,J,hl⟩:=I.look
 exact PySem.W.method_fn X J (adM hg).1 (adM hg).2 hf (beq_iff_eq.mp ht) (by show(ad6 name od).map (·.isSome)=some false;rw [hl,hv];rfl) h
theorem JY {ns:List Str} {Q:Unit→aak→Prop} (X:K.In s.heap) (I:Cb s.heap x dx C mA)
  (hs:abR K (.ref C) "__setattr__"=some (some (.builtin "object.__setattr__"))) (hp:acj K C=true) (ht:aeH K C name=some none) (hh:ab0 K C=true)
  (hw:aft mA ns) (hsz:ns.length≤aao)
  (h:∀h',Cb h' x dx C (fun y=>if y=name then some v else mA y)→adB dx s.heap h'→Q () { s with heap:=h',toks:=s.toks+2 }) :
  abb (model prog w) A (setAttr (.ref x) name v) Q E s:=by
 obtain⟨od,J,hl⟩:=I.look
 refine PySem.W.set_plain X J hs (PySem.W.osa_open (s:={ s with toks:=s.toks+1 }) (r:=none) X J hp ht fun b=>?_)
 obtain⟨cd,hc,hd'⟩:=PySem.W.any_some hh
 have hx:s.heap.get? x=some ⟨.ref C,some dx,.plain,#[]⟩:=I.obj
 refine aap (aaP (aap (aap (wpAny_loadPart hx (aap (PySem.W.Looks.here (s:={ s with toks:=s.toks+1 }) (PySem.W.looks_clsIn X hc) ?_))))))
 rw [hd']
 refine aaP (a:=some dx) (aap (aaP (aap ?_)))
 refine wpAny_nsSet1 (s:={ s with toks:=s.toks+1 }) I.ns fun h' Sr sL=>?_
 obtain⟨oD,esD,epD,YQ,YR,YS⟩:=Sr.count (PySem.Within.cons name v hw)
 refine aap (wpAny_lookBehind YQ (by rw [YR];exact pastItsLine_dict (aa5 YS (by rw [aad];omega))) ?_)
 exact aaP (h _ ⟨(sL.2 _ (abB I.ne)).trans I.obj,Sr,I.ne⟩ sL)
theorem GK {R:Result→aak→Prop} {vs:List aae} {kw:List (Str × aae)} (X:K.In s.heap) (hm:acI K C=true)
  (hi:abR K (.ref C) "__init__"=some (some (.ref f))) (hf:PySem.W.typeIn K (.ref f)=some (.type "function"))
  (h:codeAny (model prog w) (A.under (.builtin "type.__call__" ⟨.ref C::vs,kw⟩)) (.call (.ref f) ⟨.ref (s.heap.objs.size+1)::vs,kw⟩) (PySem.W.InitBack (s.heap.objs.size+1) R)
   { s with heap:=(s.heap.push abH).push (ab2 C s.heap.objs.size) }) :
  codeAny (model prog w) A (.call (.ref C) ⟨vs,kw⟩) R s:=by
 obtain⟨hh,g,d,t,os⟩:=s
 exact PySem.W.make_core (PySem.W.makes_of X hm) (PySem.W.looks_findIn X hi) (fun self=>PySem.W.bind_fn X self hf) (.inl rfl) h
end
def bG (f:Str) (v:V):List (Str × V)→List (Str × V)
 | []=>[(f,v)]
 | (g,x)::r=>if g=f then (g,v)::r else (g,x)::bG f v r
theorem aT (f g:Str) (v:V):∀fs:List (Str × V),(bG f v fs).lookup g=if g=f then some v else fs.lookup g
 | []=>by
  show ac5 g [(f,v)]=_
  by_cases h:g=f
  ·have hb:(g == f)=true:=beq_iff_eq.mpr h
   simp only [ac5,hb,if_pos h]
  ·have hb:(g == f)=false:=beq_eq_false_iff_ne.mpr h
   simp only [ac5,hb,if_neg h]
 | (k,x)::r=>by
  have ih:=aT f g v r
  rw [show bG f v ((k,x)::r)=(if k=f then (k,v)::r else (k,x)::bG f v r) from rfl]
  by_cases hk:k=f
  ·rw [if_pos hk]
   by_cases h:g=k
   ·have hb:(g == k)=true:=beq_iff_eq.mpr h
    simp only [ac5,hb,if_pos (h.trans hk)]
   ·have hb:(g == k)=false:=beq_eq_false_iff_ne.mpr h
    simp only [ac5,hb,if_neg (fun e:g=f=>h (e.trans hk.symm))]
  ·rw [if_neg hk]
   by_cases h:g=k
   ·have hb:(g == k)=true:=beq_iff_eq.mpr h
    simp only [ac5,hb,if_neg (fun e:g=f=>hk (h.symm.trans e))]
   ·have hb:(g == k)=false:=beq_eq_false_iff_ne.mpr h
    simp only [ac5,hb]
    exact ih
theorem pF (f:Str) (v:V):∀fs:List (Str × V),f∈(bG f v fs).map (·.1)∧∀g,g∈fs.map (·.1)→g∈(bG f v fs).map (·.1)
 | []=>⟨by simp [bG],fun g h=>by simp at h⟩
 | (k,x)::r=>by
  obtain⟨i1,i2⟩:=pF f v r
  rw [show bG f v ((k,x)::r)=(if k=f then (k,v)::r else (k,x)::bG f v r) from rfl]
  by_cases hk:k=f
  ·rw [if_pos hk]
   subst hk
   exact⟨by simp,fun g h=>by simpa using h⟩
  ·rw [if_neg hk]
   refine⟨?_,fun g h=>?_⟩
   ·rw [aaZ]
    exact aan _ i1
   ·rw [aaZ] at h ⊢
    rcases aaB.mp h with e|e
    ·exact aaB.mpr (.inl e)
    ·exact aan _ (i2 g e)
theorem qF (f:Str) (v:V):∀fs:List (Str × V),(bG f v fs).length≤fs.length+1
 | []=>by simp [bG]
 | (k,x)::r=>by
  have ih:=qF f v r
  rw [show bG f v ((k,x)::r)=(if k=f then (k,v)::r else (k,x)::bG f v r) from rfl]
  by_cases hk:k=f
  ·rw [if_pos hk,aad,aad];omega
  ·rw [if_neg hk,aad,aad];omega
theorem jJ.some_of {v:V} {o:Option aae} (r:jJ (some v) o):∃u,o=some u∧RelV v u:=by
 cases o with
 | none=>exact(show False from r).elim
 | some u=>exact⟨u,rfl,r⟩
theorem jJ.none_of {o:Option aae} (r:jJ none o):o=none:=by
 cases o with
 | none=>rfl
 | some u=>exact(show False from r).elim
theorem ET {v:V} {u:aae} (r:RelV v u):afz u=true:=by
 cases v with
 | tok x t=>cases (show u=abL x t from r);rfl
 | cU=>cases (show u=aeT from r);rfl
 | bl b=>cases (show u=adJ b from r);rfl
 | int i=>obtain⟨t,e⟩:=(show ∃t,u=aeF i t from r);cases e;rfl
 | str x=>obtain⟨t,e⟩:=(show ∃t,u=abL x t from r);cases e;rfl
 | Gj b=>obtain⟨t,e⟩:=(show ∃t,u=Value.bytes b t from r);cases e;rfl
 | iK b=>obtain⟨t,e⟩:=(show ∃t,u=afB b t from r);cases e;rfl
 | ref a=>cases (show u=abd a from r);rfl
 | ty n=>cases (show u=adx n from r);rfl
section
variable {P:aa4} {w:abu} {H H':Hp} {h h':Heap} {a C dx:aaD} {fs fs':List (Str × V)}
theorem rS (hok:mm P w H h) (e:H a=some (.ins C dx fs)):∃mA,Cb h a dx C mA∧(∀f,jJ (fs.lookup f) (mA f))∧aft mA (fs.map (·.1))∧fs.length≤1000∧H dx=some (.own a):=by
 obtain⟨d,z,ne,ob,mA,n,r,q⟩:=(show cD P w H h a (.ins C dx fs) from hok a _ e)
 exact⟨mA,⟨ob,n,ne⟩,r,q,z,d⟩
end
structure BX (K:aaa) (C:aaD):Prop where
 pg:abS K C afd=true
 hd:ab0 K C=true
 po:acj K C=true
 sa:abR K (.ref C) "__setattr__"=some (some (.builtin "object.__setattr__"))
theorem BX.get {K:aaa} {C:aaD} (c:BX K C) (f:Str):abS K C f=true:=c.pg
def cK (K:aaa) (C:aaD) (f:Str):Prop:=abR K (.ref C) f=some none
theorem cK.Px {K:aaa} {C:aaD} {f:Str} (n:cK K C f):aeH K C f=some none:=by
 unfold aeH
 rw [show abR K (.ref C) f=some none from n]
 rfl
structure Meth (K:aaa) (C:aaD) (m:Str) (f:aaD):Prop where
 at_:abR K (.ref C) m=some (some (.ref f))
 fn:afu K (.ref f)=true
 kp:acV K (.ref f)=true
section
variable {X:Cx} {pins:List (aaD × Obj)} {σ:St} {H:Hp} {s:aak} {a C dx:aaD} {fs:List (Str × V)} {f:Str} {v:V} {A:abC} {E:aae→aak→Prop}
theorem getattr_ok {b:Bool} {Q:aae→aak→Prop} (I:Inv X pins σ H s) (e:H a=some (.ins C dx fs)) (c:BX X.K C) (n:cK X.K C f) (l:fs.lookup f=some v)
  (h:∀u s',Inv X pins σ H s'→RelV v u→Q u s'):abb (model X.prog X.w) A (getAttr (.ref a) f b) Q E s:=by
 obtain⟨mA,O,r,_,_,_⟩:=rS I.hok e
 obtain⟨u,hu,ru⟩:=jJ.some_of (v:=v) (o:=mA f) (by rw [← l];exact r f)
 exact get_map I.qE O (c.get f) c.hd n hu (ET ru) (h u _ (I.tok _) ru)
theorem m5 {m:Str} {g:aaD} {pl:Sem Bool} {Q:aae × List aae→aak→Prop} (I:Inv X pins σ H s) (e:H a=some (.ins C dx fs)) (c:BX X.K C) (k:Meth X.K C m g) (l:fs.lookup m=none)
  (h:Q (.ref g,[.ref a]) s):abb (model X.prog X.w) A (getMethod (.ref a) m pl) Q E s:=by
 obtain⟨mA,O,r,_,_,_⟩:=rS I.hok e
 have hn:mA m=none:=jJ.none_of (by rw [← l];exact r m)
 exact GJ I.qE O (c.get m) k.at_ k.fn hn h
theorem Cc {y:V} {u:aae} {Q:Unit→aak→Prop} (I:Inv X pins σ H s) (e:H a=some (.ins C dx fs)) (c:BX X.K C) (n:cK X.K C f) (hl:fs.length<1000) (ry:RelV y u)
  (h:∀s',Inv X pins σ (upd H a (.ins C dx (bG f y fs))) s'→Q () s'):abb (model X.prog X.w) A (setAttr (.ref a) f u) Q E s:=by
 obtain⟨mA,O,r,wi,_,ho⟩:=rS I.hok e
 have hz:(fs.map (·.1)).length≤aao:=by rw [Lm9,ac4];omega
 refine JY I.qE O c.sa c.po n.Px c.hd wi hz fun h' O' sb=>h _ ?_
 have hd:∃o,h'.get? dx=some o:=let ⟨o,_,_,e',_⟩:=O'.ns;⟨o,e'⟩
 refine I.write (x:=a) (e:=dx) (by rw [e];exact ab9) (.inr ho) (fun b q hb z=>(sb.2 b hb).trans z) hd ?_
 refine⟨by rw [ar O.ne];exact ho,?_,O.ne,O'.obj,_,O'.ns,fun g=>?_,fun g hg=>?_⟩
 ·have:=qF f y fs;omega
 ·show jJ ((bG f y fs).lookup g) (if g=f then some u else mA g)
  rw [aT]
  by_cases q:g=f
  ·rw [if_pos q,if_pos q];exact ry
  ·rw [if_neg q,if_neg q];exact r g
 ·by_cases q:g=f
  ·rw [q];exact(pF f y fs).1
  ·refine(pF f y fs).2 g (wi g fun z=>hg ?_)
   show(if g=f then some u else mA g)=none
   rw [if_neg q];exact z
theorem Inv.made (I:Inv X pins σ H s):Inv X pins σ (upd (upd H s.heap.objs.size (.own (s.heap.objs.size+1))) (s.heap.objs.size+1) (.ins C s.heap.objs.size []))
  { s with heap:=(s.heap.push abH).push (ab2 C s.heap.objs.size) }:=by
 have e1:(s.heap.push abH).get? s.heap.objs.size=some abH:=aaM s.heap rfl
 have e2:((s.heap.push abH).push (ab2 C s.heap.objs.size)).get? (s.heap.objs.size+1)=some (ab2 C s.heap.objs.size):=by
  have:=aaM (s.heap.push abH) (o:=ab2 C s.heap.objs.size) rfl
  rwa [acb] at this
 have e3:(s.heap.push abH).Ns s.heap.objs.size (fun _=>none):=⟨abH,#[],_,e1,rfl,(fun e he=>absurd he (by simp)),fun _=>rfl⟩
 have I1:=I.laid (a:=s.heap.objs.size) (o:=.own (s.heap.objs.size+1)) (h':=s.heap.push abH) (t':=s.toks) (fun b u q=>aag _ q) (aaf _) ⟨_,e1⟩
 refine I1.laid (a:=s.heap.objs.size+1) (o:=.ins C s.heap.objs.size []) (t':=s.toks) (fun b u q=>aag _ q) (Nat.le_of_eq (acb _ _)) ?_
 have ne:s.heap.objs.size≠s.heap.objs.size+1:=aaW (aes _)
 refine⟨by rw [ar ne,ab],aa3 _,ne,e2,fun _=>none,(Heap.Ns1.of_empty e3).at fun o q=>aag _ q,fun _=>ab9,fun y hy=>absurd rfl hy⟩
theorem attr_of {prog:aa4} {w:abu} {env:Env} {e:Expr} {f:Str} {pos:Pos} {s:aak} {Q:aae→aak→Prop} (hb:attributeBase e f env (eval e env)=eval e env)
  (h:abb (model prog w) A (eval e env) (fun o s₁=>abb (model prog w) A (getAttr o f true) Q E s₁) E s):abb (model prog w) A (eval (.Attribute e f pos) env) Q E s :=
 Attribute_any_ h (by rw [arm_eval_Attribute,hb])
end
def tFld (K:aaa) (ta:TE) (f:Str):TE:=fun σ H Q=>ta σ H fun x H1=>∃a C dx fs v,x=.ref a∧H1 a=some (.ins C dx fs)∧BX K C∧cK K C f∧fs.lookup f=some v∧Q v H1
def TM (K:aaa) (ta tv:TE) (f:Str):TS:=fun D σ H=>tv σ H fun y H1=>ta σ H1 fun x H2=>∃a C dx fs,x=.ref a∧H2 a=some (.ins C dx fs)∧BX K C∧cK K C f∧fs.length<1000 ∧
 D.nx σ (upd H2 a (.ins C dx (bG f y fs)))
section
variable {X:Cx} {o e value:Expr} {f:Str} {pos pos' GL:Pos} {ta tv:TE}
theorem pe_fld (he:PE X e ta) (hb:attributeBase e f X.env (eval e X.env)=eval e X.env):PE X (.Attribute e f pos) (tFld X.K ta f):=by
 intro pins s σ H Q I h
 refine attr_of hb (thn (he pins s σ H _ I h) fun u s1 ⟨x,H1,I1,rx,a,C,dx,fs,v,ex,ea,c,n,l,q⟩=>?_)
 subst ex
 obtain rfl:u=abd a:=rx
 exact getattr_ok I1 ea c n l fun u' s2 I2 ru=>⟨v,H1,I2,ru,q⟩
theorem ps_fld (ha:PE X o ta) (hv:PE X value tv) (hs:swapsWith value (some (.Attribute o f pos')) pos.line X.env=pure false):PS X (.Assign [.Attribute o f pos'] value pos) (TM X.K ta tv f):=by
 intro pins s σ H D I h
 refine plainObj_wpAny_Assign_Attribute (thn (hv pins s σ H _ I h) fun u s1 ⟨y,H1,I1,ry,q⟩=>thn (ha pins s1 σ H1 _ I1 q) fun ov s2 ⟨x,H2,I2,rx,a,C,dx,fs,ex,ea,c,n,l,q2⟩=>?_) hs
 subst ex
 obtain rfl:ov=abd a:=rx
 exact Cc I2 ea c n l ry fun s3 I3=>⟨σ,_,I3,q2⟩
theorem LY {pl:Sem Bool} {m:Str} {apos:Pos} {args:List Expr} {pins:List (aaD × Obj)} {s:aak} {σ:St} {H:Hp} {Q:aae→aak→Prop} {te:TE} (he:PE X e te) (I:Inv X pins σ H s)
  (h:te σ H fun x H1=>∃a C dx fs g,x=.ref a∧H1 a=some (.ins C dx fs)∧BX X.K C∧Meth X.K C m g∧fs.lookup m=none ∧
   ∀s1,Inv X pins σ H1 s1→abb (model X.prog X.w) X.A (callWith pos (.ref g) [.ref a] (backTo pos (starEach args X.env)) (backToKw pos (keywordEach [] X.env))) Q X.xe s1)
  (ht:eval (.Call (.Attribute e m apos) args [] pos) X.env=(do
   let ov ← eval e X.env
   standAt apos.atName
   let (f,first) ← holding [ov] (getMethod ov m pl)
   callWith pos f first (backTo pos (starEach args X.env)) (backToKw pos (keywordEach [] X.env)))) :
  abb (model X.prog X.w) X.A (eval (.Call (.Attribute e m apos) args [] pos) X.env) Q X.xe s:=by
 refine adC (pl:=pl) (thn (he pins s σ H _ I h) fun u s1 ⟨x,H1,I1,rx,a,C,dx,fs,g,ex,ea,c,k,l,q⟩=>?_) ht
 subst ex
 obtain rfl:u=abd a:=rx
 exact m5 I1 ea c k l (q s1 I1)
end
section
variable {X:Cx} {pins:List (aaD × Obj)} {σ:St} {H:Hp} {s:aak} {A:abC} {E:aae→aak→Prop} {Q:aae→aak→Prop} {c:aae} {b:Bool}
inductive pG (K:aaa) (H:Hp):V→aae→Prop where
 | cU:pG K H .cU (.type "NoneType")
 | bl (x:Bool):pG K H (.bl x) (.type "bool")
 | int (i:Int):pG K H (.int i) (.type "int")
 | str (x:Str):pG K H (.str x) (.type "str")
 | iK (x:UInt64):pG K H (.iK x) (.type "float")
 | lst {a:aaD} {xs:List V} (e:H a=some (.lst xs)):pG K H (.ref a) (.type "list")
 | sv {a:aaD} {o:Obj} {xs:List V} (e:H a=some (.sv o (.lst xs))):pG K H (.ref a) (.type "list")
 | tup {a:aaD} {xs:List V} (e:H a=some (.tup xs)):pG K H (.ref a) (.type "tuple")
 | dK {a:aaD} {kvs:List (Key × V)} (e:H a=some (.dK kvs)):pG K H (.ref a) (.type "dict")
 | dT {a:aaD} {kvs:List (List Key × V)} (e:H a=some (.dT kvs)):pG K H (.ref a) (.type "dict")
 | ins {a C dx:aaD} {fs:List (Str × V)} (e:H a=some (.ins C dx fs)) (cl:BX K C) (ha:abR K (.ref C) "__class__"=some (some (.builtin "object.__class__")))
   (hn:afl K (.builtin "object.__class__") "__get__"=some (some (.builtin "getset_descriptor.__get__"))) (TN:PySem.W.takesIn K (.builtin "object.__class__")=some true)
   (hm:PySem.W.mroIn K C (.type "object")=some true):pG K H (.ref a) (.ref C)
theorem EU {x:V} {u t:aae} (I:Inv X pins σ H s) (rx:RelV x u) (ty:pG X.K H x t) (e:acd X.K t c=some b) (h:∀tk,Q (.bool b) { s with toks:=tk }) :
  abb (model X.prog X.w) A (call (.builtin "isinstance") [u,c]) Q E s:=by
 cases ty with
 | cU=>cases (show u=aeT from rx);exact aby PySem.W.kitx_none I.qE ab9 e (fun z=>nomatch z) h
 | bl y=>cases (show u=adJ y from rx);exact aby PySem.W.kitx_bool I.qE ab9 e (fun z=>nomatch z) h
 | int i=>obtain⟨t,q⟩:=(show ∃t,u=aeF i t from rx);cases q;exact aby PySem.W.kitx_int I.qE ab9 e (fun z=>nomatch z) h
 | str y=>obtain⟨t,q⟩:=(show ∃t,u=abL y t from rx);cases q;exact aby PySem.W.kitx_str I.qE ab9 e (fun z=>nomatch z) h
 | iK y=>obtain⟨t,q⟩:=(show ∃t,u=afB y t from rx);cases q;exact aby PySem.W.kitx_float I.qE ab9 e (fun z=>nomatch z) h
 | @lst a xs ea =>
  cases (show u=abd a from rx)
  obtain⟨_,_,n,_,h1⟩:=(show cD X.prog X.w H s.heap a (.lst xs) from I.hok a _ ea)
  exact aby afm I.qE ⟨_,h1,rfl⟩ e (fun z=>nomatch z) h
 | @sv a ob xs ea =>
  cases (show u=abd a from rx)
  obtain⟨_,_,_,n,_,h1⟩:=(show cD X.prog X.w H s.heap a (.sv ob (.lst xs)) from I.hok a _ ea)
  exact aby afm I.qE ⟨_,h1,rfl⟩ e (fun z=>nomatch z) h
 | @tup a xs ea =>
  cases (show u=abd a from rx)
  obtain⟨_,_,_,p⟩:=(show cD X.prog X.w H s.heap a (.tup xs) from I.hok a _ ea)
  obtain⟨o,h1,h2,_⟩:=p
  exact aby afe I.qE ⟨o,h1,h2⟩ e (fun z=>nomatch z) h
 | @dK a kvs ea =>
  cases (show u=abd a from rx)
  obtain⟨_,_,vs,_,p⟩:=(show cD X.prog X.w H s.heap a (.dK kvs) from I.hok a _ ea)
  obtain⟨o,es,ep,h1,h2,_⟩:=p
  exact aby afn I.qE ⟨o,h1,h2.1⟩ e (fun z=>nomatch z) h
 | @dT a kvs ea =>
  cases (show u=abd a from rx)
  obtain⟨_,_,xs,_,o,es,ep,h1,h2,_⟩:=(show cD X.prog X.w H s.heap a (.dT kvs) from I.hok a _ ea)
  exact aby afn I.qE ⟨o,h1,h2.1⟩ e (fun z=>nomatch z) h
 | @ins a C dx fs ea cl ha hn TN hm =>
  cases (show u=abd a from rx)
  obtain⟨mA,O,_⟩:=rS I.hok ea
  obtain⟨od,J,_⟩:=O.look
  exact aby (PySem.W.kitx_own (cl.get _) cl.hd ha hn TN hm) I.qE J e (fun z=>nomatch z) h
end
structure dJ (k:Nat) (A:abC):Prop where
 hd:A.handled=none
 dp:A.depth+3 * k+5<recursionLimit
 un:A.units+16 * k+200<cLine
 gd:A.guards=some []
theorem dJ.mono {j k:Nat} {A:abC} (r:dJ k A) (h:j≤k):dJ j A:=⟨r.hd,by have:=r.dp;omega,by have:=r.un;omega,r.gd⟩
theorem dJ.deeper {k:Nat} {A:abC} (r:dJ (k+1) A) (env:Env):dJ k (A.deeper env) :=
 ⟨r.hd,by have:=r.dp;show A.depth+1+3 * k+5<_;omega,by have:=r.un;show A.units+3+16 * k+200<_;omega,r.gd⟩
theorem Cd {A:abC} {C:aaD} {us:List aae} {kw:List (Str × aae)}:(A.under (.builtin "type.__call__" ⟨.ref C::us,kw⟩)).depth=A.depth+1:=by
 first|rfl|simp [aeI,Code.weight,Code.isCreation,Code.isGuard,Code.isCaller,Code.frames,afv,guardIds]
theorem Ce {A:abC} {C:aaD} {us:List aae} {kw:List (Str × aae)}:(A.under (.builtin "type.__call__" ⟨.ref C::us,kw⟩)).units=A.units+1:=by
 first|rfl|simp [aeI,Code.cUnits,Code.frames,afv]
theorem Ah {A:abC} {C:aaD} {us:List aae} {kw:List (Str × aae)}:(A.under (.builtin "type.__call__" ⟨.ref C::us,kw⟩)).guards=A.guards:=by
 first|rfl|simp [aeI,pushGuards,Code.guards,Code.isGuard,guardIds]
theorem dJ.make {k:Nat} {A:abC} (r:dJ (k+1) A) (C:aaD) (us:List aae) (kw:List (Str × aae)):dJ k (A.under (.builtin "type.__call__" ⟨.ref C::us,kw⟩)) :=
 ⟨r.hd,by have:=r.dp;rw [Cd];omega,by have:=r.un;rw [Ce];omega,by rw [Ah];exact r.gd⟩
theorem dJ.depth {k:Nat} {A:abC} (r:dJ k A):A.depth<recursionLimit:=by have:=r.dp;omega
theorem dJ.units {k:Nat} {A:abC} (r:dJ k A):A.units+64<cLine:=by have:=r.un;omega
def EV:TA:=fun _ H Q=>Q [] H
def Ai (ta:TE) (tr:TA):TA:=fun σ H Q=>ta σ H fun x H1=>tr σ H1 fun xs H2=>Q (x::xs) H2
section
variable {X:Cx} {e:Expr} {es:List Expr} {te:TE} {t:TA} {pos:Pos}
theorem af:PA X [] EV:=fun _ _ _ _ H Q I h=>ad9 ⟨[],H,I,.nil,h⟩
theorem aa (ha:PE X e te) (hr:PA X es t) (hs:starEach (e::es) X.env=(false,eval e X.env)::starEach es X.env:=by rfl):PA X (e::es) (Ai te t):=by
 intro pos pins s σ H Q I h
 rw [hs]
 show abb _ _ (spliced ((false,eval e X.env)::backTo pos (starEach es X.env))) _ _ s
 refine adh (thn (ha pins s σ H _ I h) fun u s1 ⟨x,H1,I1,r1,q1⟩=>?_)
 exact thn (hr pos pins s1 σ H1 _ I1 q1) fun us s2 ⟨xs,H2,I2,r2,q2⟩=>⟨x::xs,H2,I2,.cons r1 r2,q2⟩
def TQ (t:TA):TE:=fun σ H Q=>t σ H fun xs H1=>xs.length≤aao∧∀p,H1 p=none→Q (.ref p) (upd H1 p (.tup xs))
def TR (t:TA):TE:=fun σ H Q=>t σ H fun xs H1=>xs.length≤aao∧∀p,H1 p=none→Q (.ref p) (upd H1 p (.lst xs))
theorem cX {x1} (h:PA X es t):PE X (.Tuple es x1 pos) (TQ t):=by
 intro pins s σ H Q I hq
 refine wpAny_Tuple_spliced (thn (h pos pins s σ H _ I hq) fun us s1 ⟨xs,H1,I1,r,z,q⟩=>⟨by rw [← r.length];exact z,?_⟩)
 have hf:H1 s1.heap.objs.size=none:=I1.hok.fresh (aaf _)
 refine⟨.ref s1.heap.objs.size,upd H1 s1.heap.objs.size (.tup xs),I1.laid (t':=s1.toks) (fun b u e=>aag _ e) (aaf _) ?_,rfl,q _ hf⟩
 exact⟨z,us,r,⟨_,aaM _ rfl,rfl,_,rfl⟩⟩
theorem bF (h:PA X es t):PE X (.List es pos) (TR t):=by
 intro pins s σ H Q I hq
 refine wpAny_List_spliced (thn (h pos pins s σ H _ I hq) fun us s1 ⟨xs,H1,I1,r,z,q⟩=>⟨by rw [← r.length];exact z,?_⟩)
 have hf:H1 s1.heap.objs.size=none:=I1.hok.fresh (aaf _)
 refine⟨.ref s1.heap.objs.size,upd H1 s1.heap.objs.size (.lst xs),I1.laid (t':=s1.toks) (fun b u e=>aag _ e) (aaf _) ?_,rfl,q _ hf⟩
 exact⟨z,us,0,r,aaM _ rfl⟩
end
abbrev Sp:=List V→Hp→VK→XK→Prop
abbrev GN:=List Env→Hp→aak→XK→aae→aak→Prop
structure Cf (P:aa4) (w:abu) (K:aaa) (mg:Str→Option aae) (base:Heap) (A:abC) (outer:List Env) (s:aak) (H:Hp):Prop where
 frames:A.frames=some outer
 mod:Mod K mg base
 bs:∀b o,base.get? b=some o→s.heap.get? b=some o∧H b=none
 EM:base.objs.size≤s.heap.objs.size
 rm:s.heap.FunFrames base outer
 MR:∀b∈Ad outer,H b=none
 hok:mm P w H s.heap
 bare:AllBare s.gens
def CE (outer:List Env) (P:aa4) (w:abu) (H:Hp) (s:aak) (Q:VK) (u:aae) (s':aak):Prop :=
 ∃v H',s'.os=s.os∧AllBare s'.gens∧Un (Ad outer) [] H H' s.heap s'.heap∧mm P w H' s'.heap∧RelV v u∧Q v H'
def CR (CX:GN) (outer:List Env) (P:aa4) (w:abu) (H:Hp) (s:aak) (Q:VK) (E:XK) (r:Result) (s':aak):Prop :=
 match r with
 | .ok (.ret u)=>CE outer P w H s Q u s'
 | .ok _=>False
 | .error e=>CX outer H s E e s'
structure aY (P:aa4) (w:abu) (K:aaa) (mg:Str→Option aae) (base:Heap) (CX:GN) (k:Nat) (f:aaD) (fd:abo) (ps:List Str) (sp:Sp):Prop where
 len:∀vs H Q E,sp vs H Q E→vs.length=ps.length
 run:∀(A:abC) (outer:List Env) (s:aak) (H:Hp) (args:Args) (us:List aae) (vs:List V) (Q:VK) (E:XK),dJ k A→Cf P w K mg base A outer s H→BindsTo s fd args (ps.zip us)→Vals vs us→sp vs H Q E →
  codeAny (model P w) A (.call (.ref f) args) (CR CX outer P w H s Q E) s
theorem Cf.make {P:aa4} {w:abu} {K:aaa} {mg:Str→Option aae} {base:Heap} {A:abC} {outer:List Env} {s:aak} {H:Hp} (e:Cf P w K mg base A outer s H) (C:aaD) (us:List aae) (kw:List (Str × aae)) :
  Cf P w K mg base (A.under (.builtin "type.__call__" ⟨.ref C::us,kw⟩)) outer s H:=⟨by first|exact e.frames|(simpa [aeI,Code.envs,afv,pushEnvs] using e.frames),e.mod,e.bs,e.EM,e.rm,e.MR,e.hok,e.bare⟩
section
variable {X:Cx} {pins:List (aaD × Obj)} {σ:St} {H:Hp} {s s':aak}
theorem Inv.Py (I:Inv X pins σ H s):Cf X.prog X.w X.K X.mg X.base X.A X.stack s H :=
 ⟨I.ok.frames,I.ok.mod,I.bs,aa5 I.ok.EM I.sz,I.stack,I.rO,I.hok,I.bare⟩
theorem Inv.after {Q:VK} {u:aae} (I:Inv X pins σ H s) (h:CE X.stack X.prog X.w H s Q u s'):EP X pins σ Q u s':=by
 obtain⟨v,H',os,bare,un,hok,r,q⟩:=h
 obtain⟨hh,g,d,t,YT⟩:=s'
 obtain rfl:YT=s.os:=os
 exact⟨v,H',I.call (h':=hh) (g':=g) (d':=d) (t':=t) (ch:=[]) un hok bare (fun b z=>absurd z (by simp)),r,q⟩
end
def LZ (sp:Sp) (u7:List V) (E:XK) (t:TA):TE:=fun σ H Q=>t σ H fun vs H1=>sp (vs++u7) H1 Q E
def DN (C:aaD) (m:Str) (sp:Sp) (u7:List V) (E:XK) (ta:TE) (t:TA):TE:=fun σ H Q=>ta σ H fun x H1=>∃a dx fs,x=.ref a∧H1 a=some (.ins C dx fs)∧fs.lookup m=none ∧
 t σ H1 fun vs H2=>sp (x::(vs++u7)) H2 Q E
def L1 (C:aaD) (sp:Sp) (u7:List V) (E:XK) (t:TA):TE:=fun σ H Q=>t σ H fun vs H1=>∀x dx,H1 x=none→H1 dx=none→dx≠x →
 sp (.ref x::(vs++u7)) (upd (upd H1 dx (.own x)) x (.ins C dx [])) (fun v H2=>v=.cU∧Q (.ref x) H2) E
def Binds (K:aaa) (fd:abo) (ps:List Str) (ds:List aae):Prop :=
 ∀(s:aak) (us:List aae),K.In s.heap→(us++ds).length=ps.length→BindsTo s fd ⟨us,[]⟩ (ps.zip (us++ds))
theorem Binds.all {K:aaa} {fd:abo} {ps:List Str} (h:∀us:List aae,us.length=ps.length→bindArgs fd ⟨us,[]⟩=pure (ps.zip us)):Binds K fd ps []:=fun s us _ hl=>by
 rw [aa8] at hl ⊢
 exact .of_eq (h us hl)
def Passes (CX:GN) (X:Cx) (E:XK):Prop:=∀(pins:List (aaD × Obj)) (σ:St) (H:Hp) (s:aak) (e:aae) (s':aak),Inv X pins σ H s→CX X.stack H s E e s'→X.xe e s'
section
variable {X:Cx} {CX:GN} {k:Nat} {f C:aaD} {fd:abo} {ps:List Str} {sp:Sp} {u7:List V} {ds:List aae} {E:XK} {x m:Str} {p pos apos:Pos} {e o:Expr} {es:List Expr} {ta:TE} {t:TA}
theorem Cg {pins:List (aaD × Obj)} {σ:St} {H:Hp} {s:aak} {Q:VK} {us:List aae} {vs:List V} (F:aY X.prog X.w X.K X.mg X.base CX k f fd ps sp) (hr:dJ k X.A) (hb:Binds X.K fd ps ds) (hd:Vals u7 ds) (hx:Passes CX X E)
  (I:Inv X pins σ H s) (r:Vals vs us) (h:sp (vs++u7) H Q E):abb (model X.prog X.w) X.A (call (.ref f) us) (EP X pins σ Q) X.xe s:=by
 have r2:Vals (vs++u7) (us++ds):=r.append hd
 have hl:(us++ds).length=ps.length:=by rw [← r2.length];exact F.len _ _ _ _ h
 refine wpAny_call (codeAny_mono (F.run X.A X.stack s H ⟨us,[]⟩ (us++ds) (vs++u7) Q E hr I.Py (hb s us I.qE hl) r2 h) fun r s' hq=>?_)
 cases r with
 | error e=>exact hx pins σ H s e s' I hq
 | ok fl =>
  cases fl with
  | ret u=>exact I.after hq
  | next=>exact ab8 hq
  | brk=>exact ab8 hq
  | cont=>exact ab8 hq
theorem JZ (F:aY X.prog X.w X.K X.mg X.base CX k f fd ps sp) (hr:dJ k X.A) (hg:Gl X x) (hm:X.mg x=some (.ref f)) (hk:acV X.K (.ref f)=true) (hb:Binds X.K fd ps ds) (hd:Vals u7 ds) (hx:Passes CX X E)
  (ha:PA X (e::es) t) (GO:(x == ("__debug__":Str))=false:=by decide) (he:starEach (e::es) X.env=(false,eval e X.env)::starEach es X.env:=by rfl) (hpl:(backTo pos (starEach es X.env)).any (·.1)=false:=by rfl) :
  PE X (.Call (.Name x p) (e::es) [] pos) (LZ sp u7 E t):=by
 intro pins s σ H Q I h
 refine wpAny_Call_Name_kw (xA I hg hm ?_ GO)
 refine adZ (h₀:=X.base) I.ok.mod.OM hk (thn (ha pos pins s σ H _ I h) fun us s1 ⟨vs,H1,I1,r,q⟩=>⟨I1.qE,?_⟩) he hpl
 exact Cg F hr hb hd hx I1 r q
theorem J0 {pl:Sem Bool} (he:PE X o ta) (c:BX X.K C) (hm:Meth X.K C m f) (F:aY X.prog X.w X.K X.mg X.base CX k f fd ps sp) (hr:dJ k X.A) (hb:Binds X.K fd ps ds) (hd:Vals u7 ds) (hx:Passes CX X E) (ha:PA X (e::es) t)
  (MV:starEach (e::es) X.env=(false,eval e X.env)::starEach es X.env:=by rfl) (hpl:(backTo pos (starEach es X.env)).any (·.1)=false:=by rfl)
  (ht:eval (.Call (.Attribute o m apos) (e::es) [] pos) X.env=(do
   let ov ← eval o X.env
   standAt apos.atName
   let (f,first) ← holding [ov] (getMethod ov m pl)
   callWith pos f first (backTo pos (starEach (e::es) X.env)) (backToKw pos (keywordEach [] X.env))):=by rfl) :
  PE X (.Call (.Attribute o m apos) (e::es) [] pos) (DN C m sp u7 E ta t):=by
 intro pins s σ H Q I h
 refine adC (pl:=pl) (thn (he pins s σ H _ I h) fun u s1 ⟨x,H1,I1,rx,a,dx,fs,ex,ea,l,q⟩=>?_) ht
 subst ex
 obtain rfl:u=abd a:=rx
 refine m5 I1 ea c hm l ?_
 refine adZ (first:=[.ref a]) (h₀:=X.base) I.ok.mod.OM hm.kp (thn (ha pos pins s1 σ H1 _ I1 q) fun us s2 ⟨vs,H2,I2,r,q2⟩=>⟨I2.qE,?_⟩) MV hpl
 exact Cg (us:=.ref a::us) (vs:=.ref a::vs) F hr hb hd hx I2 (.cons rfl r) q2
theorem GP {pl:Sem Bool} (he:PE X o ta) (c:BX X.K C) (hm:Meth X.K C m f) (F:aY X.prog X.w X.K X.mg X.base CX k f fd ps sp) (hr:dJ k X.A) (hb:Binds X.K fd ps ds) (hd:Vals u7 ds) (hx:Passes CX X E)
  (ht:eval (.Call (.Attribute o m apos) [] [] pos) X.env=(do
   let ov ← eval o X.env
   standAt apos.atName
   let (f,first) ← holding [ov] (getMethod ov m pl)
   callWith pos f first (backTo pos (starEach [] X.env)) (backToKw pos (keywordEach [] X.env))):=by rfl) :
  PE X (.Call (.Attribute o m apos) [] [] pos) (DN C m sp u7 E ta EV):=by
 intro pins s σ H Q I h
 refine adC (pl:=pl) (thn (he pins s σ H _ I h) fun u s1 ⟨x,H1,I1,rx,a,dx,fs,ex,ea,l,q⟩=>?_) ht
 subst ex
 obtain rfl:u=abd a:=rx
 refine m5 I1 ea c hm l ?_
 exact PySem.W.callWith_K0 (first:=[.ref a]) I1.qE hm.kp (Cg (us:=[.ref a]) (vs:=[.ref a]) F hr hb hd hx I1 (.cons rfl .nil) q)
structure Mk (K:aaa) (C f:aaD):Prop where
 makes:acI K C=true
 init:abR K (.ref C) "__init__"=some (some (.ref f))
 fn:afu K (.ref f)=true
 kp:acV K (.ref C)=true
theorem GQ {pins:List (aaD × Obj)} {σ:St} {H:Hp} {s:aak} {Q:VK} {us:List aae} {vs:List V} (M:Mk X.K C f) (F:aY X.prog X.w X.K X.mg X.base CX k f fd ps sp) (hr:dJ (k+1) X.A) (hb:Binds X.K fd ps ds) (hd:Vals u7 ds)
  (hx:Passes CX X E) (I:Inv X pins σ H s) (r:Vals vs us)
  (h:∀x dx,H x=none→H dx=none→dx≠x→sp (.ref x::(vs++u7)) (upd (upd H dx (.own x)) x (.ins C dx [])) (fun v H2=>v=.cU∧Q (.ref x) H2) E) :
  abb (model X.prog X.w) X.A (call (.ref C) us) (EP X pins σ Q) X.xe s:=by
 have hq:=h (s.heap.objs.size+1) s.heap.objs.size (I.hok.fresh (aei _)) (I.hok.fresh (aaf _)) (aaW (aes _))
 have I2:=Inv.made (C:=C) I
 have r2:Vals (V.ref (s.heap.objs.size+1)::(vs++u7)) (abd (s.heap.objs.size+1)::(us++ds)):=.cons rfl (r.append hd)
 have hl:(abd (s.heap.objs.size+1)::us++ds).length=ps.length:=by
  have e:=r2.length
  rw [F.len _ _ _ _ hq] at e
  exact e.symm
 refine wpAny_call (GK (f:=f) I.qE M.makes M.init (beq_iff_eq.mp M.fn) (codeAny_mono (F.run _ X.stack _ _ ⟨abd (s.heap.objs.size+1)::us,[]⟩ (abd (s.heap.objs.size+1)::(us++ds)) _ _ E (hr.make C us [])
  (I2.Py.make C us []) (hb _ (abd (s.heap.objs.size+1)::us) I2.qE hl) r2 hq) fun r s' hq'=>?_))
 cases r with
 | error e=>exact hx pins σ _ _ e s' I2 hq'
 | ok fl =>
  cases fl with
  | ret u =>
   obtain⟨v,H',I3,rv,ev,q3⟩:=I2.after hq'
   subst ev
   exact⟨rv,⟨V.ref (s.heap.objs.size+1),H',I3,rfl,q3⟩⟩
  | next=>exact ab8 hq'
  | brk=>exact ab8 hq'
  | cont=>exact ab8 hq'
theorem J1 (M:Mk X.K C f) (F:aY X.prog X.w X.K X.mg X.base CX k f fd ps sp) (hr:dJ (k+1) X.A) (hg:Gl X x) (hm:X.mg x=some (.ref C)) (hb:Binds X.K fd ps ds) (hd:Vals u7 ds) (hx:Passes CX X E)
  (ha:PA X (e::es) t) (GO:(x == ("__debug__":Str))=false:=by decide) (he:starEach (e::es) X.env=(false,eval e X.env)::starEach es X.env:=by rfl) (hpl:(backTo pos (starEach es X.env)).any (·.1)=false:=by rfl) :
  PE X (.Call (.Name x p) (e::es) [] pos) (L1 C sp u7 E t):=by
 intro pins s σ H Q I h
 refine wpAny_Call_Name_kw (xA I hg hm ?_ GO)
 refine adZ (h₀:=X.base) I.ok.mod.OM M.kp (thn (ha pos pins s σ H _ I h) fun us s1 ⟨vs,H1,I1,r,q⟩=>⟨I1.qE,?_⟩) he hpl
 exact GQ M F hr hb hd hx I1 r q
end
section
variable {X:Cx} {CX:GN} {k:Nat} {f C:aaD} {fd:abo} {ps ks:List Str} {sp:Sp} {E:XK} {x m:Str} {p pos apos YU:Pos} {e o:Expr} {es:List Expr} {kws:List Keyword} {te ta:TE} {t tk:TA} {nm:Option Str}
variable {g:List aae→List aae→List aae} {gV:List V→List V→List V}
end
structure ax (N P:List Str) (sc:Scope):Prop where
 kind:sc.kind=.function
 co:sc.isCoroutine=false
 gen:sc.isGenerator=false
 nd:N.Nodup
 pre:N.take P.length=P
 par:∀x∈P,sc.names.lookup x=some .local∨sc.names.lookup x=some .cell
 M4:∀y∈sc.names,y.2≠.free
theorem wg {kindOf:Str→Option NameKind} {x:Str}:∀{binds:List (Str × aae)} {m:Str→Option aae},(∀v,(x,v)∉binds)→bindL kindOf binds m x=m x
 | [],_,_=>rfl
 | (n,v)::r,m,h=>by
  unfold bindL
  rw [wg fun w hw=>h w (aan _ hw)]
  split
  ·have:x≠n:=by rintro rfl;exact h v aaN
   simp [this]
  ·rfl
theorem wj {kindOf:Str→Option NameKind} {x:Str}:∀{binds:List (Str × aae)} {m:Str→Option aae},(∀v,(x,v)∉binds)→bindC kindOf binds m x=m x
 | [],_,_=>rfl
 | (n,v)::r,m,h=>by
  unfold bindC
  rw [wj fun w hw=>h w (aan _ hw)]
  split
  ·rfl
  ·have:x≠n:=by rintro rfl;exact h v aaN
   simp [this]
theorem wm {kindOf:Str→Option NameKind} {x:Str} {v:aae}:∀{P:List Str} {vs:List aae} {i:Nat} {m:Str→Option aae},P.Nodup→P[i]?=some x→vs[i]?=some v→kindOf x=some .local →
  bindL kindOf (P.zip vs) m x=some v
 | [],_,_,_,_,h,_,_=>by simp at h
 | _::_,[],_,_,_,_,h,_=>by simp at h
 | p::P,w::vs,0,m,nd,h1,h2,hk=>by
  simp at h1 h2;subst h1;subst h2
  show bindL kindOf ((p,w)::P.zip vs) m p=_
  unfold bindL
  rw [wg fun v hv=>(ack.mp nd).1 (adi hv).1,if_pos hk]
  simp
 | p::P,w::vs,i+1,m,nd,h1,h2,hk=>by
  show bindL kindOf ((p,w)::P.zip vs) m x=_
  unfold bindL
  exact wm (i:=i) (ack.mp nd).2 (by simpa using h1) (by simpa using h2) hk
theorem wo {kindOf:Str→Option NameKind} {x:Str} {v:aae}:∀{P:List Str} {vs:List aae} {i:Nat} {m:Str→Option aae},P.Nodup→P[i]?=some x→vs[i]?=some v→kindOf x≠some .local →
  bindC kindOf (P.zip vs) m x=some v
 | [],_,_,_,_,h,_,_=>by simp at h
 | _::_,[],_,_,_,_,h,_=>by simp at h
 | p::P,w::vs,0,m,nd,h1,h2,hk=>by
  simp at h1 h2;subst h1;subst h2
  show bindC kindOf ((p,w)::P.zip vs) m p=_
  unfold bindC
  rw [wj fun v hv=>(ack.mp nd).1 (adi hv).1,if_neg hk]
  simp
 | p::P,w::vs,i+1,m,nd,h1,h2,hk=>by
  show bindC kindOf ((p,w)::P.zip vs) m x=_
  unfold bindC
  exact wo (i:=i) (ack.mp nd).2 (by simpa using h1) (by simpa using h2) hk
def start (N:List Str) (vs:List V):St:=vs.map some++aam (N.length - vs.length) none
def EW (CX:GN) (P:aa4) (w:abu) (K:aaa) (mg:Str→Option aae) (base:Heap) (N:List Str) (qual:Str) (scope:Scope) (f:aaD) (cd:aae) (A:abC) (outer:List Env) (s:aak) (H:Hp) (E:XK):Cx where
 prog:=P
 w:=w
 K:=K
 mg:=mg
 base:=base
 A:=A.deeper (envOfC qual scope s.heap.objs.size f cd)
 N:=N
 s₀:=s
 H₀:=H
 env:=envOfC qual scope s.heap.objs.size f cd
 outer:=outer
 stack:=envOfC qual scope s.heap.objs.size f cd::outer
 ex:=[]
 calm:=true
 fn:=fun _=>true
 pn:=[]
 xe:=fun e s'=>abb (model P w) (A.deeper (envOfC qual scope s.heap.objs.size f cd)) (leaving (envOfC qual scope s.heap.objs.size f cd) e) (fun _ M5=>CX outer H s E e M5) (fun e' M5=>CX outer H s E e' M5) s'
theorem Aj {sc:Scope} {n:Nat} {x:Str} (h:sc.names.lookup x=some .cell):∃c,(cellsFrom n sc.names []).lookup x=some c:=by
 have q:=aey sc.names n [] (.inl h)
 exact abj.mp q
theorem EX {CX:GN} {P:aa4} {w:abu} {K:aaa} {mg:Str→Option aae} {base:Heap} {N ps:List Str} {qual:Str} {scope:Scope} {f:aaD} {cd:aae} {A:abC} {outer:List Env} {s s1:aak} {H:Hp} {E:XK} {us:List aae} {vs:List V}
  (S:ax N ps scope) (hd:A.handled=none) (e0:Cf P w K mg base A outer s H) (hl:vs.length=ps.length) (r:Vals vs us)
  (x:InCallC s s.heap.objs.size (bindL (envOfC qual scope s.heap.objs.size f cd).kindOf (ps.zip us) fun _=>none) (cellsFrom (s.heap.objs.size+1) scope.names []) (bindC (envOfC qual scope s.heap.objs.size f cd).kindOf (ps.zip us) fun _=>none) s1) :
  Inv (EW CX P w K mg base N qual scope f cd A outer s H E) [] (start N vs) H s1:=by
 have hpl:ps.length≤N.length:=by have:=congrArg ae3 S.pre;rw [aaF] at this;omega
 obtain⟨h1,tk,rfl,hk⟩:=x.done
 have Pz:∀b:aaD,b∉(EW CX P w K mg base N qual scope f cd A outer s H E).ex:=fun b z=>absurd (show b∈([]:List aaD) from z) (by simp)
 refine⟨⟨e0.mod,S.kind,rfl,rfl,aaf _,fun y z c h1 h2=>?_,fun y hy=>?_,fun y c _ h=>?_,fun _=>hd,Around.frames_deeper e0.frames,.inr ⟨rfl,rfl⟩,fun b z=>absurd z (Pz b),e0.bs,e0.EM,fun b _ _=>Pz b,fun b z=>absurd z (Pz b),e0.rm,e0.MR⟩,
  rfl,e0.bare,Un.kept hk,⟨_,x.toInCall.ns,fun i y v h1 h2 h3=>?_⟩,fun y c h=>⟨_,x.cell y c h⟩,e0.hok.fresh (aaf _),fun y c h=>?_,fun p hp=>absurd (show p∈([]:List (aaD × Obj)) from hp) (by simp),e0.hok.kept hk,?_⟩
 ·exact name_of_addr x.apart (aa6 h1) (aa6 h2)
 ·have hy:scope.names.lookup y=some .cell∨scope.names.lookup y=some .free:=hy
  rcases hy with hy|hy
  ·exact Aj hy
  ·exact absurd rfl (S.M4 _ (aa6 hy))
 ·exact aeG (x.above y c (aa6 h))
 ·have hi:i<vs.length:=by
   unfold start at h2
   by_cases hi:i<vs.length
   ·exact hi
   ·rw [abO (by simpa using hi)] at h2
    rw [abW] at h2
    split at h2 <;> cases h2
  have ha:vs[i]?=some v:=by
   unfold start at h2
   rw [acW (by simpa using hi),aaq] at h2
   cases e:vs[i]? with
   | none=>rw [e] at h2;cases h2
   | some a=>rw [e] at h2;cases h2;rfl
  obtain⟨u,hu,rv⟩:=r.get ha
  have hp:ps[i]?=some y:=by
   rw [← S.pre,List.getElem?_take_of_lt (by omega)];exact h1
  have W5:ps.Nodup:=by rw [← S.pre];exact S.nd.sublist (List.take_sublist _ _)
  refine⟨u,rv,?_⟩
  rcases S.par y (abr hp) with k|k
  ·exact .inl ⟨k,wm W5 hp hu k⟩
  ·obtain⟨c,e⟩:=Aj (n:=s.heap.objs.size+1) k
   refine .inr ⟨.inl k,c,e,?_⟩
   have q:=x.cell y c e
   rw [wo W5 hp hu (by show scope.names.lookup y≠_;rw [k];decide)] at q
   exact q
 ·exact e0.hok.fresh (aeG (x.above y c (aa6 h)))
 ·unfold start
  show _=N.length
  rw [aab,Lm9,aaU]
  omega
theorem PB {CX:GN} {P:aa4} {w:abu} {K:aaa} {mg:Str→Option aae} {base:Heap} {k:Nat} {f:aaD} {name qual:Str} {params:Arguments} {body:List Stmt} {scope:Scope} {dV kV doc pm cx ct oc:aae} {an od:Option aaD}
  {L3:Array (Option aae)} {N ps:List Str} {sp:Sp} (lk:K.lookup f=some ⟨oc,od,.func (acu name qual params body scope dV kV doc pm an cx ct),L3⟩) (hcd:ad7 K cx qual=true) (S:ax N ps scope)
  (len:∀vs H Q E,sp vs H Q E→vs.length=ps.length)
  (GR:∀(A:abC) (outer:List Env) (s:aak) (H:Hp) (vs:List V) (Q:VK) (E:XK),dJ k (A.deeper (envOfC qual scope s.heap.objs.size f cx))→sp vs H Q E →
   ∃t,DI (EW CX P w K mg base N qual scope f cx A outer s H E) body t∧t { nx:=fun _ H'=>Q .cU H',rt:=Q } (start N vs) H) :
  aY P w K mg base CX (k+1) f (acu name qual params body scope dV kV doc pm an cx ct) ps sp:=by
 refine⟨len,fun A outer s H args us vs Q E hr e0 hb r DO=>?_⟩
 have hl:=len _ _ _ _ DO
 have KX:K.In s.heap:=e0.mod.OM.keeps fun b o e=>(e0.bs b o e).1
 have lim:s.heap.NoLimit:=e0.mod.nolimit.keeps fun b o e=>(e0.bs b o e).1
 have hkind:∀y∈ps.zip us,scope.names.lookup y.1=some .local∨(scope.names.lookup y.1=some .cell∧((cellsFrom (s.heap.objs.size+1) scope.names []).lookup y.1).isSome=true):=fun⟨n,v⟩ hy=>by
  rcases S.par n (adi hy).1 with q|q
  ·exact .inl q
  ·exact .inr ⟨q,aey _ _ _ (.inl q)⟩
 refine codeAny_call_function hr.depth (KX _ _ lk) rfl S.co S.gen rfl (PySem.W.codeRec_of KX hcd) (hb _ _ _ _ ?_)
 refine wpAny_newFunctionEnv_cells S.kind hkind fun env he s1 x=>?_
 subst he
 refine⟨lim.keeps x.toInCall.keep,codeAny_func ?_⟩
 obtain⟨t,ht,hq⟩:=GR A outer s H vs Q E (hr.deeper _) DO
 have I:Inv (EW CX P w K mg base N qual scope f cx A outer s H E) [] (start N vs) H s1:=EX S hr.hd e0 hl r x
 refine wpAny_mono (ht [] s1 (start N vs) H _ I hq) (fun fl s' hs=>?_) fun e s' hs=>hs
 have fin:∀{σ':St} {H':Hp} {v:V} {u:aae},Inv (EW CX P w K mg base N qual scope f cx A outer s H E) [] σ' H' s'→RelV v u→Q v H'→CE outer P w H s Q u s' :=
  fun {σ' H' v u} J rv q=>⟨v,H',J.os,J.bare,J.base,J.hok,rv,q⟩
 cases fl with
 | ret u =>
  obtain⟨v,σ',H',J,rv,q⟩:=hs
  exact fin J rv q
 | next =>
  obtain⟨σ',H',J,q⟩:=hs
  exact fin (v:=V.cU) (u:=aeT) J rfl q
 | brk =>
  obtain⟨_,_,_,q⟩:=hs
  exact ab8 q
 | cont =>
  obtain⟨_,_,_,q⟩:=hs
  exact ab8 q
section
variable {X:Cx} {x:Str} {p pos:Pos} {e:Expr} {es:List Expr} {t:TA} {id T:String} {r:List V→Hp→VK→Prop}
def W6 (r:List V→Hp→VK→Prop) (t:TA):TE:=fun σ H Q=>t σ H fun vs H1=>r vs H1 Q
theorem aE (hc:fT X (.builtin id) r) (hg:Gl X x) (hm:X.mg x=none) (hv:bootBuiltins x=some (.builtin id)) (ha:PA X (e::es) t) (hn:x≠"__name__":=by decide) (GO:(x == ("__debug__":Str))=false:=by decide)
  (he:starEach (e::es) X.env=(false,eval e X.env)::starEach es X.env:=by rfl) (hpl:(backTo pos (starEach es X.env)).any (·.1)=false:=by rfl):PE X (.Call (.Name x p) (e::es) [] pos) (W6 r t):=by
 intro pins s σ H Q I h
 refine wpAny_Call_Name_kw (jR I hg hm hv ?_ hn GO)
 exact PyProof.Rows.callWith_builtin1 (thn (ha pos pins s σ H _ I h) fun us s1 ⟨vs,H1,I1,r1,q1⟩=>hc pins s1 σ H1 vs us Q I1 r1 q1) he hpl
theorem fO (hc:fT X (.type T) r) (hg:Gl X x) (hm:X.mg x=none) (hv:bootBuiltins x=some (.type T)) (ha:PA X (e::es) t) (hn:x≠"__name__":=by decide) (GO:(x == ("__debug__":Str))=false:=by decide)
  (he:starEach (e::es) X.env=(false,eval e X.env)::starEach es X.env:=by rfl) (hpl:(backTo pos (starEach es X.env)).any (·.1)=false:=by rfl):PE X (.Call (.Name x p) (e::es) [] pos) (W6 r t):=by
 intro pins s σ H Q I h
 refine wpAny_Call_Name_kw (jR I hg hm hv ?_ hn GO)
 exact abx (thn (ha pos pins s σ H _ I h) fun us s1 ⟨vs,H1,I1,r1,q1⟩=>hc pins s1 σ H1 vs us Q I1 r1 q1) he hpl
end
end L2
namespace HT
open PySem PyProof.Rows
section
open PySem.SeqAt
open PySem.AutoSeq1 (wpAny_loadPart')
open PySem.MeetsSeq PySem.MeetsSeq2 PySem.MeetsSeq3
end
section
variable {prog:aa4} {w:abu} {A:abC} {E:aae→aak→Prop} {s:aak}
def dm (n d:Nat):Option Int→Nat
 | none=>d
 | some v=>if v<0 then (v+(n:Int)).toNat else min v.toNat n
theorem GS (n d:Nat):dm n d none=d:=rfl
theorem xF (n d k:Nat):dm n d (some (k:Int))=min k n:=by
 show(if (k:Int)<0 then ((k:Int)+(n:Int)).toNat else min (k:Int).toNat n)=min k n
 rw [if_neg (by omega),Int.toNat_natCast]
theorem M6 (n d:Nat) (hd:d≤n) (o:Option Int):dm n d o≤n:=by
 cases o with
 | none=>exact hd
 | some v =>
  show(if v<0 then (v+(n:Int)).toNat else min v.toNat n)≤n
  by_cases hv:v<0
  ·rw [if_pos hv];omega
  ·rw [if_neg hv];exact Nat.min_le_right _ _
theorem DP (v:Int) (n d:Nat):(if v<0 then max (v+(n:Int)) 0 else min v (n:Int))=((dm n d (some v):Nat):Int):=by
 show(if v<0 then max (v+(n:Int)) 0 else min v (n:Int))=(((if v<0 then (v+(n:Int)).toNat else min v.toNat n):Nat):Int)
 by_cases hv:v<0
 ·simp only [if_pos hv];omega
 ·simp only [if_neg hv];omega
theorem Ci (lo hi:Option Int) (n:Nat):acX lo hi 1 (n:Int)=(((dm n 0 lo:Nat):Int),((dm n n hi:Nat):Int)):=by
 have h1:¬ ((1:Int)<0):=by omega
 unfold acX
 simp only [h1,if_false]
 refine Prod.ext ?_ ?_
 ·cases lo with
  | none=>rfl
  | some v=>exact DP v n 0
 ·cases hi with
  | none=>rfl
  | some v=>exact DP v n n
theorem Cj (i j:Nat):ace (i:Int) (j:Int) 1=j - i:=by
 unfold ace
 have h1:(1:Int) > 0:=by omega
 simp only [h1,if_true,Int.ediv_one]
 split <;> omega
theorem sN {v:aae} {o:Option Int} {Q:Option Int→aak→Prop} (p:IsPart v o) (h:Q o s):abb (model prog w) A (Builtin.Slice.slicePartIndex v) Q E s:=by
 cases p with
 | none=>exact slicePart_none h
 | int i t=>exact slicePart_int h
theorem ix {sl:aaD} {vl vu:aae} {lo hi:Option Int} {n:Nat} {Q:Int × Int × Nat→aak→Prop} (hs:s.heap.IsSliceOf sl vl vu .none) (pl:IsPart vl lo) (pu:IsPart vu hi)
  (h:Q (((dm n 0 lo:Nat):Int),1,dm n n hi - dm n 0 lo) s):abb (model prog w) A (adX (.ref sl) (pure (n:Int))) Q E s:=by
 obtain⟨os,EY,OO,PD⟩:=id hs
 unfold adX Builtin.Slice.sliceFields
 refine aap (aap (wpAny_field EY PD (x:=vl) rfl (aap (wpAny_field EY PD (x:=vu) rfl (aap (wpAny_field EY PD (x:=.none) rfl (aaP ?_)))))))
 refine aap (slicePart_none ?_)
 show abb _ _ (if ((1:Int) == 0)=true then _ else _) _ _ s
 rw [if_neg (by decide)]
 refine aap (sN pl (aap (sN pu (aap (aaP ?_)))))
 show abb _ _ (match acX lo hi 1 (n:Int) with|(lo,hi)=>pure (lo,(1:Int),ace lo hi 1)) _ _ s
 rw [Ci lo hi n]
 show abb _ _ (pure (((dm n 0 lo:Nat):Int),(1:Int),ace ((dm n 0 lo:Nat):Int) ((dm n n hi:Nat):Int) 1)) _ _ s
 rw [Cj]
 exact aaP h
theorem GU (xs:Array aae) (i k:Nat):((aal k).filterMap fun(m:Nat)=>xs[((i:Int)+(m:Int) * 1).toNat]?).toArray=((xs.toList.drop i).take k).toArray:=by
 have e:(fun(m:Nat)=>xs[((i:Int)+(m:Int) * 1).toNat]?)=fun m=>xs[i+m]?:=by
  funext m
  have:((i:Int)+(m:Int) * 1).toNat=i+m:=by omega
  rw [this]
 rw [e]
 have:=pick_run xs i k
 rw [List.filterMap_map] at this
 have e2:((fun x=>xs[x]?) ∘ fun x=>i+x)=fun m=>xs[i+m]?:=rfl
 rw [e2] at this
 rw [this]
theorem nT {t sl:aaD} {items:Array aae} {vl vu:aae} {lo hi:Option Int} {Q:aae→aak→Prop} (ht:IsTup s.heap t items) (hs:s.heap.IsSliceOf sl vl vu .none) (pl:IsPart vl lo) (pu:IsPart vu hi)
  (hw:¬ (dm items.size 0 lo=0∧dm items.size items.size hi=items.size))
  (h:Q (.ref s.heap.objs.size) { s with heap:=s.heap.push { cls:=.type "tuple",data:=.seq ((items.toList.drop (dm items.size 0 lo)).take (dm items.size items.size hi - dm items.size 0 lo)).toArray } })
  (hsz:items.size≤aao):abb (model prog w) A (getItem (.ref t) (.ref sl)) Q E s:=by
 have DQ:sizeOk (.seq ((items.toList.drop (dm items.size 0 lo)).take (dm items.size items.size hi - dm items.size 0 lo)).toArray):=by
  show((items.toList.drop (dm items.size 0 lo)).take (dm items.size items.size hi - dm items.size 0 lo)).toArray.size≤aao
  rw [aau,aaF,aa9,acy]
  omega
 have hj:dm items.size items.size hi≤items.size:=M6 _ _ (aaf _) hi
 obtain⟨os,EY,OO,PD⟩:=id hs
 have TU:s.TypeIs (.ref sl) "slice":=⟨os,EY,OO⟩
 unfold getItem
 try with_reducible refine wpAny_holding ?_
 first|refine aap (aaP ?_)|skip
 refine aap (wpAny_sequenceKey ht.typeIs (by decide) ?_)
 refine aap (wpAny_callSpecial?_slot (name:=aac "__getitem__") ht.typeIs abv
  (wpAny_call_entry abv ht.typeIs entry_tuple_getitem ?_ (args_tuple_getitem _ _)))
 show abb _ _ (adY (.ref t) >>= _) _ _ s
 refine aap (tupleItemsOf_ ht ?_)
 refine aap (wpAny_typeOf TU ?_)
 rw [if_pos (by decide)]
 refine aap (ix hs pl pu ?_)
 have M7:¬ ((((dm items.size 0 lo:Nat):Int) == 0 && (1:Int) == 1 && (dm items.size items.size hi - dm items.size 0 lo) == items.size)=true):=by
  intro q
  rw [abc,abc] at q
  have q1:((dm items.size 0 lo:Nat):Int)=0:=eq_of_beq q.1.1
  have q2:dm items.size items.size hi - dm items.size 0 lo=items.size:=eq_of_beq q.2
  exact hw ⟨by omega,by omega⟩
 show abb _ _ (if (((dm items.size 0 lo:Nat):Int) == 0 && (1:Int) == 1 && (dm items.size items.size hi - dm items.size 0 lo) == items.size)=true then _ else _) _ _ s
 rw [if_neg M7,GU]
 first
  | exact aap (m:=acm _) (wpAny_newObj_type (aaP ⟨_,rfl,aaP h⟩) DQ)
  | exact aap (m:=acm _) (wpAny_newObj_type (aap (aaP (aaP ⟨_,rfl,aaP h⟩))) DQ)
  | exact aap (aap (m:=acm _) (wpAny_newObj_type (aaP (aaP ⟨_,rfl,aaP h⟩)) DQ))
  | exact aap (aap (m:=acm _) (wpAny_newObj_type (aaP ⟨_,rfl,aaP h⟩) DQ))
end
end HT
namespace L2
open PySem PySem.Spec PyProof.Rows
abbrev TO:=St→Hp→(Option Int→Hp→Prop)→Prop
def PO (X:Cx) (e:Option Expr) (t:TO):Prop :=
 ∀(pins:List (aaD × Obj)) (s:aak) (σ:St) (H:Hp) (Q:Option Int→Hp→Prop),Inv X pins σ H s→t σ H Q →
  abb (model X.prog X.w) X.A (evalPart e X.env) (fun u s'=>∃o H',Inv X pins σ H' s'∧IsPart u o∧Q o H') X.xe s
def J2:TO:=fun _ H Q=>Q none H
def PF (t:TE):TO:=fun σ H Q=>t σ H fun x H1=>∃i,x=.int i∧Q (some i) H1
section
variable {X:Cx} {e:Expr} {te:TE} {lo hi:Option Expr} {tl th:TO} {pos p2:Pos}
theorem iN:PO X none J2:=by
 intro pins s σ H Q I h
 rw [evalPart_none]
 exact aaP ⟨none,H,I,.none,h⟩
theorem dM (h:PE X e te):PO X (some e) (PF te):=by
 intro pins s σ H Q I hw
 rw [evalPart_some]
 refine thn (h pins s σ H _ I hw) fun u s1 ⟨x,H1,I1,r1,q1⟩=>?_
 obtain⟨i,rfl,q⟩:=q1
 obtain⟨t,rfl⟩:=r1
 exact⟨some i,H1,I1,.int i t,q⟩
def PH (X:Cx) (r:V→Option Int→Option Int→Hp→VK→Prop):Prop :=
 ∀(pins:List (aaD × Obj)) (s:aak) (σ:St) (H:Hp) (x:V) (v vl vu:aae) (lo hi:Option Int) (sl:aaD) (Q:VK),Inv X pins σ H s→RelV x v→s.heap.IsSliceOf sl vl vu .none→IsPart vl lo→IsPart vu hi→r x lo hi H Q →
  ∃T id,typeLookup (.type T) "__getitem__"=pure (some (.builtin id))∧s.TypeIs v T∧abb (model X.prog X.w) X.A (getItem v (.ref sl)) (EP X pins σ Q) X.xe s
def YV (r:V→Option Int→Option Int→Hp→VK→Prop) (te:TE) (tl th:TO):TE:=fun σ H Q=>te σ H fun x H1=>tl σ H1 fun l H2=>th σ H2 fun u H3=>r x l u H3 Q
theorem dN {r:V→Option Int→Option Int→Hp→VK→Prop} (hr:PH X r) (he:PE X e te) (hl:PO X lo tl) (hu:PO X hi th):PE X (.Subscript e (.Slice lo hi none p2) pos) (YV r te tl th):=by
 intro pins s σ H Q I h
 refine Subscript_ (thn (he pins s σ H _ I h) fun v s1 ⟨x,H1,I1,r1,q1⟩=>?_)
 refine wpAny_Slice (thn (hl pins s1 σ H1 _ I1 q1) fun vl s2 ⟨l,H2,I2,pl,q2⟩=>thn (hu pins s2 σ H2 _ I2 q2) fun vu s3 ⟨u,H3,I3,pu,q3⟩=>?_)
 rw [evalPart_none]
 refine aaP ?_
 have I4:Inv X pins σ H3 { s3 with heap:=s3.heap.push { cls:=.type "slice",data:=.fields #[vl,vu,.none] } }:=I3.kept (t':=s3.toks) fun b ob q=>aag _ q
 obtain⟨T,id,hT,ht,hg⟩:=hr pins { s3 with heap:=s3.heap.push { cls:=.type "slice",data:=.fields #[vl,vu,.none] } } σ H3 x v vl vu l u s3.heap.objs.size Q I4 r1 (Heap.IsSliceOf.new ..) pl pu q3
 show abb (model X.prog X.w) X.A (subscriptTail e (.Slice lo hi none p2) v (.ref s3.heap.objs.size)) (EP X pins σ Q) X.xe { s3 with heap:=s3.heap.push { cls:=.type "slice",data:=.fields #[vl,vu,.none] } }
 exact tail_any (ops:=[.ref s3.heap.objs.size,v]) ht hT hg (by with_unfolding_all rfl)
def gC (xs:List V) (lo hi:Option Int):List V:=(xs.drop (HT.dm xs.length 0 lo)).take (HT.dm xs.length xs.length hi - HT.dm xs.length 0 lo)
theorem jV (xs:List V) (lo hi:Option Int):(gC xs lo hi).length≤xs.length:=by
 unfold gC
 rw [aaF,aa9]
 omega
def TV (K:aaa):V→Option Int→Option Int→Hp→VK→Prop:=fun x lo hi H Q=>∃a xs,x=.ref a∧b8 K H a xs ∧
 ¬ (HT.dm xs.length 0 lo=0∧HT.dm xs.length xs.length hi=xs.length)∧∀p,H p=none→Q (.ref p) (upd H p (.tup (gC xs lo hi)))
theorem M8:PH X (TV X.K):=by
 intro pins s σ H x v vl vu lo hi sl Q I rx hs pl pu h
 obtain⟨a,xs,rfl,hx,hw,q⟩:=h
 cases rx
 obtain⟨its,r,ht,hz⟩:=I.tuple hx
 have hlen:its.toArray.size=xs.length:=by rw [aau];exact r.length.symm
 refine⟨"tuple",_,abv.lookup,ht.typeIs,?_⟩
 refine HT.nT ht hs pl pu (by rw [hlen];exact hw) ?_ (by rw [hlen];exact hz)
 rw [hlen]
 refine⟨.ref s.heap.objs.size,_,I.laid (t':=s.toks) (o:=.tup (gC xs lo hi)) (fun b ob q=>aag _ q) (aaf _) ?_,rfl,q _ (I.hok.fresh (aaf _))⟩
 exact⟨aa5 (jV xs lo hi) hz,_,(r.drop (HT.dm xs.length 0 lo)).take (HT.dm xs.length xs.length hi - HT.dm xs.length 0 lo),IsTup.new _ _⟩
end
def GV (n:Nat) (i:Int):Option Nat:=if 0≤i then (if i<n then some i.toNat else none) else if -(n:Int)≤i then some (i+n).toNat else none
def qG {α:Type} (xs:List α) (i:Int):Option α:=(GV xs.length i).bind fun j=>xs[j]?
theorem DR {n:Nat} {i:Int} {j:Nat} (h:GV n i=some j):seqIndex? i n=some j∧j<n∧-(n:Int)≤i∧i<n:=by
 unfold GV at h
 by_cases h0:0≤i
 ·rw [if_pos h0] at h
  by_cases h1:i<n
  ·rw [if_pos h1] at h
   have e:i.toNat=j:=aaR h
   exact⟨by rw [seqIndex_of h0 h1,e],by omega,by omega,h1⟩
  ·rw [if_neg h1] at h;cases h
 ·rw [if_neg h0] at h
  by_cases h1:-(n:Int)≤i
  ·rw [if_pos h1] at h
   have e:(i+n).toNat=j:=aaR h
   exact⟨by rw [seqIndex_neg (by omega) h1,e],by omega,h1,by omega⟩
  ·rw [if_neg h1] at h;cases h
theorem xG {α:Type} {xs:List α} {i:Int} {v:α} (h:qG xs i=some v):∃j,seqIndex? i xs.length=some j∧xs[j]?=some v∧j<xs.length∧-(xs.length:Int)≤i∧i<xs.length:=by
 unfold qG at h
 cases e:GV xs.length i with
 | none=>rw [e] at h;cases h
 | some j =>
  rw [e] at h
  obtain⟨h1,h2,h3,h4⟩:=DR e
  exact⟨j,h1,h,h2,h3,h4⟩
theorem bf {α:Type} {xs:List α} {j:Nat} {v:α} (h:xs[j]?=some v):qG xs (j:Int)=some v:=by
 have hj:j<xs.length:=(aar.mp h).1
 have e:GV xs.length (j:Int)=some j:=by
  unfold GV
  rw [if_pos (by omega),if_pos (by omega)];simp
 unfold qG;rw [e];exact h
def J3 (b:Expr):Prop:=∀o i,subscripted b false o i=operate [o,i] (getItem o i)
def Ss (X:Cx) (r:R2):Prop :=
 ∀(value slice:Expr) (pins:List (aaD × Obj)) (s:aak) (σ:St) (H:Hp) (x y:V) (v u:aae) (Q:VK),Inv X pins σ H s→RelV x v→RelV y u→r x y H Q →
  subscripted slice false v u=operate [v,u] (getItem v u)→abb (model X.prog X.w) X.A (subscriptTail value slice v u) (EP X pins σ Q) X.xe s
def L4 (X:Cx) (id:String) (r:V→List V→Hp→VK→Prop):Prop :=
 ∀(pins:List (aaD × Obj)) (s:aak) (σ:St) (H:Hp) (x:V) (xs:List V) (v:aae) (us:List aae) (Q:VK),Inv X pins σ H s→RelV x v→Vals xs us→r x xs H Q →
  abb (model X.prog X.w) X.A (call (.builtin id) (v::us)) (EP X pins σ Q) X.xe s
section
variable {X:Cx} {a b:Expr} {ta tb:TE} {pos:Pos}
theorem aw {r:R2} (hr:Ss X r) (ha:PE X a ta) (hb:PE X b tb) (hs:J3 b):PE X (.Subscript a b pos) (Sq r ta tb):=by
 intro pins s σ H Q I h
 exact Subscript_ (MY ha hb I h fun v u s2 x y H2 I2 rx ry q=>hr a b pins s2 σ H2 x y v u Q I2 rx ry q (hs _ _))
def Ck (K:aaa):R2:=fun x y H Q=>∃p xs i v,x=.ref p∧y=.int i∧aB K H p xs∧qG xs i=some v∧Q v H
def rn (K:aaa):R2:=fun x y H Q=>∃p xs i v,x=.ref p∧y=.int i∧b8 K H p xs∧qG xs i=some v∧Q v H
def TY:R2:=fun x y H Q=>∃z i c,x=.str z∧y=.int i∧z.length≤aao∧qG z.cps.toList i=some c∧Q (.str ⟨#[c]⟩) H
theorem az:Ss X (Ck X.K):=by
 intro value slice pins s σ H x y v u Q I rx ry h hs
 obtain⟨p,xs,i,z,rfl,rfl,hq,he,q⟩:=h
 cases rx
 obtain⟨t,rfl⟩:=ry
 obtain⟨its,r,pl,hz⟩:=I.list hq
 obtain⟨j,h1,h2,h3,h4,h5⟩:=xG he
 obtain⟨w,ew,Cm⟩:=r.get h2
 have hl:=r.length
 have hn:=pE
 have fin:EP X pins σ Q w s:=⟨z,H,I,Cm,q⟩
 by_cases h0:0≤i
 ·have hj:i.toNat=j:=by
   rw [seqIndex_of h0 h5] at h1
   exact aaR h1
  exact item_listR pl.isList h0 (by omega) (by rw [hj];simpa using ew) fin hs
 ·have hj:(i+(its.toArray.size:Int)).toNat=j:=by
   rw [seqIndex_neg (by omega) h4] at h1
   rw [aau,← hl]
   exact aaR h1
  exact subscriptTail_builtinR (x:=w) pl.isList.typeIs slot_list_getitem.lookup
   (wpAny_getItem_list_neg (Q:=fun r s'=>r=w∧EP X pins σ Q r s') pl.isList (by omega) (by rw [aau] <;> omega) (by omega) (by rw [hj];simpa using ew) ⟨rfl,fin⟩) hs
theorem aN:Ss X (rn X.K):=by
 intro value slice pins s σ H x y v u Q I rx ry h hs
 obtain⟨p,xs,i,z,rfl,rfl,hq,he,q⟩:=h
 cases rx
 obtain⟨t,rfl⟩:=ry
 obtain⟨its,r,pl,hz⟩:=I.tuple hq
 obtain⟨j,h1,h2,h3,h4,h5⟩:=xG he
 obtain⟨w,ew,Cm⟩:=r.get h2
 have hl:=r.length
 have hn:=pE
 have fin:EP X pins σ Q w s:=⟨z,H,I,Cm,q⟩
 exact subscriptTail_builtinR (x:=w) pl.typeIs slot_tuple_getitem.lookup
  (getItem_tuple (j:=j) (Q:=fun r s'=>r=w∧EP X pins σ Q r s') pl (by omega) (by omega) (by rw [aau,← hl];exact h1) (by simpa using ew) ⟨rfl,fin⟩) hs
theorem pH:Ss X TY:=by
 intro value slice pins s σ H x y v u Q I rx ry h hs
 obtain⟨z,i,c,rfl,rfl,hz,he,q⟩:=h
 obtain⟨t,rfl⟩:=rx
 obtain⟨t',rfl⟩:=ry
 obtain⟨j,h1,h2,h3,h4,h5⟩:=xG he
 have hl:z.cps.toList.length=z.length:=by simp [Str.length]
 rw [hl] at h1 h4 h5
 have hn:=pE
 exact tail_any (typeIs_str s z t) slot_str_getitem.lookup (getItem_str (c:=c) (by
  have e1:decide (i < -(2 ^ 63:Int))=false:=decide_eq_false (by omega)
  have e2:decide (i≥2 ^ 63)=false:=decide_eq_false (by omega)
  rw [e1,e2,Bool.or_false]) (by rw [h1];simpa using h2) ⟨.str ⟨#[c]⟩,H,I.tok _,⟨_,rfl⟩,q⟩) hs
theorem Cn (its:List aae) (n j:Nat) (u:aae):ady (·.setIfInBounds j u) { cls:=.type "list",data:=.seq its.toArray n }={ cls:=.type "list",data:=.seq (its.set j u).toArray n }:=by
 simp [ady]
theorem Inv.lst {pins:List (aaD × Obj)} {σ:St} {H:Hp} {s:aak} {p:aaD} {xs:List V} (I:Inv X pins σ H s) (h:H p=some (.lst xs)) :
  ∃(its:List aae) (n:Nat),Vals xs its∧s.heap.get? p=some { cls:=.type "list",data:=.seq its.toArray n }∧xs.length≤aao:=by
 obtain⟨z,its,n,r,e⟩:=I.hok p _ h
 exact⟨its,n,r,e,z⟩
theorem Inv.M9 {pins:List (aaD × Obj)} {σ:St} {H:Hp} {s:aak} {p:aaD} {xs ys:List V} {its its':List aae} {n n':Nat} {f:Obj→Obj} (I:Inv X pins σ H s) (h:H p=some (.lst xs))
  (ho:s.heap.get? p=some { cls:=.type "list",data:=.seq its.toArray n }) (hf:f { cls:=.type "list",data:=.seq its.toArray n }={ cls:=.type "list",data:=.seq its'.toArray n' }) (r:Vals ys its') (hz:ys.length≤aao) (t:Nat) :
  Inv X pins σ (upd H p (.lst ys)) { s with heap:=s.heap.update p f,toks:=t }:=by
 have e:(s.heap.update p f).get? p=some { cls:=.type "list",data:=.seq its'.toArray n' }:=by
  rw [aeJ f ho (by rw [hf] <;> rfl),hf]
 refine I.write (x:=p) (e:=p) (by rw [h];trivial) (.inl rfl) (fun b u hb q=>(adt _ _ (abB hb)).trans q) ⟨_,e⟩ ?_
 exact⟨hz,its',n',r,e⟩
def PJ:V→V→V→Hp→(Hp→Prop)→Prop:=fun o i v H Q=>∃p xs k j,o=.ref p∧i=.int k∧H p=some (.lst xs)∧GV xs.length k=some j∧Q (upd H p (.lst (xs.set j v)))
theorem set_list:Pl X PJ:=by
 intro pins s σ H o i v ov iv u Q I ro ri rv h
 obtain⟨p,xs,k,j,rfl,rfl,hp,hj,q⟩:=h
 cases ro
 obtain⟨t,rfl⟩:=ri
 obtain⟨its,n,r,ho,hz⟩:=I.lst hp
 obtain⟨h1,h2,h3,h4⟩:=DR hj
 have hl:=r.length
 have hn:=pE
 have I':Inv X pins σ (upd H p (.lst (xs.set j v))) { s with heap:=s.heap.update p (ady (·.setIfInBounds j u)) } :=
  I.M9 hp ho (Cn its n j u) (r.set rv j) (by rw [aeK];exact hz) s.toks
 by_cases h0:0≤k
 ·have hk:k.toNat=j:=by
   rw [seqIndex_of h0 h4] at h1
   exact aaR h1
  exact PySem.W.ki_setAt ho h0 (by omega) (by rw [aau,← hl];exact h4) (by rw [hk];exact⟨_,I',q⟩)
 ·have hk:(k+(its.toArray.size:Int)).toNat=j:=by
   rw [seqIndex_neg (by omega) h3] at h1
   rw [aau,← hl]
   exact aaR h1
  exact PySem.W.ki_setBack ho (by omega) (by rw [aau,← hl];exact h3) (by omega) (by rw [hk];exact⟨_,I',q⟩)
theorem xH (lo hi:Option Int) (n:Nat):(sliceBounds lo hi none n).1=((HT.dm n 0 lo:Nat):Int)∧(sliceBounds lo hi none n).2.1=((HT.dm n n hi:Nat):Int)∧(sliceBounds lo hi none n).2.2=1:=by
 refine⟨?_,?_,rfl⟩
 ·cases lo with
  | none=>simp [sliceBounds,HT.dm]
  | some i =>
   simp only [sliceBounds,HT.dm,Option.getD_none,show(1:Int) > 0 by decide,if_true]
   by_cases h:i<0
   ·simp only [h,if_true] <;> omega
   ·simp only [h,if_false] <;> omega
 ·cases hi with
  | none=>simp [sliceBounds,HT.dm]
  | some i =>
   simp only [sliceBounds,HT.dm,Option.getD_none,show(1:Int) > 0 by decide,if_true]
   by_cases h:i<0
   ·simp only [h,if_true] <;> omega
   ·simp only [h,if_false] <;> omega
theorem u9 (its:List aae) (lo hi:Option Int):slicePick its.toArray lo hi none=((its.drop (HT.dm its.length 0 lo)).take (HT.dm its.length its.length hi - HT.dm its.length 0 lo)).toArray:=by
 obtain⟨h1,h2,h3⟩:=xH lo hi its.toArray.size
 unfold slicePick
 rw [h1,h2,h3]
 simp only [sliceRange_one,pick_run,aau] <;> rfl
def TZ (K:aaa):V→Option Int→Option Int→Hp→VK→Prop:=fun x lo hi H Q=>∃a xs,x=.ref a∧aB K H a xs∧∀p,H p=none→Q (.ref p) (upd H p (.lst (gC xs lo hi)))
theorem iO:PH X (TZ X.K):=by
 intro pins s σ H x v vl vu lo hi sl Q I rx hs pl pu h
 obtain⟨a,xs,rfl,hx,q⟩:=h
 cases rx
 obtain⟨its,r,ht,hz⟩:=I.list hx
 have hlen:=r.length
 refine⟨"list",_,slot_list_getitem.lookup,ht.isList.typeIs,?_⟩
 refine wpAny_getItem_list_slice ht.isList hs pl pu .none (by simp) ?_ (by rw [aau] <;> omega)
 rw [u9,← hlen]
 refine⟨.ref s.heap.objs.size,_,I.laid (t':=s.toks) (o:=.lst (gC xs lo hi)) (fun b ob q=>aag _ q) (aaf _) ?_,rfl,q _ (I.hok.fresh (aaf _))⟩
 exact⟨aa5 (jV xs lo hi) hz,_,0,(r.drop (HT.dm xs.length 0 lo)).take (HT.dm xs.length xs.length hi - HT.dm xs.length 0 lo),aaM _ rfl⟩
def eV:V→Bool
 | .cU=>true
 | .bl _=>true
 | .int _=>true
 | .str _=>true
 | _=>false
def z7:V→V→Bool
 | .cU,.cU=>true
 | .bl a,.bl b=>a == b
 | .bl a,.int b=>(if a then 1 else 0) == b
 | .int a,.bl b=>a == (if b then 1 else 0)
 | .int a,.int b=>a == b
 | .str a,.str b=>a == b
 | _,_=>false
theorem Na {A:abC} {s:aak} {y x:V} {u v:aae} (ry:RelV y u) (rx:RelV x v) (fy:eV y=true) (fx:eV x=true):SeqAt.EqAt A s u v (z7 y x):=by
 cases y with
 | cU =>
  cases ry
  cases x with
  | cU=>cases rx;exact SeqAt.EqAt.same _
  | bl b=>cases rx;exact SeqAt.EqAt.none_bool b
  | int b=>obtain⟨t,rfl⟩:=rx;exact SeqAt.EqAt.none_int b t
  | str b=>obtain⟨t,rfl⟩:=rx;exact SeqAt.EqAt.none_str b t
  | _=>exact absurd (show false=true from fx) aaE
 | bl a =>
  cases ry
  cases x with
  | cU=>cases rx;exact SeqAt.EqAt.bool_none a
  | bl b=>cases rx;exact SeqAt.EqAt.bool_bool a b
  | int b=>obtain⟨t,rfl⟩:=rx;exact SeqAt.EqAt.bool_int a b t
  | str b=>obtain⟨t,rfl⟩:=rx;exact SeqAt.EqAt.bool_str a b t
  | _=>exact absurd (show false=true from fx) aaE
 | int a =>
  obtain⟨t',rfl⟩:=ry
  cases x with
  | cU=>cases rx;exact SeqAt.EqAt.int_none a t'
  | bl b=>cases rx;exact SeqAt.EqAt.int_bool a t' b
  | int b=>obtain⟨t,rfl⟩:=rx;exact SeqAt.EqAt.int_int a t' b t
  | str b=>obtain⟨t,rfl⟩:=rx;exact afa a t' b t
  | _=>exact absurd (show false=true from fx) aaE
 | str a =>
  obtain⟨t',rfl⟩:=ry
  cases x with
  | cU=>cases rx;exact SeqAt.EqAt.str_none a t'
  | bl b=>cases rx;exact SeqAt.EqAt.str_bool a t' b
  | int b=>obtain⟨t,rfl⟩:=rx;exact afb a t' b t
  | str b=>obtain⟨t,rfl⟩:=rx;exact SeqAt.EqAt.str_str a t' b t
  | _=>exact absurd (show false=true from fx) aaE
 | _=>exact absurd (show false=true from fy) aaE
def xI (x:V) (u:aae):Bool:=match u with
 | .none=>z7 .cU x
 | .bool b=>z7 (.bl b) x
 | .int i _=>z7 (.int i) x
 | .str z _=>z7 (.str z) x
 | _=>false
theorem sO {x y:V} {u:aae} (r:RelV y u) (f:eV y=true):xI x u=z7 y x:=by
 cases y with
 | cU=>cases r;rfl
 | bl b=>cases r;rfl
 | int i=>obtain⟨t,rfl⟩:=r;rfl
 | str z=>obtain⟨t,rfl⟩:=r;rfl
 | _=>exact absurd (show false=true from f) aaE
theorem nU {x:V}:∀{xs:List V} {us:List aae},Vals xs us→xs.all eV=true→us.any (xI x)=xs.any fun y=>z7 y x
 | _,_,.nil,_=>rfl
 | y::xs,u::us,.cons r t,f=>by
  rw [abV,abc] at f
  rw [adj,adj,sO r f.1,nU t f.2]
theorem fU {A:abC} {s:aak} {x:V} {v:aae} (rx:RelV x v) (fx:eV x=true):∀{xs:List V} {us:List aae},Vals xs us→xs.all eV=true→∀u∈us,SeqAt.EqAt A s u v (xI x u)
 | _,_,.nil,_=>fun u hu=>by cases hu
 | y::xs,u::us,.cons r t,f=>fun u' hu=>by
  rw [abV,abc] at f
  rcases aaB.mp hu with rfl|hu
  ·rw [sO r f.1];exact Na r rx f.1 fx
  ·exact fU rx fx t f.2 u' hu
def JI (x:V) (xs:List V):Bool:=xs.any fun y=>z7 y x
def W7 (K:aaa) (neg:Bool):R2:=fun x y H Q=>∃p xs,y=.ref p∧(aB K H p xs∨b8 K H p xs)∧eV x=true∧xs.all eV=true∧Q (.bl (if neg then !JI x xs else JI x xs)) H
theorem pI:nM X (compareOp .In) (W7 X.K false):=by
 intro pins s σ H x y v u Q I rx ry h
 obtain⟨p,xs,rfl,hq,fx,fs,q⟩:=h
 cases ry
 rcases hq with hq|hq
 ·obtain⟨its,r,pl,hz⟩:=I.list hq
  refine SeqAt.in_listAt (xI x) pl.isList (fun w hw=>fU rx fx r fs w (by simpa using hw)) ⟨.bl _,H,I,rfl,?_⟩
  rw [show its.toArray.any (xI x)=its.any (xI x) by simp,nU r fs]
  exact q
 ·obtain⟨its,r,pl,hz⟩:=I.tuple hq
  refine SeqAt.in_tupleAt (xI x) pl (fun w hw=>fU rx fx r fs w (by simpa using hw)) ⟨.bl _,H,I,rfl,?_⟩
  rw [show its.toArray.any (xI x)=its.any (xI x) by simp,nU r fs]
  exact q
theorem dO:nM X (compareOp .NotIn) (W7 X.K true):=by
 intro pins s σ H x y v u Q I rx ry h
 obtain⟨p,xs,rfl,hq,fx,fs,q⟩:=h
 cases ry
 rcases hq with hq|hq
 ·obtain⟨its,r,pl,hz⟩:=I.list hq
  refine SeqAt.notIn_listAt (xI x) pl.isList (fun w hw=>fU rx fx r fs w (by simpa using hw)) ⟨.bl _,H,I,rfl,?_⟩
  rw [show its.toArray.any (xI x)=its.any (xI x) by simp,nU r fs]
  exact q
 ·obtain⟨its,r,pl,hz⟩:=I.tuple hq
  refine SeqAt.notIn_tupleAt (xI x) pl (fun w hw=>fU rx fx r fs w (by simpa using hw)) ⟨.bl _,H,I,rfl,?_⟩
  rw [show its.toArray.any (xI x)=its.any (xI x) by simp,nU r fs]
  exact q
theorem av:fT X (.builtin "len") (fun xs H Q=>∃p ys,xs=[.ref p]∧(aB X.K H p ys∨b8 X.K H p ys)∧Q (.int ys.length) H):=by
 intro pins s σ H xs us Q I r h
 obtain⟨p,ys,rfl,hq,q⟩:=h
 obtain⟨u,rfl,rx⟩:=vals1 r
 cases rx
 have hn:=pE
 rcases hq with hq|hq
 ·obtain⟨its,r',pl,hz⟩:=I.list hq
  have hlen:=r'.length
  exact Calls.call_len_list pl.isList (by simp only [aau] <;> omega) ⟨.int ys.length,H,I.tok _,⟨s.toks+1,by rw [aau,hlen]⟩,q⟩
 ·obtain⟨its,r',pl,hz⟩:=I.tuple hq
  have hlen:=r'.length
  exact len_tuple pl (by simp only [aau] <;> omega) ⟨.int ys.length,H,I.tok _,⟨s.toks+1,by rw [aau,hlen]⟩,q⟩
theorem iP:fT X (.builtin "len") (fun xs H Q=>∃z,xs=[.str z]∧z.length≤aao∧Q (.int z.length) H):=by
 intro pins s σ H xs us Q I r h
 obtain⟨z,rfl,hz,q⟩:=h
 obtain⟨u,rfl,t,rfl⟩:=vals1 r
 have hn:=pE
 exact len_str (by omega) ⟨.int z.length,H,I.tok _,⟨_,rfl⟩,q⟩
theorem xJ:fT X (.type "list") (fun xs H Q=>∃p ys,xs=[.ref p]∧(aB X.K H p ys∨b8 X.K H p ys)∧∀l,H l=none→Q (.ref l) (upd H l (.lst ys))):=by
 intro pins s σ H xs us Q I r h
 obtain⟨p,ys,rfl,hq,q⟩:=h
 obtain⟨u,rfl,rx⟩:=vals1 r
 cases rx
 have fin:∀(its:List aae),Vals ys its→ys.length≤aao→∀(h':Heap) (c':Nat),(∀b o',s.heap.get? b=some o'→h'.get? b=some o') →
   h'.get? s.heap.objs.size=some { cls:=.type "list",dict:=none,data:=.seq its.toArray c',slots:=#[] }→EP X pins σ Q (.ref s.heap.objs.size) { s with heap:=h' }:=fun its r' hz h' c' kp e =>
  ⟨.ref s.heap.objs.size,_,I.laid (t':=s.toks) kp (aaf _) (show cD X.prog X.w _ h' _ (.lst ys) from⟨hz,its,c',r',e⟩),rfl,q _ (I.hok.fresh (aaf _))⟩
 rcases hq with hq|hq
 ·obtain⟨its,r',pl,hz⟩:=I.list hq
  have hlen:=r'.length
  obtain⟨o,ho,hc,n,hd⟩:=pl.isList
  exact call_list_seq p (.inl rfl) ho hc hd (fun h' c' kp e=>fin its r' hz h' c' kp e) (by simp only [aau] <;> omega)
 ·obtain⟨its,r',pl,hz⟩:=I.tuple hq
  have hlen:=r'.length
  obtain⟨o,ho,hc,n,hd⟩:=pl
  exact call_list_seq p (.inr rfl) ho hc hd (fun h' c' kp e=>fin its r' hz h' c' kp e) (by simp only [aau] <;> omega)
theorem va:fT X (.type "tuple") (fun xs H Q=>∃p ys,xs=[.ref p]∧((aB X.K H p ys∧∀l,H l=none→Q (.ref l) (upd H l (.tup ys)))∨(b8 X.K H p ys∧Q (.ref p) H))):=by
 intro pins s σ H xs us Q I r h
 obtain⟨p,ys,rfl,h⟩:=h
 obtain⟨u,rfl,rx⟩:=vals1 r
 cases rx
 rcases h with⟨hq,q⟩|⟨hq,q⟩
 ·obtain⟨its,r',pl,hz⟩:=I.list hq
  have hlen:=r'.length
  refine call_tuple_list pl.isList (fun h' kp=>?_) (by simp only [aau] <;> omega)
  have I1:Inv X pins σ H { s with heap:=h' }:=I.kept (t':=s.toks) kp
  have I2:Inv X pins σ (upd H h'.objs.size (.tup ys)) { s with heap:=h'.push { cls:=.type "tuple",data:=.seq its.toArray } } :=
   I1.laid (t':=s.toks) (fun b o e=>aag _ e) (aaf _) (show cD X.prog X.w _ _ _ (.tup ys) from⟨hz,its,r',IsTup.new _ _⟩)
  exact⟨.ref h'.objs.size,_,I2,rfl,q _ (I1.hok.fresh (aaf _))⟩
 ·obtain⟨its,r',pl,hz⟩:=I.tuple hq
  exact call_tuple_same pl ⟨.ref p,H,I,rfl,q⟩
def T2 (K:aaa) (T:String) (x:V) (H:Hp):Prop:=match x with
 | .str _=>T="str"
 | .int _=>T="int"
 | .ref p=>(T="list"∧∃xs,aB K H p xs)∨(T="tuple"∧∃o,K.lookup p=some o∧o.cls=.type "tuple"∧o.dict=none) ∨
   (T="dict"∧((∃kvs,H p=some (.dK kvs))∨∃kvs,H p=some (.dT kvs)))∨(T="set"∧∃S n,H p=some (.set S n))
 | _=>False
theorem GW {pins:List (aaD × Obj)} {σ:St} {H:Hp} {s:aak} {T:String} {x:V} {v:aae} (I:Inv X pins σ H s) (r:RelV x v) (ty:T2 X.K T x H) :
  s.TypeIs v T∧∀a,v=.ref a→∃ob,s.heap.get? a=some ob∧ob.dict=none:=by
 cases x with
 | str z =>
  obtain⟨t,rfl⟩:=r
  cases (show T="str" from ty)
  exact⟨typeIs_str s z t,fun _ e=>nomatch e⟩
 | int i =>
  obtain⟨t,rfl⟩:=r
  cases (show T="int" from ty)
  exact⟨typeIs_int s i t,fun _ e=>nomatch e⟩
 | ref p =>
  cases r
  rcases ty with⟨rfl,xs,hq⟩|⟨rfl,o,hk,hc,hd⟩|⟨rfl,hk⟩|⟨rfl,S,n,hk⟩
  ·obtain⟨its,_,pl,_⟩:=I.list hq
   refine⟨pl.isList.typeIs,fun a e=>?_⟩
   cases e
   obtain⟨o,n,e,c,hd,_⟩:=pl
   exact⟨o,e,hd⟩
  ·refine⟨⟨o,I.qE p o hk,hc⟩,fun a e=>?_⟩
   cases e
   exact⟨o,I.qE _ o hk,hd⟩
  ·have z:∃o,s.heap.get? p=some o∧o.ExactDict:=by
    rcases hk with⟨kvs,hk⟩|⟨kvs,hk⟩
    ·obtain⟨_,_,_,_,o,_,_,e,ex,_⟩:=I.hok p _ hk
     exact⟨o,e,ex⟩
    ·obtain⟨_,_,_,_,o,_,_,e,ex,_⟩:=I.hok p _ hk
     exact⟨o,e,ex⟩
   obtain⟨o,e,ex⟩:=z
   refine⟨⟨o,e,ex.1⟩,fun a e2=>?_⟩
   cases e2
   exact⟨o,e,ex.2.1⟩
  ·obtain⟨o,_,_,_,e,ex,_⟩:=I.hok p _ hk
   refine⟨⟨o,e,ex.1⟩,fun a e2=>?_⟩
   cases e2
   exact⟨o,e,ex.2.1⟩
 | _=>exact ab8 ty
def T3 (K:aaa) (T:String) (r:V→List V→Hp→VK→Prop) (to:TE):TE:=fun σ H Q=>to σ H fun x H1=>T2 K T x H1∧r x [] H1 Q
def T4 (K:aaa) (T:String) (r:V→List V→Hp→VK→Prop) (to:TE) (t:TA):TE:=fun σ H Q=>to σ H fun x H1=>T2 K T x H1∧t σ H1 fun xs H2=>r x xs H2 Q
variable {o e:Expr} {es:List Expr} {to:TE} {t:TA} {name:Str} {apos cpos:Pos} {T id:String} {r:V→List V→Hp→VK→Prop}
theorem Nb (pa:PlainAttrs T) (slot:Slot T name id) (JJ:typeOf (.builtin id)=pure (.type "method_descriptor")) (hm:L4 X id r) (ho:PE X o to)
  (GX:attributeBase o name X.env (eval o X.env)=eval o X.env:=by rfl) (hline:(apos.endLine == cpos.line)=true:=by rfl):PE X (.Call (.Attribute o name apos) [] [] cpos) (T3 X.K T r to):=by
 intro pins s σ H Q I h
 refine wpAny_Call_method0_late GX hline (thn (ho pins s σ H _ I h) fun v s1 ⟨x,H1,I1,r1,ty,q1⟩=>?_)
 obtain⟨h1,h2⟩:=GW I1 r1 ty
 exact⟨T,id,pa,slot,JJ,h1,h2,adu rfl (PySem.evalArgs_none (hm pins s1 σ H1 x [] v [] Q I1 r1 .nil q1))⟩
theorem ck (pa:PlainAttrs T) (slot:Slot T name id) (JJ:typeOf (.builtin id)=pure (.type "method_descriptor")) (hm:L4 X id r) (ho:PE X o to) (ha:PA X (e::es) t)
  (GX:attributeBase o name X.env (eval o X.env)=eval o X.env:=by rfl)
  (hfew:((backTo cpos (starEach (e::es) X.env)).all (fun x=>!x.1) && (backToKw cpos (keywordEach [] X.env)).all (fun x=>x.1.isSome)
   && decide ((e::es).length+([]:List Keyword).length+(if ([]:List Keyword).isEmpty then 0 else 1)<30))=true:=by rfl)
  (hline:(apos.endLine == cpos.line)=true:=by rfl) (hs:starEach (e::es) X.env=(false,eval e X.env)::starEach es X.env:=by rfl) (Nc:(backTo cpos (starEach es X.env)).any (·.1)=false:=by rfl) :
  PE X (.Call (.Attribute o name apos) (e::es) [] cpos) (T4 X.K T r to t):=by
 intro pins s σ H Q I h
 refine wpAny_Call_method_late GX hfew hline rfl (thn (ho pins s σ H _ I h) fun v s1 ⟨x,H1,I1,r1,ty,q1⟩=>?_)
 obtain⟨h1,h2⟩:=GW I1 r1 ty
 refine⟨T,id,pa,slot,JJ,h1,h2,?_⟩
 have hA:=ha cpos pins s1 σ H1 _ I1 q1
 rw [hs] at hA ⊢
 refine adu (by show(false || (backTo cpos (starEach es X.env)).any (·.1))=false;rw [Nc] <;> rfl) (aeV ?_)
 exact thn hA fun us s2 ⟨vs,H2,I2,r2,q2⟩=>hm pins s2 σ H2 x vs v us Q I2 r1 r2 q2
end
def T5 (X:Cx) (id:String) (r:V→List V→Hp→VK→Prop):Prop :=
 ∀(pins:List (aaD × Obj)) (s:aak) (σ:St) (H:Hp) (x:V) (xs:List V) (v:aae) (us:List aae) (Q:VK),Inv X pins σ H s→RelV x v→Vals xs us→r x xs H Q →
  abb (model X.prog X.w) X.A (call (.builtin id) (v::us)) (EP X pins σ Q) X.xe s
theorem Vals.one:∀{x:V} {us:List aae},Vals [x] us→∃u,us=[u]∧RelV x u
 | _,_,.cons r .nil=>⟨_,rfl,r⟩
theorem Vals.zero:∀{us:List aae},Vals [] us→us=[]
 | _,.nil=>rfl
theorem Vals.eraseIdx:∀{xs:List V} {us:List aae} (i:Nat),Vals xs us→Vals (xs.eraseIdx i) (us.eraseIdx i)
 | _,_,_,.nil=>.nil
 | _,_,0,.cons _ t=>t
 | _,_,i+1,.cons r t=>.cons r (Vals.eraseIdx i t)
theorem Vals.reverse {xs:List V} {us:List aae} (h:Vals xs us):Vals xs.reverse us.reverse:=by
 induction h with
 | nil=>exact .nil
 | cons r t ih=>rw [List.reverse_cons,List.reverse_cons];exact Vals.append ih (.cons r .nil)
theorem Vals.rep {xs:List V} {us:List aae} (h:Vals xs us):∀k:Nat,Vals (aam k xs).flatten (aam k us).flatten
 | 0=>.nil
 | k+1=>by
  rw [abl,abl,acn,acn]
  exact Vals.append h (Vals.rep h k)
theorem Nd {α:Type} (l:List α):l.eraseIdx (l.length - 1)=l.dropLast:=by
 induction l with
 | nil=>rfl
 | cons a r ih =>
  cases r with
  | nil=>rfl
  | cons b r =>
   have e:(a::b::r).length - 1=((b::r).length - 1)+1:=by
    have h1:(a::b::r).length=r.length+2:=rfl
    have h2:(b::r).length=r.length+1:=rfl
    omega
   rw [e,List.eraseIdx_cons_succ,ih]
   all_goals rfl
theorem foldl_rep (its:List aae):∀(k:Nat) (acc:List aae),
  adK (fun x1 x2=>x1++x2) acc.toArray (aam k its.toArray)=(acc++(aam k its).flatten).toArray
 | 0,acc=>by simp
 | k+1,acc=>by
  have e:acc.toArray++its.toArray=(acc++its).toArray:=by simp
  have e2:(acc++its)++(aam k its).flatten=acc++(aam (k+1) its).flatten:=by
   rw [abl,acn,aa2]
  rw [← e2,← foldl_rep its k (acc++its),← e,abl,adN]
section
variable {X:Cx} {pins:List (aaD × Obj)} {σ:St} {H:Hp} {s:aak} {l b:aaD} {xs ys zs:List V}
theorem Inv.Ka {its its':List aae} {n:Nat} {f:Array aae→Array aae} {t':Nat} (I:Inv X pins σ H s) (hH:H l=some (.lst xs))
  (e:s.heap.get? l=some { cls:=.type "list",data:=.seq its.toArray n }) (hf:f its.toArray=its'.toArray) (hv:Vals ys its') (hz:ys.length≤aao) :
  Inv X pins σ (upd H l (.lst ys)) { s with heap:=s.heap.update l (ady f),toks:=t' }:=by
 have q:=PySem.IsL.update e f
 rw [hf] at q
 refine I.write (x:=l) (e:=l) (by rw [hH];exact trivial) (.inl rfl) (fun b' u hb hu=>(adt s.heap (ady f) (abB hb)).trans hu) ⟨_,q⟩ ?_
 exact⟨hz,its',_,hv,q⟩
theorem Inv.PK {its:List aae} {t':Nat} (I:Inv X pins σ H s) (hv:Vals ys its) (hz:ys.length≤aao) :
  Inv X pins σ (upd H s.heap.objs.size (.lst ys)) { s with heap:=s.heap.push { cls:=.type "list",data:=.seq its.toArray },toks:=t' } :=
 I.laid (fun _ _ q=>aag _ q) (aaf _) ⟨hz,its,0,hv,aaM _ rfl⟩
theorem Inv.fresh (I:Inv X pins σ H s):H s.heap.objs.size=none:=I.hok.fresh (aaf _)
theorem Inv.Ak (I:Inv X pins σ H s) (hH:H l=some (.lst xs)):xs.length≤aao∧∃(its:List aae) (n:Nat),Vals xs its∧xs.length=its.length∧s.heap.get? l=some { cls:=.type "list",data:=.seq its.toArray n }:=by
 obtain⟨z,its,n,r,e⟩:=I.hok l _ hH
 exact⟨z,its,n,r,r.length,e⟩
theorem sP {n:Nat} (h:n≤aao):abI n=false:=by
 unfold abI
 exact decide_eq_false (by omega)
end
section
variable {X:Cx}
def Kb:V→List V→Hp→VK→Prop:=fun x vs H Q=>∃l xs y,x=.ref l∧vs=[y]∧H l=some (.lst xs)∧xs.length<aao∧Q .cU (upd H l (.lst (xs++[y])))
theorem bg:T5 X "list.append" Kb:=by
 intro pins s σ H x vs v us Q I rx rv h
 obtain⟨l,xs,y,rfl,rfl,hH,hz,q⟩:=h
 cases rx
 obtain⟨u,rfl,ru⟩:=rv.one
 obtain⟨z,its,n,r,hl,e⟩:=I.Ak hH
 refine call_meets aaV ⟨_,e,rfl⟩ F.entry_list_append (F.args_list_append_2 _ _) (PySem.list_append l its.toArray n u (by rw [aau];omega)) ⟨e,?_⟩
 refine⟨.cU,_,I.Ka (its':=its++[u]) hH e (by simp) (r.append (.cons ru .nil)) ?_,rfl,q⟩
 rw [aab,abh]
 omega
def Kc:V→List V→Hp→VK→Prop:=fun x vs H Q=>∃l b xs zs,x=.ref l∧vs=[.ref b]∧H l=some (.lst xs)∧H b=some (.lst zs)∧xs.length+zs.length≤aao∧Q .cU (upd H l (.lst (xs++zs)))
theorem wq:T5 X "list.extend" Kc:=by
 intro pins s σ H x vs v us Q I rx rv h
 obtain⟨l,b,xs,zs,rfl,rfl,hH,hB,hz,q⟩:=h
 cases rx
 obtain⟨u,rfl,ru⟩:=rv.one
 cases ru
 obtain⟨z,its,n,r,hl,e⟩:=I.Ak hH
 obtain⟨z2,m6,n2,r2,vb,e2⟩:=I.Ak hB
 have hsz:its.toArray.size+m6.toArray.size≤aao:=by rw [aau,aau];omega
 have Al:¬ (!its.toArray.isEmpty && abI (its.toArray.size+m6.toArray.size))=true:=by
  rw [sP hsz,Bool.and_false]
  exact aaE
 refine call_meets abN ⟨_,e,rfl⟩ aez (aej _ _)
  (AutoSeq1.list_extend_list_list_0 l its.toArray n b m6.toArray n2 Al (by rw [aau];omega) (by omega)) ⟨e,e2,?_⟩
 refine⟨.cU,_,I.Ka (its':=its++m6) hH e (by simp) (r.append r2) ?_,rfl,q⟩
 rw [aab]
 omega
def GY:V→List V→Hp→VK→Prop:=fun x vs H Q=>∃l xs,x=.ref l∧vs=[]∧H l=some (.lst xs)∧Q .cU (upd H l (.lst xs.reverse))
theorem Co:T5 X "list.reverse" GY:=by
 intro pins s σ H x vs v us Q I rx rv h
 obtain⟨l,xs,rfl,rfl,hH,q⟩:=h
 cases rx
 have YW:=rv.zero
 subst YW
 obtain⟨z,its,n,r,hl,e⟩:=I.Ak hH
 refine call_meets aeA ⟨_,e,rfl⟩ F.entry_list_reverse (F.args_list_reverse_1 _) (AutoSeq1.list_reverse_list_0 l its.toArray n (by rw [aau];omega)) ⟨e,?_⟩
 refine⟨.cU,_,I.Ka (its':=its.reverse) hH e (by simp) r.reverse ?_,rfl,q⟩
 rw [ac6]
 omega
def T6:R2:=fun x y H Q=>∃l b xs zs,x=.ref l∧y=.ref b∧H l=some (.lst xs)∧H b=some (.lst zs)∧xs.length+zs.length≤aao∧∀p,H p=none→Q (.ref p) (upd H p (.lst (xs++zs)))
theorem jW:nM X (binaryOp .Add) T6:=by
 intro pins s σ H x y v u Q I rx ry h
 obtain⟨l,b,xs,zs,rfl,rfl,hH,hB,hz,q⟩:=h
 cases rx
 cases ry
 obtain⟨z,its,n,r,hl,e⟩:=I.Ak hH
 obtain⟨z2,m6,n2,r2,vb,e2⟩:=I.Ak hB
 refine PySem.P.add_list e e2 ?_ (by rw [aau,aau];omega)
 have ea:its.toArray++m6.toArray=(its++m6).toArray:=by simp
 rw [ea]
 exact⟨.ref _,_,I.PK (t':=s.toks) (r.append r2) (by rw [aab];omega),rfl,q _ I.fresh⟩
def T8:R2:=fun x y H Q=>∃l k xs,x=.ref l∧y=.int k∧H l=some (.lst xs)∧-(2 ^ 63)≤k∧k<2 ^ 63∧xs.length * k.toNat≤aao ∧
 ∀p,H p=none→Q (.ref p) (upd H p (.lst (aam k.toNat xs).flatten))
theorem len_rep {α:Type} (xs:List α) (k:Nat):(aam k xs).flatten.length=k * xs.length:=by
 induction k with
 | zero=>simp
 | succ k ih=>rw [abl,acn,aab,ih,Nat.succ_mul,Nat.add_comm]
theorem xK:nM X (binaryOp .Mult) T8:=by
 intro pins s σ H x y v u Q I rx ry h
 obtain⟨l,k,xs,rfl,rfl,hH,h1,h2,hz,q⟩:=h
 cases rx
 obtain⟨t,rfl⟩:=ry
 obtain⟨z,its,n,r,hl,e⟩:=I.Ak hH
 have hlen:its.toArray.size * k.toNat≤aao:=by rw [aau,← hl];exact hz
 have T9:¬ its.toArray.size * k.toNat > (2 ^ 63 - 1) / 8:=by
  have:(aao:Nat)≤(2 ^ 63 - 1) / 8:=by decide
  omega
 have hfit:¬ (!Builtin.List.listFitsIndex k)=true:=by
  rw [fitsIndex_both h1 h2]
  exact aaE
 have Al:¬ abI (its.toArray.size * k.toNat)=true:=by
  rw [sP hlen]
  exact aaE
 have Cp:adK (fun x1 x2=>x1++x2) #[] (aam (if its.toArray.isEmpty=true then 0 else k.toNat) its.toArray)=(aam k.toNat its).flatten.toArray:=by
  have f0:∀m:Nat,adK (fun x1 x2=>x1++x2) #[] (aam m its.toArray)=(aam m its).flatten.toArray:=fun m=>by
   have:=foldl_rep its m []
   rw [abE] at this
   exact this
  rw [f0]
  cases its with
  | nil=>simp
  | cons a r'=>rw [if_neg (by simp)]
 refine wpAny_binaryOp_repeat_ref (T:="list") (U:="int") (by decide) ⟨_,e,rfl⟩ (fun s'=>typeIs_int s' k t) noFill_list_mul F.fills_int_mul F.slot_int_rmul repeat_list F.slot_int_index.lookup
  (call_meets F.slot_int_rmul (typeIs_int s k t) F.entry_int_rmul (F.args_int_rmul_2 _ _) (int___rmul___int_list k t l its.toArray n)
   ⟨e,rfl,⟨_,e,rfl⟩,call_meets F.slot_list_mul ⟨_,e,rfl⟩ F.entry_list_mul (F.args_list_mul_2 _ _) (AutoListH.list___mul___list_int_3 l its.toArray n k t hfit T9 Al) ⟨e,?_⟩⟩)
 rw [Cp]
 exact⟨.ref _,_,I.PK (t':=s.toks) (r.rep k.toNat) (by rw [len_rep,afw];exact hz),rfl,q _ I.fresh⟩
end
section
variable {prog:aa4} {w:abu} {A:abC} {E:aae→aak→Prop} {s:aak}
end
section
variable {X:Cx}
end
end L2
namespace W8
open PySem PySem.W PySem.Calls PyProof.Rows
theorem rp {P:Params} {h:Heap}:∀(ns:List Int) (vs:List aae),WellAll P h vs (ns.map WData.int)→IntsAre vs ns:=by
 intro ns
 induction ns with
 | nil =>
  intro vs w
  rw [acv] at w
  cases w
  exact .nil
 | cons n ns ih =>
  intro vs w
  rw [aaZ] at w
  cases w with
  | cons a b =>
   cases a
   exact .cons _ _ (ih _ b)
theorem EZ {l:OpenLaw} {n:Nat} (hn:l.most=some n) {P:Params} {h:Heap} {args:List WData} {vals:List aae}
  (hpre:l.row.toRowW.claim.pre args=true) (hwl:WellAll P h vals args) :
  ∃a vs ns,vals=[abd a]∧args=[WData.list (ns.map WData.int)]∧h.get? a=some { cls:=.type "list",data:=.seq vs.toArray }∧IntsAre vs ns∧ns.length≤n:=by
 have YX:WShape.hasAll [] args [.list .int]=true:=(pre_splitW hpre).1
 have hc:l.pre.holds [] { args:=args }=true:=(pre_splitW hpre).2
 obtain⟨d,r,rfl,h1,h2⟩:=hasAllW_cons YX
 obtain rfl:=hasAllW_nil h2
 obtain⟨xs,rfl,h3⟩:=hasW_list h1
 obtain⟨ns,rfl⟩:=items_int h3
 have hlen:ns.length≤n:=by
  unfold OpenLaw.pre at hc
  have h4:(WTm.not (.lt (.lit (.int (n:Int))) (.len (.arg 0)))).holds [] { args:=[.list (ns.map .int)] }=true:=by
   have h4:=(holds_andW hc).1
   rw [hn] at h4
   exact h4
  have h5:=condW_of h4 (w_not (w_lt w_lit (w_len_list (w_arg rfl))))
  rw [Lm9] at h5
  refine Nat.le_of_not_lt fun q=>?_
  have q':(n:Int)<((ns.length:Nat):Int):=by omega
  first
   | (rw [decide_eq_true q'] at h5;exact absurd h5 (by decide))
   | (simp at h5;omega)
 cases hwl with
 | cons w1 w2 =>
  cases w2
  cases w1 with
  | list ho hall=>exact⟨_,_,ns,rfl,rfl,ho,rp ns _ hall,hlen⟩
theorem E1 (l:OpenLaw) (args:List WData):l.row.toRowW.claim.post args (.bool true) args=true :=
 postW_of (r:=l.row.toRowW) (X:=(true == true))
  (show WShape.has [] (.bool true) .bool=true by first|rfl|decide|simp [WShape.has,WShape.arms,WShape.armsAll])
  (show(WTm.eq .res (.lit (.bool true))).value [] { args:=args,res:=some (.bool true),after:=args }=some (.bool (true == true)) from w_eq_bool (w_res rfl) w_lit) rfl
theorem Am {l:OpenLaw} {n:Nat} {q:aa4} {loose:List Str} {XP:(Str→Option aae)→Heap→Prop} {YP:abu→Heap→Prop} {d:DefRec}
  (hn:l.most=some n) (PL:d.params.defaults=[])
  (call:∀(w:abu) (s₀ s₁:aak) (mg mb:Str→Option aae) (fa:aaD) (o:Obj) (pm cd doc:aae) (a:aaD) (vs:List aae) (ns:List Int),
   Ground q loose [] XP w s₀ mg mb s₁.heap→YP w s₁.heap →
   s₁.heap.get? fa=some o→o.data=.func (docDef d.name d.params d.body d.scope pm cd doc)→s₁.heap.CodeRec cd d.name→mg d.name=some (.ref fa) →
   s₁.heap.get? a=some { cls:=.type "list",data:=.seq vs.toArray }→IntsAre vs ns→ns.length≤n→s₁.gens = #[] →
   codeAny (model l.prog w) callerA (.call (.ref fa) ⟨[.ref a],[]⟩) (fun r s'=>r=.ok (.ret (.bool true))∧OldK s₁.heap s'.heap∧s'.os=s₁.os∧AllBare s'.gens) s₁) :
  WalkO q loose XP YP l.row.toRowW d [] (fun f vs=>PySem.call f vs):=by
 intro w s₀ s₁ mg mb G Y fa o pm cd doc dV kV ho hd hcd hD hmg hg args vals as hpre hlay hrd hwl hlo
 obtain rfl:dV=.none:=Dflts.none hD PL
 obtain rfl:kV=.none:=Dflts.noKw hD
 obtain⟨a,vs,ns,rfl,rfl,Nf,hints,hlen⟩:=EZ hn hpre hwl
 refine enter_call (codeAny_mono (call w s₀ s₁ mg mb fa o pm cd doc a vs ns G Y ho (fd_plain hd) hcd hmg Nf hints hlen hg) fun r s' hq=>?_)
 obtain⟨rfl,h2,h3,h4⟩:=hq
 exact⟨.inl ⟨.bool true,.bool true,[],rfl,fun _=>rfl,.bool true,E1 l _,fun _=>⟨List.Pairwise.nil,fun _ hm=>(nomatch hm)⟩⟩,h2,h3,h4⟩
section
variable {prog:aa4} {w:abu} {A:abC} {E:aae→aak→Prop} {s:aak} {K:Frag}
def ledger (h:Heap) (L d:aaD):List (aaD × Obj):=(aal h.objs.size).filterMap fun a=>if a=L∨a=d then none else (h.get? a).map fun o=>(a,o)
end
end W8
namespace L2
open PySem PySem.Spec PyProof.Rows
theorem wt:∀{vs:List aae} {ns:List Int},IntsAre vs ns→Vals (ns.map V.int) vs
 | _,_,.nil=>.nil
 | _,_,.cons n t h=>.cons ⟨t,rfl⟩ (wt h)
def Ng (H:Hp):Prop:=∀b,H b=none∨∃o xs,H b=some (.sv o (.lst xs))
theorem GZ {P:aa4} {w:abu} {K:aaa} {mg mb:Str→Option aae} {CX:GN} {k:Nat} {fa a:aaD} {fd:abo} {x:Str} {sp:Sp} {s₁:aak} {vs:List aae} {ns:List Int}
  (KX:K.In s₁.heap) (DS:s₁.heap.Ns aaX mg) (hb:s₁.heap.Ns builtinsNs mb) (PM:∀x:Str,x≠"__name__"→mb x=bootBuiltins x) (Ua:s₁.heap.NoLimit) (hg:s₁.gens = #[])
  (ha:s₁.heap.get? a=some { cls:=.type "list",data:=.seq vs.toArray }) (hi:IntsAre vs ns) (hl:ns.length≤aao) (hr:dJ k callerA)
  (F:∀base:Heap,K.In base→base.Ns aaX mg→aY P w K mg base CX k fa fd [x] sp) (PQ:∀(s:aak) (u:aae),BindsTo s fd ⟨[u],[]⟩ [(x,u)])
  (DO:∀H:Hp,Ng H→aB K H a (ns.map V.int)→sp [.ref a] H (fun v _=>v=.bl true) fun _ _ _=>False)
  (Ub:∀H e s',CX [] H s₁ (fun _ _ _=>False) e s'→False) :
  codeAny (model P w) callerA (.call (.ref fa) ⟨[.ref a],[]⟩) (fun r s'=>r=.ok (.ret (.bool true))∧OldK s₁.heap s'.heap∧s'.os=s₁.os∧AllBare s'.gens) s₁:=by
 have rv:=wt hi
 have Uc:=hi.length
 have core:∀H:Hp,Ng H→aB K H a (ns.map V.int)→mm P w H s₁.heap→(∀b,H b≠none→b=a)→(H a≠none→K.lookup a=none) →
   codeAny (model P w) callerA (.call (.ref fa) ⟨[.ref a],[]⟩) (fun r s'=>r=.ok (.ret (.bool true))∧OldK s₁.heap s'.heap∧s'.os=s₁.os∧AllBare s'.gens) s₁:=by
  intro H hO hS hok hA hK
  have DT:∀{b:aaD} {o:Obj},s₁.heap.get? b=some o→H b=none→(xy s₁.heap H).get? b=some o:=fun e n=>Gu e n
  have Pz:∀{b:aaD} {o:Obj} {es:Array DictEntry} {ep:Nat},s₁.heap.get? b=some o→o.data=.dict es ep→H b=none:=fun {b o es ep} e d=>by
   cases q:H b with
   | none=>rfl
   | some u =>
    have e':b=a:=hA b (by rw [q];simp)
    subst e'
    rw [ha] at e;cases e
    have d':Data.seq vs.toArray _=Data.dict es ep:=d
    cases d'
  have Su:∀{b:aaD} {m:Str→Option aae},s₁.heap.Ns b m→(xy s₁.heap H).Ns b m:=fun {b m} ⟨o,es,ep,e,d,r⟩=>⟨o,es,ep,DT e (Pz e d),d,r⟩
  have W9:K.In (xy s₁.heap H):=fun b o e=>DT (KX b o e) (by
   cases q:H b with
   | none=>rfl
   | some u =>
    have e':b=a:=hA b (by rw [q];simp)
    subst e'
    rw [hK (by rw [q];simp)] at e;cases e)
  have hM:Mod K mg (xy s₁.heap H):=⟨W9,Su DS,⟨mb,Su hb,PM⟩,let ⟨mc,h1,h2⟩:=Ua;⟨mc,Su h1,h2⟩⟩
  have e0:Cf P w K mg (xy s₁.heap H) callerA [] s₁ H:=⟨rfl,hM,fun b o e=>JO e,Nat.le_of_eq (EL _ _),trivial,fun b hb=>absurd (show b∈([]:List aaD) from hb) (by simp),hok,.of_eq hg⟩
  refine codeAny_mono ((F _ W9 (Su DS)).run callerA [] s₁ H ⟨[.ref a],[]⟩ [.ref a] [.ref a] _ _ hr e0 (PQ s₁ (.ref a)) (.cons rfl .nil) (DO H hO hS)) fun r s' h=>?_
  cases r with
  | error e=>exact(Ub H e s' h).elim
  | ok fl =>
   cases fl with
   | next=>exact ab8 h
   | brk=>exact ab8 h
   | cont=>exact ab8 h
   | ret u =>
    obtain⟨v,H',os,bare,un,Ud,r',q⟩:=h
    have q':v=.bl true:=q
    subst q'
    obtain rfl:u=adJ true:=r'
    refine⟨rfl,OldK.of_keep fun b o e=>?_,os,bare⟩
    cases q:H b with
    | none=>exact un.keep b o e q (by intro z;exact absurd (show b∈([]:List aaD) from z) (by simp)) (by simp)
    | some u =>
     rcases hO b with z|⟨ob,xs,z⟩
     ·rw [q] at z;cases z
     ·have z2:=un.rl b ob _ z
      obtain⟨e1,_⟩:=hok b _ z
      obtain⟨e2,_⟩:=Ud b _ z2
      rw [e] at e1;cases e1
      exact e2
 cases hk:K.lookup a with
 | some o =>
  have e:=KX a o hk
  rw [ha] at e
  cases e
  refine core (fun _=>none) (fun _=>.inl rfl) (.inr ⟨_,vs.toArray,_,hk,rfl,rfl,rfl,by rw [aau,Uc];exact hl,(by simp [V.pl]),(by simpa using rv)⟩) (fun b u z=>by have z':(none:Option HO)=some u:=z;cases z') (fun b z=>absurd rfl z) fun z=>absurd rfl z
 | none =>
  refine core (fun b=>if b=a then some (.sv { cls:=.type "list",data:=.seq vs.toArray } (.lst (ns.map V.int))) else none) (fun b=>?_) (.inl (.inr ⟨{ cls:=.type "list",data:=.seq vs.toArray },if_pos rfl⟩)) (fun b u z=>?_) (fun b z=>?_) fun _=>hk
  ·by_cases hb:b=a
   ·exact .inr ⟨_,_,if_pos hb⟩
   ·exact .inl (if_neg hb)
  ·by_cases hb:b=a
   ·have z':=(if_pos hb).symm.trans z
    cases z'
    subst hb
    exact⟨ha,by rw [Lm9];exact hl,vs,_,rv,ha⟩
   ·have z':=(if_neg hb).symm.trans z
    cases z'
  ·by_cases hb:b=a
   ·exact hb
   ·exact absurd (if_neg hb) z
abbrev KOf {K:aaa} {h:Heap} (_:K.In h):aaa:=K
theorem Ke {l:aeL} {n k:Nat} {q:aa4} {loose:List Str} {XP:(Str→Option aae)→Heap→Prop} {YP:abu→Heap→Prop} {d:DefRec} {K:Params→aaa} {CX:abu→GN} {sp:abu→Sp} {x:Str}
  (hn:l.most=some n) (Sr:n≤aao) (PL:d.params.defaults=[]) (hr:dJ k callerA)
  (hY:∀(w:abu) (h:Heap),YP w h→(K w.params).In h)
  (F:∀(w:abu) (mg:Str→Option aae) (fa:aaD) (h:Heap),(K w.params).In h→h.Ns aaX mg→mg d.name=some (.ref fa) →
   ∃fd:abo,(∀(s:aak) (u:aae),BindsTo s fd ⟨[u],[]⟩ [(x,u)]) ∧
    ∀base:Heap,(K w.params).In base→base.Ns aaX mg→aY l.prog w (K w.params) mg base (CX w) k fa fd [x] (sp w))
  (DO:∀(w:abu) (H:Hp) (a:aaD) (ns:List Int),ns.length≤n→Ng H→aB (K w.params) H a (ns.map V.int)→sp w [.ref a] H (fun v _=>v=.bl true) fun _ _ _=>False)
  (Ub:∀(w:abu) (H:Hp) (s:aak) (e:aae) (s':aak),CX w [] H s (fun _ _ _=>False) e s'→False) :
  PySem.W.WalkO q loose XP YP l.row.toRowW d [] (fun f vs=>PySem.call f vs):=by
 refine W8.Am hn PL fun w s₀ s₁ mg mb fa o pm cd doc a vs ns G Y ho hd hcd hmg Nf hints hlen hg=>?_
 have KX:=hY w _ Y
 obtain⟨fd,hb,hF⟩:=F w mg fa _ KX G.T.g hmg
 exact GZ KX G.T.g G.T.b G.T.builtins G.T.nolimit hg Nf hints (aa5 hlen Sr) hr hF hb (fun H hO hS=>DO w H a ns hlen hO hS) fun H e s'=>Ub w H s₁ e s'
def inClass (s:Stmt) (j:Nat):Stmt:=match s with
 | .ClassDef _ _ _ body _ _ _ _ _ _ _=>body.getD j (.Pass ⟨0,0,0,0⟩)
 | _=>.Pass ⟨0,0,0,0⟩
def iQ (s:Stmt):Arguments:=match s with
 | .FunctionDef _ a _ _ _ _ _ _ _ _=>a
 | _=>{ posonlyargs:=[],args:=[],vararg:=none,kwonlyargs:=[],kw_defaults:=[],kwarg:=none,defaults:=[] }
def gE (s:Stmt):List Stmt:=match s with
 | .FunctionDef _ _ b _ _ _ _ _ _ _=>b
 | _=>[]
def aq (s:Stmt):Scope:=match s with
 | .FunctionDef _ _ _ _ _ _ sc _ _ _=>sc
 | _=>{ kind:=.function,names:=[],isGenerator:=false,isCoroutine:=false }
abbrev cS:GN:=fun _ _ _ _ _ _=>False
abbrev E0:XK:=fun _ _ _=>False
theorem DU {X:Cx}:Passes cS X E0:=fun _ _ _ _ _ _ _ h=>h.elim
structure cY (K:aaa) (x qual:Str) (st:Stmt) (f:aaD) (fd:abo):Prop where
 ex:∃(oc:aae) (od:Option aaD) (kV doc pm:aae) (an:Option aaD) (cx ct:aae) (L3:Array (Option aae)),
  fd=acu x qual (iQ st) (gE st) (aq st) .none kV doc pm an cx ct∧K.lookup f=some ⟨oc,od,.func fd,L3⟩∧ad7 K cx qual=true
 kp:acV K (.ref f)=true
section
variable {P:aa4} {w:abu} {K:aaa} {mg:Str→Option aae} {base:Heap}
theorem cY.ok {x qual:Str} {st:Stmt} {f:aaD} {fd:abo} {N ps:List Str} {k:Nat} {sp:Sp} (F:cY K x qual st f fd) (S:ax N ps (aq st)) (len:∀vs H Q E,sp vs H Q E→vs.length=ps.length)
  (GR:∀(cx:aae) (A:abC) (outer:List Env) (s:aak) (H:Hp) (vs:List V) (Q:VK) (E:XK),dJ k (A.deeper (envOfC qual (aq st) s.heap.objs.size f cx))→sp vs H Q E →
   ∃t,DI (EW cS P w K mg base N qual (aq st) f cx A outer s H E).Sm (gE st) t∧t { nx:=fun _ H'=>Q .cU H',rt:=Q } (start N vs) H):aY P w K mg base cS (k+1) f fd ps sp:=by
 obtain⟨oc,od,kV,doc,pm,an,cx,ct,L3,rfl,lk,hcd⟩:=F.ex
 refine PB lk hcd S len fun A outer s H vs Q E hr DO=>?_
 obtain⟨t,h,q⟩:=GR cx A outer s H vs Q E hr DO
 exact⟨t,h.Sm,q⟩
theorem cY.binds {x qual:Str} {st:Stmt} {f:aaD} {fd:abo} {ps:List Str} (F:cY K x qual st f fd)
  (h:∀(kV doc pm:aae) (an:Option aaD) (cx ct:aae) (us:List aae),us.length=ps.length→bindArgs (acu x qual (iQ st) (gE st) (aq st) .none kV doc pm an cx ct) ⟨us,[]⟩=pure (ps.zip us)):Binds K fd ps []:=by
 obtain⟨oc,od,kV,doc,pm,an,cx,ct,L3,rfl,lk,hcd⟩:=F.ex
 exact .all (h kV doc pm an cx ct)
theorem Cq {x qual:Str} {st:Stmt} {f:aaD} {oc:aae} {od an:Option aaD} {L3:Array (Option aae)} {kV doc pm cx ct:aae} (l:K.lookup f=some ⟨oc,od,.func (acu x qual (iQ st) (gE st) (aq st) .none kV doc pm an cx ct),L3⟩)
  (c:ad7 K cx qual=true) (k:acV K (.ref f)=true):cY K x qual st f (acu x qual (iQ st) (gE st) (aq st) .none kV doc pm an cx ct):=⟨⟨oc,od,kV,doc,pm,an,cx,ct,L3,rfl,l,c⟩,k⟩
end
theorem An {A:abC} {k:Nat} (hr:dJ k A):A.units+1<cLine:=acD (Nat.add_le_add_left (by decide:1≤64) _) hr.units
section
variable {X:Cx}
theorem pv (i:Nat) {x:Str} {pos:Pos} (hN:X.N[i]?=some x:=by rfl) (hv:Si X.env.scope x:=by first|exact aaQ rfl|exact ad0 (aaQ rfl)|exact ad0 (ad0 rfl)) (hd:(x == ("__debug__":Str))=false:=by decide)
  (hcd:(x == ("__classdict__":Str))=false:=by decide):PE X (.Name x pos) (Pe i):=MS hN hv hd hcd
end
theorem bh {A B:Prop} (h:B):if false=true then A else B:=by
 rw [if_neg aaE]
 exact h
theorem fE {A B:Prop} (h:A):if true=true then A else B:=by
 rw [if_pos rfl]
 exact h
theorem df {c A B:Prop} [Decidable c] (h1:c→A) (h2:¬ c→B):if c then A else B:=by
 by_cases h:c
 ·rw [if_pos h]
  exact h1 h
 ·rw [if_neg h]
  exact h2 h
def ag (H H':Hp):Prop:=∀b o,H b=some o→H' b=some o
theorem ag.refl (H:Hp):ag H H:=fun _ _ h=>h
theorem ag.trans {H H1 H2:Hp} (a:ag H H1) (b:ag H1 H2):ag H H2:=fun c o h=>b c o (a c o h)
theorem ag.free {H H':Hp} (e:ag H H') {l:aaD} (h:H' l=ae2):H l=ae2:=by
 cases q:H l with
 | none=>rfl
 | some o =>
  rw [e l o q] at h
  cases h
theorem ag.seq {K:aaa} {H H':Hp} {a:aaD} {xs:List V} (e:ag H H') (h:aB K H a xs):aB K H' a xs:=by
 rcases h with(h|⟨o,h⟩)|h
 ·exact .inl (.inl (e _ _ h))
 ·exact .inl (.inr ⟨o,e _ _ h⟩)
 ·exact .inr h
def aO (env:Env):List (Str × NameKind)→List (Str × aaD)→List (Str × aaD)
 | [],cs=>cs
 | (n,k)::r,cs=>if (k == abF)=true then aO env r ((n,(env.cells.lookup n).getD 0)::cs) else aO env r cs
theorem gT {env:Env}:∀(names:List (Str × NameKind)) (cs:List (Str × aaD)),(∀y∈names,y.2=.free→(env.cells.lookup y.1).isSome=true) →
  (forIn names cs (fun x (cs:List (Str × aaD))=>(match x with|(name,kind)=>if (kind == abF)=true then (do let a ← cellOf env name;pure (acJ ((name,a)::cs))) else pure (acJ cs):Sem (ForInStep (List (Str × aaD))))):Sem (List (Str × aaD)))=pure (aO env names cs)
 | [],cs,_=>rfl
 | (n,k)::r,cs,h=>by
  have hr:∀y∈r,y.2=.free→(env.cells.lookup y.1).isSome=true:=fun y hy=>h y (aan _ hy)
  rw [List.forIn_cons]
  by_cases hk:(k == abF)=true
  ·have e:k=.free:=by simpa using hk
   have hs:=h (n,k) aaN e
   obtain⟨a,ha⟩:=abj.mp hs
   simp only [hk,if_true,aO,cellOf,ha,aet,pure_bind]
   exact gT r _ hr
  ·simp only [hk,aO,pure_bind,acE,if_false]
   exact gT r _ hr
theorem m7 {env:Env} {scope:Scope} (h:∀y∈scope.names,y.2=.free→(env.cells.lookup y.1).isSome=true):closureFor scope env=pure (aO env scope.names []):=by
 have e:=gT (env:=env) scope.names [] h
 unfold closureFor
 simp only [bind_pure_comp,map_pure] at e ⊢
 rw [← e]
 simp
theorem eY {env:Env}:∀{names:List (Str × NameKind)} {cs:List (Str × aaD)} {y:Str} {c:aaD},(∀z∈names,z.2=.free→(env.cells.lookup z.1).isSome=true)→(∀y c,cs.lookup y=some c→env.cells.lookup y=some c) →
  (aO env names cs).lookup y=some c→env.cells.lookup y=some c
 | [],_,_,_,_,hc,h=>hc _ _ h
 | (n,k)::r,cs,y,c,hn,hc,h=>by
  have hr:∀z∈r,z.2=.free→(env.cells.lookup z.1).isSome=true:=fun z hz=>hn z (aan _ hz)
  unfold aO at h
  by_cases hk:(k == abF)=true
  ·rw [if_pos hk] at h
   have e:k=.free:=by simpa using hk
   obtain⟨a,ha⟩:=abj.mp (hn (n,k) aaN e)
   refine eY hr (fun z d q=>?_) h
   rw [abm] at q
   cases hz:z == n with
   | true =>
    have ez:z=n:=by simpa using hz
    rw [hz] at q
    simp only [ha,aet] at q
    have ha':env.cells.lookup n=some a:=ha
    rw [ez,ha']
    exact q
   | false =>
    rw [hz] at q
    exact hc z d q
  ·rw [if_neg hk] at h
   exact eY hr hc h
theorem eZ {env:Env}:∀{names:List (Str × NameKind)} {cs:List (Str × aaD)} {y:Str},((y,abF)∈names∨(cs.lookup y).isSome=true)→((aO env names cs).lookup y).isSome=true
 | [],_,_,h=>by
  rcases h with h|h
  ·cases h
  ·exact h
 | (n,k)::r,cs,y,h=>by
  unfold aO
  have key:∀a:aaD,(cs.lookup y).isSome=true→(ac5 y ((n,a)::cs)).isSome=true:=fun a q=>by
   rw [abm]
   cases y == n with
   | true=>rfl
   | false=>exact q
  by_cases hk:(k == abF)=true
  ·rw [if_pos hk]
   refine eZ ?_
   rcases h with h|h
   ·rcases aaB.mp h with e|h
    ·cases e
     refine .inr ?_
     rw [abm]
     simp
    ·exact .inl h
   ·exact .inr (key _ h)
  ·rw [if_neg hk]
   refine eZ ?_
   rcases h with h|h
   ·rcases aaB.mp h with e|h
    ·cases e
     exact absurd (by simp) hk
    ·exact .inl h
   ·exact .inr h
def cy (X:Cx) (scope:Scope) (cl:List (Str × aaD)) (N:List Str) (C:aaD) (s₀:aak) (H₀:Hp) (ex:List aaD):Cx where
 prog:=X.prog
 w:=X.w
 K:=X.K
 mg:=X.mg
 base:=X.base
 A:=X.A
 N:=N
 s₀:=s₀
 H₀:=H₀
 env:=compEnvC scope cl C X.env
 outer:=X.stack
 stack:=X.stack
 ex:=ex
 fn:=fun _=>false
 calm:=X.calm
 pn:=[]
 xe:=fun _ _=>False
def cm (X:Cx) (x:Str) (aG:List Nat):List Str:=x::aG.map fun i=>X.N.getD i (aac "")
def bY (σ:St) (o:Option V) (aG:List Nat):St:=o::aG.map fun i=>(σ[i]?).join
def sQ (outer scope:Scope) (x:Str) (N:List Str):Bool :=
 decide (scope.kind=.function) && scope.names.all (fun y=>decide (y.2≠.cell)) && scope.names.all (fun y=>decide (y.2=.local→scope.names.lookup y.1=some .local)) && decide (scope.names.lookup x=some .local) &&
  scope.names.all (fun y=>decide (y.2=.free→(outer.names.lookup y.1=some .cell∨outer.names.lookup y.1=some .free))) && N.tail.all (fun y=>decide (scope.names.lookup y=some .free)) && decide N.Nodup
structure G0 (outer scope:Scope) (x:Str) (N:List Str):Prop where
 kind:scope.kind=.function
 sR:∀y∈scope.names,y.2≠.cell
 locs:∀y∈scope.names,y.2=.local→scope.names.lookup y.1=some .local
 PR:scope.names.lookup x=some .local
 frees:∀y∈scope.names,y.2=.free→(outer.names.lookup y.1=some .cell∨outer.names.lookup y.1=some .free)
 aG:∀y∈N.tail,scope.names.lookup y=some .free
 nd:N.Nodup
theorem E2 {outer scope:Scope} {x:Str} {N:List Str} (h:sQ outer scope x N=true):G0 outer scope x N:=by
 unfold sQ at h
 simp only [abc,abn,decide_eq_true_eq] at h
 obtain⟨⟨⟨⟨⟨⟨h1,h2⟩,h3⟩,h4⟩,h5⟩,h6⟩,h7⟩:=h
 exact⟨h1,h2,h3,h4,h5,h6,h7⟩
theorem dh {scope:Scope} {env:Env} {y:Str} {k':NameKind} (h:(relabel scope env).names.lookup y=some k'):∃k,scope.names.lookup y=some k∧(k'=k∨(k=.free∧k'=.cell)):=by
 have go:∀(names:List (Str × NameKind)),(names.map fun(n,k)=>if (k == abF && env.scope.kind == .function && env.kindOf n == some .cell) then (n,acP) else (n,k)).lookup y=some k' →
   ∃k,names.lookup y=some k∧(k'=k∨(k=.free∧k'=.cell)):=by
  intro names
  induction names with
  | nil=>intro h;simp at h
  | cons a r ih =>
   obtain⟨n,k⟩:=a
   intro h
   rw [aaZ] at h
   by_cases hc:(k == abF && env.scope.kind == .function && env.kindOf n == some .cell)=true
   ·simp only [hc,if_true,abm] at h
    rw [abm]
    cases hy:y == n with
    | true =>
     rw [hy] at h
     have hk:k=.free:=by
      simp only [abc,beq_iff_eq] at hc
      exact hc.1.1
     exact⟨k,rfl,.inr ⟨hk,(aaR h).symm⟩⟩
    | false =>
     rw [hy] at h
     exact ih h
   ·simp only [hc,acE,if_false,abm] at h
    rw [abm]
    cases hy:y == n with
    | true =>
     rw [hy] at h
     exact⟨k,rfl,.inl (aaR h).symm⟩
    | false =>
     rw [hy] at h
     exact ih h
 exact go scope.names h
theorem iR {scope:Scope} {env:Env} {y:Str} (h:scope.names.lookup y=some .free):(relabel scope env).names.lookup y=some .cell∨(relabel scope env).names.lookup y=some .free:=by
 have go:∀(names:List (Str × NameKind)),names.lookup y=some .free→(names.map fun(n,k)=>if (k == abF && env.scope.kind == .function && env.kindOf n == some .cell) then (n,acP) else (n,k)).lookup y=some .cell ∨
   (names.map fun(n,k)=>if (k == abF && env.scope.kind == .function && env.kindOf n == some .cell) then (n,acP) else (n,k)).lookup y=some .free:=by
  intro names
  induction names with
  | nil=>intro h;simp at h
  | cons a r ih =>
   obtain⟨n,k⟩:=a
   intro h
   rw [aaZ]
   rw [abm] at h
   by_cases hc:(k == abF && env.scope.kind == .function && env.kindOf n == some .cell)=true
   ·simp only [hc,if_true,abm]
    cases hy:y == n with
    | true=>exact .inl rfl
    | false =>
     rw [hy] at h
     exact ih h
   ·simp only [hc,acE,if_false,abm]
    cases hy:y == n with
    | true =>
     rw [hy] at h
     have h':k=.free:=aaR h
     exact .inr (by rw [h'])
    | false =>
     rw [hy] at h
     exact ih h
 exact go scope.names h
def E3 (X:Cx) (ifs:List Expr) (t:TT):Prop :=
 ∀(pins:List (aaD × Obj)) (s:aak) (σ:St) (H:Hp) (Q:Bool→Hp→Prop),Inv X pins σ H s→t σ H Q →
  abb (model X.prog X.w) X.A (forIn ifs true fun c r=>if r=true then do let ok ← isTrue c X.env (eval c X.env);pure (acJ ok) else pure (acJ r)) (TP X pins σ Q) X.xe s
def PU:TT:=fun _ H Q=>Q true H
theorem bp {X:Cx}:E3 X [] PU:=fun _ _ _ H _ I h=>wpAny_tests_nil ⟨H,I,h⟩
theorem lZ {X:Cx} {c:Expr} {t:TT} (h:PT X c t):E3 X [c] t:=fun pins s σ H Q I hq=>wpAny_tests_one (h pins s σ H Q I hq)
theorem iS {prog:aa4} {w:abu} {A:abC} {R:Result→aak→Prop} {s:aak} {elt target iter:Expr} {ifs:List Expr} {scope:Scope} {pos:Pos} {it acc:aae} {env:Env} (I:Nat→aak→Prop)
  (turn:∀n s,I n s→abb (model prog w) A (pyNext it) (fun r s₁=>match r with
   | none=>R (.ok .next) s₁
   | some v=>abb (model prog w) A (letOwnedTupleGo target it v) (fun _ Xa=>abb (model prog w) A (assign target env v) (fun _ s₂ =>
     abb (model prog w) A (forIn ifs true fun c r=>if r=true then do let ok ← isTrue c env (eval c env);pure (acJ ok) else pure (acJ r)) (fun ok s₃ =>
      if ok=true then abb (model prog w) A (eval elt env) (fun x s₄ =>
       abb (model prog w) A (call (.builtin "list.append") [acc,x]) (fun _ s₅=>∃m,m<n∧I m s₅) (fun _ _=>False) s₄) (fun _ _=>False) s₃
      else ∃m,m<n∧I m s₃) (fun _ _=>False) s₂) (fun _ _=>False) Xa) (fun _ _=>False) s₁) (fun _ _=>False) s)
  (n:Nat) (h:I n s):codeAny (model prog w) A (.compLoop (.ListComp elt [⟨target,iter,ifs,0⟩] scope pos) 0 it acc env) R s:=by
 refine codeAny_loop rfl I (fun n s hI=>?_) n h
 show abb _ A ((compTurn (.ListComp elt [⟨target,iter,ifs,0⟩] scope pos) 0 it acc env).onRaise (fun x=>do noteFrame x env;theTreesLotGoes x)) _ _ s
 refine wpAny_noted ?_
 rw [compTurn_list]
 refine aap (wpAny_standAt (aap (wpAny_mono (turn n s hI) (fun r s₁ h₁=>?_) fun _ _ h'=>h'.elim)))
 cases r with
 | none=>exact aaP h₁
 | some v =>
  refine aap (wpAny_mono h₁ (fun _ Xa YY=>?_) fun _ _ h'=>h'.elim)
  refine aap (wpAny_mono YY (fun _ s₂ h₂=>aap (wpAny_mono h₂ (fun ok s₃ h₃=>?_) fun _ _ h'=>h'.elim)) fun _ _ h'=>h'.elim)
  cases ok with
  | false=>exact aaP ⟨rfl,h₃⟩
  | true =>
   exact aap (aap (wpAny_mono h₃ (fun x s₄ h₄=>aap (wpAny_mono h₄ (fun _ s₅ h₅=>aaP (aaP ⟨rfl,h₅⟩)) fun _ _ h'=>h'.elim)) fun _ _ h'=>h'.elim))
def qH (tt:TT) (te:TE) (aG:List Nat) (σ:St) (Q:VK) (J:It) (H1:Hp) (D:aaD):Prop :=
 ∃W:Nat→Nat→List V→Hp→Prop,(∃m,W 0 m [] (upd H1 D (.lst [])))∧∀i m ys H,W i m ys H →
  H D=some (.lst ys)∧ys.length<aao ∧
  ((J.stop i H∧Q (.ref D) H)∨(J.go i H∧∃N:List V→Hp→Prop,(∀zs H',N zs H'→∃m',m'<m∧W (i+1) m' zs H')∧∀x H',J.JV i H x H'→tt (bY σ (some x) aG) H' fun b H2 =>
   if b=true then te (bY σ (some x) aG) H2 fun y H3=>H3 D=some (.lst ys)∧N (ys++[y]) (upd H3 D (.lst (ys++[y])))
   else N ys H2))
def Ao (wi:TI) (tt:TT) (te:TE) (aG:List Nat):TE:=fun σ H Q=>wi σ H fun J H1=>∀D,H1 D=none→qH tt te aG σ Q J H1 D
section
variable {X:Cx}
theorem Cr {scope:Scope} {x:Str} {aG:List Nat} {pins:List (aaD × Obj)} {σ:St} {H:Hp} {s3:aak} {h1:Heap} {fp:List aaD} {m:Str→Option aae} {tk:Nat} (ok:G0 X.env.scope scope x (cm X x aG)) (I:Inv X pins σ H s3)
  (hf:∀b∈fp,jK X pins H b) (eE:∀b∈fp,b<s3.heap.objs.size) (hn:h1.Ns s3.heap.objs.size m) (keep:∀b o,s3.heap.get? b=some o→h1.get? b=some o) :
  Inv (cy X scope (aO X.env scope.names []) (cm X x aG) s3.heap.objs.size s3 H fp) [] (bY σ none aG) H { s3 with heap:=h1,toks:=tk }:=by
 have gF:∀z∈scope.names,z.2=.free→(X.env.cells.lookup z.1).isSome=true:=fun z hz u4=>by
  obtain⟨c,e⟩:=I.ok.has z.1 (by
   rcases ok.frees z hz u4 with q|q
   ·exact .inl q
   ·exact .inr q)
  rw [e];rfl
 have sub:∀y c,(aO X.env scope.names []).lookup y=some c→X.env.cells.lookup y=some c:=fun y c h=>eY gF (fun _ _ q=>by simp at q) h
 have hC:H s3.heap.objs.size=none:=I.hok.fresh (aaf _)
 have Gv:∀y c,X.env.cells.lookup y=some c→c<s3.heap.objs.size:=fun y c e=>by
  obtain⟨v,z⟩:=I.cell y c e
  exact z.lt
 refine⟨⟨I.ok.mod,?_,I.ok.glob,I.ok.blt,aaf _,fun y z c e1 e2=>I.ok.inj y z c (sub _ _ e1) (sub _ _ e2),fun y hy=>?_,fun y c JQ _=>?_,I.ok.hd,I.ok.frames,.inl rfl,fun b hb=>⟨aaW (eE b hb),fun y c e=>(hf b hb).2.2.2.2.1 y c (sub _ _ e)⟩,
   I.bs,aa5 I.ok.EM I.sz,fun b o e hb=>?_,fun b hb L5=>?_,I.stack,I.rO⟩,
  rfl,I.bare,Un.kept keep,⟨m,hn,fun i y v e1 e2 e3=>?_⟩,fun y c e=>?_,hC,fun y c e=>I.jC y c (sub _ _ e),fun p hp=>absurd (show p∈([]:List (aaD × Obj)) from hp) (by simp),I.hok.kept keep,by simp [cy,cm,bY]⟩
 ·show(relabel scope X.env).kind=.function
  exact ok.kind
 ·have hy':(relabel scope X.env).names.lookup y=some .cell∨(relabel scope X.env).names.lookup y=some .free:=hy
  have fr:scope.names.lookup y=some .free:=by
   rcases hy' with q|q
   ·obtain⟨k,e,z⟩:=dh q
    rcases z with z|⟨z,_⟩
    ·exact absurd z.symm (ok.sR _ (aa6 e))
    ·rw [e,z]
   ·obtain⟨k,e,z⟩:=dh q
    rcases z with z|⟨_,z⟩
    ·rw [e,z]
    ·cases z
  exact abj.mp (eZ (.inl (aa6 fr)))
 ·exact absurd (show(fun _=>false) y=true from JQ) (by simp)
 ·rcases(hf b hb).2.2.2.1 with z|z
  ·exact I.ok.B3 b o e z
  ·exact absurd (aa0 (aay e) (aa5 I.ok.EM z)) (abM _)
 ·rcases aaB.mp (I.jQ b L5) with z|z
  ·exact(hf b hb).2.1 z
  ·exact(hf b hb).2.2.1 z
 ·have e1':(cm X x aG)[i]?=some y:=e1
  cases i with
  | zero=>simp [bY] at e2
  | succ i =>
   simp only [cm,acz,aaq] at e1'
   simp only [bY,acz,aaq] at e2
   cases hj:aG[i]? with
   | none=>rw [hj] at e2;cases e2
   | some j =>
    rw [hj] at e1' e2
    simp only [aco,aea] at e1' e2
    cases hσ:σ[j]? with
    | none=>rw [hσ] at e2;cases e2
    | some o =>
     rw [hσ] at e2
     have e2':o=some v:=e2
     subst e2'
     have L6:j<X.N.length:=by rw [← I.len];exact(aar.mp hσ).1
     have eN:X.N[j]?=some y:=by
      rw [Ge9 L6]
      rw [Gd9,Ge9 L6] at e1'
      exact congrArg some e1'
     have hy:scope.names.lookup y=some .free:=ok.aG y (by
      show y∈aG.map fun i=>X.N.getD i (aac "")
      exact aah.mpr ⟨j,abr hj,e1'⟩)
     have hk:=ok.frees (y,.free) (aa6 hy) rfl
     obtain⟨m',_,hl⟩:=I.loc
     obtain⟨u,r,q⟩:=hl j y v eN hσ (.inr hk)
     refine⟨u,r,.inr ⟨iR hy,?_⟩⟩
     rcases q with⟨k,_⟩|⟨_,c,e,z⟩
     ·have k':X.env.scope.names.lookup y=some .local:=k
      rw [k'] at hk
      rcases hk with hk|hk <;> cases hk
     ·obtain⟨c',e'⟩:=abj.mp (eZ (env:=X.env) (cs:=[]) (.inl (aa6 hy)))
      have ec:=sub _ _ e'
      rw [e] at ec
      cases ec
      obtain⟨o,ho,hd⟩:=z
      exact⟨c,e',o,keep c o ho,hd⟩
 ·obtain⟨v,o,ho,hd⟩:=I.cell y c (sub _ _ e)
  exact⟨v,o,keep c o ho,hd⟩
theorem wu {x:Str} {px pos p:Pos} {iter elt:Expr} {ifs:List Expr} {scope:Scope} {wi:TI} {tt:TT} {te:TE} {aG:List Nat} {use:Option (aae→Sem Unit)} {QQ:aae→aak→Prop}
  (hc:X.calm=true) (ho:sQ X.env.scope scope x (cm X x aG)=true) (hi:PI X (.Name x px) iter wi)
  (ht:∀cl C s₀ H₀ ex,E3 (cy X scope cl (cm X x aG) C s₀ H₀ ex) ifs tt) (he:∀cl C s₀ H₀ ex,PE (cy X scope cl (cm X x aG) C s₀ H₀ ex) elt te)
  (hs:∀x,foldedSetIterable iter X.env x=pure x) {pins:List (aaD × Obj)} {s:aak} {σ:St} {H:Hp} {Q:VK} (I:Inv X pins σ H s) (h:Ao wi tt te aG σ H Q)
  (fin:∀(D C:aaD) (H':Hp) (s':aak) (m:Str→Option aae),Inv X pins σ H' s'→Q (.ref D) H'→s'.heap.Ns C m→jK X pins H' C→compPost (model X.prog X.w) X.A X.xe use QQ (.ref D) C (.ok .next) s') :
  abb (model X.prog X.w) X.A (comprehension (.ListComp elt [⟨.Name x px,iter,ifs,0⟩] scope pos) scope X.env p (newList []) false (eval iter X.env) use) QQ X.xe s:=by
 have ok:=E2 ho
 have gF:∀z∈scope.names,z.2=.free→(X.env.cells.lookup z.1).isSome=true:=fun z hz u4=>by
  obtain⟨c,e⟩:=I.ok.has z.1 (by
   rcases ok.frees z hz u4 with q|q
   ·exact .inl q
   ·exact .inr q)
  rw [e];rfl
 refine wpAny_comprehension_free (cl:=aO X.env scope.names []) (use:=use) rfl hs (m7 gF) ok.kind ok.locs (thn (hi pins s σ H _ I h) fun v s1 h1=>thn h1 fun Pm s2 h2=>?_)
 obtain⟨it,fp,tn,J,H2,e,I2,T,nS,f2,rd⟩:=h2
 subst e
 refine wpAny_newObj_type (wpAny_newFunctionEnv ok.sR (by intro y hy;simp at hy) (fun h₁ sS Ct=>?_) ok.kind)
 dsimp only at sS Ct ⊢
 have BY:H2 s2.heap.objs.size=none:=I2.hok.fresh (aaf _)
 obtain⟨W,⟨m0,w0⟩,turn⟩:=rd s2.heap.objs.size BY
 have Ap:∀b∈fp,b<s2.heap.objs.size:=fun b hb=>by
  obtain⟨o,e,_⟩:=T.obj 0 _ nS b hb
  exact aay e
 have hsz:(s2.heap.push { cls:=.type "list",dict:=none,data:=.seq ([]:List aae).toArray }).objs.size=s2.heap.objs.size+1:=acb ..
 have I3:Inv X pins σ (upd H2 s2.heap.objs.size (.lst [])) { s2 with heap:=s2.heap.push { cls:=.type "list",dict:=none,data:=.seq ([]:List aae).toArray } } :=
  I2.laid (t':=s2.toks) (fun b u e=>aag _ e) (aaf _) ⟨by simp,[],0,.nil,aaM _ rfl⟩
 have we:tn 0 (s2.heap.push { cls:=.type "list",dict:=none,data:=.seq ([]:List aae).toArray }):=T.keep _ _ _ nS fun b _ o e=>aag _ e
 generalize Ue:s2.heap.push { cls:=.type "list",dict:=none,data:=.seq ([]:List aae).toArray }=h3 at sS Ct hsz I3 we ⊢
 generalize PV:upd H2 s2.heap.objs.size (.lst [])=H3 at I3 w0
 have xM:∀b∈fp,b<h3.objs.size:=fun b hb=>by rw [hsz];exact acQ (Ap b hb)
 have f3:∀b∈fp,jK X pins H3 b:=fun b hb=>⟨by rw [← PV,ar (aaW (Ap b hb))];exact(f2 b hb).1,(f2 b hb).2⟩
 have keep:∀b o,h3.get? b=some o→h₁.get? b=some o:=fun b o e=>Ct.extBut b o (aaW (aay e)) (aag _ e)
 have I4:=Cr (s3:={ s2 with heap:=h3 }) (tk:=s2.toks+([]:List (Str × aae)).length) ok I3 f3 xM sS keep
 have vc:tn 0 h₁:=T.keep _ _ _ we fun b _ o e=>keep b o e
 generalize fP:cy X scope (aO X.env scope.names []) (cm X x aG) ({ s2 with heap:=h3 }:aak).heap.objs.size { s2 with heap:=h3 } H3 fp=X' at I4
 have eA:X'.A=X.A:=by rw [← fP] <;> rfl
 have eP:X'.prog=X.prog:=by rw [← fP] <;> rfl
 have ew:X'.w=X.w:=by rw [← fP] <;> rfl
 have eK:X'.K=X.K:=by rw [← fP] <;> rfl
 have ee:X'.env=compEnvC scope (aO X.env scope.names []) h3.objs.size X.env:=by rw [← fP] <;> rfl
 have ex:X'.xe=fun _ _=>False:=by rw [← fP] <;> rfl
 have eN:X'.N=cm X x aG:=by rw [← fP] <;> rfl
 have ec:X'.calm=true:=by rw [← fP];exact hc
 have PX:X'.fs=Ad X.stack:=by rw [← fP] <;> rfl
 have hT':E3 X' ifs tt:=by rw [← fP];exact ht _ _ _ _ _
 have hE':PE X' elt te:=by rw [← fP];exact he _ _ _ _ _
 have leave:∀{σ':St} {H':Hp} {s':aak},Inv X' [] σ' H' s'→Q (.ref s2.heap.objs.size) H'→compPost (model X.prog X.w) X.A X.xe use QQ (.ref s2.heap.objs.size) h3.objs.size (.ok .next) s':=fun {σ' H' s'} J q=>by
  have un:Un (Ad X.stack) fp H3 H' h3 s'.heap:=by have z:=J.base;rw [← fP] at z;exact z
  have EY:s'.os=s2.os:=by have z:=J.os;rw [← fP] at z;exact z
  have hk:mm X.prog X.w H' s'.heap:=by have z:=J.hok;rw [eP,ew] at z;exact z
  have Jx:=I3.Gw (s':=s') (ch:=fp) EY un hk J.bare fun b hb=>⟨(f3 b hb).2.2.2.1,(f3 b hb).2.1,(f3 b hb).2.2.2.2.1,(f3 b hb).2.2.2.2.2⟩
  obtain⟨m,hn,_⟩:=J.loc
  have hn':s'.heap.Ns h3.objs.size m:=by rw [ee] at hn;exact hn
  have u4:H' h3.objs.size=none:=by have z:=J.free;rw [ee] at z;exact z
  exact fin _ _ H' s' m Jx q hn' (I3.xD (aaf _) u4)
 have m4:∀{H':Hp},(∀b∈fp,H' b=none)→∀b∈fp,jK X' [] H' b:=fun {H'} hn b hb=>by
  refine⟨hn b hb,?_,?_,.inl ?_,fun y c e=>?_,fun p hp=>?_⟩
  ·rw [ee];exact aaW (xM b hb)
  ·rw [PX]
   intro z
   rcases aaB.mp (I3.jQ b z) with z|z
   ·exact(f3 b hb).2.1 z
   ·exact(f3 b hb).2.2.1 z
  ·rw [← fP];exact hb
  ·have e':(aO X.env scope.names []).lookup y=some c:=by rw [ee] at e;exact e
   exact(f3 b hb).2.2.2.2.1 y c (eY gF (fun _ _ q=>by simp at q) e')
  ·rw [← fP] at hp
   exact absurd (show p∈([]:List (aaD × Obj)) from hp) (by simp)
 have loop:∀s₃:aak,s₃={ s2 with heap:=h₁,toks:=s2.toks+([]:List (Str × aae)).length } →
   codeAny (model X.prog X.w) X.A (.compLoop (.ListComp elt [⟨.Name x px,iter,ifs,0⟩] scope pos) 0 (.ref it) (.ref s2.heap.objs.size) (compEnvC scope (aO X.env scope.names []) h3.objs.size X.env))
    (compPost (model X.prog X.w) X.A X.xe use QQ (.ref s2.heap.objs.size) h3.objs.size) s₃:=by
  rintro s₃ rfl
  refine iS (fun n s'=>∃i o H' ys,Inv X' [] (bY σ o aG) H' s'∧tn i s'.heap∧(∀b∈fp,H' b=none)∧W i n ys H') ?_ m0 ⟨0,none,H3,[],I4,vc,fun b hb=>(f3 b hb).1,w0⟩
  rintro n s' ⟨i,o,H',ys,J,wd,L7,w'⟩
  obtain⟨PY,hlen,alt⟩:=turn i n ys H' w'
  rcases alt with⟨stop,q⟩|⟨go,N,hN,step⟩
  ·have z:=T.done X' eP ew eK ec i [] s' _ H' (fun _ _=>False) J (m4 L7) wd stop
   rw [eA] at z
   refine thn z fun r s4 ⟨hr,J4⟩=>?_
   subst hr
   exact leave J4 q
  ·have z:=T.item X' eP ew eK ec i [] s' _ H' (fun _ _=>False) J (m4 L7) wd go
   rw [eA] at z
   refine thn z fun r s4 ⟨u,hr,h4⟩=>?_
   subst hr
   refine thn h4 fun _ s5 ⟨xv,H5,J5,r5,y5,rQ,MX⟩=>?_
   have PZ:=J5.pinned (m4 MX) (T.obj _ _ rQ)
   have lx:(relabel scope X.env).names.lookup x=some .local:=lookup_relabel_local ok.PR
   have hg:PG X' (.Name x px) (jD 0):=aH (by rw [eN];exact ok.nd) (by rw [eN] <;> rfl) (by rw [ee];exact .inl lx) (by rw [ee];exact .inr lx)
   have zg:=hg _ s5 _ H5 xv u (fun σ6 H6=>σ6=bY σ (some xv) aG∧H6=H5) PZ r5 ⟨rfl,rfl⟩
   rw [eP,ew,eA,ee,ex] at zg
   refine thn zg fun _ s6 ⟨σ6,H6,J6,q6⟩=>?_
   obtain⟨e6,Ug⟩:=q6
   subst e6 Ug
   have zt:=hT' _ s6 _ _ _ J6 (step xv _ y5)
   rw [eP,ew,eA,ee,ex] at zt
   refine thn zt fun b s7 ⟨H7,J7,q7⟩=>?_
   have again:∀{H8:Hp} {s8:aak} {DV:List V},Inv X' ([]++m3 fp s5.heap) (bY σ (some xv) aG) H8 s8→N DV H8→∃m,m<n∧∃i o H' ys,Inv X' [] (bY σ o aG) H' s8∧tn i s8.heap∧(∀b∈fp,H' b=none)∧W i m ys H':=fun {H8 s8 DV} J8 n8=>by
    obtain⟨m',hm,w8⟩:=hN DV H8 n8
    refine⟨m',hm,i+1,some xv,H8,DV,J8.iw,T.keep _ _ _ rQ fun b hb o e=>(J8.pin (b,o) (aaT _ (aaT _ (cW hb e)))).1,fun b hb=>?_,w8⟩
    obtain⟨o,e,d⟩:=T.obj _ _ rQ b hb
    exact(J8.pin (b,o) (aaT _ (aaT _ (cW hb e)))).2.1
   cases b with
   | false=>exact again J7 q7
   | true =>
    have ze:=hE' _ s7 _ H7 _ J7 q7
    rw [eP,ew,eA,ee,ex] at ze
    refine thn ze fun yv s8 ⟨y,H8,J8,r8,P0,q8⟩=>?_
    have za:=bg (X:=X') _ s8 _ H8 (.ref s2.heap.objs.size) [y] (.ref s2.heap.objs.size) [yv] (fun _ H9=>H9=upd H8 s2.heap.objs.size (.lst (ys++[y]))) J8 rfl (.cons r8 .nil) ⟨_,ys,y,rfl,rfl,P0,hlen,rfl⟩
    rw [eP,ew,eA,ex] at za
    refine thn za fun _ s9 ⟨_,H9,J9,_,q9⟩=>?_
    subst q9
    exact again J9 q8
 exact codeAny_compStart_list (loop _ rfl) (T.self _ 0 _ _ _ vc (loop _ rfl))
theorem b6 {x:Str} {px pos:Pos} {iter elt:Expr} {ifs:List Expr} {scope:Scope} {wi:TI} {tt:TT} {te:TE} (aG:List Nat)
  (hc:X.calm=true) (ho:sQ X.env.scope scope x (cm X x aG)=true) (hi:PI X (.Name x px) iter wi)
  (ht:∀cl C s₀ H₀ ex,E3 (cy X scope cl (cm X x aG) C s₀ H₀ ex) ifs tt) (he:∀cl C s₀ H₀ ex,PE (cy X scope cl (cm X x aG) C s₀ H₀ ex) elt te)
  (hs:∀x,foldedSetIterable iter X.env x=pure x:=by intro _;rfl):PE X (.ListComp elt [⟨.Name x px,iter,ifs,0⟩] scope pos) (Ao wi tt te aG):=by
 intro pins s σ H Q I h
 rw [eval_ListComp]
 refine wu (use:=none) hc ho hi ht he hs I h fun D C H' s' m J q hn hf=>?_
 exact⟨m,hn,fun h' sb=>⟨.ref D,H',J.turned (t':=s'.toks) (fun b o hb e=>(sb.2 b hb).trans e) hf.1 hf.2.1 hf.2.2.2.1 hf.2.2.2.2.1 hf.2.2.2.2.2,rfl,q⟩⟩
theorem fF {i:Nat} {x y:Str} {px py pos G1:Pos} {iter elt:Expr} {ifs:List Expr} {scope:Scope} {wi:TI} {tt:TT} {te:TE} (aG:List Nat)
  (hN:X.N.Nodup) (JK:X.N[i]?=some y) (hy:Loc X.env.scope y)
  (hc:X.calm=true) (ho:sQ X.env.scope scope x (cm X x aG)=true) (hi:PI X (.Name x px) iter wi)
  (ht:∀cl C s₀ H₀ ex,E3 (cy X scope cl (cm X x aG) C s₀ H₀ ex) ifs tt) (he:∀cl C s₀ H₀ ex,PE (cy X scope cl (cm X x aG) C s₀ H₀ ex) elt te)
  (hsw:swapsWith (.ListComp elt [⟨.Name x px,iter,ifs,0⟩] scope pos) (some (.Name y py)) G1.line X.env=pure true:=by rfl)
  (hs:∀x,foldedSetIterable iter X.env x=pure x:=by intro _;rfl) (hf:X.fn y=true∨X.env.scope.names.lookup y=some .local:=by first|exact .inl rfl|exact .inr rfl|assumption) :
  PS X (.Assign [.Name y py] (.ListComp elt [⟨.Name x px,iter,ifs,0⟩] scope pos) G1) (JU (Ao wi tt te aG) (jD i)):=by
 intro pins s σ H D I h
 rw [exec_Assign_Name_used _ _ _ _ hsw]
 refine aap (wpAny_standAt (aap ?_))
 show abb _ X.A (do let _ ← comprehension (.ListComp elt [⟨.Name x px,iter,ifs,0⟩] scope pos) scope X.env _ (newList []) false (eval iter X.env) (some (assign (.Name y py) X.env))) _ _ s
 refine aap (wpAny_mono (wu (QQ:=fun _ s'=>SP X pins D .next s') (use:=some (assign (.Name y py) X.env)) hc ho hi ht he hs I h fun D' C H' s' m J q hn hf'=>?_) (fun _ s' hq=>aaP (aaP hq)) fun _ _ e=>e)
 refine wpAny_assign_Name (pC (v:=.ref D') J hN JK hy rfl (fun s2 I2 OP=>?_) hf)
 obtain⟨a,sb,ha⟩:=OP
 have hne:C≠a:=by
  rcases ha with rfl|e
  ·exact hf'.2.1
  ·exact fun z=>hf'.2.2.2.2.1 y a e z.symm
 exact⟨m,hn.sameBut sb hne,fun YZ Uh=>⟨_,H',I2.turned (t':=s2.toks) (fun b o hb e=>(Uh.2 b hb).trans e) hf'.1 hf'.2.1 hf'.2.2.2.1 hf'.2.2.2.2.1 hf'.2.2.2.2.2,q⟩⟩
end
section
variable {tt:TT} {te:TE} {aG:List Nat} {σ:St} {H1:Hp} {Q:VK}
theorem xN {J:It} {D:aaD} (n:Nat) (hn:n<aao) (at_:Nat→V) (Pv:Nat→List V→Hp→Prop) (h0:Pv 0 [] (upd H1 D (.lst [])))
  (MV:∀ys H,Pv n ys H→J.stop n H) (Y0:∀i ys H,Pv i ys H→i<n→J.go i H) (hy:∀i ys H x H',Pv i ys H→i<n→J.JV i H x H'→H'=H∧x=at_ i)
  (hD:∀i ys H,Pv i ys H→H D=some (.lst ys)∧ys.length≤i)
  (hs:∀i ys H,i<n→Pv i ys H→tt (bY σ (some (at_ i)) aG) H fun b H2 =>
   if b=true then te (bY σ (some (at_ i)) aG) H2 fun y H3=>H3 D=some (.lst ys)∧Pv (i+1) (ys++[y]) (upd H3 D (.lst (ys++[y])))
   else Pv (i+1) ys H2)
  (hd:∀ys H,Pv n ys H→Q (.ref D) H):qH tt te aG σ Q J H1 D:=by
 refine⟨fun i m ys H=>m=n - i∧i≤n∧Pv i ys H,⟨n,by simp,aa3 _,h0⟩,?_⟩
 rintro i m ys H ⟨rfl,hi,p⟩
 obtain⟨mn,hl⟩:=hD i ys H p
 refine⟨mn,by omega,?_⟩
 by_cases eE:i<n
 ·refine .inr ⟨Y0 i ys H p eE,Pv (i+1),fun zs H' q=>⟨n - (i+1),by omega,rfl,eE,q⟩,fun x H' y=>?_⟩
  obtain⟨e,e'⟩:=hy i ys H x H' p eE y
  subst e e'
  exact hs i ys _ eE p
 ·have e:i=n:=by omega
  subst e
  exact .inl ⟨MV ys H p,hd ys H p⟩
theorem dz {lo:Int} {n:Nat} {D:aaD} (hn:n<aao) (Pv:Nat→List V→Hp→Prop) (h0:Pv 0 [] (upd H1 D (.lst [])))
  (hD:∀i ys H,Pv i ys H→H D=some (.lst ys)∧ys.length≤i)
  (hs:∀i ys H,i<n→Pv i ys H→tt (bY σ (some (.int (lo+i))) aG) H fun b H2 =>
   if b=true then te (bY σ (some (.int (lo+i))) aG) H2 fun y H3=>H3 D=some (.lst ys)∧Pv (i+1) (ys++[y]) (upd H3 D (.lst (ys++[y])))
   else Pv (i+1) ys H2)
  (hd:∀ys H,Pv n ys H→Q (.ref D) H):qH tt te aG σ Q (LS lo n) H1 D :=
 xN (J:=LS lo n) (Q:=Q) (D:=D) (H1:=H1) n hn (fun i=>.int (lo+i)) Pv h0 (fun _ _ _=>aaf _) (fun _ _ _ _ h=>h) (fun _ _ _ _ _ _ _ y=>y) hD hs hd
theorem pJ {K:aaa} {a:aaD} {xs:List V} {D:aaD} (hn:xs.length<aao) (Pv:Nat→List V→Hp→Prop) (h0:Pv 0 [] (upd H1 D (.lst [])))
  (hl:∀i ys H,Pv i ys H→aB K H a xs) (hD:∀i ys H,Pv i ys H→H D=some (.lst ys)∧ys.length≤i)
  (hs:∀i ys H,i<xs.length→Pv i ys H→tt (bY σ (some (xs.getD i .cU)) aG) H fun b H2 =>
   if b=true then te (bY σ (some (xs.getD i .cU)) aG) H2 fun y H3=>H3 D=some (.lst ys)∧Pv (i+1) (ys++[y]) (upd H3 D (.lst (ys++[y])))
   else Pv (i+1) ys H2)
  (hd:∀ys H,Pv xs.length ys H→Q (.ref D) H):qH tt te aG σ Q (JH K a) H1 D :=
 xN (J:=JH K a) (Q:=Q) (D:=D) (H1:=H1) xs.length hn (fun i=>xs.getD i .cU) Pv h0 (fun ys H p=>⟨xs,hl _ ys H p,aaf _⟩)
  (fun i ys H p h=>⟨xs,xs[i],hl i ys H p,by simp [h]⟩) (fun i ys H x H' p h y=>⟨y.1,by
   have z:=y.2 xs (hl i ys H p)
   rw [Gd9,z] <;> rfl⟩) hD hs hd
end
def Sv (x:Str):It:=⟨fun i _=>i<x.cps.size,fun i H v H'=>H'=H∧∃c,x.cps[i]?=some c∧v=.str ⟨#[c]⟩,fun i _=>i=x.cps.size⟩
theorem G2 {P:aa4} {w:abu} {K:aaa} {tg:Expr} (ty:String) (JJ:ty="str_ascii_iterator"∨ty="str_iterator") (it:aaD) (x:Str) (t:Tok) :
  Turn P w K tg (Sv x) [it] it (fun i h=>h.IsStrIter it ty x t i) where
 mem:=by simp
 obj:=fun i h st b hb=>by
  have e:b=it:=by simpa using hb
  subst e
  obtain⟨o,e,c,d⟩:=st
  exact⟨o,e,fun v z=>by rw [d] at z;cases z⟩
 keep:=fun i h h' st k=>by
  obtain⟨o,e,r⟩:=st
  exact⟨o,k it (by simp) o e,r⟩
 item:=by
  intro X hP hw hK hc i pins s σ H E I hf st hg
  subst hP hw hK
  obtain⟨f0,f1,f2,f3,f4,f5⟩:=hf it (by simp)
  have wk:Walks X.prog X.w X.A it [it] [it] x.cps.size (SignAt x) (fun i h=>h.IsStrIter it ty x t i):=by
   rcases JJ with e|e
   ·subst e;exact Walks.strAscii (I.ok.hd hc) it x t
   ·subst e;exact Walks.strWide (I.ok.hd hc) it x t
  have hn:["enumerate","zip","dict_itemiterator","dict_reverseitemiterator","odict_iterator","itertools.zip_longest","itertools.pairwise"].contains ty=false:=by
   rcases JJ with e|e
   ·subst e;decide
   ·subst e;decide
  refine wk.item i s _ E hg st fun v h' tk hv wd kk=>?_
  obtain⟨c,u,hc',rfl⟩:=hv
  have I1:Inv X pins σ H { s with heap:=h',toks:=tk }:=I.turned (fun b o hb e=>kk b o (by simpa using hb) e) f0 f1 f3 f4 f5
  obtain⟨o,e,ec,d⟩:=id wd
  exact⟨_,rfl,DJ (s:={ s with heap:=h',toks:=tk }) e ec d hn ⟨.str ⟨#[c]⟩,H,I1,⟨u,rfl⟩,⟨rfl,c,hc',rfl⟩,wd,fun b hb=>(hf b hb).1⟩⟩
 done:=by
  intro X hP hw hK hc i pins s σ H E I hf st hg
  subst hP hw hK
  obtain⟨f0,f1,f2,f3,f4,f5⟩:=hf it (by simp)
  have wk:Walks X.prog X.w X.A it [it] [it] x.cps.size (SignAt x) (fun i h=>h.IsStrIter it ty x t i):=by
   rcases JJ with e|e
   ·subst e;exact Walks.strAscii (I.ok.hd hc) it x t
   ·subst e;exact Walks.strWide (I.ok.hd hc) it x t
  have hi:i=x.cps.size:=hg
  subst hi
  exact wk.done s _ E st fun h' tk kk=>⟨rfl,I.turned (fun b o hb e=>kk b o (by simpa using hb) e) f0 f1 f3 f4 f5⟩
 self:=fun A i s Q E st h=>by
  rcases JJ with e|e
  ·subst e;exact wpAny_pyIter_striter_ascii st h
  ·subst e;exact wpAny_pyIter_striter_wide st h
def Ui (tl:TE):TI:=fun σ H R=>tl σ H fun x H1=>∃z,x=.str z∧R (Sv z) H1
section
variable {X:Cx} {tg:Expr}
theorem Nh {l:Expr} {tl:TE} (hl:PE X l tl):PI X tg l (Ui tl):=by
 intro pins s σ H R I h
 refine thn (hl pins s σ H _ I h) fun v s1 ⟨x,H1,I1,r1,q1⟩=>?_
 obtain⟨z,e,q⟩:=q1
 subst e
 obtain⟨t,rfl⟩:=r1
 have fin:∀ty,(ty="str_ascii_iterator"∨ty="str_iterator")→Tz X pins σ tg R (.ref s1.heap.objs.size) { s1 with heap:=s1.heap.push { cls:=.type ty,data:=.fields #[.str z t,.int 0 0] } }:=fun ty JJ=>by
  refine⟨s1.heap.objs.size,[s1.heap.objs.size],_,_,H1,rfl,I1.kept (t':=s1.toks) fun b o e=>aag _ e,G2 ty JJ _ z t,⟨_,aaM _ rfl,rfl,rfl⟩,fun b hb=>?_,q⟩
  have e:b=s1.heap.objs.size:=by simpa using hb
  subst e
  exact I1.xD (aaf _) (I1.hok.fresh (aaf _))
 cases ha:z.cps.all (·<128)
 ·exact wpAny_pyIter_wide ha (fin _ (.inr rfl))
 ·exact wpAny_pyIter_ascii ha (fin _ (.inl rfl))
end
theorem G3 {tt:TT} {te:TE} {aG:List Nat} {σ:St} {H1:Hp} {Q:VK} {x:Str} {D:aaD} (hn:x.cps.size<aao) (Pv:Nat→List V→Hp→Prop) (h0:Pv 0 [] (upd H1 D (.lst [])))
  (hD:∀i ys H,Pv i ys H→H D=some (.lst ys)∧ys.length≤i)
  (hs:∀i ys H,i<x.cps.size→Pv i ys H→tt (bY σ (some (.str ⟨#[x.cps.getD i 0]⟩)) aG) H fun b H2 =>
   if b=true then te (bY σ (some (.str ⟨#[x.cps.getD i 0]⟩)) aG) H2 fun y H3=>H3 D=some (.lst ys)∧Pv (i+1) (ys++[y]) (upd H3 D (.lst (ys++[y])))
   else Pv (i+1) ys H2)
  (hd:∀ys H,Pv x.cps.size ys H→Q (.ref D) H):qH tt te aG σ Q (Sv x) H1 D :=
 xN (J:=Sv x) (Q:=Q) (D:=D) (H1:=H1) x.cps.size hn (fun i=>.str ⟨#[x.cps.getD i 0]⟩) Pv h0 (fun _ _ _=>rfl) (fun _ _ _ _ h=>h)
  (fun i ys H v H' p h y=>⟨y.1,by
   obtain⟨c,e,rfl⟩:=y.2
   rw [adO,e] <;> rfl⟩) hD hs hd
section
variable {X:Cx}
theorem sT {zs:List Str}:∀{us:List aae},Vals (zs.map V.str) us→StrsAre us zs:=by
 induction zs with
 | nil=>intro us r;rw [acv] at r;cases r;exact .nil
 | cons z zs ih =>
  intro us r
  rw [aaZ] at r
  cases r with
  | cons r1 r2 =>
   obtain⟨t,e⟩:=r1
   subst e
   exact .cons z t (ih r2)
def rJoin (K:aaa):V→List V→Hp→VK→Prop:=fun x vs H Q=>∃sep l zs,x=.str sep∧vs=[.ref l]∧(aB K H l (zs.map V.str)∨b8 K H l (zs.map V.str))∧(zs.map (·.length)).sum+zs.length * sep.length≤16777216∧Q (.str (aek sep zs)) H
theorem rT:L4 X "str.join" (rJoin X.K):=by
 intro pins s σ H x vs v us Q I rx rv h
 obtain⟨sep,l,zs,rfl,rfl,hq,hz,q⟩:=h
 obtain⟨t,rfl⟩:=rx
 obtain⟨u,rfl,ru⟩:=vals1 rv
 cases ru
 rcases hq with hq|hq
 ·obtain⟨its,r',pl,_⟩:=I.list hq
  exact join_list (items:=its.toArray) pl.isList (sT r') hz fun t' k=>⟨.str _,H,I.tok _,⟨t',rfl⟩,q⟩
 ·obtain⟨its,r',pl,_⟩:=I.tuple hq
  exact join_tuple (items:=its.toArray) pl (sT r') hz fun t' k=>⟨.str _,H,I.tok _,⟨t',rfl⟩,q⟩
theorem Aq {bs:List Bool}:∀{us:List aae},Vals (bs.map V.bl) us→us=bs.map adJ:=by
 induction bs with
 | nil=>intro us r;rw [acv] at r;cases r;rfl
 | cons z zs ih =>
  intro us r
  rw [aaZ] at r
  cases r with
  | cons r1 r2 =>
   have e:_=adJ z:=r1
   rw [e,ih r2]
   rfl
theorem all_range (bs:List Bool):((aal bs.length).all fun i=>(bs[i]?).getD true)=bs.all id:=by
 rw [aci,abn,abn]
 constructor
 ·intro h b hb
  obtain⟨i,hi,rfl⟩:=acA hb
  have z:=h i (aaz.mpr hi)
  simpa [hi] using z
 ·intro h i hi
  have hi':=aaz.mp hi
  have z:=h _ (aas hi')
  simpa [hi'] using z
theorem G4:fT X (.builtin "all") (fun xs H Q=>∃(p:aaD) (bs:List Bool),xs=[.ref p]∧X.calm=true∧aB X.K H p (bs.map V.bl)∧Q (.bl (bs.all id)) H):=by
 intro pins s σ H xs us Q I r h
 obtain⟨p,bs,rfl,hc,hq,q⟩:=h
 obtain⟨u,rfl,rx⟩:=vals1 r
 cases rx
 obtain⟨its,r',pl,hz⟩:=I.list hq
 have ei:=Aq r'
 have eE:p<s.heap.objs.size:=by
  obtain⟨_,e,_⟩:=pl.isList
  exact aay e
 refine call_all_walk (wpAny_pyIter_list pl.isList ?_)
 refine⟨s.heap.objs.size,[s.heap.objs.size,p],[s.heap.objs.size],its.toArray.size,_,_,fun i=>(bs[i]?).getD true,rfl,Walks.list (A:=X.A.in1) (I.ok.hd hc) _ p (aaW eE) its.toArray,
  ⟨⟨_,aaM _ rfl,rfl,rfl⟩,pl.isList.push _⟩,fun i v s' Q' E' hP hQ=>?_,fun h' tk hk=>?_⟩
 ·have hP':its[i]?=some v:=by simpa using hP
  rw [ei,aaq] at hP'
  cases hb:bs[i]? with
  | none=>rw [hb] at hP';cases hP'
  | some b =>
   rw [hb] at hP'
   have ev:adJ b=v:=aaR hP'
   subst ev
   simp only [hb,aet] at hQ
   exact wpAny_truthy_bool hQ
 ·have el:its.toArray.size=bs.length:=by rw [aau,ei,Lm9]
  rw [el,all_range]
  refine⟨.bl (bs.all id),H,I.kept (t':=tk) fun b o e=>hk b o (fun hm=>?_) (aag _ e),rfl,q⟩
  rw [aaw.mp hm] at e
  exact abM _ (aay e)
theorem jX:fT X (.builtin "isinstance") (fun xs H Q=>∃(x:V) (n:String) (t:aae) (b:Bool),xs=[x,.ty n]∧pG X.K H x t∧acd X.K t (.type n)=some b∧Q (.bl b) H):=by
 intro pins s σ H xs us Q I r h
 obtain⟨x,n,t,b,rfl,ty,e,q⟩:=h
 obtain⟨u,u2,rfl,rx,ru⟩:=vals2 r
 have e2:u2=adx n:=ru
 subst e2
 exact EU I rx ty e fun tk=>⟨.bl b,H,I.tok _,rfl,q⟩
end
section
variable {X:Cx}
def Uj:V→Option Int→Option Int→Hp→VK→Prop:=fun x lo hi H Q=>∃z,x=.str z∧z.length≤aao∧Q (.str (aff z lo hi)) H
theorem part_of {v:aae} {o:Option Int} (p:IsPart v o):∃q:Option (Int × Tok),v=partValue q∧q.map (·.1)=o:=by
 cases p with
 | none=>exact⟨none,rfl,rfl⟩
 | int i t=>exact⟨some (i,t),rfl,rfl⟩
theorem Ni:PH X Uj:=by
 intro pins s σ H x v vl vu lo hi sl Q I rx hs pl pu h
 obtain⟨z,rfl,hz,q⟩:=h
 obtain⟨t,rfl⟩:=rx
 obtain⟨ql,rfl,el⟩:=part_of pl
 obtain⟨qu,rfl,eu⟩:=part_of pu
 refine⟨"str",_,F.slot_str_getitem.lookup,typeIs_str _ _ _,wpAny_getItem_str_slice (l:=ql) (u:=qu) (st:=none) hs rfl ?_⟩
 have e:sliceMade z t ql qu none=if ((1:Int) == 1 && (adP lo hi 1 z.length).length == z.length)=true then .val (.str z t) else .str ⟨((adP lo hi 1 z.length).filterMap (z.cps[·]?)).toArray⟩:=by
  unfold sliceMade slicePicked
  rw [el,eu]
  rfl
 rw [e]
 exact post_val_or_str ⟨aa5 (Txt.slice_le z lo hi) hz,fun t' k=>⟨.str (aff z lo hi),H,I.tok _,⟨t',rfl⟩,q⟩⟩
theorem E4 {z:Str} {i j:Int} (h0:0≤i) (h1:i≤j) (h2:j≤z.length):(aff z (some i) (some j)).cps.toList=(z.cps.toList.drop i.toNat).take (j - i).toNat:=by
 have e:=eq_of_beq (slice_closesL (x:=z) h0 h1 h2)
 rw [e]
end
theorem b8.same {K:aaa} {H H':Hp} (e:ag H H') {a:aaD} {xs:List V} (h:b8 K H a xs):b8 K H' a xs:=by
 rcases h with(h|⟨o,h⟩)|h
 ·exact .inl (.inl (e _ _ h))
 ·exact .inl (.inr ⟨o,e _ _ h⟩)
 ·exact .inr h
def cV (P:aa4) (w:abu) (K:aaa) (mg:Str→Option aae) (base:Heap) (x:Str) (k:Nat) (ps:List Str) (sp:Sp):Prop :=
 ∃f fd,aY P w K mg base cS k f fd ps sp∧Binds K fd ps []∧acV K (.ref f)=true∧mg x=some (.ref f)
def Kf (P:aa4) (w:abu) (K:aaa) (mg:Str→Option aae) (base:Heap) (x:Str) (C:aaD) (k:Nat) (ps:List Str) (sp:Sp):Prop :=
 ∃f fd,Mk K C f∧aY P w K mg base cS k f fd ps sp∧Binds K fd ps []∧mg x=some (.ref C)
def Met (P:aa4) (w:abu) (K:aaa) (mg:Str→Option aae) (base:Heap) (C:aaD) (m:Str) (k:Nat) (ps:List Str) (sp:Sp):Prop :=
 ∃f fd,BX K C∧Meth K C m f∧aY P w K mg base cS k f fd ps sp∧Binds K fd ps []
section
variable {X:Cx} {k:Nat} {C:aaD} {ps:List Str} {sp:Sp} {x m:Str} {p pos apos:Pos} {e o:Expr} {es:List Expr} {ta:TE} {t:TA}
theorem ao (c:cV X.prog X.w X.K X.mg X.base x k ps sp) (hr:dJ k X.A) (hg:Gl X x) (ha:PA X (e::es) t) (GO:(x == ("__debug__":Str))=false:=by decide) (he:starEach (e::es) X.env=(false,eval e X.env)::starEach es X.env:=by rfl) (hpl:(backTo pos (starEach es X.env)).any (·.1)=false:=by rfl) :
  PE X (.Call (.Name x p) (e::es) [] pos) (LZ sp [] E0 t):=by
 obtain⟨f,fd,F,b,kp,mg⟩:=c
 exact JZ F hr hg mg kp b .nil DU ha GO he hpl
theorem nV (c:Kf X.prog X.w X.K X.mg X.base x C k ps sp) (hr:dJ (k+1) X.A) (hg:Gl X x) (ha:PA X (e::es) t) (GO:(x == ("__debug__":Str))=false:=by decide) (he:starEach (e::es) X.env=(false,eval e X.env)::starEach es X.env:=by rfl) (hpl:(backTo pos (starEach es X.env)).any (·.1)=false:=by rfl) :
  PE X (.Call (.Name x p) (e::es) [] pos) (L1 C sp [] E0 t):=by
 obtain⟨f,fd,M,F,b,mg⟩:=c
 exact J1 M F hr hg mg b .nil DU ha GO he hpl
theorem P1 {pl:Sem Bool} (he:PE X o ta) (c:Met X.prog X.w X.K X.mg X.base C m k ps sp) (hr:dJ k X.A) (ha:PA X (e::es) t)
  (MV:starEach (e::es) X.env=(false,eval e X.env)::starEach es X.env:=by rfl) (hpl:(backTo pos (starEach es X.env)).any (·.1)=false:=by rfl)
  (ht:eval (.Call (.Attribute o m apos) (e::es) [] pos) X.env=(do
   let ov ← eval o X.env
   standAt apos.atName
   let (f,first) ← holding [ov] (getMethod ov m pl)
   callWith pos f first (backTo pos (starEach (e::es) X.env)) (backToKw pos (keywordEach [] X.env))):=by rfl) :
  PE X (.Call (.Attribute o m apos) (e::es) [] pos) (DN C m sp [] E0 ta t):=by
 obtain⟨f,fd,cl,M,F,b⟩:=c
 exact J0 he cl M F hr b .nil DU ha MV hpl ht
theorem wx {pl:Sem Bool} (he:PE X o ta) (c:Met X.prog X.w X.K X.mg X.base C m k ps sp) (hr:dJ k X.A)
  (ht:eval (.Call (.Attribute o m apos) [] [] pos) X.env=(do
   let ov ← eval o X.env
   standAt apos.atName
   let (f,first) ← holding [ov] (getMethod ov m pl)
   callWith pos f first (backTo pos (starEach [] X.env)) (backToKw pos (keywordEach [] X.env))):=by rfl) :
  PE X (.Call (.Attribute o m apos) [] [] pos) (DN C m sp [] E0 ta EV):=by
 obtain⟨f,fd,cl,M,F,b⟩:=c
 exact GP he cl M F hr b .nil DU ht
end
section
variable {X:Cx}
theorem wy:∀{l:List (Str × Tok)} {zs:List Str},l.map (·.1)=zs→Vals (zs.map V.str) (strValues l)
 | [],_,e=>by subst e;exact .nil
 | p::r,_,e=>by
  subst e
  exact .cons ⟨p.2,rfl⟩ (wy rfl)
def Nj:V→List V→Hp→VK→Prop:=fun x vs H Q=>∃z y,x=.str z∧vs=[.str y]∧(y.length == 0)=false∧z.length≤aao∧(adk z y).length≤aao∧∀l,H l=none→Q (.ref l) (upd H l (.lst ((adk z y).map V.str)))
open Builtin Builtin.Str in
theorem jY {prog:aa4} {w:abu} {A:abC} {E:aae→aak→Prop} {s:aak} {x y:Str} {t u:Tok} {Q:aae→aak→Prop} (hy:(y.length == 0)=false) (hsz:x.length≤aao) (hsz2:(adk x y).length≤aao)
  (h:∀l k,l.map (·.1)=adk x y→Q (.ref s.heap.objs.size) { s with heap:=s.heap.push { cls:=.type "list",data:=.seq (strValues l).toArray },toks:=k }) :
  abb (model prog w) A (call (.builtin "str.split") [.str x t,.str y u]) Q E s:=by
 unfold adk at hsz2 h
 cases h1:(decide (x.length<y.length) || decide (strKind x<strKind y))
 ·rw [if_neg (ne_true_of_eq_false h1)] at hsz2 h
  cases hf:(occurrences x y 0 x.length (x.length+1)).isEmpty
  ·rw [if_neg (ne_true_of_eq_false hf)] at hsz2 h
   refine call_meets acC (typeIs_str _ _ _) adl (ade _ _) (meets_str_split_sep x y t u h1 hy hf hsz hsz2) ?_
   show wants Q E _ { s with toks:=_,heap:=s.heap.push { cls:=.type "list",data:=.seq (strsFrom s.toks (partsBetween x (occurrences x y 0 x.length (x.length+1)) y.length)).toArray } }
   rw [strsFrom_eq]
   exact h (numbered s.toks _) _ (numbered_texts _ _)
  ·rw [if_pos hf] at h
   exact call_meets acC (typeIs_str _ _ _) adl (ade _ _) (meets_str_split_not_found x y t u h1 hy hf) (h [(x,t)] s.toks rfl)
 ·rw [if_pos h1] at h
  exact call_meets acC (typeIs_str _ _ _) adl (ade _ _) (meets_str_split_cannot_occur x y t u h1) (h [(x,t)] s.toks rfl)
theorem G5:L4 X "str.split" Nj:=by
 intro pins s σ H x vs v us Q I rx rv h
 obtain⟨z,y,rfl,rfl,hy,h1,h2,q⟩:=h
 obtain⟨t,rfl⟩:=rx
 obtain⟨u,rfl,t',rfl⟩:=vals1 rv
 refine jY hy h1 h2 fun l k e=>?_
 have hf:H s.heap.objs.size=none:=I.hok.fresh (aaf _)
 refine⟨.ref s.heap.objs.size,upd H s.heap.objs.size (.lst ((adk z y).map V.str)),I.laid (t':=k) (fun b u e=>aag _ e) (aaf _) ?_,rfl,q _ hf⟩
 exact⟨by rw [Lm9];exact h2,strValues l,0,wy e,aaM _ rfl⟩
def Nk:V→List V→Hp→VK→Prop:=fun x vs H Q=>∃z y,x=.str z∧vs=[.str y]∧z.length≤aao∧Q (.str (aeZ z y)) H
theorem G6:L4 X "str.strip" Nk:=by
 intro pins s σ H x vs v us Q I rx rv h
 obtain⟨z,y,rfl,rfl,h1,q⟩:=h
 obtain⟨t,rfl⟩:=rx
 obtain⟨u,rfl,t',rfl⟩:=vals1 rv
 exact SC.stripChars (fun t2 k=>⟨.str _,H,I.tok _,⟨t2,rfl⟩,q⟩) h1
theorem vd:fT X (.type "int") (fun xs H Q=>∃z n,xs=[.str z]∧PySem.intText? z=some n∧z.length≤640∧Q (.int n) H):=by
 intro pins s σ H xs us Q I r h
 obtain⟨z,n,rfl,hn,hl,q⟩:=h
 obtain⟨u,rfl,t,rfl⟩:=vals1 r
 exact PySem.W.KIN.call_text hn hl ⟨.int n,H,I.tok _,⟨_,rfl⟩,q⟩
end
theorem pK {M:Model} {A:abC} {E:aae→aak→Prop} {s:aak} {β:Type} {n:Nat} (f:Nat→β→Sem (ForInStep β)) (I:Nat→β→aak→Prop) (Q:β→aak→Prop) {b:β}
  (turn:∀i b s',i<n→I i b s'→abb M A (f i b) (fun r M5=>match r with|.done b'=>Q b' M5|.yield b'=>I (i+1) b' M5) E s')
  (fin:∀b s',I n b s'→Q b s') (h:I 0 b s):abb M A (forIn [0:n] b f) Q E s:=by
 rw [Std.Legacy.Range.forIn_eq_forIn_range']
 have hsz:([0:n]:afA).size=n:=by simp [Std.Legacy.Range.size]
 show abb M A (forIn (List.range' 0 ([0:n]:afA).size 1) b f) Q E s
 rw [hsz]
 refine wpAny_forIn_list f (fun rest b s'=>∃i,i≤n∧rest=List.range' i (n - i) 1∧I i b s') Q ?_ ?_ _ _ ⟨0,aa3 _,by simp,h⟩
 ·rintro x rest b s' ⟨i,hi,er,hI⟩
  have eE:i<n:=by
   cases e:n - i with
   | zero=>rw [e] at er;cases er
   | succ m=>omega
  have e2:n - i=(n - (i+1))+1:=by omega
  rw [e2,List.range'_succ] at er
  injection er with e3 e4
  subst e3
  refine wpAny_mono (turn x b s' eE hI) (fun r M5 q=>?_) fun _ _ q=>q
  cases r with
  | done b'=>exact q
  | yield b'=>exact⟨x+1,eE,e4,q⟩
 ·rintro b s' ⟨i,hi,er,hI⟩
  have:i=n:=by
   cases e:n - i with
   | zero=>omega
   | succ m=>rw [e,List.range'_succ] at er;cases er
  subst this
  exact fin b s' hI
open SeqAt in
theorem ve (l:aaD) (items:Array aae) (n:Nat) (dd:Option aaD) (sl:Array (Option aae)) (x:aae) (e:aae→Bool) (j:Nat) (hj:j<items.size) (hit:e items[j]=true) (M7:∀m (hm:m<items.size),m<j→e items[m]=false) :
  Meets (Builtin.«tuple.index» ⟨[.ref l,x],[]⟩)
   (fun A R s=>s.heap.get? l=some { cls:=.type "tuple",dict:=dd,data:=.seq items n,slots:=sl }∧(∀y,y∈items→EqAt A.in1 s y x (e y))∧R (.ok (.ret (.int (j:Nat) s.toks))) { s with toks:=s.toks+1 }) :=
 .of_wp fun prog w A R s h=>by
  obtain⟨hp,g,d,tk,os⟩:=s;obtain⟨hl,he,h⟩:=h
  wp_walk using wpAny_loadPart' hl,pK _ (fun i b s'=>b.1=none∧s'=⟨hp,g,d,tk,os⟩∧i≤j) _
  case turn =>
   rintro i b s' hi ⟨hb,rfl,Nl⟩
   have hi':i<items.size:=by omega
   rw [Array.getElem?_eq_getElem hi']
   refine aap (he items[i] (Array.getElem_mem hi') prog w _ _ ?_)
   by_cases hy:i=j
   ·subst hy
    rw [hit]
    wp_walk
    exact⟨_,rfl,h⟩
   ·rw [M7 i hi' (by omega)]
    wp_walk
    exact⟨rfl,rfl,by omega⟩
  case fin =>
   rintro⟨b1,b2⟩ s' ⟨hb,rfl,Nl⟩
   omega
  case h =>
   exact⟨rfl,rfl,aa3 _⟩
theorem Kg {tt:TT} {te:TE} {aG:List Nat} {σ:St} {H1:Hp} {Q:VK} {K:aaa} {a:aaD} {xs:List V} {D:aaD} (hn:xs.length<aao) (BY:H1 D=none) (hl:aB K H1 a xs) (kp:V→Bool) (f:V→V)
  (ht:∀x H' R,x∈xs→ag H1 H'→(∀wz,ag H' wz→R (kp x) wz)→tt (bY σ (some x) aG) H' R)
  (he:∀x H' R,x∈xs→kp x=true→ag H1 H'→(∀wz,ag H' wz→R (f x) wz)→te (bY σ (some x) aG) H' R)
  (hd:∀H',ag H1 H'→H' D=some (.lst ((xs.filter kp).map f))→Q (.ref D) H'):qH tt te aG σ Q (JH K a) H1 D:=by
 refine pJ (K:=K) (a:=a) (xs:=xs) hn (fun i ys H'=>ag H1 H'∧H' D=some (.lst ys)∧ys=((xs.take i).filter kp).map f) ⟨fun b o e=>by rw [ar (aI e BY)];exact e,ab,rfl⟩
  (fun i ys H' p=>p.1.seq hl) (fun i ys H' p=>⟨p.2.1,?_⟩) (fun i ys H' hi p=>?_) (fun ys H' p=>?_)
 ·rw [p.2.2,Lm9]
  refine aa5 (abp _ _) ?_
  rw [aaF]
  omega
 ·have hx:xs.getD i .cU=xs[i]:=by rw [Gd9,Ge9 hi];rfl
  rw [hx]
  have hm:xs[i]∈xs:=aas hi
  have step:∀b,kp xs[i]=b→((xs.take (i+1)).filter kp).map f=((xs.take i).filter kp).map f++(if b=true then [f xs[i]] else []):=fun b hb=>by
   rw [aaA hi,abD,aai]
   cases b with
   | true=>rw [if_pos rfl];simp [hb]
   | false=>rw [if_neg (by decide)];simp [hb]
  refine ht _ _ _ hm p.1 fun H2 s2=>?_
  cases hb:kp xs[i] with
  | true =>
   refine fE ?_
   refine he _ _ _ hm hb (ag.trans p.1 s2) fun H3 s3=>?_
   refine⟨s3 _ _ (s2 _ _ p.2.1),fun b o e=>?_,ab,?_⟩
   ·rw [ar (aI e BY)]
    exact s3 _ _ (s2 _ _ (p.1 _ _ e))
   ·rw [step true hb,if_pos rfl,p.2.2]
  | false =>
   refine bh ⟨ag.trans p.1 s2,s2 _ _ p.2.1,?_⟩
   rw [step false hb,if_neg (by decide),aa8]
   exact p.2.2
 ·rw [p.2.2,aba] at p
  exact hd H' p.1 p.2.1
end L2
namespace HT
open PySem PySem.Spec PyProof.Rows
section
variable {prog:aa4} {w:abu} {A:abC} {E:aae→aak→Prop} {s:aak}
theorem nW {t sl:aaD} {items:Array aae} {vl vu:aae} {lo hi:Option Int} {Q:aae→aak→Prop} (ht:IsTup s.heap t items) (hs:s.heap.IsSliceOf sl vl vu .none) (pl:IsPart vl lo) (pu:IsPart vu hi)
  (hw:dm items.size 0 lo=0∧dm items.size items.size hi=items.size) (h:Q (.ref t) s):abb (model prog w) A (getItem (.ref t) (.ref sl)) Q E s:=by
 obtain⟨os,EY,OO,PD⟩:=id hs
 have TU:s.TypeIs (.ref sl) "slice":=⟨os,EY,OO⟩
 unfold getItem
 try with_reducible refine wpAny_holding ?_
 first|refine aap (aaP ?_)|skip
 refine aap (wpAny_sequenceKey ht.typeIs (by decide) ?_)
 refine aap (wpAny_callSpecial?_slot (name:=aac "__getitem__") ht.typeIs abv
  (wpAny_call_entry abv ht.typeIs entry_tuple_getitem ?_ (args_tuple_getitem _ _)))
 show abb _ _ (adY (.ref t) >>= _) _ _ s
 refine aap (tupleItemsOf_ ht ?_)
 refine aap (wpAny_typeOf TU ?_)
 rw [if_pos (by decide)]
 refine aap (ix hs pl pu ?_)
 have Uk:(((dm items.size 0 lo:Nat):Int) == 0 && (1:Int) == 1 && (dm items.size items.size hi - dm items.size 0 lo) == items.size)=true:=by
  rw [hw.1,hw.2]
  simp
 show abb _ _ (if (((dm items.size 0 lo:Nat):Int) == 0 && (1:Int) == 1 && (dm items.size items.size hi - dm items.size 0 lo) == items.size)=true then _ else _) _ _ s
 rw [if_pos Uk]
 unfold Builtin.Tuple.tupleIsExact
 refine aap (aap (wpAny_typeOf ht.typeIs (aaP ?_)))
 rw [if_pos (by decide)]
 refine aap (wpAny_rule ?_)
 first
  | exact aaP ⟨_,rfl,aaP h⟩
  | exact aap (aaP (aaP ⟨_,rfl,aaP h⟩))
end
end HT
namespace L2
open PySem PySem.Spec PyProof.Rows
section
variable {X:Cx}
def Ul (K:aaa):V→Option Int→Option Int→Hp→VK→Prop:=fun x lo hi H Q=>∃a xs,x=.ref a∧b8 K H a xs∧∀p H',ag H H'→b8 K H' p (gC xs lo hi)→Q (.ref p) H'
theorem Kh:PH X (Ul X.K):=by
 intro pins s σ H x v vl vu lo hi sl Q I rx hs pl pu h
 obtain⟨a,xs,rfl,hx,q⟩:=h
 by_cases hw:HT.dm xs.length 0 lo=0∧HT.dm xs.length xs.length hi=xs.length
 ·cases rx
  obtain⟨its,r,ht,hz⟩:=I.tuple hx
  have hlen:its.toArray.size=xs.length:=by rw [aau];exact r.length.symm
  refine⟨"tuple",_,abv.lookup,ht.typeIs,?_⟩
  refine HT.nW ht hs pl pu (by rw [hlen];exact hw) ⟨.ref a,H,I,rfl,q a H (ag.refl H) ?_⟩
  unfold gC
  rw [hw.1,hw.2,ae0,Nat.sub_zero,aba]
  exact hx
 ·exact M8 pins s σ H (.ref a) v vl vu lo hi sl Q I rx hs pl pu ⟨a,xs,rfl,hx,hw,fun p hp=>q p _ (fun b o e=>by rw [ar (aI e hp)];exact e) (b8.of ab)⟩
theorem nY {xs:List V} {k:Nat} (h:k≤xs.length):gC xs (some (k:Int)) none=xs.drop k:=by
 unfold gC
 rw [HT.xF,HT.GS,Nat.min_eq_left h,ab6]
 rw [aa9]
 omega
end
theorem sU (l:aaD) (xs:Array aae) (n:Nat) (b:aaD) (ys:Array aae) (k:Nat) (dd:Option aaD) (sl:Array (Option aae)) (few:¬(!xs.isEmpty && abI (xs.size+ys.size))=true) (h1:xs.size≤aao) (h2:xs.size+ys.size≤aao+1) :
  Meets (Builtin.«list.extend» ⟨[.ref l,.ref b],[]⟩)
   (fun _ R st=>st.heap.get? l=some { cls:=.type "list",dict:=none,data:=.seq xs n,slots:=#[] }∧st.heap.get? b=some { cls:=.type "tuple",dict:=dd,data:=.seq ys k,slots:=sl } ∧
    R (.ok (.ret aeT)) { st with heap:=st.heap.update l (ady fun x=>x++ys),toks:=st.toks }) :=
 .of_wp fun prog w A R st h=>by
  obtain⟨hp,gs,dr,tk,os⟩:=st
  obtain⟨gl,gb,hR⟩:=h
  have i1:=AutoSeq1.idx_int
  have i2:=AutoSeq1.sub_tuple_tuple
  have i3:=AutoSeq1.sub_list_list
  have i4:=AutoSeq1.sub_tuple_list
  have i5:=AutoSeq1.sub_list_tuple
  have both:(xs++ys).size≤aao+1:=by rw [Array.size_append];exact h2
  wp_walk using (wpAny_updateSeq gl rfl (hz:=h1) (_hz':=both)),aeb gl,aeb gb
  exact⟨_,rfl,hR⟩
section
variable {X:Cx}
def G7 (K:aaa):V→List V→Hp→VK→Prop:=fun x vs H Q=>∃l b xs zs,x=.ref l∧vs=[.ref b]∧H l=some (.lst xs)∧b8 K H b zs∧xs.length+zs.length≤aao∧Q .cU (upd H l (.lst (xs++zs)))
theorem sV:L4 X "list.extend" (G7 X.K):=by
 intro pins s σ H x vs v us Q I rx rv h
 obtain⟨l,b,xs,zs,rfl,rfl,hH,hB,hz,q⟩:=h
 cases (show v=abd l from rx)
 obtain⟨u,rfl,ru⟩:=vals1 rv
 cases (show u=abd b from ru)
 obtain⟨z,its,n,r,hl,e⟩:=I.Ak hH
 obtain⟨m6,r2,pl,z2⟩:=I.tuple hB
 obtain⟨⟨oc,od,dat,sl⟩,e2,hc,n2,hd⟩:=id pl
 simp only at hc hd
 subst hc hd
 have vb:=r2.length
 have hsz:its.toArray.size+m6.toArray.size≤aao:=by rw [aau,aau];omega
 have Al:¬ (!its.toArray.isEmpty && abI (its.toArray.size+m6.toArray.size))=true:=by
  rw [sP hsz,Bool.and_false]
  exact aaE
 refine call_meets abN ⟨_,e,rfl⟩ aez (aej _ _)
  (sU l its.toArray n b m6.toArray n2 od sl Al (by rw [aau];omega) (by omega)) ⟨e,e2,?_⟩
 refine⟨.cU,_,I.Ka (its':=its++m6) hH e (by simp) (r.append r2) ?_,rfl,q⟩
 rw [aab]
 omega
end
section
variable {X:Cx} {K:aaa} {o e:Expr} {f:Str} {pos:Pos} {ta:TE}
theorem Ki (hK:X.K=K) (he:PE X e ta) (hb:attributeBase e f X.env (eval e X.env)=eval e X.env):PE X (.Attribute e f pos) (tFld K ta f):=by
 subst hK
 exact pe_fld he hb
end
section
variable {κ:Type} [DecidableEq κ]
def bc (kvs:List (κ × V)) (k:κ):Option V:=(kvs.find? fun kv=>decide (kv.1=k)).map (·.2)
def putK (kvs:List (κ × V)) (k:κ) (v:V):List (κ × V) :=
 if (kvs.any fun kv=>decide (kv.1=k))=true then kvs.map (fun kv=>if kv.1=k then (kv.1,v) else kv) else kvs++[(k,v)]
theorem cn {p:κ × V} {r:List (κ × V)} {k:κ} (e:p.1=k):bc (p::r) k=some p.2:=by simp [bc,ab3,e]
theorem cq {p:κ × V} {r:List (κ × V)} {k:κ} (e:¬ p.1=k):bc (p::r) k=bc r k:=by simp [bc,ab3,e]
theorem ff (k:κ):∀kvs:List (κ × V),(kvs.any fun kv=>decide (kv.1=k))=(bc kvs k).isSome
 | []=>rfl
 | p::r=>by
  rw [adj]
  by_cases e:p.1=k
  ·simp only [cn e,decide_eq_true e,Bool.true_or,afg]
  ·rw [cq e,decide_eq_false e,afh];exact ff k r
theorem Ar (k j:κ) (y:V):∀kvs:List (κ × V),bc (kvs.map fun kv=>if kv.1=k then (kv.1,y) else kv) j=(bc kvs j).map fun x=>if j=k then y else x
 | []=>rfl
 | p::r=>by
  have ih:=Ar k j y r
  rw [aaZ]
  by_cases h:p.1=k
  ·rw [if_pos h]
   by_cases e:p.1=j
   ·rw [cn (p:=(p.1,y)) e,cn e,aco,if_pos (e.symm.trans h)]
   ·rw [cq (p:=(p.1,y)) e,cq e,ih]
  ·rw [if_neg h]
   by_cases e:p.1=j
   ·rw [cn (p:=p) e,cn e,aco,if_neg (fun z=>h (e.trans z))]
   ·rw [cq (p:=p) e,cq e,ih]
theorem wA (k j:κ) (y:V):∀kvs:List (κ × V),bc kvs k=none→bc (kvs++[(k,y)]) j=if j=k then some y else bc kvs j
 | [],_=>by
  by_cases e:k=j
  ·rw [if_pos e.symm];exact cn (p:=(k,y)) e
  ·rw [if_neg (fun z=>e z.symm)];exact cq (p:=(k,y)) e
 | p::r,hn=>by
  rw [ac1]
  have hk:¬ p.1=k:=fun z=>by rw [cn z] at hn;cases hn
  rw [cq hk] at hn
  have ih:=wA k j y r hn
  by_cases e:p.1=j
  ·rw [cn e,cn e,if_neg (fun z=>hk (e.trans z))]
  ·rw [cq e,cq e,ih]
theorem nZ (kvs:List (κ × V)) (k j:κ) (y:V):bc (putK kvs k y) j=if j=k then some y else bc kvs j:=by
 unfold putK
 by_cases a:(kvs.any fun kv=>decide (kv.1=k))=true
 ·rw [if_pos a,Ar]
  rw [ff] at a
  by_cases e:j=k
  ·obtain⟨x,hx⟩:=abj.mp a
   rw [if_pos e,e,hx,aco,if_pos rfl]
  ·rw [if_neg e]
   cases bc kvs j with
   | none=>rfl
   | some x=>rw [aco,if_neg e]
 ·rw [if_neg a]
  refine wA k j y kvs ?_
  rw [ff] at a
  cases q:bc kvs k with
  | none=>rfl
  | some x=>rw [q] at a;exact(a rfl).elim
theorem fg (kvs:List (κ × V)) (k:κ) (v:V):(putK kvs k v).length≤kvs.length+1:=by
 unfold putK
 split
 ·rw [Lm9];omega
 ·rw [aab,aad,aaO];omega
theorem As {kvs:List (κ × V)} {k:κ} (v:V) (h:bc kvs k=none):putK kvs k v=kvs++[(k,v)]:=by
 unfold putK
 rw [ff,h]
 exact if_neg (by decide)
theorem jJ.pL {o:Option V} {u:Option aae} (r:jJ o u):o.isSome=u.isSome:=by
 cases o with
 | none=>cases u with
  | none=>rfl
  | some _=>exact(show False from r).elim
 | some _=>cases u with
  | none=>exact(show False from r).elim
  | some _=>rfl
theorem jJ.getD {o:Option V} {u:Option aae} {d:V} {d':aae} (r:jJ o u) (rd:RelV d d'):RelV (o.getD d) (u.getD d'):=by
 cases o with
 | none=>cases u with
  | none=>exact rd
  | some _=>exact(show False from r).elim
 | some _=>cases u with
  | none=>exact(show False from r).elim
  | some _=>exact r
theorem KV.val {kvs:List (κ × V)} {vs:List (κ × aae)} (r:KV kvs vs) (k:κ):jJ (bc kvs k) (valueAt vs k):=by
 unfold KV at r
 induction r with
 | nil=>exact ab9
 | @cons p q ps qs h t ih =>
  obtain⟨h1,h2⟩:=h
  by_cases e:p.1=k
  ·have e':q.1=k:=h1.symm.trans e
   have b:valueAt (q::qs) k=some q.2:=by simp [valueAt,ab3,e']
   rw [cn e,b];exact h2
  ·have e':¬ q.1=k:=fun z=>e (h1.trans z)
   have b:valueAt (q::qs) k=valueAt qs k:=by simp [valueAt,ab3,e']
   rw [cq e,b];exact ih
theorem KV.any {kvs:List (κ × V)} {vs:List (κ × aae)} (r:KV kvs vs) (k:κ):(kvs.any fun kv=>decide (kv.1=k))=vs.any fun kv=>decide (kv.1=k):=by
 unfold KV at r
 induction r with
 | nil=>rfl
 | cons h t ih=>rw [adj,adj,ih,h.1]
theorem KV.Nm {kvs:List (κ × V)} {vs:List (κ × aae)} (r:KV kvs vs) (k:κ) {y:V} {u:aae} (ry:RelV y u) :
  KV (kvs.map fun kv=>if kv.1=k then (kv.1,y) else kv) (vs.map fun kv=>if kv.1=k then (kv.1,u) else kv):=by
 unfold KV at r ⊢
 induction r with
 | nil=>exact .nil
 | @cons p q ps qs h t ih =>
  rw [aaZ,aaZ]
  refine .cons ?_ ih
  obtain⟨h1,h2⟩:=h
  by_cases e:p.1=k
  ·rw [if_pos e,if_pos (h1.symm.trans e)];exact⟨h1,ry⟩
  ·rw [if_neg e,if_neg (fun z=>e (h1.trans z))];exact⟨h1,h2⟩
theorem KV.put {kvs:List (κ × V)} {vs:List (κ × aae)} (r:KV kvs vs) (k:κ) {y:V} {u:aae} (ry:RelV y u):KV (putK kvs k y) (stored vs k u):=by
 unfold putK stored
 rw [r.any k]
 by_cases e:(vs.any fun kv=>decide (kv.1=k))=true
 ·rw [if_pos e,if_pos e];exact r.Nm k ry
 ·rw [if_neg e,if_neg e];exact adz r ⟨rfl,ry⟩
theorem KV.keys {kvs:List (κ × V)} {vs:List (κ × aae)} (r:KV kvs vs):kvs.map (·.1)=vs.map (·.1):=by
 unfold KV at r
 induction r with
 | nil=>rfl
 | cons h t ih=>rw [aaZ,aaZ,ih,h.1]
theorem KV.length {kvs:List (κ × V)} {vs:List (κ × aae)} (r:KV kvs vs):kvs.length=vs.length:=aat r
end
theorem sW {P:aa4} {w:abu} {k:Key} {u:aae} (r:RelV (kV k) u):(bo P w).is k u=true:=by
 cases k with
 | inl i=>obtain⟨t,e⟩:=(show ∃t,u=aeF i t from r);subst e;exact Aa P w i t
 | inr x=>obtain⟨t,e⟩:=(show ∃t,u=abL x t from r);subst e;exact Ab P w x t
theorem wB {P:aa4} {w:abu}:∀{ks:List Key} {us:List aae},Vals (ks.map kV) us→ItemsAre (bo P w) ks us
 | [],_,r=>by rw [acv] at r;cases r;exact .nil
 | k::ks,_,r=>by
  rw [aaZ] at r
  cases r with
  | cons h t=>exact .cons (sW h) (wB t)
abbrev KT (H:Hp):List (List Key × V)→List (List Key × aaD × aae)→Prop:=Paired fun p q=>p.1=q.1∧H q.2.1=some (.tup (p.1.map kV))∧RelV p.2 q.2.2
theorem KT.val {H:Hp} {kvs:List (List Key × V)} {xs:List (List Key × aaD × aae)} (r:KT H kvs xs) (k:List Key):jJ (bc kvs k) ((atKey xs k).map (·.2)):=by
 induction r with
 | nil=>exact ab9
 | @cons p q ps qs h t ih =>
  obtain⟨h1,_,h2⟩:=h
  by_cases e:p.1=k
  ·have e':q.1=k:=h1.symm.trans e
   have b:atKey (q::qs) k=some q.2:=by simp [atKey,ab3,e']
   rw [cn e,b];exact h2
  ·have e':¬ q.1=k:=fun z=>e (h1.trans z)
   have b:atKey (q::qs) k=atKey qs k:=by simp [atKey,ab3,e']
   rw [cq e,b];exact ih
theorem KT.Nm {H:Hp} {kvs:List (List Key × V)} {xs:List (List Key × aaD × aae)} (r:KT H kvs xs) (k:List Key) {y:V} {u:aae} (ry:RelV y u) :
  KT H (kvs.map fun kv=>if kv.1=k then (kv.1,y) else kv) (xs.map (putAt k u)):=by
 induction r with
 | nil=>exact .nil
 | @cons p q ps qs h t ih =>
  rw [aaZ,aaZ]
  refine .cons ?_ ih
  obtain⟨h1,h2,h3⟩:=h
  unfold putAt
  by_cases e:p.1=k
  ·rw [if_pos e,if_pos (h1.symm.trans e)];exact⟨h1,h2,ry⟩
  ·rw [if_neg e,if_neg (fun z=>e (h1.trans z))];exact⟨h1,h2,h3⟩
theorem KT.put {H:Hp} {kvs:List (List Key × V)} {xs:List (List Key × aaD × aae)} (r:KT H kvs xs) (k:List Key) {b:aaD} {y:V} {u:aae} (hb:H b=some (.tup (k.map kV))) (ry:RelV y u) :
  KT H (putK kvs k y) (storedH xs k b u):=by
 have e:(kvs.any fun kv=>decide (kv.1=k))=(atKey xs k).isSome:=by
  rw [ff,(r.val k).pL,afo]
 unfold putK storedH
 rw [e]
 by_cases q:(atKey xs k).isSome=true
 ·rw [if_pos q,if_pos q];exact r.Nm k ry
 ·rw [if_neg q,if_neg q];exact adz r ⟨rfl,hb,ry⟩
theorem KT.keeps {H H':Hp} {kvs:List (List Key × V)} {xs:List (List Key × aaD × aae)} (r:KT H kvs xs) (ht:∀b ys,H b=some (.tup ys)→H' b=some (.tup ys)):KT H' kvs xs :=
 Paired.cj r fun _ _ z=>⟨z.1,ht _ _ z.2.1,z.2.2⟩
section
variable {P:aa4} {w:abu} {H:Hp} {h:Heap} {a:aaD}
theorem L8 {u:HO} (ok:mm P w H h) (e:Rd H a u):cD P w H h a u:=e.ok ok
theorem wC {kvs:List (Key × V)} (ok:mm P w H h) (e:Rd H a (.dK kvs)):kvs.length≤aao∧(a == sysModules)=false∧∃vs,KV kvs vs∧h.DictOf (bo P w) a vs :=
 show cD P w H h a (.dK kvs) from L8 ok e
theorem G8 {kvs:List (Key × V)} (ok:mm P w H h) (e:H a=some (.dK kvs)):kvs.length≤aao∧(a == sysModules)=false∧∃vs,KV kvs vs∧h.DictOf (bo P w) a vs:=wC ok (.inl e)
theorem sX {ks:List Key} (ok:mm P w H h) (e:H a=some (.tup (ks.map kV))):(tupleKind (bo P w)).is h ks a:=by
 obtain⟨_,its,r,o,h1,h2,n,h3⟩:=(show cD P w H h a (.tup (ks.map kV)) from ok a _ e)
 exact⟨o,its.toArray,n,h1,h2,h3,by simpa using wB r⟩
theorem wD {kvs:List (List Key × V)} (ok:mm P w H h) (e:Rd H a (.dT kvs)):kvs.length≤aao∧(a == sysModules)=false ∧
  ∃xs,KT H kvs xs∧h.DictOfH (tupleKind (bo P w)) a xs:=by
 obtain⟨z,y,xs,r,o,es,ep,h1,h2,h3,h4,h5⟩:=(show cD P w H h a (.dT kvs) from L8 ok e)
 refine⟨z,y,xs,r,o,es,ep,h1,h2,h3,h4,fun x hx=>?_,h5⟩
 have all:∀{l:List (List Key × V)} {m:List (List Key × aaD × aae)},KT H l m→∀x∈m,(tupleKind (bo P w)).is h x.1 x.2.1:=by
  intro l m q
  induction q with
  | nil=>intro x hx;exact nomatch hx
  | @cons p q ps qs hq t ih =>
   intro x hx
   rcases aaB.mp hx with e|hx
   ·subst e
    exact sX ok (by rw [← hq.1];exact hq.2.1)
   ·exact ih x hx
 exact all r x hx
theorem P2 {kvs:List (List Key × V)} (ok:mm P w H h) (e:H a=some (.dT kvs)):kvs.length≤aao∧(a == sysModules)=false ∧
  ∃xs,KT H kvs xs∧h.DictOfH (tupleKind (bo P w)) a xs:=wD ok (.inl e)
end
def iy (H:Hp) (a:aaD) (y:V) (r:Option V):Prop :=
 (∃kvs k,Rd H a (.dK kvs)∧y=kV k∧r=bc kvs k)∨∃kvs k b,Rd H a (.dT kvs)∧y=.ref b∧H b=some (.tup (k.map kV))∧r=bc kvs k
def Cu (H:Hp) (a:aaD) (y v:V) (H':Hp):Prop :=
 (∃kvs k,H a=some (.dK kvs)∧y=kV k∧kvs.length<aao∧H'=upd H a (.dK (putK kvs k v))) ∨
 ∃kvs k b,H a=some (.dT kvs)∧y=.ref b∧H b=some (.tup (k.map kV))∧kvs.length<aao∧H'=upd H a (.dT (putK kvs k v))
theorem iy.k {H:Hp} {a:aaD} {kvs:List (Key × V)} {k:Key} (e:H a=some (.dK kvs)):iy H a (kV k) (bc kvs k):=.inl ⟨kvs,k,.inl e,rfl,rfl⟩
theorem Cu.k {H:Hp} {a:aaD} {kvs:List (Key × V)} {k:Key} {v:V} (e:H a=some (.dK kvs)) (hl:kvs.length<aao):Cu H a (kV k) v (upd H a (.dK (putK kvs k v))):=.inl ⟨kvs,k,e,rfl,hl,rfl⟩
section
variable {X:Cx} {pins:List (aaD × Obj)} {σ:St} {H:Hp} {s:aak} {a:aaD} {y v:V} {u r:aae} {o:Option V} {A:abC} {E:aae→aak→Prop}
theorem Inv.big (I:Inv X pins σ H s):sysModules<s.heap.objs.size:=by
 have h:aaX<s.heap.objs.size:=(I.mod.glob.keeps I.bk).lt
 exact Nat.lt_trans (by decide) h
theorem E5 {Q:aae→aak→Prop} (hu:A.units+1<cLine) (I:Inv X pins σ H s) (g:iy H a y (some v)) (ry:RelV y u) (h:∀w' s',Inv X pins σ H s'→RelV v w'→Q w' s') :
  abb (model X.prog X.w) A (getItem (.ref a) u) Q E s:=by
 rcases g with⟨kvs,k,e,ey,l⟩|⟨kvs,k,b,e,ey,eb,l⟩
 ·subst ey
  obtain⟨z,hd,vs,rel,dd⟩:=wC I.hok e
  obtain⟨w',hw,Cm⟩:=jJ.some_of (v:=v) (o:=valueAt vs k) (by rw [l];exact rel.val k)
  exact wpAny_getItem_of (sW ry) dd.mapOf hw (h w' _ (I.tok _) Cm)
 ·subst ey
  cases (show u=abd b from ry)
  obtain⟨z,hd,xs,rel,dd⟩:=wD I.hok e
  obtain⟨w',hw,Cm⟩:=jJ.some_of (v:=v) (o:=(atKey xs k).map (·.2)) (by rw [l];exact rel.val k)
  obtain⟨p,hp,Au⟩:=Option.map_eq_some_iff.mp hw
  refine wpAny_getItem_heap (tupleKind_room_in1 hu) (sX I.hok eb) dd hp ?_
  rw [Au]
  exact h w' _ (I.tok _) Cm
theorem Kj {Q:aae→aak→Prop} (hu:A.units+1<cLine) (I:Inv X pins σ H s) (g:iy H a y o) (ry:RelV y u) (h:∀s',Inv X pins σ H s'→Q (.bool (!o.isSome)) s') :
  abb (model X.prog X.w) A (compareOp .NotIn u (.ref a)) Q E s:=by
 rcases g with⟨kvs,k,e,ey,l⟩|⟨kvs,k,b,e,ey,eb,l⟩
 ·subst ey
  obtain⟨z,hd,vs,rel,dd⟩:=wC I.hok e
  refine wpAny_notIn_of (sW ry) hd dd.mapOf ?_
  rw [← (rel.val k).pL,← l]
  exact h _ (I.tok _)
 ·subst ey
  cases (show u=abd b from ry)
  obtain⟨z,hd,xs,rel,dd⟩:=wD I.hok e
  refine wpAny_notIn_heap (tupleKind_room_in1 hu) (sX I.hok eb) hd dd ?_
  have q:=(rel.val k).pL
  rw [afo] at q
  rw [← q,← l]
  exact h _ (I.tok _)
theorem xO {h':Heap} {t':Nat} {ob:HO} (I:Inv X pins σ H s) (mu:O9 (H a)) (hs:adB a s.heap h') (he:∃q,h'.get? a=some q) (new:cD X.prog X.w (upd H a ob) h' a ob) :
  Inv X pins σ (upd H a ob) { s with heap:=h',toks:=t' } :=
 I.write (x:=a) (e:=a) mu (.inl rfl) (fun b q hb z=>(hs.2 b hb).trans z) he new
theorem G9 {P:aa4} {w:abu} {H':Hp} {h':Heap} {kvs:List (Key × V)} {vs:List (Key × aae)} (z:kvs.length≤aao) (hd:(a == sysModules)=false) (rel:KV kvs vs) (dd:h'.DictOf (bo P w) a vs) :
  cD P w H' h' a (.dK kvs):=⟨z,hd,vs,rel,dd⟩
theorem E6 {H':Hp} {Q:Unit→aak→Prop} (hu:A.units+1<cLine) (I:Inv X pins σ H s) (g:Cu H a y v H') (ry:RelV y u) (rv:RelV v r) (h:∀s',Inv X pins σ H' s'→Q () s') :
  abb (model X.prog X.w) A (setItem (.ref a) u r) Q E s:=by
 rcases g with⟨kvs,k,e,ey,l,eH⟩|⟨kvs,k,b,e,ey,eb,l,eH⟩
 ·subst ey eH
  obtain⟨z,hd,vs,rel,dd⟩:=G8 I.hok e
  have hz:vs.length≤aao:=by rw [← rel.length];exact z
  have hl:(putK kvs k v).length≤aao:=by have:=fg kvs k v;omega
  refine wpAny_setItem_pairs (hsz:=hz) (sW ry) dd fun h' Nn hs=>h _ ?_
  have he:∃q,h'.get? a=some q:=let ⟨q,_,_,hq,_⟩:=Nn;⟨q,hq⟩
  exact xO I (by rw [e];exact ab9) hs he (G9 hl hd (rel.put k rv) Nn)
 ·subst ey eH
  cases (show u=abd b from ry)
  obtain⟨z,hd,xs,rel,dd⟩:=P2 I.hok e
  have hz:xs.length≤aao:=by rw [← aat rel];exact z
  have hl:(putK kvs k v).length≤aao:=by have:=fg kvs k v;omega
  refine wpAny_setItem_heap (hsz:=hz) (tupleKind_room_in1 hu) (sX I.hok eb) dd fun h' Nn hs=>h _ ?_
  obtain⟨q,es,ep,hq,h2,h3,h4,_,h5⟩:=Nn
  refine xO I (by rw [e];exact ab9) hs ⟨q,hq⟩ ⟨hl,hd,_,(rel.put k eb rv).keeps fun c ys ec=>?_,q,es,ep,hq,h2,h3,h4,h5⟩
  rw [ar (Ac ec e (fun z=>nomatch z))]
  exact ec
end
section
variable {X:Cx} {pins:List (aaD × Obj)} {σ:St} {H:Hp} {s:aak} {a:aaD} {kvs:List (Key × V)} {k:Key} {u:aae} {A:abC} {E:aae→aak→Prop}
end
def P4 (i:Expr):Prop:=∀ov iv,subscripted i false ov iv=operate [ov,iv] (getItem ov iv)
theorem Kk {prog:aa4} {w:abu} {A:abC} {E:aae→aak→Prop} {s:aak} {env:Env} {value slice:Expr} {pos:Pos} {T id:String} {Q:aae→aak→Prop}
  (hl:typeLookup (.type T) "__getitem__"=pure (some (.builtin id))) (hs:P4 slice)
  (h:abb (model prog w) A (eval value env) (fun o s₁=>abb (model prog w) A (eval slice env) (fun i s₂=>s₂.TypeIs o T∧abb (model prog w) A (getItem o i) Q E s₂) E s₁) E s) :
  abb (model prog w) A (eval (.Subscript value slice pos) env) Q E s:=by
 refine Subscript_ (wpAny_mono h (fun o s₁ h₁=>wpAny_mono h₁ (fun i s₂ h₂=>?_) fun _ _ x=>x) fun _ _ x=>x)
 obtain⟨hT,h₂⟩:=h₂
 unfold subscriptTail
 refine aap ?_
 rw [getitemInPython_of_ne hT.not_modules]
 refine aap (wpAny_specialOf hT hl ?_)
 have fin:abb (model prog w) A (subscripted slice false o i) (fun r s₃=>abb (model prog w) A (letTemporaryGo value o r >>= fun _=>pure r) Q E s₃) E s₂:=by
  rw [hs o i]
  exact wpAny_operating (wpAny_mono h₂ (fun r s₃ h₃=>aap (wpAny_letTemporaryGo (aaP h₃))) fun _ _ x=>x)
 first
  | exact aaP (aap fin)
  | exact aap (aaP (aap fin))
  | exact aap fin
theorem Av {X:Cx} {pins:List (aaD × Obj)} {σ:St} {H:Hp} {s:aak} {a:aaD} {y:V} {o:Option V} (I:Inv X pins σ H s) (g:iy H a y o):s.TypeIs (.ref a) "dict":=by
 rcases g with⟨kvs,k,e,_,_⟩|⟨kvs,k,b,e,_,_,_⟩
 ·obtain⟨_,_,vs,_,dd⟩:=wC I.hok e
  exact dd.typeIs
 ·obtain⟨_,_,xs,_,dd⟩:=wD I.hok e
  exact dd.typeIs
def P5 (td ty:TE):TE:=fun σ H Q=>td σ H fun x H1=>ty σ H1 fun y H2=>∃a v,x=.ref a∧iy H2 a y (some v)∧Q v H2
def Kl (ty td:TE):TE:=fun σ H Q=>ty σ H fun y H1=>td σ H1 fun x H2=>∃a o,x=.ref a∧iy H2 a y o∧Q (.bl (!o.isSome)) H2
def P6 (td ty tv:TE):TS:=fun D σ H=>tv σ H fun v H1=>td σ H1 fun x H2=>ty σ H2 fun y H3=>∃a H4,x=.ref a∧Cu H3 a y v H4∧D.nx σ H4
section
variable {X:Cx} {o i e value:Expr} {pos pos' GL:Pos} {td ty tv:TE}
theorem Km (hu:X.A.units+1<cLine) (ho:PE X o td) (hi:PE X i ty) (hs:P4 i):PE X (.Subscript o i pos) (P5 td ty):=by
 intro pins s σ H Q I h
 refine Kk PySem.F.slot_dict_getitem.lookup hs (thn (ho pins s σ H _ I h) fun u s1 ⟨x,H1,I1,rx,q1⟩=>thn (hi pins s1 σ H1 _ I1 q1) fun iv s2 ⟨y,H2,I2,ry,a,v,ex,g,q2⟩=>?_)
 subst ex
 obtain rfl:u=abd a:=rx
 exact⟨Av I2 g,E5 hu I2 g ry fun w' s3 I3 Cm=>⟨v,H2,I3,Cm,q2⟩⟩
theorem pM (hu:X.A.units+1<cLine) (hi:PE X i ty) (ho:PE X o td):PC X .NotIn i o (Kl ty td):=by
 intro pins s σ H Q I h
 refine thn (hi pins s σ H _ I h) fun iv s1 ⟨y,H1,I1,ry,q1⟩=>thn (ho pins s1 σ H1 _ I1 q1) fun u s2 ⟨x,H2,I2,rx,a,ov,ex,g,q2⟩=>?_
 subst ex
 obtain rfl:u=abd a:=rx
 exact Kj hu I2 g ry fun s3 I3=>⟨.bl (!ov.isSome),H2,I3,rfl,q2⟩
theorem xP (hu:X.A.units+1<cLine) (ho:PE X o td) (hi:PE X i ty) (hv:PE X value tv) (hs:swapsWith value (some (.Subscript o i pos')) pos.line X.env=pure false) :
  PS X (.Assign [.Subscript o i pos'] value pos) (P6 td ty tv):=by
 intro pins s σ H D I h
 refine wpAny_Assign_Subscript (thn (hv pins s σ H _ I h) fun r s1 ⟨v,H1,I1,rv,q1⟩=>thn (ho pins s1 σ H1 _ I1 q1) fun u s2 ⟨x,H2,I2,rx,q2⟩=>thn (hi pins s2 σ H2 _ I2 q2) fun iv s3 ⟨y,H3,I3,ry,a,H4,ex,g,q3⟩=>?_) hs
 subst ex
 obtain rfl:u=abd a:=rx
 exact E6 hu I3 g ry rv fun s4 I4=>⟨σ,H4,I4,q3⟩
end
theorem Aw {P:aa4} {w:abu} {H:Hp} (h:Heap) (hb:sysModules<h.objs.size):cD P w H (h.push { cls:=.type "dict",data:=.dict #[] }) h.objs.size (.dK []) :=
 ⟨aa3 _,beq_eq_false_iff_ne.mpr (abB (aaW hb)),[],.nil,afC h⟩
def Np:TE:=fun _ H Q=>∀p,H p=none→Q (.ref p) (upd H p (.dK []))
section
variable {X:Cx} {pos:Pos}
theorem Ax:PE X (.Dict [] [] pos) Np:=fun pins s σ H Q I h =>
 wpAny_Dict_empty ⟨.ref s.heap.objs.size,_,I.laid (a:=s.heap.objs.size) (o:=.dK []) (t':=s.toks) (fun _ _ q=>aag _ q) (aaf _) (Aw s.heap I.big),rfl,h _ (I.hok.fresh (aaf _))⟩
end
def Cv:List (TE × TE)→St→Hp→(List (V × V)→Hp→Prop)→Prop
 | [],_,H,Q=>Q [] H
 | (tk,tv)::r,σ,H,Q=>tk σ H fun x H1=>tv σ H1 fun y H2=>Cv r σ H2 fun ps H3=>Q ((x,y)::ps) H3
abbrev VV:List (V × V)→List (aae × aae)→Prop:=Paired fun p q=>RelV p.1 q.1∧RelV p.2 q.2
def Sw (X:Cx) (pos:Pos) (keys:List (Option Expr)) (values:List Expr) (Kn:List (TE × TE)):Prop :=
 ∀(pins:List (aaD × Obj)) (s:aak) (σ:St) (H:Hp) (Q:List (V × V)→Hp→Prop),Inv X pins σ H s→Cv Kn σ H Q →
  abb (model X.prog X.w) X.A (evalPairs (pairTrees keys values X.env pos)) (fun vs s'=>∃ps H',Inv X pins σ H' s'∧VV ps vs∧Q ps H') X.xe s
theorem Ko {X:Cx} {pos:Pos}:Sw X pos [] [] []:=fun pins s σ H Q I h=>pairTrees_nil_walk ⟨[],H,I,.nil,h⟩
theorem Ha {X:Cx} {pos:Pos} {k v:Expr} {ks:List (Option Expr)} {vs:List Expr} {tk tv:TE} {Kn:List (TE × TE)} (hk:PE X k tk) (hv:PE X v tv) (hr:Sw X pos ks vs Kn) :
  Sw X pos (some k::ks) (v::vs) ((tk,tv)::Kn):=fun pins s σ H Q I h =>
 pairTrees_cons_walk (thn (hk pins s σ H _ I h) fun u s1 ⟨x,H1,I1,rx,q1⟩=>thn (hv pins s1 σ H1 _ I1 q1) fun w2 s2 ⟨y,H2,I2,ry,q2⟩ =>
  thn (hr pins s2 σ H2 _ I2 q2) fun ws s3 ⟨ps,H3,I3,rel,q3⟩=>⟨(x,y)::ps,H3,I3,.cons ⟨rx,ry⟩ rel,q3⟩)
def dq (kvs more:List (Key × V)):List (Key × V):=more.foldl (fun acc kv=>putK acc kv.1 kv.2) kvs
theorem KV.merge:∀{more:List (Key × V)} {rs:List (Key × aae)} {kvs:List (Key × V)} {vs:List (Key × aae)},KV more rs→KV kvs vs→KV (dq kvs more) (merged vs rs):=by
 intro more rs kvs vs r
 unfold KV at r
 induction r generalizing kvs vs with
 | nil=>intro q;exact q
 | @cons p q ps qs h t ih =>
  intro r0
  have e:KV (putK kvs p.1 p.2) (stored vs q.1 q.2):=by
   have:=r0.put p.1 h.2
   rw [← h.1];exact this
  exact ih e
theorem my:∀(more kvs:List (Key × V)),(dq kvs more).length≤kvs.length+more.length
 | [],kvs=>by show kvs.length≤kvs.length+0;omega
 | p::r,kvs=>by
  have h1:=my r (putK kvs p.1 p.2)
  have h2:=fg kvs p.1 p.2
  show(dq (putK kvs p.1 p.2) r).length≤_
  rw [aad];omega
theorem sY {P:aa4} {w:abu}:∀{kvs:List (Key × V)} {ws:List (aae × aae)},VV (kvs.map fun kv=>(kV kv.1,kv.2)) ws→∃rs,Carries (bo P w) ws rs∧KV kvs rs
 | [],_,r=>by rw [acv] at r;cases r;exact⟨[],ab9,.nil⟩
 | p::kvs,_,r=>by
  rw [aaZ] at r
  cases r with
  | @cons a b as bs h t =>
   obtain⟨rs,c,q⟩:=sY (P:=P) (w:=w) t
   obtain⟨b1,b2⟩:=b
   exact⟨(p.1,b2)::rs,⟨sW h.1,rfl,c⟩,.cons ⟨rfl,h.2⟩ q⟩
def P7 (Kn:List (TE × TE)):TE:=fun σ H Q=>∀p,H p=none→Cv Kn σ (upd H p (.dK [])) fun ps H2=>H2 p=some (.dK [])∧∃kvs:List (Key × V),ps=kvs.map (fun kv=>(kV kv.1,kv.2))∧kvs.length≤15∧Q (.ref p) (upd H2 p (.dK (dq [] kvs)))
theorem Kq {X:Cx} {pos:Pos} {keys:List (Option Expr)} {values:List Expr} {Kn:List (TE × TE)} (h:Sw X pos keys values Kn) (hall:keys.all (·.isSome)=true) (hl:keys.length=values.length) (h0:keys≠[])
  (Y1:keys.length≤15):PE X (.Dict keys values pos) (P7 Kn):=by
 intro pins s σ H Q I q
 have hn:=I.hok.fresh (aaf s.heap.objs.size)
 have I1:=I.laid (a:=s.heap.objs.size) (o:=.dK []) (h':=s.heap.push { cls:=.type "dict",data:=.dict #[] }) (t':=s.toks) (fun _ _ q=>aag _ q) (aaf _) (Aw s.heap I.big)
 refine wpAny_Dict_walk (knd:=bo X.prog X.w) hall hl h0 Y1 (thn (h pins _ σ _ _ I1 (q _ hn)) fun ws s2 ⟨ps,H2,I2,rel,e,kvs,ep,lk,q2⟩=>?_)
 subst ep
 obtain⟨rs,c,rk⟩:=sY (P:=X.prog) (w:=X.w) rel
 obtain⟨z,hd,vs0,r0,dd⟩:=G8 I2.hok e
 cases r0
 refine⟨rs,c,dd,fun h' Nn hs=>⟨.ref s.heap.objs.size,_,?_,rfl,q2⟩⟩
 have hz:(dq [] kvs).length≤aao:=by
  have h1:=my kvs []
  rw [aaO] at h1
  rw [ac4];omega
 have he:∃q,h'.get? s.heap.objs.size=some q:=let ⟨q,_,_,hq,_⟩:=Nn;⟨q,hq⟩
 exact xO I2 (by rw [e];exact ab9) hs he (G9 hz hd (rk.merge .nil) Nn)
structure M2 (X:Cx) (o:Expr) (m:Str) (apos:Pos) (e f:Expr) (cpos:Pos):Prop where
 base:attributeBase o m X.env (eval o X.env)=eval o X.env
 few:((backTo cpos (starEach [e,f] X.env)).all (fun x=>!x.1) && (backToKw cpos (keywordEach [] X.env)).all (fun x=>x.1.isSome)
  && decide (([e,f]:List Expr).length+([]:List Keyword).length+(if ([]:List Keyword).isEmpty then 0 else 1)<30))=true
 line:(apos.endLine == cpos.line)=true
 trees:backTo cpos (starEach [e,f] X.env)=[(false,eval e X.env),(false,eval f X.env)]
def P8 (H:Hp) (a:aaD):Prop:=(∃kvs,Rd H a (.dK kvs))∨∃kvs,Rd H a (.dT kvs)
theorem Kr {X:Cx} {pins:List (aaD × Obj)} {σ:St} {H:Hp} {s:aak} {a:aaD} (I:Inv X pins σ H s) (d:P8 H a) :
  s.TypeIs (.ref a) "dict"∧(∀b,abd a=.ref b→∃ob,s.heap.get? b=some ob∧ob.dict=none)∧(a == sysModules)=false:=by
 rcases d with⟨kvs,e⟩|⟨kvs,e⟩
 ·obtain⟨_,hd,vs,_,dd⟩:=wC I.hok e
  refine⟨dd.typeIs,fun b q=>?_,hd⟩
  cases q
  obtain⟨ob,_,_,h1,h2,_⟩:=dd
  exact⟨ob,h1,h2.2.1⟩
 ·obtain⟨_,hd,xs,_,dd⟩:=wD I.hok e
  refine⟨dd.typeIs,fun b q=>?_,hd⟩
  cases q
  obtain⟨ob,_,_,h1,h2,_⟩:=dd
  exact⟨ob,h1,h2.2.1⟩
section
variable {X:Cx} {pins:List (aaD × Obj)} {σ:St} {H:Hp} {s:aak} {a:aaD} {y d:V} {u r:aae} {o:Option V} {A:abC} {E:aae→aak→Prop}
theorem Nq {Q:aae→aak→Prop} (hu:A.units+1<cLine) (I:Inv X pins σ H s) (g:iy H a y o) (ry:RelV y u) (rd:RelV d r) (h:∀w' s',Inv X pins σ H s'→RelV (o.getD d) w'→Q w' s') :
  abb (model X.prog X.w) A (call (.builtin "dict.get") [.ref a,u,r]) Q E s:=by
 rcases g with⟨kvs,k,e,ey,l⟩|⟨kvs,k,b,e,ey,eb,l⟩
 ·subst ey
  obtain⟨z,hd,vs,rel,dd⟩:=wC I.hok e
  refine call_meetsIn adD dd.typeIs aeB (ael _ _ _) (meets_dict_get_default (bo X.prog X.w) a (sW ry) hd r) ⟨_,dd.mapOf,h _ _ (I.tok _) ?_⟩
  rw [l]
  exact(rel.val k).getD rd
 ·subst ey
  cases (show u=abd b from ry)
  obtain⟨z,hd,xs,rel,dd⟩:=wD I.hok e
  refine call_meetsIn adD dd.typeIs aeB (ael _ _ _) (meetsH_dict_get_default (tupleKind (bo X.prog X.w)) a b hd r) ⟨tupleKind_room_in1 hu,k,xs,sX I.hok eb,dd,h _ _ (I.tok _) ?_⟩
  rw [l]
  exact(rel.val k).getD rd
end
def Nr (td ty tx:TE):TE:=fun σ H Q=>td σ H fun x H1=>∃a,x=.ref a∧P8 H1 a∧ty σ H1 fun y H2=>tx σ H2 fun z H3=>∃o,iy H3 a y o∧Q (o.getD z) H3
section
variable {X:Cx} {o e f:Expr} {apos cpos:Pos} {td ty tx:TE}
theorem iz (hu:X.A.units+1<cLine) (ho:PE X o td) (he:PE X e ty) (hf:PE X f tx) (m:M2 X o "get" apos e f cpos):PE X (.Call (.Attribute o "get" apos) [e,f] [] cpos) (Nr td ty tx):=by
 intro pins s σ H Q I h
 refine wpAny_Call_method m.base m.few m.line PySem.F.plainAttrs_dict adD PySem.F.type_dict_get (thn (ho pins s σ H _ I h) fun u s1 ⟨x,H1,I1,rx,a,ex,d,q1⟩=>?_)
 subst ex
 obtain rfl:u=abd a:=rx
 obtain⟨t1,t2,_⟩:=Kr I1 d
 refine⟨t1,t2,?_⟩
 rw [m.trees]
 refine adu rfl (aeV (adh (thn (he pins s1 σ H1 _ I1 q1) fun iv s2 ⟨y,H2,I2,ry,q2⟩ =>
  adh (thn (hf pins s2 σ H2 _ I2 q2) fun fv s3 ⟨z,H3,I3,rz,ov,g,q3⟩=>ad9 ?_))))
 exact Nq hu I3 g ry rz fun w' s4 I4 Cm=>⟨_,H3,I4,Cm,q3⟩
end
section
variable {X:Cx} {pins:List (aaD × Obj)} {σ:St} {H:Hp} {s:aak} {a:aaD} {kvs:List (Key × V)} {A:abC} {E:aae→aak→Prop}
end
section
variable {X:Cx} {pins:List (aaD × Obj)} {σ:St} {H:Hp} {s:aak} {a:aaD} {y:V} {u:aae} {A:abC} {E:aae→aak→Prop}
end
section
variable {X:Cx}
end
section
variable {κ:Type} [DecidableEq κ]
theorem Ks {kvs:List (κ × V)} {k:κ} {v:V} (h:bc kvs k=some v):k∈kvs.map (·.1):=by
 have q:(kvs.any fun kv=>decide (kv.1=k))=true:=by
  rw [ff,h]
  all_goals rfl
 obtain⟨p,hp,e⟩:=aeu.mp q
 exact aah.mpr ⟨p,hp,of_decide_eq_true e⟩
end
theorem Nt {prog:aa4} {w:abu} {A:abC} {E:aae→aak→Prop} {s:aak} {a:aaD} {o:Obj} {xs:Array aae} {k:Nat} {Q:Option aae→aak→Prop}
  (hx:s.heap.get? a=some o) (hc:o.cls=.type "list") (P9:o.data=.seq xs k) (hd:o.dict=none) (hA:A.handled=none)
  (h:∀h' tk e,Heap.NewExcOf s.heap h' e "AttributeError"→Q none { s with heap:=h',toks:=tk }) :
  abb (model prog w) A (getAttr? (.ref a) "keys") Q E s:=by
 obtain⟨c,dct,dat,sl⟩:=o
 simp only at hc P9 hd
 subst hc P9 hd
 obtain⟨hp,g,d,tk,os⟩:=s
 have hT:∀tk',(⟨hp,g,d,tk',os⟩:aak).TypeIs (.ref a) "list":=fun _=>⟨_,hx,rfl⟩
 have f1:=sub_AttributeError
 have f3:=acw.lookup
 have f4:=acw.bind (.ref a)
 have f5:=am_list_getattr_none
 have hmiss:typeLookup (.type "list") "keys"=pure none:=by rw [typeLookup_type,builtinLookup_eq_fast];kernel_rfl
 unfold getAttr? getAttrBy? getAttrBy
 repeat (any_goals (first|assumption|exact hT _|((with_reducible show abb _ _ (call (Value.builtin "list.__getattribute__") _ _) _ _ _);refine call_meets acw (hT _) am_entry_list_getattribute (PySem.F.args_list_getattribute_2 _ _) (meets_getattribute_miss_list a xs k sl "keys" _ hmiss (by decide +kernel) (by decide)) ⟨hx,hA,fun h' tk' e hx'=>?_⟩)|wp_step))
 obtain⟨t',u',he⟩:=hx'.there
 show abb _ _ (getattributeRaised _ _ _ _ _ _ _) _ _ _
 unfold getattributeRaised
 repeat (any_goals (first|assumption|wp_step))
 exact h _ _ _ hx'.of
theorem entry_dul:entryFor table "dict.update.loop"=some Builtin.«dict.update.loop»:=entryFor_of_tree (by kernel_rfl)
theorem plain_dul:plainId "dict.update.loop"=true:=by decide +kernel
theorem paired_at {α β:Type} {F:α→β→Prop}:∀{l1:List α} {l2:List β},Paired F l1 l2→∀i (h1:i<l1.length) (h2:i<l2.length),F l1[i] l2[i]
 | _,_,.cons h _,0,_,_=>h
 | _,_,.cons _ t,i+1,h1,h2=>paired_at t i (by simpa using h1) (by simpa using h2)
theorem sZ:∀(ps:List (Key × V)),(dq [] ps).length≤ps.length:=by
 have key:∀(ps acc:List (Key × V)),(dq acc ps).length≤acc.length+ps.length:=by
  intro ps
  induction ps with
  | nil=>intro acc;exact aaf _
  | cons p r ih =>
   intro acc
   have z:=ih (putK acc p.1 p.2)
   have z2:(putK acc p.1 p.2).length≤acc.length+1:=fg acc p.1 p.2
   show(dq (putK acc p.1 p.2) r).length≤_
   rw [aad]
   omega
 intro ps
 have z:=key ps []
 simpa using z
section
variable {X:Cx} {pins:List (aaD × Obj)} {σ:St} {H:Hp} {s:aak} {a it l:aaD} {ys:List V} {its:List aae} {ps:List (Key × V)}
def DW (K:aaa) (H:Hp) (ps:List (Key × V)) (ys:List V):Prop:=Paired (fun(p:Key × V) (y:V)=>∃t,y=.ref t∧b8 K H t [kV p.1,p.2]) ps ys
theorem Kt {A:abC} {R:Result→aak→Prop} (I:Inv X pins σ H s) (hh:A.handled=none) (hl:s.heap.IsList l its.toArray) (rv:Vals ys its) (hP:DW X.K H ps ys) (hlen:ps.length≤100000)
  (ha:s.heap.objs.size≤a) (Um:s.heap.objs.size≤it) (hne:a≠it)
  (fin:∀h' tk vs,(∀b o,s.heap.get? b=some o→h'.get? b=some o)→h'.DictOf (bo X.prog X.w) a vs→KV (dq [] ps) vs→R (.ok (.ret .none)) { s with heap:=h',toks:=tk }) :
  ∀(k i:Nat) (h':Heap) (tk:Nat) (vs:List (Key × aae)),its.length - i=k→i≤its.length→(∀b o,s.heap.get? b=some o→h'.get? b=some o)→h'.IsListIter it l i→h'.DictOf (bo X.prog X.w) a vs→KV (dq [] (ps.take i)) vs →
   abb (model X.prog X.w) A.in1 (Builtin.«dict.update.loop» ⟨[.ref a,.ref it,rawInt (i:Int),.none],[]⟩) (fun fin s'=>match fin with|.done f=>R (.ok f) s'|.again c'=>c'.quiet=true∧codeAny (model X.prog X.w) A c' R s') (fun e s'=>R (.error e) s') { s with heap:=h',toks:=tk }:=by
 have Uo:=rv.length
 have vb:=aat hP
 have lt:∀b o,s.heap.get? b=some o→b≠a∧b≠it:=fun b o q=>by
  exact⟨aaW (aa0 (aay q) ha),aaW (aa0 (aay q) Um)⟩
 obtain⟨ol,Xb,mq⟩:=id hl
 intro k
 induction k with
 | zero =>
  intro i h' tk vs hk hi kp hit hD hK
  obtain rfl:i=its.length:=by omega
  unfold Builtin.«dict.update.loop»
  dsimp only [rawInt]
  refine aap (wpAny_pyNext_list_end (s:={ s with heap:=h',toks:=tk }) (A:=A.in1) hh hit (show h'.IsList l its.toArray from⟨ol,kp _ _ Xb,mq⟩) (by simp) fun h2 Qa=>?_)
  dsimp only
  have jO:h2.DictOf (bo X.prog X.w) a vs:=hD.extBut Qa hne
  show abb _ _ (Builtin.Dict.addKeywords a [] >>= _) _ _ _
  refine aap (aaP (aaP ?_))
  exact fin h2 tk vs (fun b o q=>Qa b o (lt b o q).2 (kp b o q)) jO (by rw [← Uo,← vb,aba] at hK;exact hK)
 | succ k ih =>
  intro i h' tk vs hk hi kp hit hD hK
  have Qb:i<its.length:=by omega
  have Qc:i<ps.length:=by omega
  unfold Builtin.«dict.update.loop»
  dsimp only [rawInt]
  refine aap (wpAny_pyNext_list_item (s:={ s with heap:=h',toks:=tk }) (x:=its[i]) hit (show h'.IsList l its.toArray from⟨ol,kp _ _ Xb,mq⟩) (by simp [Qb]) fun h1 Qd OP=>?_)
  dsimp only
  have OQ:∀b o,s.heap.get? b=some o→h1.get? b=some o:=fun b o q=>(OP.2 b (lt b o q).2).trans (kp b o q)
  have I1:Inv X pins σ H { s with heap:=h1,toks:=tk }:=I.kept OQ
  have Sx:h1.DictOf (bo X.prog X.w) a vs:=hD.sameBut OP hne
  obtain⟨u1,f1,q1⟩:=rv.get (i:=i) (x:=ys[i]'(by omega)) (by simp)
  have eu:its[i]=u1:=(aar.mp f1).2
  obtain⟨t,et,hq⟩:∃t,ys[i]'(by omega)=.ref t∧b8 X.K H t [kV (ps[i]).1,(ps[i]).2]:=by
   have z:=hP
   unfold DW at z
   exact paired_at z i Qc (by omega)
  rw [et] at q1
  have Y2:its[i]=.ref t:=by rw [eu];exact q1
  rw [Y2]
  obtain⟨itt,rt,pl,_⟩:=I1.tuple hq
  obtain⟨uk,uv,rfl,rk,Y3⟩:=vals2 rt
  obtain⟨ot,Xc,Nu,n,Y4⟩:=id pl
  have Y5:Shared.TypeIs { s with heap:=h1,toks:=tk } (.ref t) "tuple":=⟨ot,Xc,Nu⟩
  refine aap (wpAny_holding (aap ?_))
  have Y6:∀{E':aae→aak→Prop} {Q':List aae→aak→Prop},Q' [uk,uv] { s with heap:=h1,toks:=tk }→abb (model X.prog X.w) A.in1 (aeC (.ref t)) Q' E' { s with heap:=h1,toks:=tk }:=fun {E' Q'} hq'=>by
   unfold aeC
   refine aap (wpAny_typeOf Y5 ?_)
   rw [if_pos (by decide)]
   refine aap (wpAny_seqItems Xc Y4 (aaP ?_))
   exact hq'
  refine wpAny_tryCatch (Y6 ?_)
  dsimp only
  have hsz:vs.length≤aao:=by
   have z:=hK.length
   have z2:=sZ (ps.take i)
   rw [aaF] at z2
   exact aa5 (show vs.length≤100000 by omega) (show 100000≤aao by rw [ac4];decide)
  refine wpAny_holding (wpAny_dictSet_pairs (hsz:=hsz) (sW rk) Sx fun h2 jO Qe=>?_)
  have L9:∀b o,s.heap.get? b=some o→h2.get? b=some o:=fun b o q=>(Qe.2 b (lt b o q).1).trans (OQ b o q)
  have Up:h2.IsListIter it l (i+1):=by
   obtain⟨o,ho,r⟩:=Qd
   exact⟨o,(Qe.2 it (abB hne)).trans ho,r⟩
  refine aaP ?_
  refine⟨plainId_quiet plain_dul _,codeAny_builtin entry_dul ?_⟩
  rw [aeW plain_dul _]
  refine ih (i+1) h2 (tk+1) _ (by omega) (by omega) L9 Up jO ?_
  rw [aaA Qc]
  unfold dq
  rw [ab1]
  exact hK.put _ Y3
theorem rq (hc:X.calm=true):fT X (.type "dict") (fun xs H Q=>∃(l:aaD) (ys:List V) (ps:List (Key × V)),xs=[.ref l]∧H l=some (.lst ys)∧DW X.K H ps ys∧ps.length≤100000∧∀d,H d=none→Q (.ref d) (upd H d (.dK (dq [] ps)))):=by
 intro pins s σ H xs us Q I r h
 obtain⟨l,ys,ps,rfl,hl,hP,hlen,q⟩:=h
 obtain⟨u,rfl,ru⟩:=vals1 r
 cases (show u=abd l from ru)
 have hh:=I.ok.hd hc
 obtain⟨hz,its,n,rv,hg⟩:=(show cD X.prog X.w H s.heap l (.lst ys) from I.hok l _ hl)
 have hf:H s.heap.objs.size=none:=I.hok.fresh (aaf _)
 refine callType_codes (Q₁:=fun obj s₁=>obj=.ref s.heap.objs.size∧s₁={ s with heap:=s.heap.push { cls:=.type "dict",data:=.dict #[] } }) PySem.F.kt_called_dict (PySem.F.kt_typeCall_dict_1 _) PySem.F.entry_dict_init (kt_code_dict_new _ ⟨rfl,rfl⟩) ?_
 rintro obj s₁ ⟨rfl,rfl⟩
 have Cp:(s.heap.push { cls:=.type "dict",data:=.dict #[] }).DictOf (bo X.prog X.w) s.heap.objs.size []:=afC s.heap
 refine⟨Cp.typeIs,PySem.F.args_dict_init_2 _ _,?_⟩
 unfold Builtin.«dict.__init__»
 refine aap ?_
 unfold Builtin.Dict.selfAndRest
 refine aap (wpAny_notOrdered_dict Cp.typeIs ?_)
 show abb _ _ (pure (s.heap.objs.size,[abd l])) _ _ _
 refine aaP ?_
 show abb _ _ (aem "dict.__init__" s.heap.objs.size (.ref l) [] .none) _ _ _
 unfold aem
 have Uq:(s.heap.push { cls:=.type "dict",data:=.dict #[] }).get? l=some { cls:=.type "list",data:=.seq its.toArray n }:=aag _ hg
 refine aap (wpAny_typeOf (T:="list") ⟨_,Uq,rfl⟩ ?_)
 rw [if_pos (by decide)]
 refine aap (Nt Uq rfl rfl rfl hh fun h1 Xd e hx=>?_)
 rw [if_pos (show(none:Option aae).isNone=true from rfl)]
 refine aap (wpAny_rule ?_)
 have Ur:=hx.keeps _ _ Uq
 have hd2:h1.DictOf (bo X.prog X.w) s.heap.objs.size []:=by
  obtain⟨o,es,ep,ho,r⟩:=Cp
  exact⟨o,es,ep,hx.keeps _ _ ho,r⟩
 have Qf:s.heap.objs.size<h1.objs.size:=by
  obtain⟨o,es,ep,ho,r⟩:=hd2
  exact aay ho
 have rA:h1.IsList l its.toArray:=⟨_,Ur,rfl,n,rfl⟩
 refine aap (wpAny_pyIter_list (s:={ s with heap:=h1,toks:=Xd }) rA ?_)
 refine aaP ⟨plainId_quiet plain_dul _,codeAny_builtin entry_dul ?_⟩
 rw [aeW plain_dul _]
 have Y7:∀b o,s.heap.get? b=some o→(h1.push { cls:=.type "list_iterator",data:=.fields #[.ref l,.int 0 0] }).get? b=some o:=fun b o q=>aag _ (hx.keeps _ _ (aag _ q))
 refine Kt (A:=X.A.in1) (its:=its) (a:=s.heap.objs.size) (it:=h1.objs.size) I hh ⟨_,hg,rfl,n,rfl⟩ rv hP hlen (aaf _) (aeG Qf) (aaW Qf) (fun h' tk vs kp hD hK=>?_)
  its.length 0 (h1.push { cls:=.type "list_iterator",data:=.fields #[.ref l,.int 0 0] }) Xd [] (by omega) (aa3 _) Y7 ⟨_,aaM _ rfl,rfl,rfl⟩ (hd2.push _) .nil
 refine⟨rfl,.ref s.heap.objs.size,upd H s.heap.objs.size (.dK (dq [] ps)),I.laid (t':=tk) kp (aaf _) ?_,rfl,q _ hf⟩
 refine⟨aa5 (sZ ps) (aa5 hlen (by rw [ac4];decide)),?_,vs,hK,hD⟩
 exact beq_eq_false_iff_ne.mpr (acH I.big)
end
section
variable {X:Cx}
theorem Qg {P:aa4} {w:abu} {k:Key} {u:aae} (r:(bo P w).is k u=true):RelV (kV k) u:=by
 rcases bT (k:=k) (v:=u) r with⟨i,t,rfl,rfl⟩|⟨x,t,rfl,rfl⟩
 ·exact⟨t,rfl⟩
 ·exact⟨t,rfl⟩
theorem xQ:∀{xs:List V} {us:List aae},us.length=xs.length→(∀(j:Nat) (v:aae),us[j]?=some v→∃x,xs[j]?=some x∧RelV x v)→Vals xs us
 | [],[],_,_=>.nil
 | x::xs,u::us,hl,h=>by
  obtain⟨y,e,r⟩:=h 0 u rfl
  cases e
  exact .cons r (xQ (by simpa using hl) fun j v e=>h (j+1) v (by simpa using e))
theorem tf (hc:X.calm=true):fT X (.type "list") (fun xs H Q=>∃(d:aaD) (kvs:List (Key × V)),xs=[.ref d]∧H d=some (.dK kvs)∧∀l,H l=none→Q (.ref l) (upd H l (.lst (kvs.map fun p=>kV p.1)))):=by
 intro pins s σ H xs us Q I r h
 obtain⟨d,kvs,rfl,hd,q⟩:=h
 obtain⟨u,rfl,ru⟩:=vals1 r
 cases (show u=abd d from ru)
 obtain⟨hz,lo,vs,hK,hD⟩:=G8 I.hok hd
 obtain⟨o,es,ep,ho,rr⟩:=hD
 have hf:H s.heap.objs.size=none:=I.hok.fresh (aaf _)
 have hl:=hK.length
 refine PySem.W.kdl_call (PySem.W.kdl_dict (knd:=bo X.prog X.w) (kvs:=vs) (ep:=ep) lo) (I.ok.hd hc) ⟨o,es,ho,rr⟩ (by omega) fun h' tk acc c' kp hg tj=>?_
 refine⟨.ref s.heap.objs.size,upd H s.heap.objs.size (.lst (kvs.map fun p=>kV p.1)),I.laid (t':=tk) kp (aaf _) ?_,rfl,q _ hf⟩
 refine⟨by rw [Lm9];exact hz,acc.toList,c',xQ ?_ fun j v e=>?_,by simpa using hg⟩
 ·rw [Lm9,acy,tj.1,hl]
 ·obtain⟨k,x,e1,e2⟩:=tj.2 j v (by rw [← aeM];exact e)
  have ek:(kvs.map (·.1))[j]?=some k:=by
   rw [hK.keys,aaq,e1]
   rfl
  rw [aaq] at ek
  cases e3:kvs[j]? with
  | none=>rw [e3] at ek;cases ek
  | some p =>
   rw [e3] at ek
   have e4:p.1=k:=aaR ek
   exact⟨kV p.1,by rw [aaq,e3];rfl,by rw [e4];exact Qg e2⟩
def Ku (K:aaa):V→List V→Hp→VK→Prop:=fun x vs H Q=>∃(p:aaD) (xs:List V) (y:V) (j:Nat),x=.ref p∧vs=[y]∧b8 K H p xs∧eV y=true∧xs.all eV=true∧(∃z,xs[j]?=some z∧z7 z y=true)∧(∀m z,m<j→xs[m]?=some z→z7 z y=false)∧Q (.int j) H
theorem Hb:L4 X "tuple.index" (Ku X.K):=by
 intro pins s σ H x vs v us Q I rx rv h
 obtain⟨p,xs,y,j,rfl,rfl,hq,fy,fx,⟨z,ez,hz⟩,M7,q⟩:=h
 cases (show v=abd p from rx)
 obtain⟨u,rfl,ru⟩:=vals1 rv
 obtain⟨its,r,pl,_⟩:=I.tuple hq
 obtain⟨⟨oc,od,dat,sl⟩,ho,hc,n,hd⟩:=id pl
 simp only at hc hd
 subst hc hd
 have hl:=r.length
 have hj:j<its.toArray.size:=by
  have:=(aar.mp ez).1
  simp
  omega
 have at_:∀m z,xs[m]?=some z→∃w,its[m]?=some w∧RelV z w:=fun m z e=>r.get e
 have flat:∀z∈xs,eV z=true:=abn.mp fx
 refine call_meets aec pl.typeIs PySem.F.entry_tuple_index (PySem.F.args_tuple_index_2 _ _) (ve p its.toArray n od sl u (xI y) j hj ?_ ?_) ⟨ho,fun w hw=>fU ru fy r fx w (by simpa using hw),⟨.int j,H,I.tok _,⟨_,rfl⟩,q⟩⟩
 ·obtain⟨w,ew,Cm⟩:=at_ j z ez
  have e:its.toArray[j]=w:=by
   have:=(aar.mp ew).2
   simpa using this
  rw [e,sO Cm (flat z (abr ez))]
  exact hz
 ·intro m hm Y8
  have hm':m<xs.length:=by simp at hm;omega
  obtain⟨w,ew,Cm⟩:=at_ m xs[m] (Ge9 hm')
  have e:its.toArray[m]=w:=by
   have:=(aar.mp ew).2
   simpa using this
  rw [e,sO Cm (flat _ (aas hm'))]
  exact M7 m _ Y8 (Ge9 hm')
end
end L2
namespace eJ
open PySem
abbrev gU:Str:="abcdefghijklmnopqrstuvwxyz"
abbrev pN:Str:="ABCDEFGHIJKLMNOPQRSTUVWXYZ"
abbrev Kv:Str:="0123456789"
def bu (c:Nat):Bool:=decide (c∈gU.cps.toList) || (decide (c∈pN.cps.toList) || decide (c∈Kv.cps.toList))
def Hc (c:Nat):Bool:=c == 40 || (c == 41 || c == 44)
def shut (cur:List Nat) (r:List (List Nat)):List (List Nat):=if cur=[] then r else cur::r
def dv:List Nat→List Nat→List (List Nat)
 | [],cur=>shut cur []
 | c::r,cur=>if bu c=true then dv r (cur++[c]) else shut cur (if c=32 then dv r [] else [c]::dv r [])
def toks (l:List Nat):List (List Nat):=dv l []
theorem tp:∀(n r cur:List Nat),n.all bu=true→dv (n++r) cur=dv r (cur++n)
 | [],r,cur,_=>by simp
 | c::n,r,cur,h=>by
  rw [abV,abc] at h
  rw [ac1]
  show(if bu c=true then dv (n++r) (cur++[c]) else _)=_
  rw [if_pos h.1,tp n r _ h.2,aa2]
  rfl
def jE:List Nat→Prop
 | []=>True
 | c::_=>bu c=false
theorem Cw {r cur:List Nat} (hs:jE r) (hc:cur≠[]):dv r cur=cur::toks r:=by
 cases r with
 | nil =>
  show shut cur []=cur::shut [] []
  unfold shut
  rw [if_neg hc,if_pos rfl]
 | cons c r =>
  have hs':bu c=false:=hs
  show(if bu c=true then _ else shut cur _)=cur::(if bu c=true then _ else shut [] _)
  rw [hs',if_neg aaE,if_neg aaE]
  unfold shut
  rw [if_neg hc,if_pos rfl]
theorem di {n r:List Nat} (hn:n.all bu=true) (h0:n≠[]) (hs:jE r):toks (n++r)=n::toks r:=by
 unfold toks
 rw [tp n r [] hn,abE,Cw hs h0]
 rfl
theorem jZ:bu 32=false:=by decide +kernel
theorem Kw:bu 40=false:=by decide +kernel
theorem Kx:bu 41=false:=by decide +kernel
theorem Ay:bu 44=false:=by decide +kernel
theorem dA (r:List Nat):toks (32::r)=toks r:=by
 show(if bu 32=true then dv r ([]++[32]) else shut [] (if (32:Nat)=32 then dv r [] else [32]::dv r []))=dv r []
 rw [jZ,if_neg aaE,if_pos rfl]
 rfl
theorem E7 {c:Nat} (hc:Hc c=true) (r:List Nat):toks (c::r)=[c]::toks r:=by
 have e:c=40∨c=41∨c=44:=by
  unfold Hc at hc
  simpa using hc
 have ha:bu c=false:=by
  rcases e with e|e|e <;> rw [e]
  ·exact Kw
  ·exact Kx
  ·exact Ay
 have hb:c≠32:=by omega
 show(if bu c=true then _ else shut [] (if c=32 then dv r [] else [c]::dv r []))=_
 rw [ha,if_neg aaE,if_neg hb]
 rfl
theorem fh:∀(k:Nat) (r:List Nat),toks (aam k 32++r)=toks r
 | 0,r=>rfl
 | k+1,r=>by
  rw [abl,ac1,dA,fh k r]
theorem xR (k:Nat) {r:List Nat} (h:jE r):jE (aam k 32++r):=by
 cases k with
 | zero=>exact h
 | succ k=>exact jZ
def bE (l:List Nat):Nat:=(l.takeWhile bu).length
theorem tq {l:List Nat} (h:bE l≠0):toks l=l.take (bE l)::toks (l.drop (bE l)):=by
 have e:l=l.takeWhile bu++l.dropWhile bu:=(List.takeWhile_append_dropWhile).symm
 have et:l.take (bE l)=l.takeWhile bu:=by
  unfold bE
  conv=>lhs;arg 2;rw [e]
  rw [List.take_left']
  rfl
 have ed:l.drop (bE l)=l.dropWhile bu:=by
  unfold bE
  conv=>lhs;arg 2;rw [e]
  rw [List.drop_left']
  rfl
 rw [et,ed]
 conv=>lhs;rw [e]
 refine di ?_ ?_ ?_
 ·exact List.all_takeWhile
 ·intro z
  unfold bE at h
  rw [z] at h
  exact h rfl
 ·cases q:l.dropWhile bu with
  | nil=>trivial
  | cons c r =>
   have z:=List.head_dropWhile_not (p:=bu) (l:=l) (by rw [q];simp)
   simp only [q,List.head_cons] at z
   exact z
theorem xS {c:Nat} {r:List Nat} (h:bE (c::r)=0):bu c=false:=by
 unfold bE at h
 rw [adQ] at h
 cases q:bu c with
 | false=>rfl
 | true=>rw [q] at h;simp at h
def bt (p:List Nat):Bool:=decide (1≤p.length) && (decide (p.length≤12) && p.all bu)
def fB:List (List Nat)→Option (List (List Nat) × Nat)
 | n::m::r=>if bt n=true then (if m=[41] then some ([n],2) else if m=[44] then (fB r).map fun q=>(n::q.1,q.2+2) else none) else none
 | _=>none
def between:List (List Nat)→List (List Nat)
 | []=>[]
 | [a]=>[a,[41]]
 | a::r=>a::[44]::between r
theorem mz:∀(as:List (List Nat)),as≠[]→(∀a∈as,bt a=true)→fB (between as)=some (as,(between as).length)
 | [],h,_=>absurd rfl h
 | [a],_,hn=>by
  show(if bt a=true then (if ([41]:List Nat)=[41] then some ([a],2) else _) else none)=_
  rw [if_pos (hn a (by simp)),if_pos rfl]
  rfl
 | a::b::r,_,hn=>by
  have ih:=mz (b::r) (by simp) fun x hx=>hn x (aan _ hx)
  show(if bt a=true then (if ([44]:List Nat)=[41] then _ else if ([44]:List Nat)=[44] then (fB (between (b::r))).map (fun q=>(a::q.1,q.2+2)) else none) else none)=_
  rw [if_pos (hn a (by simp)),if_neg (by decide),if_pos rfl,ih]
  rfl
end eJ
namespace Bk
open PySem L2 eJ
abbrev Cs:=List Nat
abbrev S (p:Cs):Str:=⟨p.toArray⟩
abbrev tx (p:Cs):V:=.str (S p)
theorem cG (p:Cs):(S p).cps.toList=p:=by simp
theorem E8 (x:Str):S x.cps.toList=x:=by cases x;simp
theorem a6 (p:Cs):(S p).length=p.length:=by simp [Str.length]
theorem xT (x:Str):x.cps.toList.length=x.length:=by simp [Str.length]
theorem wF {a b:Cs} (h:S a=S b):a=b:=by
 have e:=congrArg (fun s:Str=>s.cps.toList) h
 simpa using e
theorem Hd {a b:Cs} (h:tx a=tx b):a=b:=by
 have z:S a=S b:=by injection h
 exact wF z
theorem xU (a b:Cs):decide (tx a=tx b)=decide (a=b):=by
 rw [decide_eq_decide]
 exact⟨Hd,fun e=>by rw [e]⟩
structure Fc where
 k:Cs
 as:List Cs
structure Kd where
 n:Cs
 c:Nat
 l:Bool
structure Lk where
 same:Bool
 l:Cs
 r:Cs
structure Rl where
 title:Cs
 take:List Fc
 keep:List Fc
 dP:List Lk
 put:List Fc
 tell:List (Cs × Cs)
structure Kp (H0 H H':Hp):Prop where
 new:∀b o,H0 b=none→H b=some o→H' b=some o
 tup:∀b xs,H b=some (.tup xs)→H' b=some (.tup xs)
 sv:∀b o u,H b=some (.sv o u)→H' b=some (.sv o u)
 tu:∀b,H' b=none→H b=none
theorem Kp.trans {H0 H H1 H2:Hp} (a:Kp H0 H H1) (b:Kp H0 H1 H2):Kp H0 H H2 :=
 ⟨fun c o n h=>b.new c o n (a.new c o n h),fun c xs h=>b.tup c xs (a.tup c xs h),fun c o u h=>b.sv c o u (a.sv c o u h),fun c h=>a.tu c (b.tu c h)⟩
theorem Kp.same {H0 H H':Hp} (s:ag H H'):Kp H0 H H':=⟨fun b o _ h=>s b o h,fun b xs h=>s b _ h,fun b o u h=>s b _ h,fun b h=>by
 cases e:H b with
 | none=>rfl
 | some o=>rw [s b o e] at h;cases h⟩
theorem Kp.upd {H0 H:Hp} {l:aaD} {o o' u0:HO} (h0:H0 l=some u0) (h:H l=some o) (nt:∀xs,o≠.tup xs) (nf:∀ob u,o≠.sv ob u):Kp H0 H (upd H l o'):=by
 refine⟨fun b u n e=>?_,fun b xs e=>?_,fun b ob u e=>?_,fun b e=>?_⟩
 ·rw [ar (fun z=>by rw [z,h0] at n;cases n)];exact e
 ·rw [ar (fun z=>by rw [z,h] at e;exact nt xs (aaR e))];exact e
 ·rw [ar (fun z=>by rw [z,h] at e;exact nf ob u (aaR e))];exact e
 ·by_cases z:b=l
  ·rw [z,ab] at e;cases e
  ·rw [ar z] at e;exact e
theorem Kp.bM {H0 H1 H H':Hp} (k:Kp H0 H H') (d:∀b,H1 b=none→H0 b=none):Kp H1 H H':=⟨fun b o n h=>k.new b o (d b n) h,k.tup,k.sv,k.tu⟩
theorem b8.keep {K:aaa} {H0 H H':Hp} (k:Kp H0 H H') {a:aaD} {xs:List V} (h:b8 K H a xs):b8 K H' a xs:=by
 rcases h with(h|⟨o,h⟩)|h
 ·exact .inl (.inl (k.tup _ _ h))
 ·exact .inl (.inr ⟨o,k.sv _ _ _ h⟩)
 ·exact .inr h
def Fact (K:aaa) (H:Hp) (f:Fc) (v:V):Prop:=∃t t2,v=.ref t∧b8 K H t [tx f.k,.ref t2]∧b8 K H t2 (f.as.map tx)
def Kind (K:aaa) (H:Hp) (k:Kd) (v:V):Prop:=∃t,v=.ref t∧b8 K H t [tx k.n,.int k.c,.bl k.l]
def Pair (K:aaa) (H:Hp) (p:Cs × Cs) (v:V):Prop:=∃t,v=.ref t∧b8 K H t [tx p.1,tx p.2]
theorem Fact.keep {K:aaa} {H0 H H':Hp} {f:Fc} {v:V} (k:Kp H0 H H') (h:Fact K H f v):Fact K H' f v:=by
 obtain⟨t,t2,e,h1,h2⟩:=h
 exact⟨t,t2,e,b8.keep k h1,b8.keep k h2⟩
theorem Kind.keep {K:aaa} {H0 H H':Hp} {f:Kd} {v:V} (k:Kp H0 H H') (h:Kind K H f v):Kind K H' f v:=by
 obtain⟨t,e,h1⟩:=h
 exact⟨t,e,b8.keep k h1⟩
theorem Pair.keep {K:aaa} {H0 H H':Hp} {p:Cs × Cs} {v:V} (k:Kp H0 H H') (h:Pair K H p v):Pair K H' p v:=by
 obtain⟨t,e,h1⟩:=h
 exact⟨t,e,b8.keep k h1⟩
def u5 (α:Type) (R:Hp→α→V→Prop) (H0 H:Hp) (v:V) (xs:List α):Prop:=∃l vs,v=.ref l∧H0 l=none∧H l=some (.lst vs)∧Paired (R H) xs vs
theorem u5.keep {α:Type} {R:Hp→α→V→Prop} {H0 H H':Hp} {v:V} {xs:List α} (k:Kp H0 H H') (hR:∀a u,R H a u→R H' a u) (h:u5 α R H0 H v xs):u5 α R H0 H' v xs:=by
 obtain⟨l,vs,e,n,h1,h2⟩:=h
 exact⟨l,vs,e,n,k.new _ _ n h1,L2.Paired.cj h2 hR⟩
theorem u5.bM {α:Type} {R:Hp→α→V→Prop} {H0 H1 H:Hp} {v:V} {xs:List α} (d:∀b,H1 b=none→H0 b=none) (h:u5 α R H1 H v xs):u5 α R H0 H v xs:=by
 obtain⟨l,vs,e,n,h1,h2⟩:=h
 exact⟨l,vs,e,d l n,h1,h2⟩
def Us (C:aaD) (H0 H:Hp) (v:V) (F:List (Str × V)→Prop):Prop:=∃a dx fs,v=.ref a∧H0 a=none∧H a=some (.ins C dx fs)∧F fs
structure Cl where
 same:aaD
 unlike:aaD
 rule:aaD
 book:aaD
def Cl.look (c:Cl) (b:Bool):aaD:=if b=true then c.same else c.unlike
def oa (c:Cl) (H0 H:Hp) (k:Lk) (v:V):Prop:=Us (c.look k.same) H0 H v fun fs=>fs.lookup ("left":Str)=some (tx k.l)∧fs.lookup ("right":Str)=some (tx k.r)∧fs.lookup ("holds":Str)=none∧fs.lookup ("word":Str)=none
theorem oa.keep {c:Cl} {H0 H H':Hp} {x:Lk} {v:V} (k:Kp H0 H H') (h:oa c H0 H x v):oa c H0 H' x v:=by
 obtain⟨a,dx,fs,e,n,h1,h2⟩:=h
 exact⟨a,dx,fs,e,n,k.new _ _ n h1,h2⟩
def great (x:Cs):Bool:=decide (x.headD 0∈pN.cps.toList)
def once:List Cs→List Cs→List Cs
 | [],acc=>acc
 | x::r,acc=>once r (if x∈acc then acc else acc++[x])
def opens (fs:List Fc):List Cs:=once ((fs.flatMap (·.as)).filter great) []
def Facts (K:aaa):=u5 Fc (Fact K)
def Pairs (K:aaa):=u5 (Cs × Cs) (Pair K)
def Kinds (K:aaa):=u5 Kd (Kind K)
def oe (H0 H:Hp) (v:V) (xs:List Cs):Prop:=∃l,v=.ref l∧H0 l=none∧H l=some (.lst (xs.map tx))
def Looks (c:Cl) (H0 H:Hp) (v:V) (xs:List Lk):Prop:=∃l vs,v=.ref l∧H0 l=none∧H l=some (.lst vs)∧Paired (oa c H0 H) xs vs
structure og (K:aaa) (c:Cl) (H0 H:Hp) (r:Rl) (fs:List (Str × V)):Prop where
 title:fs.lookup ("title":Str)=some (tx r.title)
 taken:∃v,fs.lookup ("taken":Str)=some v∧Facts K H0 H v r.take
 kept:∃v,fs.lookup ("kept":Str)=some v∧Facts K H0 H v r.keep
 dP:∃v,fs.lookup ("looks":Str)=some v∧Looks c H0 H v r.dP
 given:∃v,fs.lookup ("given":Str)=some v∧Facts K H0 H v r.put
 told:∃v,fs.lookup ("told":Str)=some v∧Pairs K H0 H v r.tell
 names:∃v,fs.lookup ("names":Str)=some v∧oe H0 H v (opens (r.take++r.keep))
 calls:fs.lookup ("calls":Str)=none
def gG (K:aaa) (c:Cl) (H0 H:Hp) (r:Rl) (v:V):Prop:=Us c.rule H0 H v (og K c H0 H r)
theorem oe.keep {H0 H H':Hp} {v:V} {xs:List Cs} (k:Kp H0 H H') (h:oe H0 H v xs):oe H0 H' v xs:=by
 obtain⟨l,e,n,h1⟩:=h
 exact⟨l,e,n,k.new _ _ n h1⟩
theorem Looks.keep {c:Cl} {H0 H H':Hp} {v:V} {xs:List Lk} (k:Kp H0 H H') (h:Looks c H0 H v xs):Looks c H0 H' v xs:=by
 obtain⟨l,vs,e,n,h1,h2⟩:=h
 exact⟨l,vs,e,n,k.new _ _ n h1,L2.Paired.cj h2 fun _ _ z=>z.keep k⟩
theorem Facts.keep {K:aaa} {H0 H H':Hp} {v:V} {xs:List Fc} (k:Kp H0 H H') (h:Facts K H0 H v xs):Facts K H0 H' v xs:=u5.keep k (fun _ _ z=>z.keep k) h
theorem Pairs.keep {K:aaa} {H0 H H':Hp} {v:V} {xs:List (Cs × Cs)} (k:Kp H0 H H') (h:Pairs K H0 H v xs):Pairs K H0 H' v xs:=u5.keep k (fun _ _ z=>z.keep k) h
theorem Kinds.keep {K:aaa} {H0 H H':Hp} {v:V} {xs:List Kd} (k:Kp H0 H H') (h:Kinds K H0 H v xs):Kinds K H0 H' v xs:=u5.keep k (fun _ _ z=>z.keep k) h
theorem og.keep {K:aaa} {c:Cl} {H0 H H':Hp} {r:Rl} {fs:List (Str × V)} (k:Kp H0 H H') (h:og K c H0 H r fs):og K c H0 H' r fs:=by
 obtain⟨h1,⟨v2,e2,h2⟩,⟨v3,e3,h3⟩,⟨v4,e4,h4⟩,⟨v5,e5,h5⟩,⟨v6,e6,h6⟩,⟨v7,e7,h7⟩,h8⟩:=h
 exact⟨h1,⟨v2,e2,h2.keep k⟩,⟨v3,e3,h3.keep k⟩,⟨v4,e4,h4.keep k⟩,⟨v5,e5,h5.keep k⟩,⟨v6,e6,h6.keep k⟩,⟨v7,e7,h7.keep k⟩,h8⟩
theorem gG.keep {K:aaa} {c:Cl} {H0 H H':Hp} {r:Rl} {v:V} (k:Kp H0 H H') (h:gG K c H0 H r v):gG K c H0 H' r v:=by
 obtain⟨a,dx,fs,e,n,h1,h2⟩:=h
 exact⟨a,dx,fs,e,n,k.new _ _ n h1,h2.keep k⟩
def Rules (K:aaa) (c:Cl) (H0 H:Hp) (v:V) (xs:List Rl):Prop:=∃l vs,v=.ref l∧H0 l=none∧H l=some (.lst vs)∧Paired (gG K c H0 H) xs vs
structure Qh (K:aaa) (c:Cl) (H0 H:Hp) (ks:List Kd) (rs:List Rl) (fs:List (Str × V)):Prop where
 kinds:∃v,fs.lookup ("kinds":Str)=some v∧Kinds K H0 H v ks
 rules:∃v,fs.lookup ("rules":Str)=some v∧Rules K c H0 H v rs
def tw (K:aaa) (c:Cl) (H0 H:Hp) (ks:List Kd) (rs:List Rl) (v:V):Prop:=Us c.book H0 H v (Qh K c H0 H ks rs)
theorem Rules.keep {K:aaa} {c:Cl} {H0 H H':Hp} {v:V} {xs:List Rl} (k:Kp H0 H H') (h:Rules K c H0 H v xs):Rules K c H0 H' v xs:=by
 obtain⟨l,vs,e,n,h1,h2⟩:=h
 exact⟨l,vs,e,n,k.new _ _ n h1,L2.Paired.cj h2 fun _ _ z=>z.keep k⟩
theorem tw.keep {K:aaa} {c:Cl} {H0 H H':Hp} {ks:List Kd} {rs:List Rl} {v:V} (k:Kp H0 H H') (h:tw K c H0 H ks rs v):tw K c H0 H' ks rs v:=by
 obtain⟨a,dx,fs,e,n,h1,⟨v2,e2,h2⟩,⟨v3,e3,h3⟩⟩:=h
 exact⟨a,dx,fs,e,n,k.new _ _ n h1,⟨v2,e2,h2.keep k⟩,⟨v3,e3,h3.keep k⟩⟩
def aQ (p:Cs):Bool:=bt p && decide (p.headD 0∈gU.cps.toList)
inductive oh:List Cs→Fc→Prop
 | bare {k:Cs} (hk:aQ k=true):oh [k] ⟨k,[]⟩
 | empty {k:Cs} (hk:aQ k=true):oh [k,[40],[41]] ⟨k,[]⟩
 | args {k:Cs} {as:List Cs} (hk:aQ k=true) (h0:as≠[]) (h:∀a∈as,bt a=true):oh (k::[40]::between as) ⟨k,as⟩
inductive rB:List Cs→List Fc→Prop
 | one {ps:List Cs} {f:Fc} (h:oh ps f):rB ps [f]
 | more {ps r:List Cs} {f:Fc} {fs:List Fc} (h:oh ps f) (t:rB r fs):rB (ps++[44]::r) (f::fs)
def bQ (m:Cs):List Cs→List (List Cs)→List (List Cs)
 | [],rows=>rows
 | p::r,rows=>bQ m r (if p=m then rows++[[]] else rows.dropLast++[rows.getLastD []++[p]])
def glue (m:Cs):List (List Cs)→List Cs
 | []=>[]
 | [q]=>q
 | q::r=>q++m::glue m r
theorem j0 {m:Cs}:∀(q rest:List Cs) (done:List (List Cs)) (cur:List Cs),m∉q→bQ m (q++rest) (done++[cur])=bQ m rest (done++[cur++q])
 | [],rest,done,cur,_=>by rw [abE,aa8]
 | p::q,rest,done,cur,h=>by
  have hp:p≠m:=fun e=>h (by rw [e];exact aaN)
  have hq:m∉q:=fun z=>h (aan _ z)
  show bQ m (q++rest) (if p=m then _ else (done++[cur]).dropLast++[(done++[cur]).getLastD []++[p]])=_
  rw [if_neg hp,aeX,show(done++[cur]).getLastD []=cur by simp,j0 q rest done (cur++[p]) hq,aa2,adE]
theorem fG {m:Cs}:∀(qs:List (List Cs)) (done:List (List Cs)),qs≠[]→(∀q∈qs,m∉q)→bQ m (glue m qs) (done++[[]])=done++qs
 | [],_,h,_=>absurd rfl h
 | [q],done,_,h=>by
  have e:=j0 q [] done [] (h q (by simp))
  rw [aa8] at e
  show bQ m q _=_
  rw [e]
  rfl
 | q::q2::r,done,_,h=>by
  have e:=j0 q (m::glue m (q2::r)) done [] (h q (by simp))
  show bQ m (q++m::glue m (q2::r)) _=_
  rw [e]
  show bQ m (glue m (q2::r)) (if m=m then (done++[[]++q])++[[]] else _)=_
  rw [if_pos rfl,fG (q2::r) (done++[[]++q]) (by simp) fun x hx=>h x (aan _ hx),abE,aa2,adE]
def fC (x:Str):Bool:=decide ((1:Int)≤x.length) && (decide ((x.length:Int)≤12) && x.cps.toList.all bu)
theorem oi (p:List Nat):fC (S p)=bt p:=by
 unfold fC bt
 rw [a6,cG]
 have e1:decide ((1:Int)≤(p.length:Int))=decide (1≤p.length):=by
  rw [decide_eq_decide];omega
 have e2:decide ((p.length:Int)≤12)=decide (p.length≤12):=by
  rw [decide_eq_decide];omega
 rw [e1,e2]
theorem DX {x:Str} (h:1≤x.length):qG x.cps.toList (0:Int)=some (x.cps.toList.headD 0):=by
 have e:=xT x
 cases q:x.cps.toList with
 | nil=>rw [q] at e;simp at e;omega
 | cons a r=>exact bf (j:=0) rfl
theorem He {x:Str} (h:fC x=true):1≤x.length:=by
 unfold fC at h
 simp only [abc,decide_eq_true_eq] at h
 omega
theorem sz {n:Nat} (h:n≤100000):n≤aao:=by rw [ac4];omega
theorem fj {n:Nat} (h:n≤100000):n<aao:=by rw [ac4];omega
theorem ak {H:Hp} {p:aaD} (h:H p=none) (o:HO):ag H (upd H p o):=fun b u q=>by rw [ar (aI q h)];exact q
theorem ag.aJ {H H':Hp} {p:aaD} (e:ag H H') (h:H p=none) (o:HO):ag H (upd H' p o):=fun b u q=>by
 rw [ar (aI q h)]
 exact e b u q
theorem mid {a b:Int} (h:0<b):0≤a % b∧a % b<b:=⟨Int.emod_nonneg a (by omega),Int.emod_lt_of_pos a h⟩
theorem getD_get {l:List Nat} {i:Nat} (h:i<l.length):l[i]?=some (l.getD i 0):=by
 rw [Gd9,Ge9 h]
 rfl
theorem Az {l:List Nat} {i:Nat} (h:i<l.length):l.drop i=l.getD i 0::l.drop (i+1):=by
 rw [acY h,Gd9,Ge9 h]
 rfl
theorem Hf {x:Str} {i:Int} (h0:0≤i) (h1:i<x.length):qG x.cps.toList i=some (x.cps.toList.getD i.toNat 0):=by
 have hl:=xT x
 have hk:i.toNat<x.cps.toList.length:=by omega
 have z:=bf (xs:=x.cps.toList) (j:=i.toNat) (v:=x.cps.toList.getD i.toNat 0) (getD_get hk)
 rw [show((i.toNat:Nat):Int)=i by omega] at z
 exact z
def iT (x:Str):Bool:=fC x && decide (x.cps.toList.headD 0∈gU.cps.toList)
theorem AA (p:List Nat):iT (S p)=aQ p:=by
 unfold iT aQ
 rw [oi,cG]
def Cy:Sp:=fun vs H Q _=>∃c,vs=[.str ⟨#[c]⟩]∧Q (.bl (bu c)) H
def AB (f:Str→Bool):Sp:=fun vs H Q _=>∃x,vs=[.str x]∧x.length≤20000∧∀H',ag H H'→Q (.bl (f x)) H'
def xV:Sp:=fun vs H Q _=>∃p:Cs,vs=[tx p]∧p≠[]∧p.length≤1000∧Q (.bl (great p)) H
def Ma:Sp:=fun vs H Q _=>∃(x:Str) (p:Nat),vs=[.str x,.int p]∧x.length≤20000∧p≤x.length∧Q (.int ((p+bE (x.cps.toList.drop p):Nat):Int)) H
def Mb (m:Str) (c:Nat):Bool:=bu c || (decide (c∈m.cps.toList) || c == 32)
def AD:Sp:=fun vs H Q _=>∃x m,vs=[.str x,.str m]∧x.length≤20000∧32∉m.cps.toList∧x.cps.toList.all (Mb m)=true∧∀(l:aaD) (H':Hp),ag H H'→H l=none→H' l=some (.lst ((toks x.cps.toList).map tx))→Q (.ref l) H'
def rV:Sp:=fun vs H Q _=>∃(l:aaD) (ps:List Cs) (p:Nat),vs=[.ref l,.int p]∧H l=some (.lst (ps.map tx))∧ps.length≤20000∧Q (tx (ps.getD p [])) H
def Hg:Sp:=fun vs H Q _=>∃(l:aaD) (ps:List Cs) (p n:Nat) (as:List Cs),vs=[.ref l,.int p]∧H l=some (.lst (ps.map tx))∧ps.length≤20000 ∧
 ((as=[]∧n=1∧ps.getD p []=[41])∨(ps.getD p []≠[41]∧fB (ps.drop p)=some (as,n))) ∧
 ∀(t t2:aaD) (H':Hp),ag H H'→H' t=some (.tup [.ref t2,.int ((p+n:Nat):Int)])→H' t2=some (.tup (as.map tx))→Q (.ref t) H'
inductive j4:List Cs→Cs→List Cs→Nat→Prop
 | bare {k:Cs} {r:List Cs} (hk:aQ k=true) (h:r.getD 0 []≠[40]):j4 (k::r) k [] 1
 | empty {k:Cs} {r:List Cs} (hk:aQ k=true):j4 (k::[40]::[41]::r) k [] 3
 | args {k:Cs} {r as:List Cs} {n:Nat} (hk:aQ k=true) (h0:r.getD 0 []≠[41]) (h:fB r=some (as,n)):j4 (k::[40]::r) k as (n+2)
def AE:Sp:=fun vs H Q _=>∃(l:aaD) (ps:List Cs) (p n:Nat) (k:Cs) (as:List Cs),vs=[.ref l,.int p]∧H l=some (.lst (ps.map tx))∧ps.length≤20000∧j4 (ps.drop p) k as n ∧
 ∀(t t1 t2:aaD) (H':Hp),ag H H'→H' t=some (.tup [.ref t1,.int ((p+n:Nat):Int)])→H' t1=some (.tup [tx k,.ref t2])→H' t2=some (.tup (as.map tx))→Q (.ref t) H'
theorem Cz (l:List Nat):bE l≤l.length:=by
 unfold bE
 exact(List.takeWhile_sublist bu).length_le
theorem xW (c:Nat) (r:List Nat):bE (c::r)=if bu c=true then bE r+1 else 0:=by
 unfold bE
 rw [adQ]
 split <;> simp
theorem pO:∀(l cur:List Nat),(dv l cur).length≤l.length+(if cur=[] then 0 else 1)
 | [],cur=>by
  show(shut cur []).length≤_
  unfold shut
  by_cases h:cur=[] <;> simp [h]
 | c::r,cur=>by
  show(if bu c=true then dv r (cur++[c]) else shut cur (if c=32 then dv r [] else [c]::dv r [])).length≤_
  have e1:=pO r (cur++[c])
  have e2:=pO r []
  rw [if_neg (by simp)] at e1
  rw [if_pos rfl] at e2
  by_cases ha:bu c=true
  ·rw [if_pos ha,aad]
   omega
  ·rw [if_neg ha,aad]
   unfold shut
   by_cases h:cur=[] <;> by_cases h2:c=32 <;> simp [h,h2] <;> omega
theorem AF (l:List Nat):(toks l).length≤l.length:=by
 have e:=pO l []
 rw [if_pos rfl] at e
 exact e
theorem m8 {c:Nat} (ha:bu c=false) (hb:c≠32) (r:List Nat):toks (c::r)=[c]::toks r:=by
 show(if bu c=true then dv r ([]++[c]) else shut [] (if c=32 then dv r [] else [c]::dv r []))=_
 rw [ha,if_neg (by simp),if_neg hb]
 rfl
theorem Ky {x:Str} {p n:Nat} (h:p+n≤x.length):aff x (some (p:Int)) (some ((p+n:Nat):Int))=S ((x.cps.toList.drop p).take n):=by
 have e:=E4 (z:=x) (i:=p) (j:=((p+n:Nat):Int)) (by omega) (by omega) (by omega)
 rw [← E8 (aff x (some (p:Int)) (some ((p+n:Nat):Int))),e,show((p:Int)).toNat=p by omega,show(((p+n:Nat):Int) - (p:Int)).toNat=n by omega]
theorem fQ {l:List Cs} {p i:Nat}:(l.drop p).getD i []=l.getD (p+i) []:=by
 rw [Gd9,Gd9,adm]
theorem E9 {l as:List Cs} {n:Nat} (h:fB l=some (as,n)):∃nm mk r,l=nm::mk::r∧bt nm=true∧((mk=[41]∧as=[nm]∧n=2)∨(mk=[44]∧∃as' n',fB r=some (as',n')∧as=nm::as'∧n=n'+2)):=by
 match l,h with
 | nm::mk::r,h =>
  refine⟨nm,mk,r,rfl,?_⟩
  have h':(if bt nm=true then (if mk=[41] then some ([nm],2) else if mk=[44] then (fB r).map (fun q=>(nm::q.1,q.2+2)) else none) else none)=some (as,n):=h
  by_cases hn:bt nm=true
  ·rw [if_pos hn] at h'
   refine⟨hn,?_⟩
   by_cases h1:mk=[41]
   ·rw [if_pos h1] at h'
    injection h' with h'
    injection h' with a b
    exact .inl ⟨h1,a.symm,b.symm⟩
   ·rw [if_neg h1] at h'
    by_cases h2:mk=[44]
    ·rw [if_pos h2] at h'
     cases q:fB r with
     | none=>rw [q] at h';cases h'
     | some z =>
      rw [q] at h'
      injection h' with h'
      injection h' with a b
      exact .inr ⟨h2,z.1,z.2,rfl,a.symm,b.symm⟩
    ·rw [if_neg h2] at h'
     cases h'
  ·rw [if_neg hn] at h'
   cases h'
 | [_],h=>exact nomatch h
 | [],h=>exact nomatch h
theorem Hh {a b:Cs} (h:a≠b):decide (tx a=tx b)=false:=decide_eq_false fun z=>h (Hd z)
def DY (x m:Str) (l:aaD) (H:Hp) (n:Nat) (σ:St) (H':Hp):Prop:=∃(p:Nat) (done:List Cs) (o3 o4:Option V),n=x.length - p∧σ=[some (.str x),some (.str m),some (.ref l),some (.int p),o3,o4]∧p≤x.length∧ag H H'∧H' l=some (.lst (done.map tx))∧done++toks (x.cps.toList.drop p)=toks x.cps.toList
def Mc (l ln:aaD) (ps as:List Cs) (e:Nat) (H:Hp) (m:Nat) (σ:St) (H':Hp):Prop:=∃(p n:Nat) (done as':List Cs) (o3 o4:Option V),m=(ps.drop p).length∧σ=[some (.ref l),some (.int p),some (.ref ln),o3,o4]∧ag H H'∧H' l=some (.lst (ps.map tx))∧H' ln=some (.lst (done.map tx))∧fB (ps.drop p)=some (as',n)∧done++as'=as∧p+n=e∧done.length+(ps.drop p).length≤20000
theorem iA {p:Cs} (h:bt p=true):1≤p.length∧p.length≤12:=by
 unfold bt at h
 simp only [abc,decide_eq_true_eq] at h
 exact⟨h.1,h.2.1⟩
theorem cz {p:Cs} (h:aQ p=true):1≤p.length∧p.length≤12:=by
 unfold aQ at h
 simp only [abc] at h
 exact iA h.1
theorem oh.at {ps:List Cs} {f:Fc} (h:oh ps f) {r:List Cs} (hr:r.getD 0 []≠[40]):j4 (ps++r) f.k f.as ps.length:=by
 cases h with
 | bare hk=>exact .bare hk hr
 | empty hk=>exact .empty hk
 | @args k as hk h0 h =>
  have e:=mz as h0 h
  have e2:∀(as:List Cs) (r:List Cs),as≠[]→(∀a∈as,bt a=true)→fB (between as++r)=some (as,(between as).length):=by
   intro as
   induction as with
   | nil=>intro r z;exact absurd rfl z
   | cons a t ih =>
    intro r _ ha
    cases t with
    | nil =>
     show fB (a::[41]::r)=some ([a],2)
     show(if bt a=true then (if ([41]:Cs)=[41] then some ([a],2) else _) else none)=_
     rw [if_pos (ha a (by simp)),if_pos rfl]
    | cons b t =>
     have Ut:=ih r (by simp) fun x hx=>ha x (aan _ hx)
     show fB (a::[44]::(between (b::t)++r))=some (a::b::t,(between (b::t)).length+2)
     show(if bt a=true then (if ([44]:Cs)=[41] then some ([a],2) else if ([44]:Cs)=[44] then (fB (between (b::t)++r)).map (fun q=>(a::q.1,q.2+2)) else none) else none)=_
     rw [if_pos (ha a (by simp)),if_neg (by decide),if_pos rfl,Ut]
     rfl
  have e3:=e2 as r h0 h
  have Y9:(between as++r).getD 0 []≠[41]:=by
   cases as with
   | nil=>exact absurd rfl h0
   | cons a t =>
    have ha:=h a (by simp)
    have hh:(between (a::t)++r).getD 0 []=a:=by cases t <;> rfl
    rw [hh]
    intro z
    rw [z] at ha
    exact absurd ha (by decide +kernel)
  have z:=j4.args hk Y9 e3
  show j4 (k::[40]::(between as++r)) k as ((between as).length+2)
  exact z
theorem oh.pos {ps:List Cs} {f:Fc} (h:oh ps f):1≤ps.length:=by
 cases h <;> simp
theorem rB.pos {ps:List Cs} {fs:List Fc} (h:rB ps fs):1≤ps.length:=by
 cases h with
 | one h=>exact h.pos
 | more h t=>rw [aab];have:=h.pos;omega
theorem rB.head {ps:List Cs} {fs:List Fc} (h:rB ps fs):∃(f:Fc) (n:Nat) (fs':List Fc),fs=f::fs'∧j4 ps f.k f.as n∧((n=ps.length∧fs'=[])∨(n<ps.length∧ps.getD n []=[44]∧rB (ps.drop (n+1)) fs')):=by
 cases h with
 | @one _ f h =>
  have z:=h.at (r:=[]) (by simp)
  rw [aa8] at z
  exact⟨f,ps.length,[],rfl,z,.inl ⟨rfl,rfl⟩⟩
 | @more ps r f fs h t =>
  refine⟨f,ps.length,fs,rfl,h.at (by simp),.inr ⟨by simp,?_,?_⟩⟩
  ·rw [Gd9,abO (aaf _)]
   simp
  ·have e:(ps++[44]::r).drop (ps.length+1)=r:=by
    rw [← adA,List.drop_left]
    rfl
   rw [e]
   exact t
def Md (K:aaa):Sp:=fun vs H Q _=>∃(l:aaD) (ps:List Cs) (fs:List Fc),vs=[.ref l]∧H l=some (.lst (ps.map tx))∧ps.length≤20000∧rB ps fs∧∀v H',ag H H'→Facts K H H' v fs→Q v H'
def Qi (K:aaa) (l lf:aaD) (ps:List Cs) (fs:List Fc) (H:Hp) (m:Nat) (σ:St) (H':Hp):Prop:=∃(p:Nat) (done rest:List Fc) (vs:List V) (o3:Option V),m=(ps.drop p).length∧σ=[some (.ref l),some (.ref lf),some (.int p),o3]∧ag H H'∧H' l=some (.lst (ps.map tx))∧H' lf=some (.lst vs)∧Paired (Fact K H') done vs∧rB (ps.drop p) rest∧done++rest=fs∧done.length+(ps.drop p).length≤20000
def cE:List Cs→Cs
 | []=>[]
 | [a]=>a
 | a::r=>a++10::cE r
def mr:Cs→List Cs
 | []=>[[]]
 | c::r=>if c=10 then []::mr r else match mr r with
  | []=>[[c]]
  | q::qs=>(c::q)::qs
theorem Sy:∀p,mr p≠[]
 | []=>by simp [mr]
 | c::r=>by
  unfold mr
  split
  ·simp
  ·split <;> simp
theorem AG:∀(a r:Cs),10∉a→mr (a++10::r)=a::mr r
 | [],r,_=>by
  show(if 10=10 then []::mr r else _)=_
  rw [if_pos rfl]
 | c::a,r,h=>by
  have hc:c≠10:=fun e=>h (by rw [e];exact aaN)
  have ih:=AG a r fun z=>h (aan _ z)
  show(if c=10 then []::mr (a++10::r) else match mr (a++10::r) with|[]=>[[c]]|q::qs=>(c::q)::qs)=_
  rw [if_neg hc,ih]
theorem AH:∀(a:Cs),10∉a→mr a=[a]
 | [],_=>rfl
 | c::a,h=>by
  have hc:c≠10:=fun e=>h (by rw [e];exact aaN)
  have ih:=AH a fun z=>h (aan _ z)
  show(if c=10 then []::mr a else match mr a with|[]=>[[c]]|q::qs=>(c::q)::qs)=_
  rw [if_neg hc,ih]
theorem pP:∀(ls:List Cs),ls≠[]→(∀l∈ls,10∉l)→mr (cE ls)=ls
 | [],h,_=>absurd rfl h
 | [a],_,h=>AH a (h a (by simp))
 | a::b::r,_,h=>by
  show mr (a++10::cE (b::r))=_
  rw [AG a _ (h a (by simp)),pP (b::r) (by simp) fun l hl=>h l (aan _ hl)]
theorem AI:∀(ls:List Str),(aen ⟨#[10]⟩ ls).cps.toList=cE (ls.map fun s=>s.cps.toList)
 | []=>rfl
 | [a]=>rfl
 | a::b::r=>by
  have ih:=AI (b::r)
  show((a++(⟨#[10]⟩:Str))++aen ⟨#[10]⟩ (b::r)).cps.toList=_
  rw [abQ,abQ,ih]
  show(a.cps.toList++[10])++_=a.cps.toList++10::_
  simp
theorem Hi (x:Str):adk x ⟨#[10]⟩≠[]:=by
 unfold adk
 split
 ·simp
 ·split
  ·simp
  ·intro h
   have e:=congrArg ae3 h
   rw [PyProof.Rows.len_partsBetween] at e
   simp at e
theorem AJ {ls:List Cs} (h0:ls≠[]) (h:∀l∈ls,10∉l):adk (S (cE ls)) (aac "\n")=ls.map S:=by
 have e0:(aac "\n")=⟨#[10]⟩:=by decide +kernel
 rw [e0]
 have e1:=StrLaws.join_split (S (cE ls)) ⟨#[10]⟩
 have hf:=StrLaws.split_free (S (cE ls)) 10
 have hn:=Hi (S (cE ls))
 generalize adk (S (cE ls)) ⟨#[10]⟩=ts at e1 hf hn
 have e2:cE (ts.map fun s=>s.cps.toList)=cE ls:=by
  rw [← AI,e1]
 have e3:=congrArg mr e2
 rw [pP ls h0 h,pP _ (by simpa using hn) (by
  intro l hl
  obtain⟨t,ht,rfl⟩:=aah.mp hl
  exact hf t ht)] at e3
 rw [← e3,abf]
 have e4:(S ∘ fun s:Str=>s.cps.toList)=id:=by
  funext s
  exact E8 s
 rw [e4,ac7]
def told (p:Cs):Bool:=match p.dropWhile (· == 32) with
 | []=>false
 | c::_=>!(c == 35)
theorem DZ (f:Nat→Bool):∀(l:Cs),l.drop (l.takeWhile f).length=l.dropWhile f
 | []=>rfl
 | a::r=>by
  rw [adQ,ae4]
  by_cases h:f a=true
  ·rw [if_pos h,if_pos h]
   exact DZ f r
  ·rw [if_neg h,if_neg h]
   rfl
theorem Hj (p:Cs):∃q:Cs,aeZ (S p) (aac " ")=S q∧q.length≤p.length∧q.head?=(p.dropWhile (· == 32)).head?:=by
 have e0:(aac " ").cps.contains=fun c=>c == 32:=by
  funext c
  have e:(aac " ").cps = #[32]:=by decide +kernel
  rw [e]
  simp [aeN]
 unfold aeZ
 rw [e0,PyProof.Rows.stripBy_eq]
 obtain⟨a1,a2,a3⟩:=PyProof.Rows.lo_facts (fun c=>c == 32) (S p)
 obtain⟨b1,b2,b3,b4⟩:=PyProof.Rows.hi_facts (fun c=>c == 32) (S p) _ a1
 have Xe:stripLo (fun c=>c == 32) true (S p)=(p.takeWhile (· == 32)).length:=by
  simp [stripLo]
 rw [a6] at a1 a3 b2 b3
 generalize hlo:stripLo (fun c=>c == 32) true (S p)=lo at a1 a2 a3 b1 b2 b3 b4 Xe
 generalize hhi:stripHi (fun c=>c == 32) true (S p) lo=hi at b1 b2 b3 b4
 refine⟨(p.drop lo).take (hi - lo),?_,?_,?_⟩
 ·rw [← E8 (Builtin.Str.strSub (S p) lo hi),StrLaws.strSub_toList,cG]
 ·rw [aaF,aa9]
  omega
 ·rw [← DZ,← Xe]
  by_cases hx:lo=p.length
  ·rw [hx,List.drop_length,List.take_nil]
  ·have hl:lo<p.length:=by omega
   have eE:lo<hi:=by
    refine Nat.lt_of_not_le fun z=>?_
    have z1:=b3 lo z hl
    rcases a3 with a3|a3
    ·exact hx a3
    ·rw [z1] at a3;cases a3
   rw [List.head?_take]
   rw [if_neg (by omega)]
def Hk:Sp:=fun vs H Q _=>∃p:Cs,vs=[tx p]∧p.length≤20000∧Q (.bl (told p)) H
def D0:Sp:=fun vs H Q _=>∃ls:List Cs,vs=[tx (cE ls)]∧ls≠[]∧(∀l∈ls,10∉l)∧(cE ls).length≤20000∧∀v H',ag H H'→oe H H' v (ls.filter told)→Q v H'
theorem wG:∀(ls:List Cs),ls.length≤(cE ls).length+1
 | []=>by simp [cE]
 | [a]=>by simp [cE]
 | a::b::r=>by
  have ih:=wG (b::r)
  show(a::b::r).length≤(a++10::cE (b::r)).length+1
  rw [aab,aad,aad (a:=10)]
  omega
theorem pQ:∀(ls:List Cs) (l:Cs),l∈ls→l.length≤(cE ls).length
 | [a],l,h=>by rw [aaw.mp h];exact aaf _
 | a::b::r,l,h=>by
  have ih:=pQ (b::r)
  show l.length≤(a++10::cE (b::r)).length
  rw [aab,aad]
  rcases aaB.mp h with e|h
  ·rw [e];omega
  ·have:=ih l h;omega
abbrev AK:Str:="(),:;="
def Hl:Sp:=fun vs H Q _=>∃p:Cs,vs=[tx p]∧p.length≤20000∧p.all (Mb AK)=true∧∀v H',ag H H'→oe H H' v (toks p)→Q v H'
abbrev bU:Cs:=[112,97,115,115,105,110,103]
abbrev cb:Cs:=[108,97,115,116,105,110,103]
abbrev fV:Cs:=[114,117,108,101]
abbrev Hm:Cs:=[116,97,107,101]
abbrev Hn:Cs:=[107,101,101,112]
abbrev Ho:Cs:=[108,111,111,107]
abbrev Me:Cs:=[112,117,116]
abbrev tD:Cs:=[116,101,108,108]
def wH (k:Kd):List Cs:=[if k.l=true then cb else bU,k.n,[48+k.c]]
def Hq (K:aaa):Sp:=fun vs H Q _=>∃(l:aaD) (k:Kd),vs=[.ref l]∧H l=some (.lst ((wH k).map tx))∧aQ k.n=true∧k.c≤4∧∀v H',ag H H'→Kind K H' k v→Q v H'
theorem bZ {tt:TE} {aG:List Nat} {σ:St} {H1:Hp} {Q:VK} {K:aaa} {a:aaD} {xs:List V} {D:aaD} {β:Type} (bs:List β) (Out:Hp→Hp→β→V→Prop)
  (keep:∀H0 H H' b y,Kp H0 H H'→Out H0 H b y→Out H0 H' b y) (bM:∀H0 H2 H b y,(∀c,H2 c=none→H0 c=none)→Out H2 H b y→Out H0 H b y)
  (hn:xs.length<aao) (BY:H1 D=none) (hl:aB K H1 a xs) (hb:bs.length=xs.length)
  (he:∀(i:Nat) x b H' R,xs[i]?=some x→bs[i]?=some b→ag H1 H'→(∀y wz,ag H' wz→Out H' wz b y→R y wz)→tt (bY σ (some x) aG) H' R)
  (hd:∀H' ys,ag H1 H'→H' D=some (.lst ys)→Paired (Out H1 H') bs ys→Q (.ref D) H'):qH PU tt aG σ Q (JH K a) H1 D:=by
 have s0:ag H1 (upd H1 D (.lst [])):=ak BY _
 have Nv:∀c,upd H1 D (.lst []) c=none→H1 c=none:=fun c h=>s0.free h
 refine pJ (K:=K) (a:=a) (xs:=xs) hn (fun i ys H'=>ag H1 H'∧H' D=some (.lst ys)∧(∀c,H' c=none→upd H1 D (.lst []) c=none)∧Paired (Out (upd H1 D (.lst [])) H') (bs.take i) ys) ⟨s0,ab,fun _ h=>h,.nil⟩
  (fun i ys H' p=>p.1.seq hl) (fun i ys H' p=>⟨p.2.1,?_⟩) (fun i ys H' hi p=>?_) (fun ys H' p=>?_)
 ·have z:=aat p.2.2.2
  rw [aaF] at z
  omega
 ·have hx:xs.getD i .cU=xs[i]:=by rw [Gd9,Ge9 hi];rfl
  rw [hx]
  have gH:i<bs.length:=by omega
  refine he i xs[i] bs[i] H' _ (Ge9 hi) (Ge9 gH) p.1 fun y H2 s2 ho=>?_
  have jO:=s2 _ _ p.2.1
  have kp:Kp (upd H1 D (.lst [])) H2 (upd H2 D (.lst (ys++[y]))):=Kp.upd ab jO (by intro xs z;cases z) (by intro o u z;cases z)
  refine⟨jO,ag.aJ (ag.trans p.1 s2) BY _,ab,fun c h=>?_,?_⟩
  ·have h2:=kp.tu c h
   exact p.2.2.1 c (s2.free h2)
  ·rw [aaA gH]
   refine(L2.Paired.cj p.2.2.2 fun b v z=>keep _ _ _ _ _ kp (keep _ _ _ _ _ (Kp.same s2) z)).snoc ?_
   exact keep _ _ _ _ _ kp (bM _ _ _ _ _ p.2.2.1 ho)
 ·have z:=p.2.2.2
  rw [ab6 (by omega)] at z
  exact hd H' ys p.1 p.2.1 (L2.Paired.cj z fun b v h=>bM _ _ _ _ _ (fun c h=>by
   by_cases e:c=D
   ·rw [e];exact BY
   ·exact Nv c h) h)
def iB (m p:Cs) (rows:List (List Cs)):List (List Cs):=if p=m then rows++[[]] else rows.dropLast++[rows.getLastD []++[p]]
theorem oj (m p:Cs):∀(ps:List Cs) (rows:List (List Cs)),bQ m (ps++[p]) rows=iB m p (bQ m ps rows)
 | [],rows=>rfl
 | q::r,rows=>oj m p r _
theorem Hr {m p:Cs} {rows:List (List Cs)}:iB m p rows≠[]:=by
 unfold iB
 split <;> simp
theorem tE (m:Cs):∀(ps:List Cs) (rows:List (List Cs)),rows≠[]→bQ m ps rows≠[]
 | [],rows,h=>h
 | q::r,rows,h=>tE m r _ (show iB m q rows≠[] from Hr)
theorem qI {α β:Type} {R:α→β→Prop}:∀{l1:List α} {l2:List β},Paired R l1 l2→l1≠[]→∃a1 x b1 y,l1=a1++[x]∧l2=b1++[y]∧Paired R a1 b1∧R x y
 | _,_,.nil,h=>absurd rfl h
 | _,_,.cons (a:=a) (b:=b) (l₁:=l1) (l₂:=l2) r t,_=>by
  cases t with
  | nil=>exact⟨[],a,[],b,rfl,rfl,.nil,r⟩
  | cons r2 t2 =>
   obtain⟨a1,x,b1,y,e1,e2,h1,h2⟩:=qI (.cons r2 t2) (by simp)
   exact⟨a::a1,x,b::b1,y,by rw [e1];rfl,by rw [e2];rfl,.cons r h1,h2⟩
theorem m9 {α β:Type} {R:α→β→Prop}:∀{l1:List α} {l2:List β},Paired R l1 l2→∀{y:β},y∈l2→∃x,x∈l1∧R x y
 | _,_,.nil,_,h=>nomatch h
 | _,_,.cons r t,y,h=>by
  rcases aaB.mp h with e|h
  ·subst e;exact⟨_,aaN,r⟩
  ·obtain⟨x,hx,hr⟩:=m9 t h
   exact⟨x,aan _ hx,hr⟩
theorem cZ {α β:Type} {R R':α→β→Prop}:∀{l1:List α} {l2:List β},Paired R l1 l2→(∀a b,b∈l2→R a b→R' a b)→Paired R' l1 l2
 | _,_,.nil,_=>.nil
 | _,_,.cons r t,h=>.cons (h _ _ aaN r) (cZ t fun a b hb=>h a b (aan _ hb))
theorem qJ {α β γ:Type} {g:β→γ} {R:α→γ→Prop}:∀{l1:List α} {l2:List β},Paired (fun a b=>R a (g b)) l1 l2→Paired R l1 (l2.map g)
 | _,_,.nil=>.nil
 | _,_,.cons r t=>.cons r (qJ t)
def Mf (H0 H:Hp) (row:List Cs) (v:V):Prop:=∃b,v=.ref b∧H0 b=none∧H b=some (.lst (row.map tx))
def Rows (H0 H:Hp) (v:V) (rows:List (List Cs)):Prop:=∃l vs,v=.ref l∧H0 l=none∧H l=some (.lst vs)∧Paired (Mf H0 H) rows vs
def om:Sp:=fun vs H Q _=>∃(l:aaD) (ps:List Cs) (m:Cs),vs=[.ref l,tx m]∧H l=some (.lst (ps.map tx))∧ps.length≤20000∧∀v H',ag H H'→Rows H H' v (bQ m ps [[]])→Q v H'
theorem qK (m:Cs):∀(ps:List Cs) (rows:List (List Cs)),(bQ m ps rows).length≤rows.length+ps.length+1
 | [],rows=>by show rows.length≤_;omega
 | p::r,rows=>by
  have ih:=qK m r (iB m p rows)
  have:(iB m p rows).length≤rows.length+1:=by
   unfold iB
   split
   ·simp
   ·rw [aab,List.length_dropLast,abh];omega
  show(bQ m r (iB m p rows)).length≤_
  rw [aad]
  omega
theorem tF (m:Cs):∀(ps:List Cs) (rows:List (List Cs)) (B:Nat),(∀r∈rows,r.length≤B)→∀r∈bQ m ps rows,r.length≤B+ps.length
 | [],rows,B,h,r,hr=>by have:=h r hr;show r.length≤B+0;omega
 | p::q,rows,B,h,r,hr=>by
  have ih:=tF m q (iB m p rows) (B+1) (by
   intro x hx
   unfold iB at hx
   split at hx
   ·rcases aaS.mp hx with hx|hx
    ·have:=h x hx;omega
    ·rw [aaw.mp hx];simp
   ·rcases aaS.mp hx with hx|hx
    ·have:=h x ((List.dropLast_sublist rows).subset hx);omega
    ·rw [aaw.mp hx,aab]
     have:(rows.getLastD []).length≤B:=by
      cases rows with
      | nil=>exact aa3 _
      | cons a t=>exact h _ (List.getLast_mem (by simp:a::t≠[]))
     rw [abh]
     omega) r hr
  rw [aad]
  omega
abbrev tG:Cs:=[115,97,109,101]
abbrev j5:Cs:=[117,110,108,105,107,101]
def tH (k:Lk):List Cs:=[k.l,if k.same=true then tG else j5,k.r]
def tI (p:Cs × Cs):List Cs:=[p.1,[61],p.2]
def Hs:Sp:=fun vs H Q _=>∃(l:aaD) (a m b:Cs),vs=[.ref l]∧H l=some (.lst [tx a,tx m,tx b])∧bt a=true∧bt b=true∧∀H',ag H H'→Q .cU H'
structure AL (K:aaa) (C:aaD):Prop where
 cl:BX K C
 nL:cK K C "left"
 nR:cK K C "right"
def iU (K:aaa):Sp:=fun vs H Q _=>∃(C p dx:aaD) (l r:V),vs=[.ref p,l,r]∧AL K C∧H p=some (.ins C dx [])∧∀H' fs,H' p=some (.ins C dx fs)→fs.lookup ("left":Str)=some l→fs.lookup ("right":Str)=some r→fs.lookup ("holds":Str)=none→fs.lookup ("word":Str)=none→(∀b o,H b=some o→b≠p→H' b=some o)→Q .cU H'
def Ht (c:Cl):Sp:=fun vs H Q _=>∃(l:aaD) (k:Lk),vs=[.ref l]∧H l=some (.lst ((tH k).map tx))∧bt k.l=true∧bt k.r=true∧∀v H',ag H H'→oa c H H' k v→Q v H'
def Hu (K:aaa):Sp:=fun vs H Q _=>∃(l:aaD) (p:Cs × Cs),vs=[.ref l]∧H l=some (.lst ((tI p).map tx))∧bt p.1=true∧bt p.2=true∧∀v H',ag H H'→Pair K H' p v→Q v H'
def D1 (c:Cl):Sp:=fun vs H Q _=>∃(l:aaD) (ks:List Lk),vs=[.ref l]∧H l=some (.lst ((glue [44] (ks.map tH)).map tx))∧ks≠[]∧ks.length≤1000∧(∀k∈ks,bt k.l=true∧bt k.r=true)∧∀v H',ag H H'→Looks c H H' v ks→Q v H'
def D4 (K:aaa):Sp:=fun vs H Q _=>∃(l:aaD) (ps:List (Cs × Cs)),vs=[.ref l]∧H l=some (.lst ((glue [44] (ps.map tI)).map tx))∧ps≠[]∧ps.length≤1000∧(∀k∈ps,bt k.1=true∧bt k.2=true)∧∀v H',ag H H'→Pairs K H H' v ps→Q v H'
theorem l7 {p:Cs} (h:bt p=true):p≠[44]:=by
 intro e
 rw [e] at h
 exact absurd h (by decide +kernel)
theorem tJ {m:Cs}:∀(qs:List (List Cs)) (B:Nat),(∀q∈qs,q.length≤B)→(glue m qs).length≤qs.length * (B+1)
 | [],_,_=>by simp [glue]
 | [q],B,h=>by
  show q.length≤_
  have:=h q (by simp)
  simp
  omega
 | q::q2::r,B,h=>by
  have ih:=tJ (m:=m) (q2::r) B fun x hx=>h x (aan _ hx)
  have hq:=h q (by simp)
  show(q++m::glue m (q2::r)).length≤_
  rw [aab,aad,aad,ae5]
  omega
inductive Pt where
 | fs (l:List Fc)
 | lk (l:List Lk)
 | pr (l:List (Cs × Cs))
def cL (K:aaa) (c:Cl) (H0 H:Hp) (v:V):Pt→Prop
 | .fs l=>Facts K H0 H v l
 | .lk l=>Looks c H0 H v l
 | .pr l=>Pairs K H0 H v l
theorem cL.keep {K:aaa} {c:Cl} {H0 H H':Hp} {v:V} (k:Kp H0 H H'):∀{p:Pt},cL K c H0 H v p→cL K c H0 H' v p
 | .fs _,h=>Facts.keep k h
 | .lk _,h=>Looks.keep k h
 | .pr _,h=>Pairs.keep k h
theorem oa.bM {c:Cl} {H0 H1 H:Hp} {x:Lk} {v:V} (d:∀b,H1 b=none→H0 b=none) (h:oa c H1 H x v):oa c H0 H x v:=by
 obtain⟨a,dx,fs,e,n,r⟩:=h
 exact⟨a,dx,fs,e,d a n,r⟩
theorem Looks.bM {c:Cl} {H0 H1 H:Hp} {xs:List Lk} {v:V} (d:∀b,H1 b=none→H0 b=none) (h:Looks c H1 H v xs):Looks c H0 H v xs:=by
 obtain⟨l,vs,e,n,h1,h2⟩:=h
 exact⟨l,vs,e,d l n,h1,L2.Paired.cj h2 fun _ _ z=>z.bM d⟩
theorem cL.bM {K:aaa} {c:Cl} {H0 H1 H:Hp} {v:V} (d:∀b,H1 b=none→H0 b=none):∀{p:Pt},cL K c H1 H v p→cL K c H0 H v p
 | .fs _,h=>u5.bM d h
 | .lk _,h=>Looks.bM d h
 | .pr _,h=>u5.bM d h
def wordAt:Nat→Cs
 | 0=>Hm
 | 1=>Hn
 | 2=>Ho
 | 3=>Me
 | _=>tD
theorem tK {i j:Nat} (hi:i<5) (hj:j<5) (h:wordAt i=wordAt j):i=j:=by
 rcases(by omega:i=0∨i=1∨i=2∨i=3∨i=4) with e|e|e|e|e <;> subst e <;>
 rcases(by omega:j=0∨j=1∨j=2∨j=3∨j=4) with e|e|e|e|e <;> subst e <;> first|rfl|exact absurd h (by decide)
inductive oo:Nat→List Cs→Pt→Prop
 | fs {n:Nat} {ps:List Cs} {l:List Fc} (hn:n=0∨n=1∨n=3) (h:rB ps l):oo n ps (.fs l)
 | lk {l:List Lk} (h0:l≠[]) (hl:l.length≤1000) (h:∀k∈l,bt k.l=true∧bt k.r=true):oo 2 (glue [44] (l.map tH)) (.lk l)
 | pr {l:List (Cs × Cs)} (h0:l≠[]) (hl:l.length≤1000) (h:∀k∈l,bt k.1=true∧bt k.2=true):oo 4 (glue [44] (l.map tI)) (.pr l)
def Hv (K:aaa) (c:Cl):Sp:=fun vs H Q _=>∃(l:aaD) (n:Nat) (ps:List Cs) (p:Pt),vs=[tx (wordAt n),.ref l]∧H l=some (.lst (ps.map tx))∧ps.length≤20000∧oo n ps p∧∀v H',ag H H'→cL K c H H' v p→Q v H'
structure Pr where
 n:Nat
 ps:List Cs
 p:Pt
def Nx:Nat→List Pr→Prop
 | _,[]=>True
 | m,x::r=>m≤x.n∧x.n<5∧Nx (x.n+1) r
structure D5 (title:Cs) (L:List Pr):Prop where
 tt:aQ title=true
 ne:L≠[]
 inc:Nx 0 L
 ok:∀x∈L,oo x.n x.ps x.p
 hd:∃x∈L,x.n=0∨x.n=1
 no:∀x∈L,[59]∉x.ps
def gW (title:Cs) (L:List Pr):List Cs:=fV::title::[58]::glue [59] (L.map fun x=>wordAt x.n::x.ps)
def cM (K:aaa) (c:Cl) (H0 H:Hp) (L:List Pr) (kvs:List (Key × V)):Prop:=Paired (fun(x:Pr) (kv:Key × V)=>kv.1=aa7 (S (wordAt x.n))∧cL K c H0 H kv.2 x.p) L kvs
theorem cM.keep {K:aaa} {c:Cl} {H0 H H':Hp} {L:List Pr} {kvs:List (Key × V)} (k:Kp H0 H H') (h:cM K c H0 H L kvs):cM K c H0 H' L kvs:=L2.Paired.cj h fun _ _ z=>⟨z.1,z.2.keep k⟩
def Hw (K:aaa) (c:Cl):Sp:=fun vs H Q _=>∃(l:aaD) (title:Cs) (L:List Pr),vs=[.ref l]∧H l=some (.lst ((gW title L).map tx))∧(gW title L).length≤20000∧D5 title L ∧
 ∀(t d:aaD) (kvs:List (Key × V)) (H':Hp),ag H H'→H' t=some (.tup [tx title,.ref d])→H d=none→H' d=some (.dK kvs)→cM K c H H' L kvs→Q (.ref t) H'
theorem wI {kvs:List (Key × V)} {k:Key} (h:∀p∈kvs,p.1≠k):bc kvs k=none:=by
 cases e:bc kvs k with
 | none=>rfl
 | some v =>
  obtain⟨p,hp,hk⟩:=aah.mp (Ks e)
  exact absurd hk (h p hp)
theorem pR:∀{L:List Pr} {m:Nat},Nx m L→∀x∈L,m≤x.n∧x.n<5
 | [],_,_,_,h=>nomatch h
 | y::r,m,hi,x,h=>by
  rcases aaB.mp h with e|h
  ·subst e;exact⟨hi.1,hi.2.1⟩
  ·have z:=pR hi.2.2 x h
   have:=hi.1
   exact⟨by omega,z.2⟩
theorem Hx:∀{L:List Pr} {m:Nat},Nx m L→∀i (h:i<L.length),(∀x∈L.take i,x.n<L[i].n)∧L[i].n<5
 | y::r,m,hi,0,_=>⟨(fun _ z=>by cases z),hi.2.1⟩
 | y::r,m,hi,i+1,h=>by
  have ih:=Hx hi.2.2 i (by simpa using h)
  refine⟨fun x hx=>?_,ih.2⟩
  rw [List.take_succ_cons] at hx
  rcases aaB.mp hx with e|hx
  ·subst e
   have:=pR hi.2.2 (r[i]'(by simpa using h)) (aas _)
   show x.n<(r[i]'(by simpa using h)).n
   omega
  ·exact ih.1 x hx
theorem wJ:∀{L:List Pr} {m:Nat},Nx m L→∀i (h:i<L.length),∀x∈L.drop (i+1),L[i].n+1≤x.n
 | y::r,m,hi,0,_,x,hx=>(pR hi.2.2 x hx).1
 | y::r,m,hi,i+1,h,x,hx=>wJ hi.2.2 i (by simpa using h) x hx
theorem D6:∀{L:List Pr} {m:Nat},Nx m L→m≤5→L.length≤5 - m
 | [],_,_,_=>aa3 _
 | y::r,m,hi,hm=>by
  have ih:=D6 hi.2.2 (by have:=hi.2.1;omega)
  have:=hi.1
  have:=hi.2.1
  rw [aad]
  omega
theorem AM {m:Cs}:∀(qs:List (List Cs)) (q:List Cs),q∈qs→q.length≤(glue m qs).length
 | [a],q,h=>by rw [aaw.mp h];exact aaf _
 | a::b::r,q,h=>by
  have ih:=AM (m:=m) (b::r)
  show q.length≤(a++m::glue m (b::r)).length
  rw [aab,aad]
  rcases aaB.mp h with e|h
  ·rw [e];omega
  ·have:=ih q h;omega
theorem wK {K:aaa} {c:Cl} {H0 H:Hp}:∀{L:List Pr} {kvs:List (Key × V)},cM K c H0 H L kvs→∀{x:Pr},x∈L→(bc kvs (aa7 (S (wordAt x.n)):Key)).isSome=true
 | _,_,.nil,_,h=>nomatch h
 | _,_,.cons (a:=a) (b:=b) (l₁:=l1) (l₂:=l2) r t,x,h=>by
  rw [← ff,adj]
  rcases aaB.mp h with e|h
  ·subst e
   rw [decide_eq_true r.1]
   rfl
  ·have ih:=wK t h
   rw [← ff] at ih
   rw [ih,Bool.or_true]
def Hy (f:Fc):Prop:=aQ f.k=true∧f.as.length≤20000∧∀a∈f.as,bt a=true
def mB (x:Cs) (acc:List Cs):List Cs:=if great x=true then (if x∈acc then acc else acc++[x]) else acc
def dQ (l:List Cs) (acc:List Cs):List Cs:=l.foldl (fun acc x=>mB x acc) acc
theorem j6:∀(l acc:List Cs),once (l.filter great) acc=dQ l acc
 | [],acc=>rfl
 | x::r,acc=>by
  rw [acB]
  by_cases h:great x=true
  ·rw [if_pos h]
   show once (r.filter great) (if x∈acc then acc else acc++[x])=dQ r (mB x acc)
   rw [j6 r]
   unfold mB
   rw [if_pos h]
  ·rw [if_neg h,j6 r]
   show _=dQ r (mB x acc)
   unfold mB
   rw [if_neg h]
theorem Hz (fs:List Fc):opens fs=dQ (fs.flatMap (·.as)) []:=j6 _ _
theorem pS (a b acc:List Cs):dQ (a++b) acc=dQ b (dQ a acc):=ab1 ..
def vf (a:Cs):Key × V:=(aa7 (S a),.bl true)
theorem HA (x:Cs) (acc:List Cs):putK (acc.map vf) (aa7 (S x):Key) (.bl true)=(if x∈acc then acc else acc++[x]).map vf:=by
 unfold putK
 have e:((acc.map vf).any fun kv=>decide (kv.1=(aa7 (S x):Key)))=decide (x∈acc):=by
  rw [aci,aeu,decide_eq_true_eq]
  constructor
  ·rintro⟨kv,hm,hk⟩
   obtain⟨a,ha,rfl⟩:=aah.mp hm
   have:=of_decide_eq_true hk
   rw [wF (aeh this)] at ha
   exact ha
  ·intro h
   exact⟨vf x,aah.mpr ⟨x,h,rfl⟩,decide_eq_true rfl⟩
 rw [e]
 by_cases h:x∈acc
 ·rw [decide_eq_true h,if_pos rfl,if_pos h]
  rw [abf]
  refine ac8 fun a _=>?_
  show(if (vf a).1=_ then ((vf a).1,V.bl true) else vf a)=vf a
  split <;> rfl
 ·rw [decide_eq_false h,if_neg (by decide),if_neg h,aai]
  rfl
theorem Fb (x:Cs) (acc:List Cs):(mB x acc).length≤acc.length+1:=by
 unfold mB
 split
 ·split <;> simp
 ·omega
def D7 (K:aaa):Sp:=fun vs H Q _=>∃(l:aaD) (us:List V) (fs:List Fc),vs=[.ref l]∧H l=some (.lst us)∧Paired (Fact K H) fs us∧fs.length≤20000∧(∀f∈fs,Hy f)∧(fs.flatMap (·.as)).length≤20000∧∀v H',ag H H'→oe H H' v (opens fs)→Q v H'
def jF (n:Nat) (L:List Pr):Option Pr:=L.find? fun x=>x.n == n
def rC (n:Nat) (L:List Pr):List Fc:=match jF n L with
 | some ⟨_,_,.fs l⟩=>l
 | _=>[]
def Fd (L:List Pr):List Lk:=match jF 2 L with
 | some ⟨_,_,.lk l⟩=>l
 | _=>[]
def Fe (L:List Pr):List (Cs × Cs):=match jF 4 L with
 | some ⟨_,_,.pr l⟩=>l
 | _=>[]
def fm (title:Cs) (L:List Pr):Rl:=⟨title,rC 0 L,rC 1 L,Fd L,rC 3 L,Fe L⟩
theorem l8 {K:aaa} {c:Cl} {H0 H:Hp}:∀{L:List Pr} {kvs:List (Key × V)} {n:Nat},cM K c H0 H L kvs→(∀x∈L,x.n<5)→n<5 →
  (jF n L=none∧bc kvs (aa7 (S (wordAt n)):Key)=none)∨∃x v,jF n L=some x∧x∈L∧x.n=n∧bc kvs (aa7 (S (wordAt n)):Key)=some v∧cL K c H0 H v x.p
 | _,_,n,.nil,_,_=>.inl ⟨rfl,rfl⟩
 | _,_,n,.cons (a:=a) (b:=b) (l₁:=l1) (l₂:=l2) r t,h5,hn=>by
  by_cases e:a.n=n
  ·refine .inr ⟨a,b.2,?_,aaN,e,?_,r.2⟩
   ·unfold jF
    rw [ab3,show(a.n == n)=true by simpa using e]
   ·exact cn (by rw [r.1,e])
  ·have hf:jF n (a::l1)=jF n l1:=by
    unfold jF
    rw [ab3,show(a.n == n)=false by simpa using e]
   have hv:bc (b::l2) (aa7 (S (wordAt n)):Key)=bc l2 (aa7 (S (wordAt n)):Key):=cq (by
    rw [r.1]
    intro z
    exact e (tK (h5 a aaN) hn (wF (aeh z))))
   rw [hf,hv]
   rcases l8 (n:=n) t (fun x hx=>h5 x (aan _ hx)) hn with z|⟨x,v,z1,z2,z3⟩
   ·exact .inl z
   ·exact .inr ⟨x,v,z1,aan _ z2,z3⟩
theorem AO {K:aaa} {H0 H:Hp} {l:aaD} (h0:H0 l=none) (h:H l=some (.lst [])):Facts K H0 H (.ref l) []:=⟨l,[],rfl,h0,h,.nil⟩
theorem AQ {c:Cl} {H0 H:Hp} {l:aaD} (h0:H0 l=none) (h:H l=some (.lst [])):Looks c H0 H (.ref l) []:=⟨l,[],rfl,h0,h,.nil⟩
theorem AR {K:aaa} {H0 H:Hp} {l:aaD} (h0:H0 l=none) (h:H l=some (.lst [])):Pairs K H0 H (.ref l) []:=⟨l,[],rfl,h0,h,.nil⟩
theorem CA {K:aaa} {c:Cl} {H0 H:Hp} {L:List Pr} {kvs:List (Key × V)} {n:Nat} {l:aaD} (pa:cM K c H0 H L kvs) (h5:∀x∈L,x.n<5) (hok:∀x∈L,oo x.n x.ps x.p) (hn:n=0∨n=1∨n=3) (h0:H0 l=none) (h:H l=some (.lst [])) :
  Facts K H0 H ((bc kvs (aa7 (S (wordAt n)):Key)).getD (.ref l)) (rC n L):=by
 rcases l8 (n:=n) pa h5 (by omega) with⟨z1,z2⟩|⟨⟨xn,Xf,xp⟩,v,z1,z2,rfl,z4,z5⟩
 ·rw [z2]
  unfold rC
  rw [z1]
  exact AO h0 h
 ·rw [z4]
  unfold rC
  rw [z1]
  have hP:=hok _ z2
  cases xp with
  | fs l=>exact z5
  | lk l=>cases hP;exact absurd (show 2=0∨2=1∨2=3 from hn) (by decide)
  | pr l=>cases hP;exact absurd (show 4=0∨4=1∨4=3 from hn) (by decide)
theorem Ny {K:aaa} {c:Cl} {H0 H:Hp} {L:List Pr} {kvs:List (Key × V)} {l:aaD} (pa:cM K c H0 H L kvs) (h5:∀x∈L,x.n<5) (hok:∀x∈L,oo x.n x.ps x.p) (h0:H0 l=none) (h:H l=some (.lst [])) :
  Looks c H0 H ((bc kvs (aa7 (S (wordAt 2)):Key)).getD (.ref l)) (Fd L):=by
 rcases l8 (n:=2) pa h5 (by omega) with⟨z1,z2⟩|⟨⟨xn,Xf,xp⟩,v,z1,z2,z3,z4,z5⟩
 ·rw [z2]
  unfold Fd
  rw [z1]
  exact AQ h0 h
 ·rw [z4]
  unfold Fd
  rw [z1]
  have z3:xn=2:=z3
  subst z3
  have hP:=hok _ z2
  cases xp with
  | fs l=>cases hP with|fs hn _=>exact absurd (show 2=0∨2=1∨2=3 from hn) (by decide)
  | lk l=>exact z5
  | pr l=>cases hP
theorem Nz {K:aaa} {c:Cl} {H0 H:Hp} {L:List Pr} {kvs:List (Key × V)} {l:aaD} (pa:cM K c H0 H L kvs) (h5:∀x∈L,x.n<5) (hok:∀x∈L,oo x.n x.ps x.p) (h0:H0 l=none) (h:H l=some (.lst [])) :
  Pairs K H0 H ((bc kvs (aa7 (S (wordAt 4)):Key)).getD (.ref l)) (Fe L):=by
 rcases l8 (n:=4) pa h5 (by omega) with⟨z1,z2⟩|⟨⟨xn,Xf,xp⟩,v,z1,z2,z3,z4,z5⟩
 ·rw [z2]
  unfold Fe
  rw [z1]
  exact AR h0 h
 ·rw [z4]
  unfold Fe
  rw [z1]
  have z3:xn=4:=z3
  subst z3
  have hP:=hok _ z2
  cases xp with
  | fs l=>cases hP with|fs hn _=>exact absurd (show 4=0∨4=1∨4=3 from hn) (by decide)
  | lk l=>cases hP
  | pr l=>exact z5
structure xX (K:aaa) (C:aaD):Prop where
 cl:BX K C
 n1:cK K C "title"
 n2:cK K C "taken"
 n3:cK K C "kept"
 n4:cK K C "looks"
 n5:cK K C "given"
 n6:cK K C "told"
 n7:cK K C "names"
structure HB (K:aaa) (C:aaD):Prop where
 cl:BX K C
 n1:cK K C "kinds"
 n2:cK K C "rules"
structure Kz (r:Rl):Prop where
 heads:∀f∈r.take++r.keep,Hy f
 few:(r.take++r.keep).length≤20000
 Uu:((r.take++r.keep).flatMap (·.as)).length≤20000
def rW (K:aaa) (c:Cl):Sp:=fun vs H Q _=>∃(H0:Hp) (p dx d:aaD) (title:Cs) (L:List Pr) (kvs:List (Key × V)) (u0:HO),vs=[.ref p,tx title,.ref d]∧H p=some (.ins c.rule dx [])∧H0 p=some u0∧(∀b,H b=none→H0 b=none)∧H d=some (.dK kvs) ∧
 cM K c H0 H L kvs∧(∀x∈L,x.n<5)∧(∀x∈L,oo x.n x.ps x.p)∧Kz (fm title L) ∧
 ∀H' fs,H' p=some (.ins c.rule dx fs)→og K c H0 H' (fm title L) fs→(∀b o,H b=some o→b≠p→H' b=some o)→Q .cU H'
def rY (K:aaa) (c:Cl):Sp:=fun vs H Q _=>∃(p dx:aaD) (k r:V),vs=[.ref p,k,r]∧H p=some (.ins c.book dx [])∧∀H' fs,H' p=some (.ins c.book dx fs)→fs.lookup ("kinds":Str)=some k→fs.lookup ("rules":Str)=some r→(∀b o,H b=some o→b≠p→H' b=some o)→Q .cU H'
def rZ (K:aaa) (c:Cl):Sp:=fun vs H Q _=>∃(H0:Hp) (v:V) (r:Rl),vs=[v]∧gG K c H0 H r v∧Q (.bl (decide (r.take=[]))) H
theorem iV {α β:Type} {R:α→β→Prop}:∀{a1 a2:List α} {b1 b2:List β},Paired R a1 b1→Paired R a2 b2→Paired R (a1++a2) (b1++b2)
 | _,_,_,_,.nil,h=>h
 | _,_,_,_,.cons r t,h=>.cons r (iV t h)
theorem oq (a:Cs) (l:List Cs):JI (tx a) (l.map tx)=decide (a∈l):=by
 unfold JI
 rw [List.any_map,aci,aeu,decide_eq_true_eq]
 constructor
 ·rintro⟨x,hx,h⟩
  have e:(S x == S a)=true:=h
  rw [wF (eq_of_beq e)] at hx
  exact hx
 ·intro h
  exact⟨a,h,(show(S a == S a)=true from beq_self_eq_true _)⟩
theorem j7 (l:List Cs):(l.map tx).all eV=true:=by
 rw [List.all_map,abn]
 intro x _
 rfl
theorem l9 {tt:TT} {te:TE} {aG:List Nat} {σ:St} {H1:Hp} {Q:VK} {K:aaa} {a:aaD} {xs:List V} {D:aaD} {β γ:Type} (bs:List β) (kp:β→Bool) (g:β→γ) (Out:Hp→Hp→γ→V→Prop)
  (keep:∀H0 H H' b y,Kp H0 H H'→Out H0 H b y→Out H0 H' b y) (bM:∀H0 H2 H b y,(∀c,H2 c=none→H0 c=none)→Out H2 H b y→Out H0 H b y)
  (hn:xs.length<aao) (BY:H1 D=none) (hl:aB K H1 a xs) (hb:bs.length=xs.length)
  (ht:∀(i:Nat) x b H' R,xs[i]?=some x→bs[i]?=some b→ag H1 H'→(∀wz,ag H' wz→R (kp b) wz)→tt (bY σ (some x) aG) H' R)
  (he:∀(i:Nat) x b H' R,xs[i]?=some x→bs[i]?=some b→kp b=true→ag H1 H'→(∀y wz,ag H' wz→Out H' wz (g b) y→R y wz)→te (bY σ (some x) aG) H' R)
  (hd:∀H' ys,ag H1 H'→H' D=some (.lst ys)→Paired (Out H1 H') ((bs.filter kp).map g) ys→Q (.ref D) H'):qH tt te aG σ Q (JH K a) H1 D:=by
 have s0:ag H1 (upd H1 D (.lst [])):=ak BY _
 have Nv:∀c,upd H1 D (.lst []) c=none→H1 c=none:=fun c h=>s0.free h
 refine pJ (K:=K) (a:=a) (xs:=xs) hn (fun i ys H'=>ag H1 H'∧H' D=some (.lst ys)∧(∀c,H' c=none→upd H1 D (.lst []) c=none)∧Paired (Out (upd H1 D (.lst [])) H') (((bs.take i).filter kp).map g) ys) ⟨s0,ab,fun _ h=>h,.nil⟩
  (fun i ys H' p=>p.1.seq hl) (fun i ys H' p=>⟨p.2.1,?_⟩) (fun i ys H' hi p=>?_) (fun ys H' p=>?_)
 ·have z:=aat p.2.2.2
  rw [Lm9] at z
  have z2:=abp kp (bs.take i)
  rw [aaF] at z2
  omega
 ·have hx:xs.getD i .cU=xs[i]:=by rw [Gd9,Ge9 hi];rfl
  rw [hx]
  have gH:i<bs.length:=by omega
  refine ht i xs[i] bs[i] H' _ (Ge9 hi) (Ge9 gH) p.1 fun Xg NA=>?_
  have Sx:=NA _ _ p.2.1
  have NB:∀c,Xg c=none→upd H1 D (.lst []) c=none:=fun c h=>p.2.2.1 c (NA.free h)
  cases hk:kp bs[i] with
  | false =>
   refine bh ⟨ag.trans p.1 NA,Sx,NB,?_⟩
   rw [aaA gH,abD]
   have e:[bs[i]].filter kp=[]:=by simp [hk]
   rw [e,aa8]
   exact L2.Paired.cj p.2.2.2 fun b v z=>keep _ _ _ _ _ (Kp.same NA) z
  | true =>
   refine fE ?_
   refine he i xs[i] bs[i] Xg _ (Ge9 hi) (Ge9 gH) hk (ag.trans p.1 NA) fun y H2 s2 ho=>?_
   have jO:=s2 _ _ Sx
   have L9:Kp (upd H1 D (.lst [])) H2 (upd H2 D (.lst (ys++[y]))):=Kp.upd ab jO (by intro xs z;cases z) (by intro o u z;cases z)
   refine⟨jO,ag.aJ (ag.trans (ag.trans p.1 NA) s2) BY _,ab,fun c h=>?_,?_⟩
   ·exact NB c (s2.free (L9.tu c h))
   ·rw [aaA gH,abD]
    have e:[bs[i]].filter kp=[bs[i]]:=by simp [hk]
    rw [e,aai]
    refine(L2.Paired.cj p.2.2.2 fun b v z=>keep _ _ _ _ _ L9 (keep _ _ _ _ _ (Kp.same (ag.trans NA s2)) z)).snoc ?_
    exact keep _ _ _ _ _ L9 (bM _ _ _ _ _ NB ho)
 ·have z:=p.2.2.2
  rw [ab6 (by omega)] at z
  exact hd H' ys p.1 p.2.1 (L2.Paired.cj z fun b v h=>bM _ _ _ _ _ (fun c h=>by
   by_cases e:c=D
   ·rw [e];exact BY
   ·exact Nv c h) h)
theorem dF:∀{l:List Cs} {ys:List V},Paired (fun b y=>y=tx b) l ys→ys=l.map tx
 | _,_,.nil=>rfl
 | _,_,.cons r t=>by rw [r,dF t];rfl
def NC (k:Kd):Prop:=aQ k.n=true∧k.c≤4
structure nc (K:aaa) (c:Cl) (H0 H:Hp) (lk lr:aaD) (ks:List Kd) (rs:List Rl) (kvs nh:List V):Prop where
 hk:H lk=some (.lst kvs)
 pk:Paired (Kind K H) ks kvs
 hr:H lr=some (.lst nh)
 pr:Paired (gG K c H0 H) rs nh
 ne:lk≠lr
 ok:∃u,H0 lk=some u
 or:∃u,H0 lr=some u
 tu:∀b,H b=none→H0 b=none
 fk:ks.length≤10000
 fr:rs.length≤10000
def HC (K:aaa) (c:Cl):Sp:=fun vs H Q _=>∃(H0:Hp) (lk lr:aaD) (ks:List Kd) (rs:List Rl) (kvs nh:List V) (p:Cs),vs=[.ref lk,.ref lr,tx p]∧nc K c H0 H lk lr ks rs kvs nh∧ks.length<10000∧rs.length<10000∧p.length≤20000∧p.all (Mb AK)=true ∧
  ((∃k:Kd,toks p=wH k∧NC k∧k.n∉ks.map (·.n)∧∀v H',(∀b o,b≠lk→H b=some o→H' b=some o)→nc K c H0 H' lk lr (ks++[k]) rs (kvs++[v]) nh→Q .cU H') ∨
   (∃(title:Cs) (L:List Pr),toks p=gW title L∧D5 title L∧Kz (fm title L)∧title∉rs.map (·.title)∧∀v H',(∀b o,b≠lr→H b=some o→H' b=some o)→nc K c H0 H' lk lr ks (rs++[fm title L]) kvs (nh++[v])→Q .cU H'))
theorem gG.bM {K:aaa} {c:Cl} {H0 H1 H:Hp} {r:Rl} {v:V} (d:∀b,H1 b=none→H0 b=none) (h:gG K c H1 H r v):gG K c H0 H r v:=by
 obtain⟨a,dx,fs,e,n,h1,⟨t1,⟨v2,e2,h2⟩,⟨v3,e3,h3⟩,⟨v4,e4,h4⟩,⟨v5,e5,h5⟩,⟨v6,e6,h6⟩,⟨v7,e7,h7⟩,h8⟩⟩:=h
 refine⟨a,dx,fs,e,d a n,h1,⟨t1,⟨v2,e2,u5.bM d h2⟩,⟨v3,e3,u5.bM d h3⟩,⟨v4,e4,Looks.bM d h4⟩,⟨v5,e5,u5.bM d h5⟩,⟨v6,e6,u5.bM d h6⟩,⟨v7,e7,?_⟩,h8⟩⟩
 obtain⟨l,el,nl,hl⟩:=h7
 exact⟨l,el,d l nl,hl⟩
theorem cL.apart {K:aaa} {c:Cl} {H0 H:Hp} {v:V} {x:aaD} {o:HO} (hx:H x=none) {p:Pt} (h:cL K c H0 H v p):cL K c (upd H0 x o) H v p:=by
 have key:∀b u,H b=some u→H0 b=none→upd H0 x o b=none:=fun b u e n=>by rw [ar (aI e hx)];exact n
 cases p with
 | fs l =>
  obtain⟨l,vs,e,n,h1,h2⟩:=h
  exact⟨l,vs,e,key _ _ h1 n,h1,h2⟩
 | pr l =>
  obtain⟨l,vs,e,n,h1,h2⟩:=h
  exact⟨l,vs,e,key _ _ h1 n,h1,h2⟩
 | lk l =>
  obtain⟨l,vs,e,n,h1,h2⟩:=h
  exact⟨l,vs,e,key _ _ h1 n,h1,L2.Paired.cj h2 fun k y z=>by
   obtain⟨a,dx,fs,e,n,z1,z2⟩:=z
   exact⟨a,dx,fs,e,key _ _ z1 n,z1,z2⟩⟩
theorem og.bM {K:aaa} {c:Cl} {H0 H1 H:Hp} {r:Rl} {fs:List (Str × V)} (d:∀b,H1 b=none→H0 b=none) (h:og K c H1 H r fs):og K c H0 H r fs:=by
 obtain⟨t1,⟨v2,e2,h2⟩,⟨v3,e3,h3⟩,⟨v4,e4,h4⟩,⟨v5,e5,h5⟩,⟨v6,e6,h6⟩,⟨v7,e7,h7⟩,h8⟩:=h
 refine⟨t1,⟨v2,e2,u5.bM d h2⟩,⟨v3,e3,u5.bM d h3⟩,⟨v4,e4,Looks.bM d h4⟩,⟨v5,e5,u5.bM d h5⟩,⟨v6,e6,u5.bM d h6⟩,⟨v7,e7,?_⟩,h8⟩
 obtain⟨l,el,nl,hl⟩:=h7
 exact⟨l,el,d l nl,hl⟩
def ou (ks:List Kd) (f:Fc):Prop:=∃k∈ks,k.n=f.k∧f.as.length=k.c
def AS (K:aaa):Sp:=fun vs H Q _=>∃(lk lf:aaD) (kvs HD:List V) (ks:List Kd) (fs:List Fc),vs=[.ref lk,.ref lf]∧H lk=some (.lst kvs)∧Paired (Kind K H) ks kvs∧(ks.map (·.n)).Nodup∧ks.length≤10000∧H lf=some (.lst HD)∧Paired (Fact K H) fs HD∧(∀f∈fs,ou ks f)∧∀H',ag H H'→Q .cU H'
def AU (K:aaa):Sp:=fun vs H Q _=>∃(ll lf:aaD) (HD:List V) (ls:List Cs) (fs:List Fc),vs=[.ref ll,.ref lf]∧H ll=some (.lst (ls.map tx))∧H lf=some (.lst HD)∧Paired (Fact K H) fs HD∧(∀f∈fs,f.k∉ls)∧Q .cU H
def AV (K:aaa) (c:Cl):Sp:=fun vs H Q _=>∃(H0:Hp) (ll:aaD) (v:V) (ls:List Cs) (r:Rl),vs=[.ref ll,v]∧H ll=some (.lst (ls.map tx))∧gG K c H0 H r v∧(r.take=[]→∀f∈r.put,f.k∈ls)∧Q .cU H
def dB (r:Rl):List Cs:=(r.dP.flatMap fun k=>[k.l,k.r])++((r.put.flatMap (·.as))++(r.tell.flatMap fun p=>[p.1,p.2]))
def HE (K:aaa) (c:Cl):Sp:=fun vs H Q _=>∃(H0:Hp) (v:V) (r:Rl),vs=[v]∧gG K c H0 H r v∧(dB r).length≤20000∧∀u H',ag H H'→oe H H' u (dB r)→Q u H'
def AW (K:aaa) (c:Cl):Sp:=fun vs H Q _=>∃(H0:Hp) (v:V) (r:Rl),vs=[v]∧gG K c H0 H r v∧(dB r).length≤20000∧(∀a∈dB r,bt a=true)∧(∀a∈dB r,great a=true→a∈opens (r.take++r.keep))∧∀H',ag H H'→Q .cU H'
structure CB (ks:List Kd) (r:Rl):Prop where
 fits:∀f∈r.take++r.keep++r.put,ou ks f
 takes:∀f∈r.take,f.k∉(ks.filter (·.l)).map (·.n)
 calls:r.take=[]→∀f∈r.put,f.k∈(ks.filter (·.l)).map (·.n)
 Uv:∀a∈dB r,great a=true→a∈opens (r.take++r.keep)
 names:∀a∈dB r,bt a=true
 few:(dB r).length≤20000
 Uw:(r.take++r.keep++r.put).length≤20000
def D8 (K:aaa) (c:Cl):Sp:=fun vs H Q _=>∃(H0:Hp) (lk lr:aaD) (ks:List Kd) (rs:List Rl) (kvs nh:List V),vs=[.ref lk,.ref lr]∧nc K c H0 H lk lr ks rs kvs nh∧(ks.map (·.n)).Nodup∧(∀r∈rs,CB ks r) ∧
 ∀x dx fs H',ag H H'→H x=none→H' x=some (.ins c.book dx fs)→fs.lookup ("kinds":Str)=some (.ref lk)→fs.lookup ("rules":Str)=some (.ref lr)→Q (.ref x) H'
theorem ow:∀(ps acc:List (Key × V)),((acc++ps).map (·.1)).Nodup→dq acc ps=acc++ps
 | [],acc,_=>by show acc=acc++[];rw [aa8]
 | p::r,acc,h=>by
  have hn:bc acc p.1=none:=wI fun q hq e=>by
   rw [aai,aaZ,abJ] at h
   exact h.2.2 q.1 (aah.mpr ⟨q,hq,rfl⟩) p.1 aaN e
  have ih:=ow r (acc++[p]) (by rw [aa2];exact h)
  show dq (putK acc p.1 p.2) r=_
  rw [As _ hn,ih,aa2]
  rfl
theorem wL:∀{ps:List (Key × V)} {k:Key} {v:V},(ps.map (·.1)).Nodup→(k,v)∈ps→bc ps k=some v
 | p::r,k,v,hn,h=>by
  rw [aaZ,ack] at hn
  rcases aaB.mp h with e|h
  ·subst e;exact cn rfl
  ·have:p.1≠k:=fun e=>hn.1 (aah.mpr ⟨(k,v),h,e.symm⟩)
   rw [cq this]
   exact wL hn.2 h
theorem pT {α:Type} (g:α→List Cs) (l:List α) (i:Nat):((l.take i).flatMap g).length≤(l.flatMap g).length:=by
 have e:l.flatMap g=(l.take i).flatMap g++(l.drop i).flatMap g:=by rw [← abG,abz]
 rw [e,aab]
 omega
def qL (k:Kd):Key × V:=(aa7 (S k.n),.int k.c)
theorem qM {K:aaa} {H:Hp}:∀{ks:List Kd} {ys:List V},Paired (fun(k:Kd) (y:V)=>∃t,y=.ref t∧b8 K H t [tx k.n,.int k.c]) ks ys→DW K H (ks.map qL) ys
 | _,_,.nil=>.nil
 | _,_,.cons r t=>.cons r (qM t)
theorem qN {ks:List Kd} (h:(ks.map (·.n)).Nodup):((ks.map qL).map (·.1)).Nodup:=by
 rw [abf]
 have e:((fun p:Key × V=>p.1) ∘ qL)=(fun n:Cs=>(aa7 (S n):Key)) ∘ (fun k:Kd=>k.n):=rfl
 rw [e,← abf]
 exact acR.mpr (afp (fun hne e=>hne (wF (aeh e))) h)
inductive It where
 | kind (k:Kd)
 | rule (title:Cs) (L:List Pr)
def It.ps:It→List Cs
 | .kind k=>wH k
 | .rule t L=>gW t L
def jL:List It→List Kd
 | []=>[]
 | .kind k::r=>k::jL r
 | .rule _ _::r=>jL r
def jM:List It→List Rl
 | []=>[]
 | .kind _::r=>jM r
 | .rule t L::r=>fm t L::jM r
theorem j8 (a b:List It):jL (a++b)=jL a++jL b:=by
 induction a with
 | nil=>rfl
 | cons x r ih=>cases x <;> simp [jL,ih]
theorem j9 (a b:List It):jM (a++b)=jM a++jM b:=by
 induction a with
 | nil=>rfl
 | cons x r ih=>cases x <;> simp [jM,ih]
def Ux:It→Prop
 | .kind k=>NC k
 | .rule t L=>D5 t L∧Kz (fm t L)
structure Mg (ls:List Cs) (its:List (Cs × It)):Prop where
 lines:ls.filter told=its.map (·.1)
 ok:∀x∈its,x.1.all (Mb AK)=true∧toks x.1=x.2.ps∧Ux x.2
 nk:((jL (its.map (·.2))).map (·.n)).Nodup
 nr:((jM (its.map (·.2))).map (·.title)).Nodup
 good:∀r∈jM (its.map (·.2)),CB (jL (its.map (·.2))) r
 few:its.length<10000
def HF (K:aaa) (c:Cl):Sp:=fun vs H Q _=>∃(ls:List Cs) (its:List (Cs × It)),vs=[tx (cE ls)]∧ls≠[]∧(∀l∈ls,10∉l)∧(cE ls).length≤20000∧Mg ls its∧∀v H',ag H H'→tw K c H H' (jL (its.map (·.2))) (jM (its.map (·.2))) v→Q v H'
theorem tL:∀(a:List It),(jL a).length≤a.length
 | []=>aaf _
 | .kind k::r=>by show(jL r).length+1≤_;have:=tL r;rw [aad];omega
 | .rule t L::r=>by show(jL r).length≤_;have:=tL r;rw [aad];omega
theorem tM:∀(a:List It),(jM a).length≤a.length
 | []=>aaf _
 | .kind k::r=>by show(jM r).length≤_;have:=tM r;rw [aad];omega
 | .rule t L::r=>by show(jM r).length+1≤_;have:=tM r;rw [aad];omega
end Bk
namespace L2
open PySem PySem.Spec PyProof.Rows
section
variable {X:Cx}
end
theorem xY {X:Cx}:fT X (.builtin "isinstance") (fun xs H Q=>∃(a:aaD) (ys:List V) (n:String) (b:Bool),xs=[.ref a,.ty n]∧b8 X.K H a ys∧acd X.K (.type "tuple") (.type n)=some b∧Q (.bl b) H):=by
 intro pins s σ H xs us Q I r h
 obtain⟨a,ys,n,b,rfl,g,e,q⟩:=h
 obtain⟨u,u2,rfl,rx,ru⟩:=vals2 r
 have e2:u2=adx n:=ru
 subst e2
 cases (show u=abd a from rx)
 obtain⟨its,_,⟨o,h1,h2,_⟩,_⟩:=I.tuple g
 exact aby afe I.qE ⟨o,h1,h2⟩ e (fun z=>nomatch z) fun tk=>⟨.bl b,H,I.tok _,rfl,q⟩
end L2
namespace Bk
open PySem L2 eJ
theorem fW (a b:List Nat):S a++S b=S (a++b):=by
 rw [← E8 (S a++S b),abQ,cG,cG]
theorem r6:∀{as:List (List Nat)} {B:Nat},(∀a∈as,a.length≤B)→((as.map S).map (·.length)).sum≤as.length * B
 | [],_,_=>by simp
 | a::r,B,h=>by
  have z:=h a (by simp)
  have ih:=r6 (as:=r) (B:=B) fun x hx=>h x (aan _ hx)
  rw [aaZ,aaZ,acS,a6,aad,ae5]
  omega
def HG (K:aaa):Sp:=fun vs H Q _=>∃(a:aaD) (ns:List Int) (k:Int),vs=[.ref a,.int k]∧aB K H a (ns.map V.int)∧0≤k∧∀v:Int,Q (.int v) H
def D9 (K:aaa):Sp:=fun vs H Q _=>∃(a:aaD) (ns:List Int),vs=[.ref a]∧aB K H a (ns.map V.int)∧ns.length≤63∧∀H',Q (.bl true) H'
theorem rD {α:Type} {n:Nat} {g:Nat→α} (h:∀i j,i<n→j<n→g i=g j→i=j):((aal n).map g).Nodup:=by
 rw [List.nodup_iff_pairwise_ne,acR]
 refine List.Pairwise.imp_of_mem ?_ (aca (n:=n))
 intro a b ha hb hne e
 exact hne (h a b (aaz.mp ha) (aaz.mp hb) e)
theorem xZ {zs:List (List Nat)} {i:Int} (h0:0≤i) (h1:i<zs.length):qG (zs.map tx) i=some (tx (zs.getD i.toNat [])):=by
 have hk:i.toNat<zs.length:=by omega
 have z:=bf (xs:=zs.map tx) (j:=i.toNat) (v:=tx (zs.getD i.toNat [])) (by rw [aaq,Ge9 hk,Gd9,Ge9 hk];rfl)
 rw [show((i.toNat:Nat):Int)=i by omega] at z
 exact z
theorem HH (ns:List Int) (lo hi:Option Int):∃ms:List Int,gC (ns.map V.int) lo hi=ms.map V.int∧ms.length≤ns.length:=by
 refine⟨(ns.drop (HT.dm ns.length 0 lo)).take (HT.dm ns.length ns.length hi - HT.dm ns.length 0 lo),?_,?_⟩
 ·unfold gC
  rw [Lm9,List.map_take,afi]
 ·rw [aaF,aa9]
  omega
theorem tN {K:aaa} {t:aae}:acd K t t=some true:=by
 unfold acd
 rw [if_pos (beq_self_eq_true t)]
def AX (c:Nat):List Cs→Cs
 | []=>[]
 | [a]=>a
 | a::r=>a++c::AX c r
theorem wM (c:Nat):∀(ls:List Str),(aen ⟨#[c]⟩ ls).cps.toList=AX c (ls.map fun s=>s.cps.toList)
 | []=>rfl
 | [a]=>rfl
 | a::b::r=>by
  have ih:=wM c (b::r)
  show((a++(⟨#[c]⟩:Str))++aen ⟨#[c]⟩ (b::r)).cps.toList=_
  rw [abQ,abQ,ih]
  show(a.cps.toList++[c])++_=a.cps.toList++c::_
  simp
theorem Ea:∀ls,AX 10 ls=cE ls
 | []=>rfl
 | [a]=>rfl
 | a::b::r=>by
  show a++10::AX 10 (b::r)=a++10::cE (b::r)
  rw [Ea (b::r)]
theorem KA (c:Nat) (ls:List Cs):aek ⟨#[c]⟩ (ls.map S)=S (AX c ls):=by
 show afq ⟨#[c]⟩ _=_
 rw [aeO,← E8 (aen ⟨#[c]⟩ (ls.map S)),wM,abf]
 have e:((fun s:Str=>s.cps.toList) ∘ S)=id:=by
  funext p
  exact cG p
 rw [e,ac7]
theorem AY:∀(ls:List Cs) (B:Nat),(∀l∈ls,l.length≤B)→(cE ls).length≤ls.length * (B+1)
 | [],_,_=>by simp [cE]
 | [a],B,h=>by
  have:=h a (by simp)
  show a.length≤1 * (B+1)
  omega
 | a::b::r,B,h=>by
  have ih:=AY (b::r) B fun l hl=>h l (aan _ hl)
  have h1:=h a (by simp)
  show(a++10::cE (b::r)).length≤((b::r).length+1) * (B+1)
  rw [aab,aad,ae5]
  omega
def qO (k:Kd) (a b c d:Nat):Cs:=aam a 32++((if k.l=true then cb else bU)++(aam b 32++(k.n++(aam c 32++([48+k.c]++aam d 32)))))
def bK (k:Kd):Cs:=(if k.l=true then cb else bU)++(32::(k.n++(32::[48+k.c])))
theorem ni (k:Kd):bK k=qO k 0 1 1 0:=by
 unfold bK qO
 simp [aam]
theorem HI (b:Bool):(if b=true then cb else bU).all bu=true∧(if b=true then cb else bU).length=7:=by cases b <;> exact⟨by decide +kernel,rfl⟩
theorem HJ {c:Nat} (h:c≤4):bu (48+c)=true:=by
 rcases(by omega:c=0∨c=1∨c=2∨c=3∨c=4) with e|e|e|e|e <;> subst e <;> decide +kernel
theorem fX {p:Cs} (h:aQ p=true):p.all bu=true:=by
 unfold aQ bt at h
 simp only [abc] at h
 exact h.1.2.2
theorem wN {n:Nat} (h:1≤n) (r:Cs):jE (aam n 32++r):=by
 cases n with
 | zero=>omega
 | succ n=>exact jZ
theorem CC {k:Kd} {a b c d:Nat} (hn:aQ k.n=true) (hc:k.c≤4) (hb:1≤b) (Za:1≤c):toks (qO k a b c d)=wH k:=by
 have h1:=HI k.l
 have hl:=cz hn
 unfold qO wH
 rw [fh,di h1.1 (fun z=>by rw [z] at h1;exact absurd h1.2 (by decide)) (wN hb _),fh,di (fX hn) (fun z=>by rw [z] at hl;simp at hl) (wN Za _),fh,
  di (n:=[48+k.c]) (by simp [HJ hc]) (by simp) (by have z:=xR d (r:=[]) trivial;rwa [aa8] at z)]
 have z:=fh d []
 rw [aa8] at z
 rw [z]
 rfl
theorem ND {m:Str} {c:Nat} (h:bu c=true):Mb m c=true:=by
 unfold Mb
 rw [h]
 rfl
theorem r9 {f:Nat→Bool} (h:f 32=true) (n:Nat):(aam n 32).all f=true:=by
 rw [abn]
 intro x hx
 rw [(acF.mp hx).2]
 exact h
theorem Ff {f:Nat→Bool} (CD:f 32=true) (Gk:∀c,bu c=true→f c=true) {k:Kd} {a b c d:Nat} (hn:aQ k.n=true) (hc:k.c≤4):(qO k a b c d).all f=true:=by
 have up:∀p:Cs,p.all bu=true→p.all f=true:=fun p h=>by
  rw [abn] at h ⊢
  exact fun x hx=>Gk x (h x hx)
 unfold qO
 rw [abw,abw,abw,abw,abw,abw,r9 CD,r9 CD,r9 CD,r9 CD,up _ (HI k.l).1,up _ (fX hn),up [48+k.c] (by simp [HJ hc])]
 rfl
theorem HK {n:Nat} {r:Cs}:(aam n 32++r).dropWhile (· == 32)=r.dropWhile (· == 32):=by
 induction n with
 | zero=>rfl
 | succ n ih=>rw [abl,ac1,ae4,if_pos (by decide)];exact ih
theorem CF {k:Kd} {a b c d:Nat}:told (qO k a b c d)=true:=by
 unfold told qO
 rw [HK]
 cases k.l <;> rfl
theorem x6 {k:Kd} (h:k.n.length≤12):(bK k).length≤22:=by
 unfold bK
 have:=(HI k.l).2
 simp only [aab,aad,aaO]
 omega
theorem x8 {K:aaa}:acd K (.type "int") (.type "bool")=some false:=by
 unfold acd PySem.W.kitCls
 rw [if_neg (by decide +kernel)]
 show(if PySem.W.kitMeta "bool"=true then PySem.W.subIn K (.type "int") (.type "bool") else none)=some false
 rw [if_pos (by decide +kernel)]
 rfl
theorem fo {p:Cs} {z:Str} {t:Tok} (e:z=S p):RelV (tx p) (abL z t):=⟨t,by rw [e]⟩
end Bk
namespace L2
open PySem PySem.Spec PyProof.Rows
section
variable {X:Cx} {pins:List (aaD × Obj)} {σ:St} {H:Hp} {s:aak} {h':Heap}
theorem Inv.ya {t':Nat} {ch:List aaD} (I:Inv X pins σ H s) (k:∀b o,b∉ch→s.heap.get? b=some o→h'.get? b=some o) (hf:∀it∈ch,H it=none∧it≠X.env.locals∧(it∈X.ex∨X.s₀.heap.objs.size≤it)∧(∀x c,X.env.cells.lookup x=some c→c≠it)∧∀p∈X.pn++pins,p.1≠it) :
  Inv X pins σ H { s with heap:=h',toks:=t' }:=by
 have Pd:∀b u,H b=some u→b∉ch:=fun b u e z=>by rw [(hf b z).1] at e;cases e
 refine I.step (g':=s.gens) (d':=s.drawn) (ch:=ch) (fun b hb=>?_) (fun b o _ _ hc e _=>k b o hc e) (fun b o _ _ hc e _=>⟨o.slots,k b o hc e⟩) (fun _ _ _ _ n=>n)
  (fun b o hc e=>⟨o,k b o hc e⟩) (fun _ _ e=>e) (fun _ _ _ e=>e) (fun b ps e=>⟨#[],by rw [e];simp⟩) (fun m hm=>?_) (fun b u e=>?_) I.bare
 ·obtain⟨_,a2,a3,a4,a5⟩:=hf b hb
  exact⟨a3,a2,a4,a5⟩
 ·obtain⟨o,es,ep,ho,r⟩:=hm
  exact⟨o,es,ep,k _ o (fun z=>(hf _ z).2.1 rfl) ho,r⟩
 ·refine(I.hok b u e).jP (fun c v hc q=>k c v ?_ q) (fun _ q=>q) fun _ _ q=>q
  rcases hc with z|z
  ·rw [z];exact Pd b u e
  ·exact Pd c _ z
theorem qP (h:Heap) (a:aaD) (o:Obj) (ha:a≠h.objs.size):(h.push o).get? a=h.get? a:=by
 cases h
 simp only [Heap.push,Heap.get?,Array.getElem?_push]
 rw [if_neg ha]
def NF (K:aaa) (a:aaD):It :=
 ⟨fun i H=>∃xs x,aB K H a xs∧xs[i]?=some x,fun i H x H'=>∃t v,H t=none∧H'=upd H t (.tup [.int (i:Int),v])∧x=.ref t∧∀xs,aB K H a xs→xs[i]?=some v,fun i H=>∃xs,aB K H a xs∧xs.length≤i⟩
theorem Fg {P:aa4} {w:abu} {K:aaa} {elts:List Expr} {x1:Nat} {pos:Pos} (a e it:aaD) (hne:e≠it):Turn P w K (.Tuple elts x1 pos) (NF K a) [e,it] e (fun i h=>(∃old,IsEnum h e it ((i:Nat):Int) old)∧h.IsListIter it a i) where
 mem:=by simp
 obj:=fun i h st b hb=>by
  obtain⟨⟨old,yb⟩,nS⟩:=st
  rcases(by simpa using hb:b=e∨b=it) with z|z
  ·subst z
   exact⟨_,yb,fun v z=>nomatch z⟩
  ·subst z
   obtain⟨o,e,c,d⟩:=nS
   exact⟨o,e,fun v z=>by rw [d] at z;cases z⟩
 keep:=fun i h h' st k=>by
  obtain⟨⟨old,yb⟩,nS⟩:=st
  exact⟨⟨old,k e (by simp) _ yb⟩,nS.at fun o q=>k it (by simp) o q⟩
 item:=by
  intro X hP hw hK hc i pins s σ H E I hf st hg
  subst hP hw hK
  obtain⟨⟨old,yb⟩,nS⟩:=st
  obtain⟨xs,x,hq,hx⟩:=hg
  obtain⟨its,rv,p,hz⟩:=I.list hq
  obtain⟨u,hu,ru⟩:=rv.get hx
  have fe:=hf e (by simp)
  have fi:=hf it (by simp)
  refine wpAny_pyNext_enum_item yb nS p.isList (x:=u) (by simpa using hu) hne fun h1 LP Uy Fh Xh Qj=>?_
  refine⟨_,rfl,wpAny_letOwnedTupleGo_enum LP fun h2 OR sL=>?_⟩
  replace sL:adB e h1 h2:=sL
  have u4:H s.heap.objs.size=none:=I.hok.fresh (aaf _)
  have Uz:e<s.heap.objs.size:=aay yb
  have nN:it<s.heap.objs.size:=by
   obtain⟨o,q,_⟩:=id nS
   exact aay q
  have ka:h2.get? s.heap.objs.size=some { cls:=.type "tuple",data:=.seq #[.int i s.toks,u] }:=(sL.2 _ (acH Uz)).trans Fh
  have I1:Inv X pins σ (upd H s.heap.objs.size (.tup [.int (i:Int),x])) { s with heap:=s.heap.push { cls:=.type "tuple",data:=.seq #[.int i s.toks,u] },toks:=s.toks+1 }:=by
   refine I.laid (t':=s.toks+1) (fun b u q=>aag _ q) (aaf _) ?_
   exact⟨(by show 2≤aao;decide),[.int i s.toks,u],.cons ⟨_,rfl⟩ (.cons ru .nil),⟨_,aaM _ rfl,rfl,0,rfl⟩⟩
  have I2:Inv X pins σ (upd H s.heap.objs.size (.tup [.int (i:Int),x])) { s with heap:=h2,toks:=s.toks+1 }:=by
   refine Inv.ya (s:={ s with heap:=s.heap.push { cls:=.type "tuple",data:=.seq #[.int i s.toks,u] },toks:=s.toks+1 }) (h':=h2) (t':=s.toks+1) (ch:=[e,it]) I1 (fun b o hb q=>?_) (fun b hb=>?_)
   ·have hb1:b≠e:=fun z=>hb (by simp [z])
    have vh:b≠it:=fun z=>hb (by simp [z])
    by_cases Qk:b=s.heap.objs.size
    ·subst Qk
     have q2:(s.heap.push { cls:=.type "tuple",data:=.seq #[.int i s.toks,u] }).get? s.heap.objs.size=some o:=q
     rw [aaM _ rfl] at q2
     rw [ka,← q2]
    ·have q2:(s.heap.push { cls:=.type "tuple",data:=.seq #[.int i s.toks,u] }).get? b=some o:=q
     have q3:s.heap.get? b=some o:=(qP _ _ _ Qk).symm.trans q2
     exact(sL.2 b hb1).trans (Qj b o hb1 vh q3)
   ·have f:=hf b hb
    refine⟨?_,f.2.1,f.2.2.2.1,f.2.2.2.2.1,f.2.2.2.2.2⟩
    rw [ar]
    ·exact f.1
    ·rcases(by simpa using hb:b=e∨b=it) with z|z <;> rw [z]
     ·exact aaW Uz
     ·exact aaW nN
  refine⟨.ref s.heap.objs.size,_,I2,rfl,⟨_,x,u4,rfl,rfl,fun ys hy=>by rw [I.nQ hy hq];exact hx⟩,⟨⟨u,?_⟩,?_⟩,fun b hb=>?_⟩
  ·show IsEnum h2 e it (((i+1:Nat)):Int) u
   have e1:(((i+1:Nat)):Int)=(i:Int)+1:=by push_cast;rfl
   rw [e1]
   exact OR
  ·exact Uy.at fun o q=>(sL.2 it (abB hne)).trans q
  ·rw [ar]
   ·exact(hf b hb).1
   ·rcases(by simpa using hb:b=e∨b=it) with z|z <;> rw [z]
    ·exact aaW Uz
    ·exact aaW nN
 done:=by
  intro X hP hw hK hc i pins s σ H E I hf st hg
  subst hP hw hK
  obtain⟨⟨old,yb⟩,nS⟩:=st
  obtain⟨xs,hq,hx⟩:=hg
  obtain⟨its,rv,p,hz⟩:=I.list hq
  have hl:=rv.length
  obtain⟨f0,f1,f2,f3,f4,f5⟩:=hf it (by simp)
  exact wpAny_pyNext_enum_end (I.ok.hd hc) yb nS p.isList (by simp;omega) fun h' eb=>⟨rfl,I.turned (t':=s.toks) (fun b o hb e=>eb b o hb e) f0 f1 f3 f4 f5⟩
 self:=fun _ _ _ _ _ st h=>by
  obtain⟨⟨old,yb⟩,_⟩:=st
  exact wpAny_pyIter_enum yb h
def Ql (K:aaa) (tl:TE):TI:=fun σ H R=>tl σ H fun x H1=>∃a,x=.ref a∧(∃xs,aB K H1 a xs)∧R (NF K a) H1
theorem fH {l:Expr} {tl:TE} {elts:List Expr} {x1:Nat} {GL p cpos:Pos} (hl:PE X l tl) (hg:Gl X "enumerate") (hm:X.mg "enumerate"=none) (hv:bootBuiltins "enumerate"=some (.type "enumerate"))
  (he:starEach [l] X.env=(false,eval l X.env)::starEach [] X.env:=by rfl):PI X (.Tuple elts x1 GL) (.Call (.Name "enumerate" p) [l] [] cpos) (Ql X.K tl):=by
 intro pins s σ H R I h
 refine wpAny_Call_Name_kw (jR I hg hm hv ?_ (by decide) (by decide))
 have NH:PA X [l] (Ai tl EV):=aa hl af he
 refine abx (thn (NH cpos pins s σ H (fun vs H1=>match vs with|[x]=>∃a,x=.ref a∧(∃xs,aB X.K H1 a xs)∧R (NF X.K a) H1|_=>False) I h) fun us s1 ⟨vs,H1,I1,r1,q1⟩=>?_) he rfl
 match vs,r1,q1 with
 | [x],r1,⟨a,ex,⟨xs,hq⟩,q⟩ =>
  subst ex
  obtain⟨u,rfl,ru⟩:=vals1 r1
  cases ru
  obtain⟨its,rv,p,hz⟩:=I1.list hq
  refine call_enumerate_list p.isList fun h' he hit hz' hk=>wpAny_pyIter_enum he ?_
  refine⟨s1.heap.objs.size+1,[s1.heap.objs.size+1,s1.heap.objs.size],_,_,H1,rfl,I1.kept (t':=s1.toks) hk,Fg a _ _ (Nat.succ_ne_self _),⟨⟨_,he⟩,hit⟩,fun b hb=>?_,q⟩
  have hb':s1.heap.objs.size≤b:=by
   rcases(by simpa using hb:b=s1.heap.objs.size+1∨b=s1.heap.objs.size) with z|z <;> rw [z]
   ·exact aei _
   ·exact aaf _
  exact I1.xD hb' (I1.hok.fresh hb')
theorem fY {K:aaa} {a:aaD} {xs:List V} {g:TG} {tb:TS} {D:Ends} {σ:St} {H:Hp} (Pv:Nat→St→Hp→Prop) (h0:Pv 0 σ H) (hl:∀i σ H,i≤xs.length→Pv i σ H→aB K H a xs)
  (hs:∀i x σ H t,xs[i]?=some x→Pv i σ H→H t=none→g (.ref t) σ (upd H t (.tup [.int (i:Int),x])) fun σ2 H2=>tb { D with nx:=Pv (i+1),ct:=Pv (i+1),bk:=D.nx } σ2 H2) (hd:∀σ H,Pv xs.length σ H→D.nx σ H) :
  ∃W:Nat→Nat→St→Hp→Prop,(∃m,W 0 m σ H)∧∀i m σ H,W i m σ H →
   ((NF K a).stop i H∧D.nx σ H)∨((NF K a).go i H∧∃N:St→Hp→Prop,(∀σ' H',N σ' H'→∃m',m'<m∧W (i+1) m' σ' H')∧∀x H',(NF K a).JV i H x H'→g x σ H' fun σ2 H2=>tb { D with nx:=N,ct:=N,bk:=D.nx } σ2 H2):=by
 refine⟨fun i m σ H=>m=xs.length - i∧i≤xs.length∧Pv i σ H,⟨xs.length,by simp,aa3 _,h0⟩,?_⟩
 rintro i m σ H ⟨rfl,hi,p⟩
 have q:=hl i σ H hi p
 by_cases eE:i<xs.length
 ·refine .inr ⟨⟨xs,xs[i],q,by simp [eE]⟩,Pv (i+1),fun σ' H' p'=>⟨xs.length - (i+1),by omega,rfl,eE,p'⟩,fun x H' y=>?_⟩
  obtain⟨t,v,ht,rfl,rfl,hv⟩:=y
  exact hs i v σ H t (hv xs q) p ht
 ·have e:i=xs.length:=by omega
  exact .inl ⟨⟨xs,q,by omega⟩,hd σ H (by rw [← e];exact p)⟩
end
section
variable {prog:aa4} {w:abu} {A:abC} {E:aae→aak→Prop} {s:aak}
theorem KC:typeLookup (.type "list_reverseiterator") "__len__"=pure none:=by rw [typeLookup_type,builtinLookup_eq_fast];kernel_rfl
theorem HL:typeLookup (.type "list_reverseiterator") "__length_hint__"=pure (some (.builtin "list_reverseiterator.__length_hint__")):=by rw [typeLookup_type,builtinLookup_eq_fast];kernel_rfl
theorem HM {r:aaD} {Q:Bool→aak→Prop} (hT:s.TypeIs (.ref r) "list_reverseiterator") (h:Q false s):abb (model prog w) A (adR (.ref r)) Q E s:=by
 unfold adR
 refine aap (wpAny_specialOf hT KC ?_)
 refine aap (wpAny_specialOf hT HL ?_)
 generalize Xi:("list_reverseiterator.__length_hint__":String)=Zb
 wp_delta
 rw [show splitId Zb=some ("list_reverseiterator","__length_hint__") from by subst Xi;decide +kernel]
 subst Xi
 refine aap (wpAny_isInstance (T:="list_reverseiterator") (b:=true) hT (by rw [isSubtype_type];kernel_rfl) ?_)
 refine wpAny_ite_split (fun z=>absurd z (by decide)) (fun _=>?_)
 refine wpAny_ite_split (fun _=>?_) (fun z=>absurd (by decide +kernel) z)
 refine wpAny_ite_split (fun z=>absurd z (by decide +kernel)) (fun _=>?_)
 exact aaP h
theorem KD {R:Result→aak→Prop} {it l:aaD} {vs:Array aae} (hh:A.handled=none) (hne:l≠it) (st:s.heap.IsRevIter it l ((vs.size:Int) - 1)) (hl:s.heap.IsList l vs) (S:aaD) (n1:S≠it) (n2:S≠l) (c₀:Nat) (hS:s.heap.get? S=some { cls:=.type "list",data:=.seq #[] c₀ })
  (hR:∀h' tk acc c',(∀b o,b≠S→b≠it→s.heap.get? b=some o→h'.get? b=some o)→h'.get? S=some { cls:=.type "list",dict:=none,data:=.seq acc c',slots:=#[] }→ItemsOf (fun i v=>vs[vs.size - 1 - i]?=some v) acc vs.size→R (.ok (.ret .none)) { s with heap:=h',toks:=tk }) (hn:vs.size≤aao) :
  abb (model prog w) A.in1 (ab4 (.ref S) (.ref it) .none)
   (fun fin s'=>match fin with|.done f=>R (.ok f) s'|.again c'=>c'.quiet=true∧codeAny (model prog w) A c' R s') (fun e s'=>R (.error e) s') s:=by
 have nf:S∉[it,l]:=by simp [n1,n2]
 have W:=Walks.listRev (prog:=prog) (w:=w) (A:=A.in1) hh it l hne vs
 unfold ab4
 refine aap (wpAny_typeOf st.typeIs ?_)
 have q1:aed (.ref S) (.ref it)=false:=by simp [aed,n1]
 have q2:(adx "list_reverseiterator" == adx "list")=false:=by decide
 have q3:(adx "list_reverseiterator" == adx "tuple")=false:=by decide
 simp only [q1,q2,q3,Bool.or_false,acE,if_false]
 refine aap (wpAny_pyIter_revIter st ?_)
 refine aap (wpAny_holding (HM st.typeIs ?_))
 refine wpAny_ite_split (fun z=>absurd z (by decide)) (fun _=>?_)
 refine aaP ⟨plainId_quiet PySem.F.plain_extend_loop _,?_⟩
 refine codeAny_extend_loopS W.toS hn S nf .none vs.size 0 _ #[] c₀ rfl (aa3 _) ⟨aa3 _,by simpa using st,hl⟩ hS (ItemsOf.nil _) fun s' UA c' hm hS' tj=>?_
 rw [Moved.eq_with hm]
 refine hR s'.heap s'.toks UA c' (fun b o hb vh e=>hm.heap b o (fun z=>?_) e) hS' tj
 rcases aaB.mp z with z|z
 ·exact hb z
 ·exact vh (aaw.mp z)
theorem HN {R:Result→aak→Prop} {it l:aaD} {vs:Array aae} (hh:A.handled=none) (hne:l≠it) (st:s.heap.IsRevIter it l ((vs.size:Int) - 1)) (hl:s.heap.IsList l vs) (S:aaD) (n1:S≠it) (n2:S≠l) (hS:s.heap.get? S=some { cls:=.type "list",data:=.seq #[] })
  (hR:∀h' tk acc c',(∀b o,b≠S→b≠it→s.heap.get? b=some o→h'.get? b=some o)→h'.get? S=some { cls:=.type "list",dict:=none,data:=.seq acc c',slots:=#[] }→ItemsOf (fun i v=>vs[vs.size - 1 - i]?=some v) acc vs.size→R (.ok (.ret .none)) { s with heap:=h',toks:=tk }) (hn:vs.size≤aao) :
  abb (model prog w) A.in1 (Builtin.«list.__init__» ⟨[.ref S,.ref it],[]⟩)
   (fun fin s'=>match fin with|.done f=>R (.ok f) s'|.again c'=>c'.quiet=true∧codeAny (model prog w) A c' R s') (fun e s'=>R (.error e) s') s:=by
 show abb _ _ (do let o0 ← aeD (.ref S);Builtin.List.listUpdate (.ref S) (fun _=>#[]);letGo o0.toList.reverse;ab4 (.ref S) (.ref it) .none) _ _ s
 refine aap ?_
 unfold aeD
 refine aap (wpAny_seqItems hS rfl (aaP ?_))
 show abb _ _ (updateSeq S (fun _=>#[]) >>= fun _=>letGo (#[]:Array aae).toList.reverse >>= fun _=>ab4 (.ref S) (.ref it) .none) _ _ s
 refine aap (wpAny_updateSeq hS rfl ?_)
 have g2:=aeJ (ady (fun _=>(#[]:Array aae))) hS rfl
 have kp:∀b o,b≠S→s.heap.get? b=some o→(s.heap.update S (ady (fun _=>(#[]:Array aae)))).get? b=some o:=fun b o hb e=>(adt _ _ (abB hb)).trans e
 refine aap (wpAny_letGo ?_)
 exact KD hh hne (st.at fun o e=>kp _ o (abB n1) e) (hl.at fun o e=>kp _ o (abB n2) e) S n1 n2 _ g2 (fun h' tk acc c' k1 k2 k3=>hR h' tk acc c' (fun b o hb vh e=>k1 b o hb vh (kp b o hb e)) k2 k3) hn
theorem HP {Q:aae→aak→Prop} {it l:aaD} {vs:Array aae} (hh:A.handled=none) (hne:l≠it) (st:s.heap.IsRevIter it l ((vs.size:Int) - 1)) (hl:s.heap.IsList l vs) (hn:vs.size≤aao)
  (hQ:∀h' tk acc c',(∀b o,b≠it→s.heap.get? b=some o→h'.get? b=some o)→h'.get? s.heap.objs.size=some { cls:=.type "list",dict:=none,data:=.seq acc c',slots:=#[] }→ItemsOf (fun i v=>vs[vs.size - 1 - i]?=some v) acc vs.size→Q (.ref s.heap.objs.size) { s with heap:=h',toks:=tk }) :
  abb (model prog w) A (call (.type "list") [.ref it]) Q E s:=by
 refine callType_codes (Q₁:=fun x s1=>x=.ref s.heap.objs.size∧s1={ s with heap:=s.heap.push { cls:=.type "list",data:=.seq #[] } }) PySem.F.called_list (PySem.F.typeCall_list_1 _) PySem.F.entry_list_init (code_list_new _ ⟨rfl,rfl⟩) fun x s1 h1=>?_
 obtain⟨rfl,rfl⟩:=h1
 have g:(s.heap.push { cls:=.type "list",data:=.seq #[] }).get? s.heap.objs.size=some { cls:=.type "list",data:=.seq #[] }:=aaM _ rfl
 have l1:it<s.heap.objs.size:=by obtain⟨o,e,_⟩:=id st;exact aay e
 have l2:l<s.heap.objs.size:=by obtain⟨o,e,_⟩:=id hl;exact aay e
 refine⟨⟨_,g,rfl⟩,PySem.F.args_list_init_2 _ _,HN (A:=A.in1) hh hne (st.at fun o e=>aag _ e) (hl.at fun o e=>aag _ e) _ (acH l1) (acH l2) g (fun h' tk acc c' k1 k2 k3=>?_) hn⟩
 exact⟨rfl,hQ h' tk acc c' (fun b o hb e=>k1 b o (aaW (aay e)) hb (aag _ e)) k2 k3⟩
end
section
variable {X:Cx}
def HQ (K:aaa) (te:TE):TE:=fun σ H Q=>te σ H fun x H1=>∃a xs,x=.ref a∧aB K H1 a xs∧∀p,H1 p=none→Q (.ref p) (upd H1 p (.lst xs.reverse))
theorem CG {e:Expr} {te:TE} {p1 p2 c1 c2:Pos} (hc:X.calm=true) (he:PE X e te) (gL:Gl X "list") (mL:X.mg "list"=none) (bL:bootBuiltins "list"=some (.type "list")) (gR:Gl X "reversed") (mR:X.mg "reversed"=none) (bR:bootBuiltins "reversed"=some (.type "reversed"))
  (h1:starEach [e] X.env=(false,eval e X.env)::starEach [] X.env:=by rfl)
  (h2:starEach [.Call (.Name "reversed" p2) [e] [] c2] X.env=(false,eval (.Call (.Name "reversed" p2) [e] [] c2) X.env)::starEach [] X.env:=by rfl) :
  PE X (.Call (.Name "list" p1) [.Call (.Name "reversed" p2) [e] [] c2] [] c1) (HQ X.K te):=by
 intro pins s σ H Q I h
 refine wpAny_Call_Name_kw (jR I gL mL bL ?_ (by decide) (by decide))
 refine abx ?_ h2 rfl
 rw [h2]
 refine adh ?_
 refine wpAny_Call_Name_kw (jR I gR mR bR ?_ (by decide) (by decide))
 have NH:PA X [e] (Ai te EV):=aa he af h1
 refine abx (thn (NH c2 pins s σ H (fun vs H1=>match vs with|[x]=>∃a xs,x=.ref a∧aB X.K H1 a xs∧∀p,H1 p=none→Q (.ref p) (upd H1 p (.lst xs.reverse))|_=>False) I h) fun us s1 ⟨vs,H1,I1,r1,q1⟩=>?_) h1 rfl
 match vs,r1,q1 with
 | [x],r1,⟨a,xs,ex,hq,q⟩ =>
  subst ex
  obtain⟨u,rfl,ru⟩:=vals1 r1
  cases ru
  obtain⟨its,rv,p,hz⟩:=I1.list hq
  have hlen:=rv.length
  refine call_reversed_list p.isList (ad9 ?_)
  have al:a<s1.heap.objs.size:=by obtain⟨o,e,_⟩:=id p.isList;exact aay e
  refine HP (I.ok.hd hc) (aaW al) (vs:=its.toArray) ⟨_,aaM _ rfl,rfl,rfl⟩ (p.isList.at fun o e=>aag _ e) (by rw [aau];omega) fun h' tk acc c' kp hg tj=>?_
  have hsz:(s1.heap.push (revObj a ((its.toArray.size:Int) - 1))).objs.size=s1.heap.objs.size+1:=acb ..
  have hg':h'.get? (s1.heap.objs.size+1)=some { cls:=.type "list",dict:=none,data:=.seq acc c',slots:=#[] }:=by
   have z:=hg
   rw [show({ s1 with heap:=s1.heap.push (revObj a ((its.toArray.size:Int) - 1)) }:aak).heap.objs.size=s1.heap.objs.size+1 from hsz] at z
   exact z
  have hfree:H1 (s1.heap.objs.size+1)=none:=I1.hok.fresh (aei _)
  refine⟨.ref (s1.heap.objs.size+1),upd H1 (s1.heap.objs.size+1) (.lst xs.reverse),I1.laid (t':=tk) (fun b o e=>kp b o (aaW (aay e)) (aag _ e)) (aei _) ?_,?_,q _ hfree⟩
  ·refine⟨by rw [ac6];exact hz,acc.toList,c',xQ ?_ fun j v ev=>?_,by simpa using hg'⟩
   ·rw [ac6,acy,tj.1,aau,hlen]
   ·have ev':acc[j]?=some v:=by rw [← aeM];exact ev
    have k:=tj.2 j v ev'
    have hj:j<its.length:=by
     have z:=(Array.getElem?_eq_some_iff.mp ev').1
     rw [tj.1,aau] at z
     exact z
    have k2:its[its.length - 1 - j]?=some v:=by simpa using k
    have hx:xs.length - 1 - j<xs.length:=by omega
    obtain⟨u,eu,ru⟩:=rv.get (i:=xs.length - 1 - j) (x:=xs[xs.length - 1 - j]) (Ge9 hx)
    rw [hlen] at eu
    rw [eu] at k2
    cases k2
    refine⟨xs[xs.length - 1 - j],?_,ru⟩
    rw [List.getElem?_reverse (by omega),Ge9 hx]
  ·show abd _=abd _
   rw [show({ s1 with heap:=s1.heap.push (revObj a ((its.toArray.size:Int) - 1)) }:aak).heap.objs.size=s1.heap.objs.size+1 from hsz]
end
section
variable {X:Cx}
def Qm:R2:=fun x y H Q=>∃(c:Nat) (n:Int),x=.str ⟨#[c]⟩∧y=.int n∧-(2 ^ 62)≤n∧n≤1000000∧Q (.str ⟨(aam n.toNat c).toArray⟩) H
theorem wO (c:Nat):∀(k:Nat) (a:Array Nat),(aam k (#[c]:Array Nat)).foldl (fun x1 x2=>x1++x2) a=a++(aam k c).toArray
 | 0,a=>by simp
 | k+1,a=>by
  rw [abl,adN,wO c k,abl]
  apply Array.ext'
  simp
theorem Eb:nM X (binaryOp .Mult) Qm:=by
 intro pins s σ H x y v u Q I rx ry h
 obtain⟨c,n,rfl,rfl,h1,h2,q⟩:=h
 obtain⟨t,rfl⟩:=rx
 obtain⟨t',rfl⟩:=ry
 have hl:(⟨#[c]⟩:Str).length=1:=rfl
 refine PySem.P.mul_str ?_ (fun a b=>?_) (fun a b=>?_) ?_
 ·have z1:¬ n < -(2 ^ 63:Int):=by omega
  have z2:¬ n≥2 ^ 63:=by omega
  rw [decide_eq_false z1,decide_eq_false z2]
  rfl
 ·rw [hl]
  have:(1:Int)≤(2 ^ 63 - 1) / n:=by
   rw [Int.le_ediv_iff_mul_le (by omega)]
   omega
  omega
 ·rw [hl]
  have e:(2:Nat) ^ 24=16777216:=by decide
  unfold Builtin.Str.tooLong aao
  exact decide_eq_false (by omega)
 ·by_cases a:n<1
  ·rw [if_pos a]
   refine⟨by decide,⟨.str _,H,I.tok _,⟨_,rfl⟩,?_⟩⟩
   have e:n.toNat=0:=by omega
   rw [e] at q
   exact q
  ·rw [if_neg a]
   by_cases b:(n == 1 || (⟨#[c]⟩:Str).length == 0)=true
   ·rw [if_pos b]
    have e1:n=1:=by
     rw [hl] at b
     simpa using b
    refine⟨.str _,H,I,⟨_,rfl⟩,?_⟩
    rw [e1] at q
    exact q
   ·rw [if_neg b]
    have e:(⟨(aam n.toNat (⟨#[c]⟩:Str).cps).foldl (· ++ ·) #[]⟩:Str)=⟨(aam n.toNat c).toArray⟩:=by
     show(⟨(aam n.toNat (#[c]:Array Nat)).foldl (fun x1 x2=>x1++x2) #[]⟩:Str)=_
     rw [wO]
     simp
    rw [e]
    refine⟨?_,⟨.str _,H,I.tok _,⟨_,rfl⟩,q⟩⟩
    rw [ac4]
    show(aam n.toNat c).toArray.size≤_
    simp
    omega
def CH (K:aaa):V→List V→Hp→VK→Prop:=fun x vs H Q=>∃a xs y,x=.ref a∧vs=[y]∧aB K H a xs∧eV y=true∧xs.all eV=true∧Q (.int ((xs.countP fun z=>z7 z y:Nat):Int)) H
theorem wQ {x:V}:∀{xs:List V} {us:List aae},Vals xs us→xs.all eV=true→us.countP (xI x)=xs.countP fun y=>z7 y x
 | _,_,.nil,_=>rfl
 | y::xs,u::us,.cons r t,f=>by
  rw [abV,abc] at f
  rw [aev,aev,sO r f.1,wQ t f.2]
theorem AZ:L4 X "list.count" (CH X.K):=by
 intro pins s σ H x vs v us Q I rx rv h
 obtain⟨a,xs,y,rfl,rfl,hq,fy,fx,q⟩:=h
 cases (show v=abd a from rx)
 obtain⟨u,rfl,ru⟩:=vals1 rv
 obtain⟨its,r,pl,_⟩:=I.list hq
 obtain⟨⟨oc,od,dat,sl⟩,ho,hc,n,hd⟩:=id pl.isList
 simp only at hc hd
 subst hc hd
 refine call_meets adn pl.isList.typeIs PySem.F.entry_list_count (PySem.F.args_list_count_2 _ _) (SeqAt.list_countAt a its.toArray n od sl u (xI y)) ⟨ho,fun w hw=>fU ru fy r fx w (by simpa using hw),⟨.int _,H,I.tok _,⟨_,rfl⟩,?_⟩⟩
 rw [show its.toArray.toList.countP (xI y)=xs.countP fun z=>z7 z y from wQ r fx]
 exact q
end
def iW (X:Cx) (x:Str) (scope:Scope) (cl:List (Str × aaD)) (N:List Str) (C:aaD) (s₀:aak) (H₀:Hp) (ex:List aaD):Cx where
 prog:=X.prog
 w:=X.w
 K:=X.K
 mg:=X.mg
 base:=X.base
 A:=X.A
 N:=N
 s₀:=s₀
 H₀:=H₀
 env:=compEnvC scope cl C X.env
 outer:=X.stack
 stack:=X.stack
 ex:=ex
 fn:=fun y=>decide (y=x)
 calm:=X.calm
 pn:=[]
 xe:=fun _ _=>False
def se (outer scope:Scope) (x:Str) (N:List Str):Bool :=
 decide (scope.kind=.function) && decide (scope.names.filter (fun y=>y.2 == .cell)=[(x,.cell)]) && scope.names.all (fun y=>decide (y.2=.local→scope.names.lookup y.1=some .local)) && decide (scope.names.lookup x=some .cell) &&
  scope.names.all (fun y=>decide (y.2=.free→(outer.names.lookup y.1=some .cell∨outer.names.lookup y.1=some .free))) && N.tail.all (fun y=>decide (scope.names.lookup y=some .free)) && decide N.Nodup
structure Ec (outer scope:Scope) (x:Str) (N:List Str):Prop where
 kind:scope.kind=.function
 one:scope.names.filter (fun y=>y.2 == .cell)=[(x,.cell)]
 locs:∀y∈scope.names,y.2=.local→scope.names.lookup y.1=some .local
 PR:scope.names.lookup x=some .cell
 frees:∀y∈scope.names,y.2=.free→(outer.names.lookup y.1=some .cell∨outer.names.lookup y.1=some .free)
 aG:∀y∈N.tail,scope.names.lookup y=some .free
 nd:N.Nodup
theorem CI {outer scope:Scope} {x:Str} {N:List Str} (h:se outer scope x N=true):Ec outer scope x N:=by
 unfold se at h
 simp only [abc,abn,decide_eq_true_eq] at h
 obtain⟨⟨⟨⟨⟨⟨h1,h2⟩,h3⟩,h4⟩,h5⟩,h6⟩,h7⟩:=h
 exact⟨h1,h2,h3,h4,h5,h6,h7⟩
theorem tO:∀(names:List (Str × NameKind)) (n:Nat) (acc:List (Str × aaD)) (h:Heap),names.filter (fun y=>y.2 == .cell)=[]→cellsFrom n names acc=acc∧pushCells h names=h
 | [],_,_,_,_=>⟨rfl,rfl⟩
 | (y,k)::r,n,acc,h,e=>by
  rw [acB] at e
  by_cases hk:(k == acP)=true
  ·rw [if_pos hk] at e
   cases e
  ·rw [if_neg hk] at e
   unfold cellsFrom pushCells
   rw [if_neg hk,if_neg hk]
   exact tO r n acc h e
theorem wR {x:Str}:∀(names:List (Str × NameKind)) (n:Nat) (acc:List (Str × aaD)) (h:Heap),names.filter (fun y=>y.2 == .cell)=[(x,.cell)]→cellsFrom n names acc=(x,n)::acc∧pushCells h names=h.push { cls:=.type "cell",data:=.cell none }
 | (y,k)::r,n,acc,h,e=>by
  rw [acB] at e
  by_cases hk:(k == acP)=true
  ·rw [if_pos hk] at e
   obtain⟨e1,e2⟩:=aeo e
   injection e1 with e1 e3
   subst e1
   unfold cellsFrom pushCells
   rw [if_pos hk,if_pos hk]
   exact tO r (n+1) _ _ e2
  ·rw [if_neg hk] at e
   unfold cellsFrom pushCells
   rw [if_neg hk,if_neg hk]
   exact wR r n acc h e
theorem CJ {M:Model} {A:abC} {E:aae→aak→Prop} {s:aak} {scope:Scope} {globals:aaD} {cl:List (Str × aaD)} {qual:Str} {around:Env} {x:Str} {Q:Env→aak→Prop} (h1:scope.names.filter (fun y=>y.2 == .cell)=[(x,.cell)])
  (hQ:∀h',h'.Ns s.heap.objs.size (fun _=>none)→h'.IsCell (s.heap.objs.size+1) none→(∀b o,s.heap.get? b=some o→h'.get? b=some o)→Q (newEnv scope s.heap.objs.size globals ((x,s.heap.objs.size+1)::cl) qual none .none (some around) builtinsNs) { s with heap:=h' }) :
  abb M A (newFunctionEnv scope globals cl [] qual none .none (some around)) Q E s:=by
 simp only [newFunctionEnv,afg,if_true]
 refine aap (wpAny_alloc ?_)
 refine aap (wpAny_layCells _ (fun name kind cells=>by cases Zc:kind == acP <;> simp [Zc]) _ _ _ _ ?_)
 have hz:(s.heap.push { cls:=.type "dict",data:=.dict #[] }).objs.size=s.heap.objs.size+1:=acb ..
 rw [show({ s with heap:=s.heap.push { cls:=.type "dict",data:=.dict #[] } }:aak).heap.objs.size=s.heap.objs.size+1 from hz]
 obtain⟨e1,e2⟩:=wR scope.names (s.heap.objs.size+1) cl (s.heap.push { cls:=.type "dict",data:=.dict #[] }) h1
 rw [e1]
 show abb M A _ _ _ { s with heap:=pushCells (s.heap.push { cls:=.type "dict",data:=.dict #[] }) scope.names }
 rw [e2]
 refine aap ?_
 rw [List.forIn_nil]
 refine aaP (aaP ?_)
 refine hQ _ ((Heap.Ns.new s.heap (.type "dict")).keeps fun b o e=>aag _ e) ?_ fun b o e=>aag _ (aag _ e)
 have z:=aaM (s.heap.push { cls:=.type "dict",data:=.dict #[] }) (o:={ cls:=.type "cell",data:=.cell none }) rfl
 rw [hz] at z
 exact⟨_,z,rfl⟩
theorem yc {scope:Scope} {env:Env} {y:Str} (h:scope.names.lookup y=some .cell):(relabel scope env).names.lookup y=some .cell:=by
 have go:∀(names:List (Str × NameKind)),names.lookup y=some .cell→(names.map fun(n,k)=>if (k == abF && env.scope.kind == .function && env.kindOf n == some .cell) then (n,acP) else (n,k)).lookup y=some .cell:=by
  intro names
  induction names with
  | nil=>intro h;simp at h
  | cons a r ih =>
   obtain⟨n,k⟩:=a
   intro h
   rw [aaZ]
   rw [abm] at h
   by_cases hc:(k == abF && env.scope.kind == .function && env.kindOf n == some .cell)=true
   ·simp only [hc,if_true,abm]
    cases hy:y == n with
    | true=>rfl
    | false =>
     rw [hy] at h
     exact ih h
   ·simp only [hc,acE,if_false,abm]
    cases hy:y == n with
    | true =>
     rw [hy] at h
     exact h
    | false =>
     rw [hy] at h
     exact ih h
 exact go scope.names h
section
variable {X:Cx}
theorem tP {x y:Str} {c0 c:aaD} {cl:List (Str × aaD)} (h:((x,c0)::cl).lookup y=some c):(y=x∧c=c0)∨(y≠x∧cl.lookup y=some c):=by
 rw [abm] at h
 by_cases e:y=x
 ·subst e
  rw [beq_self_eq_true] at h
  exact .inl ⟨rfl,(aaR h).symm⟩
 ·rw [beq_eq_false_iff_ne.mpr e] at h
  exact .inr ⟨e,h⟩
theorem wU {x y:Str} {c0:aaD} {cl:List (Str × aaD)} (h:y≠x):((x,c0)::cl).lookup y=cl.lookup y:=by
 rw [abm,beq_eq_false_iff_ne.mpr h]
theorem A0 {scope:Scope} {x:Str} {aG:List Nat} {pins:List (aaD × Obj)} {σ:St} {H:Hp} {s3:aak} {h1:Heap} {fp:List aaD} {m:Str→Option aae} {tk:Nat} {c0:aaD} (ok:Ec X.env.scope scope x (cm X x aG)) (I:Inv X pins σ H s3)
  (hf:∀b∈fp,jK X pins H b) (eE:∀b∈fp,b<s3.heap.objs.size) (hn:h1.Ns s3.heap.objs.size m) (keep:∀b o,s3.heap.get? b=some o→h1.get? b=some o) (Sz:s3.heap.objs.size≤c0) (HR:h1.IsCell c0 none) :
  Inv (iW X x scope ((x,c0)::aO X.env scope.names []) (cm X x aG) s3.heap.objs.size s3 H fp) [] (bY σ none aG) H { s3 with heap:=h1,toks:=tk }:=by
 have gF:∀z∈scope.names,z.2=.free→(X.env.cells.lookup z.1).isSome=true:=fun z hz u4=>by
  obtain⟨c,e⟩:=I.ok.has z.1 (by
   rcases ok.frees z hz u4 with q|q
   ·exact .inl q
   ·exact .inr q)
  rw [e];rfl
 have Qn:∀y c,(aO X.env scope.names []).lookup y=some c→X.env.cells.lookup y=some c:=fun y c h=>eY gF (fun _ _ q=>by simp at q) h
 have sub:∀y c,((x,c0)::aO X.env scope.names []).lookup y=some c→(y=x∧c=c0)∨(y≠x∧X.env.cells.lookup y=some c):=fun y c h=>by
  rcases tP h with z|⟨z1,z2⟩
  ·exact .inl z
  ·exact .inr ⟨z1,Qn y c z2⟩
 have hC:H s3.heap.objs.size=none:=I.hok.fresh (aaf _)
 have Zd:H c0=none:=I.hok.fresh Sz
 have Gv:∀y c,X.env.cells.lookup y=some c→c<s3.heap.objs.size:=fun y c e=>by
  obtain⟨v,z⟩:=I.cell y c e
  exact z.lt
 have Xj:∀y,X.env.cells.lookup y≠some c0:=fun y e=>abM _ (aa0 (Gv y c0 e) Sz)
 refine⟨⟨I.ok.mod,?_,I.ok.glob,I.ok.blt,aaf _,fun y z c e1 e2=>?_,fun y hy=>?_,fun y c JQ e=>?_,I.ok.hd,I.ok.frames,.inl rfl,fun b hb=>⟨aaW (eE b hb),fun y c e=>?_⟩,
   I.bs,aa5 I.ok.EM I.sz,fun b o e hb=>?_,fun b hb L5=>?_,I.stack,I.rO⟩,
  rfl,I.bare,Un.kept keep,⟨m,hn,fun i y v e1 e2 e3=>?_⟩,fun y c e=>?_,hC,fun y c e=>?_,fun p hp=>absurd (show p∈([]:List (aaD × Obj)) from hp) (by simp),I.hok.kept keep,by simp [iW,cm,bY]⟩
 ·show(relabel scope X.env).kind=.function
  exact ok.kind
 ·rcases sub y c e1 with⟨a1,a2⟩|⟨a1,a2⟩ <;> rcases sub z c e2 with⟨b1,b2⟩|⟨b1,b2⟩
  ·rw [a1,b1]
  ·rw [a2] at b2
   exact absurd b2 (Xj z)
  ·rw [b2] at a2
   exact absurd a2 (Xj y)
  ·exact I.ok.inj y z c a2 b2
 ·have hy':(relabel scope X.env).names.lookup y=some .cell∨(relabel scope X.env).names.lookup y=some .free:=hy
  show ∃c,((x,c0)::aO X.env scope.names []).lookup y=some c
  by_cases NI:y=x
  ·subst NI
   exact⟨c0,by rw [abm,beq_self_eq_true]⟩
  ·rw [wU NI]
   have fr:scope.names.lookup y=some .free:=by
    rcases hy' with q|q
    ·obtain⟨k,e,z⟩:=dh q
     rcases z with z|⟨z,_⟩
     ·have hm:(y,k)∈scope.names.filter (fun y=>y.2 == .cell):=abt.mpr ⟨aa6 e,by rw [← z];rfl⟩
      rw [ok.one] at hm
      have:=aaw.mp hm
      injection this with h1 h2
      exact absurd h1 NI
     ·rw [e,z]
    ·obtain⟨k,e,z⟩:=dh q
     rcases z with z|⟨_,z⟩
     ·rw [e,z]
     ·cases z
   exact abj.mp (eZ (.inl (aa6 fr)))
 ·have NI:y=x:=of_decide_eq_true (show decide (y=x)=true from JQ)
  rcases sub y c e with⟨_,a2⟩|⟨a1,_⟩
  ·rw [a2]
   exact Sz
  ·exact absurd NI a1
 ·rcases sub y c e with⟨_,a2⟩|⟨_,a2⟩
  ·rw [a2]
   exact acH (aa0 (eE b hb) Sz)
  ·exact(hf b hb).2.2.2.2.1 y c a2
 ·rcases(hf b hb).2.2.2.1 with z|z
  ·exact I.ok.B3 b o e z
  ·exact absurd (aa0 (aay e) (aa5 I.ok.EM z)) (abM _)
 ·rcases aaB.mp (I.jQ b L5) with z|z
  ·exact(hf b hb).2.1 z
  ·exact(hf b hb).2.2.1 z
 ·have e1':(cm X x aG)[i]?=some y:=e1
  cases i with
  | zero=>simp [bY] at e2
  | succ i =>
   simp only [cm,acz,aaq] at e1'
   simp only [bY,acz,aaq] at e2
   cases hj:aG[i]? with
   | none=>rw [hj] at e2;cases e2
   | some j =>
    rw [hj] at e1' e2
    simp only [aco,aea] at e1' e2
    cases hσ:σ[j]? with
    | none=>rw [hσ] at e2;cases e2
    | some o =>
     rw [hσ] at e2
     have e2':o=some v:=e2
     subst e2'
     have L6:j<X.N.length:=by rw [← I.len];exact(aar.mp hσ).1
     have eN:X.N[j]?=some y:=by
      rw [Ge9 L6]
      rw [Gd9,Ge9 L6] at e1'
      exact congrArg some e1'
     have hy:scope.names.lookup y=some .free:=ok.aG y (by
      show y∈aG.map fun i=>X.N.getD i (aac "")
      exact aah.mpr ⟨j,abr hj,e1'⟩)
     have NI:y≠x:=fun z=>by rw [z,ok.PR] at hy;cases hy
     have hk:=ok.frees (y,.free) (aa6 hy) rfl
     obtain⟨m',_,hl⟩:=I.loc
     obtain⟨u,r,q⟩:=hl j y v eN hσ (.inr hk)
     refine⟨u,r,.inr ⟨iR hy,?_⟩⟩
     rcases q with⟨k,_⟩|⟨_,c,e,z⟩
     ·have k':X.env.scope.names.lookup y=some .local:=k
      rw [k'] at hk
      rcases hk with hk|hk <;> cases hk
     ·obtain⟨c',e'⟩:=abj.mp (eZ (env:=X.env) (cs:=[]) (.inl (aa6 hy)))
      have ec:=Qn _ _ e'
      rw [e] at ec
      cases ec
      obtain⟨o,ho,hd⟩:=z
      exact⟨c,(wU NI).trans e',o,keep c o ho,hd⟩
 ·rcases sub y c e with⟨_,a2⟩|⟨_,a2⟩
  ·rw [a2]
   exact⟨none,HR⟩
  ·obtain⟨v,o,ho,hd⟩:=I.cell y c a2
   exact⟨v,o,keep c o ho,hd⟩
 ·rcases sub y c e with⟨_,a2⟩|⟨_,a2⟩
  ·rw [a2]
   exact Zd
  ·exact I.jC y c a2
theorem CK {x:Str} {px pos p:Pos} {iter elt:Expr} {ifs:List Expr} {scope:Scope} {wi:TI} {tt:TT} {te:TE} {aG:List Nat} {use:Option (aae→Sem Unit)} {QQ:aae→aak→Prop}
  (hc:X.calm=true) (ho:se X.env.scope scope x (cm X x aG)=true) (hi:PI X (.Name x px) iter wi)
  (ht:∀cl C s₀ H₀ ex,E3 (iW X x scope cl (cm X x aG) C s₀ H₀ ex) ifs tt) (he:∀cl C s₀ H₀ ex,PE (iW X x scope cl (cm X x aG) C s₀ H₀ ex) elt te)
  (hs:∀x,foldedSetIterable iter X.env x=pure x) {pins:List (aaD × Obj)} {s:aak} {σ:St} {H:Hp} {Q:VK} (I:Inv X pins σ H s) (h:Ao wi tt te aG σ H Q)
  (fin:∀(D C:aaD) (H':Hp) (s':aak) (m:Str→Option aae),Inv X pins σ H' s'→Q (.ref D) H'→s'.heap.Ns C m→jK X pins H' C→compPost (model X.prog X.w) X.A X.xe use QQ (.ref D) C (.ok .next) s') :
  abb (model X.prog X.w) X.A (comprehension (.ListComp elt [⟨.Name x px,iter,ifs,0⟩] scope pos) scope X.env p (newList []) false (eval iter X.env) use) QQ X.xe s:=by
 have ok:=CI ho
 have gF:∀z∈scope.names,z.2=.free→(X.env.cells.lookup z.1).isSome=true:=fun z hz u4=>by
  obtain⟨c,e⟩:=I.ok.has z.1 (by
   rcases ok.frees z hz u4 with q|q
   ·exact .inl q
   ·exact .inr q)
  rw [e];rfl
 refine wpAny_comprehension_free (cl:=aO X.env scope.names []) (use:=use) rfl hs (m7 gF) ok.kind ok.locs (thn (hi pins s σ H _ I h) fun v s1 h1=>thn h1 fun Pm s2 h2=>?_)
 obtain⟨it,fp,tn,J,H2,e,I2,T,nS,f2,rd⟩:=h2
 subst e
 refine wpAny_newObj_type (CJ ok.one fun h₁ sS NJ NK=>?_)
 dsimp only at sS NJ NK ⊢
 have BY:H2 s2.heap.objs.size=none:=I2.hok.fresh (aaf _)
 obtain⟨W,⟨m0,w0⟩,turn⟩:=rd s2.heap.objs.size BY
 have Ap:∀b∈fp,b<s2.heap.objs.size:=fun b hb=>by
  obtain⟨o,e,_⟩:=T.obj 0 _ nS b hb
  exact aay e
 have hsz:(s2.heap.push { cls:=.type "list",dict:=none,data:=.seq ([]:List aae).toArray }).objs.size=s2.heap.objs.size+1:=acb ..
 have I3:Inv X pins σ (upd H2 s2.heap.objs.size (.lst [])) { s2 with heap:=s2.heap.push { cls:=.type "list",dict:=none,data:=.seq ([]:List aae).toArray } } :=
  I2.laid (t':=s2.toks) (fun b u e=>aag _ e) (aaf _) ⟨by simp,[],0,.nil,aaM _ rfl⟩
 have we:tn 0 (s2.heap.push { cls:=.type "list",dict:=none,data:=.seq ([]:List aae).toArray }):=T.keep _ _ _ nS fun b _ o e=>aag _ e
 generalize Ue:s2.heap.push { cls:=.type "list",dict:=none,data:=.seq ([]:List aae).toArray }=h3 at sS NJ NK hsz I3 we ⊢
 generalize PV:upd H2 s2.heap.objs.size (.lst [])=H3 at I3 w0
 have xM:∀b∈fp,b<h3.objs.size:=fun b hb=>by rw [hsz];exact acQ (Ap b hb)
 have f3:∀b∈fp,jK X pins H3 b:=fun b hb=>⟨by rw [← PV,ar (aaW (Ap b hb))];exact(f2 b hb).1,(f2 b hb).2⟩
 have keep:∀b o,h3.get? b=some o→h₁.get? b=some o:=NK
 have I4:=A0 (s3:={ s2 with heap:=h3 }) (tk:=s2.toks) ok I3 f3 xM sS keep (aei _) NJ
 have vc:tn 0 h₁:=T.keep _ _ _ we fun b _ o e=>keep b o e
 generalize fP:iW X x scope ((x,h3.objs.size+1)::aO X.env scope.names []) (cm X x aG) ({ s2 with heap:=h3 }:aak).heap.objs.size { s2 with heap:=h3 } H3 fp=X' at I4
 have eA:X'.A=X.A:=by rw [← fP] <;> rfl
 have eP:X'.prog=X.prog:=by rw [← fP] <;> rfl
 have ew:X'.w=X.w:=by rw [← fP] <;> rfl
 have eK:X'.K=X.K:=by rw [← fP] <;> rfl
 have ee:X'.env=compEnvC scope ((x,h3.objs.size+1)::aO X.env scope.names []) h3.objs.size X.env:=by rw [← fP] <;> rfl
 have ex:X'.xe=fun _ _=>False:=by rw [← fP] <;> rfl
 have eN:X'.N=cm X x aG:=by rw [← fP] <;> rfl
 have ec:X'.calm=true:=by rw [← fP];exact hc
 have PX:X'.fs=Ad X.stack:=by rw [← fP] <;> rfl
 have hT':E3 X' ifs tt:=by rw [← fP];exact ht _ _ _ _ _
 have hE':PE X' elt te:=by rw [← fP];exact he _ _ _ _ _
 have leave:∀{σ':St} {H':Hp} {s':aak},Inv X' [] σ' H' s'→Q (.ref s2.heap.objs.size) H'→compPost (model X.prog X.w) X.A X.xe use QQ (.ref s2.heap.objs.size) h3.objs.size (.ok .next) s':=fun {σ' H' s'} J q=>by
  have un:Un (Ad X.stack) fp H3 H' h3 s'.heap:=by have z:=J.base;rw [← fP] at z;exact z
  have EY:s'.os=s2.os:=by have z:=J.os;rw [← fP] at z;exact z
  have hk:mm X.prog X.w H' s'.heap:=by have z:=J.hok;rw [eP,ew] at z;exact z
  have Jx:=I3.Gw (s':=s') (ch:=fp) EY un hk J.bare fun b hb=>⟨(f3 b hb).2.2.2.1,(f3 b hb).2.1,(f3 b hb).2.2.2.2.1,(f3 b hb).2.2.2.2.2⟩
  obtain⟨m,hn,_⟩:=J.loc
  have hn':s'.heap.Ns h3.objs.size m:=by rw [ee] at hn;exact hn
  have u4:H' h3.objs.size=none:=by have z:=J.free;rw [ee] at z;exact z
  exact fin _ _ H' s' m Jx q hn' (I3.xD (aaf _) u4)
 have m4:∀{H':Hp},(∀b∈fp,H' b=none)→∀b∈fp,jK X' [] H' b:=fun {H'} hn b hb=>by
  refine⟨hn b hb,?_,?_,.inl ?_,fun y c e=>?_,fun p hp=>?_⟩
  ·rw [ee];exact aaW (xM b hb)
  ·rw [PX]
   intro z
   rcases aaB.mp (I3.jQ b z) with z|z
   ·exact(f3 b hb).2.1 z
   ·exact(f3 b hb).2.2.1 z
  ·rw [← fP];exact hb
  ·have e':((x,h3.objs.size+1)::aO X.env scope.names []).lookup y=some c:=by rw [ee] at e;exact e
   rcases tP e' with⟨_,z2⟩|⟨_,z2⟩
   ·rw [z2]
    exact acH (acQ (xM b hb))
   ·exact(f3 b hb).2.2.2.2.1 y c (eY gF (fun _ _ q=>by simp at q) z2)
  ·rw [← fP] at hp
   exact absurd (show p∈([]:List (aaD × Obj)) from hp) (by simp)
 have loop:∀s₃:aak,s₃={ s2 with heap:=h₁,toks:=s2.toks } →
   codeAny (model X.prog X.w) X.A (.compLoop (.ListComp elt [⟨.Name x px,iter,ifs,0⟩] scope pos) 0 (.ref it) (.ref s2.heap.objs.size) (compEnvC scope ((x,h3.objs.size+1)::aO X.env scope.names []) h3.objs.size X.env))
    (compPost (model X.prog X.w) X.A X.xe use QQ (.ref s2.heap.objs.size) h3.objs.size) s₃:=by
  rintro s₃ rfl
  refine iS (fun n s'=>∃i o H' ys,Inv X' [] (bY σ o aG) H' s'∧tn i s'.heap∧(∀b∈fp,H' b=none)∧W i n ys H') ?_ m0 ⟨0,none,H3,[],I4,vc,fun b hb=>(f3 b hb).1,w0⟩
  rintro n s' ⟨i,o,H',ys,J,wd,L7,w'⟩
  obtain⟨PY,hlen,alt⟩:=turn i n ys H' w'
  rcases alt with⟨stop,q⟩|⟨go,N,hN,step⟩
  ·have z:=T.done X' eP ew eK ec i [] s' _ H' (fun _ _=>False) J (m4 L7) wd stop
   rw [eA] at z
   refine thn z fun r s4 ⟨hr,J4⟩=>?_
   subst hr
   exact leave J4 q
  ·have z:=T.item X' eP ew eK ec i [] s' _ H' (fun _ _=>False) J (m4 L7) wd go
   rw [eA] at z
   refine thn z fun r s4 ⟨u,hr,h4⟩=>?_
   subst hr
   refine thn h4 fun _ s5 ⟨xv,H5,J5,r5,y5,rQ,MX⟩=>?_
   have PZ:=J5.pinned (m4 MX) (T.obj _ _ rQ)
   have lx:(relabel scope X.env).names.lookup x=some .cell:=yc ok.PR
   have hg:PG X' (.Name x px) (jD 0):=aH (by rw [eN];exact ok.nd) (by rw [eN] <;> rfl) (by rw [ee];exact .inr lx) (by rw [← fP];exact .inl (decide_eq_true rfl))
   have zg:=hg _ s5 _ H5 xv u (fun σ6 H6=>σ6=bY σ (some xv) aG∧H6=H5) PZ r5 ⟨rfl,rfl⟩
   rw [eP,ew,eA,ee,ex] at zg
   refine thn zg fun _ s6 ⟨σ6,H6,J6,q6⟩=>?_
   obtain⟨e6,Ug⟩:=q6
   subst e6 Ug
   have zt:=hT' _ s6 _ _ _ J6 (step xv _ y5)
   rw [eP,ew,eA,ee,ex] at zt
   refine thn zt fun b s7 ⟨H7,J7,q7⟩=>?_
   have again:∀{H8:Hp} {s8:aak} {DV:List V},Inv X' ([]++m3 fp s5.heap) (bY σ (some xv) aG) H8 s8→N DV H8→∃m,m<n∧∃i o H' ys,Inv X' [] (bY σ o aG) H' s8∧tn i s8.heap∧(∀b∈fp,H' b=none)∧W i m ys H':=fun {H8 s8 DV} J8 n8=>by
    obtain⟨m',hm,w8⟩:=hN DV H8 n8
    refine⟨m',hm,i+1,some xv,H8,DV,J8.iw,T.keep _ _ _ rQ fun b hb o e=>(J8.pin (b,o) (aaT _ (aaT _ (cW hb e)))).1,fun b hb=>?_,w8⟩
    obtain⟨o,e,d⟩:=T.obj _ _ rQ b hb
    exact(J8.pin (b,o) (aaT _ (aaT _ (cW hb e)))).2.1
   cases b with
   | false=>exact again J7 q7
   | true =>
    have ze:=hE' _ s7 _ H7 _ J7 q7
    rw [eP,ew,eA,ee,ex] at ze
    refine thn ze fun yv s8 ⟨y,H8,J8,r8,P0,q8⟩=>?_
    have za:=bg (X:=X') _ s8 _ H8 (.ref s2.heap.objs.size) [y] (.ref s2.heap.objs.size) [yv] (fun _ H9=>H9=upd H8 s2.heap.objs.size (.lst (ys++[y]))) J8 rfl (.cons r8 .nil) ⟨_,ys,y,rfl,rfl,P0,hlen,rfl⟩
    rw [eP,ew,eA,ex] at za
    refine thn za fun _ s9 ⟨_,H9,J9,_,q9⟩=>?_
    subst q9
    exact again J9 q8
 exact codeAny_compStart_list (loop _ rfl) (T.self _ 0 _ _ _ vc (loop _ rfl))
theorem HS {x:Str} {px pos:Pos} {iter elt:Expr} {ifs:List Expr} {scope:Scope} {wi:TI} {tt:TT} {te:TE} (aG:List Nat)
  (hc:X.calm=true) (ho:se X.env.scope scope x (cm X x aG)=true) (hi:PI X (.Name x px) iter wi)
  (ht:∀cl C s₀ H₀ ex,E3 (iW X x scope cl (cm X x aG) C s₀ H₀ ex) ifs tt) (he:∀cl C s₀ H₀ ex,PE (iW X x scope cl (cm X x aG) C s₀ H₀ ex) elt te)
  (hs:∀x,foldedSetIterable iter X.env x=pure x:=by intro _;rfl):PE X (.ListComp elt [⟨.Name x px,iter,ifs,0⟩] scope pos) (Ao wi tt te aG):=by
 intro pins s σ H Q I h
 rw [eval_ListComp]
 refine CK (use:=none) hc ho hi ht he hs I h fun D C H' s' m J q hn hf=>?_
 exact⟨m,hn,fun h' sb=>⟨.ref D,H',J.turned (t':=s'.toks) (fun b o hb e=>(sb.2 b hb).trans e) hf.1 hf.2.1 hf.2.2.2.1 hf.2.2.2.2.1 hf.2.2.2.2.2,rfl,q⟩⟩
theorem HU {K:aaa} {tg l:Expr} {tl:TE} (hK:X.K=K) (hl:PE X l tl):PI X tg l (LU K tl):=by
 subst hK
 exact aS hl
end
def cT (X:Cx) (xs:List Str) (aG:List Nat):List Str:=xs++aG.map fun i=>X.N.getD i (aac "")
def kb (k:Nat) (σ:St) (aG:List Nat):St:=aam k none++aG.map fun i=>(σ[i]?).join
def ox (outer scope:Scope) (xs:List Str) (N:List Str):Bool :=
 decide (scope.kind=.function) && scope.names.all (fun y=>decide (y.2≠.cell)) && scope.names.all (fun y=>decide (y.2=.local→scope.names.lookup y.1=some .local)) && xs.all (fun x=>decide (scope.names.lookup x=some .local)) &&
  scope.names.all (fun y=>decide (y.2=.free→(outer.names.lookup y.1=some .cell∨outer.names.lookup y.1=some .free))) && (N.drop xs.length).all (fun y=>decide (scope.names.lookup y=some .free)) && decide N.Nodup
structure Ed (outer scope:Scope) (xs:List Str) (N:List Str):Prop where
 kind:scope.kind=.function
 sR:∀y∈scope.names,y.2≠.cell
 locs:∀y∈scope.names,y.2=.local→scope.names.lookup y.1=some .local
 PR:∀x∈xs,scope.names.lookup x=some .local
 frees:∀y∈scope.names,y.2=.free→(outer.names.lookup y.1=some .cell∨outer.names.lookup y.1=some .free)
 aG:∀y∈N.drop xs.length,scope.names.lookup y=some .free
 nd:N.Nodup
theorem CL {outer scope:Scope} {xs:List Str} {N:List Str} (h:ox outer scope xs N=true):Ed outer scope xs N:=by
 unfold ox at h
 simp only [abc,abn,decide_eq_true_eq] at h
 obtain⟨⟨⟨⟨⟨⟨h1,h2⟩,h3⟩,h4⟩,h5⟩,h6⟩,h7⟩:=h
 exact⟨h1,h2,h3,h4,h5,h6,h7⟩
def CM (k:Nat) (g:TG) (tt:TT) (te:TE) (aG:List Nat) (σ:St) (Q:VK) (J:It) (H1:Hp) (D:aaD):Prop :=
 ∃W:Nat→Nat→List V→St→Hp→Prop,(∃m,W 0 m [] (kb k σ aG) (upd H1 D (.lst [])))∧∀i m ys τ H,W i m ys τ H →
  H D=some (.lst ys)∧ys.length<aao ∧
  ((J.stop i H∧Q (.ref D) H)∨(J.go i H∧∃N:List V→St→Hp→Prop,(∀zs τ' H',N zs τ' H'→∃m',m'<m∧W (i+1) m' zs τ' H')∧∀x H',J.JV i H x H'→g x τ H' fun τ2 H2=>tt τ2 H2 fun b H3 =>
   if b=true then te τ2 H3 fun y H4=>H4 D=some (.lst ys)∧N (ys++[y]) τ2 (upd H4 D (.lst (ys++[y])))
   else N ys τ2 H3))
def CN (k:Nat) (wi:TI) (g:TG) (tt:TT) (te:TE) (aG:List Nat):TE:=fun σ H Q=>wi σ H fun J H1=>∀D,H1 D=none→CM k g tt te aG σ Q J H1 D
section
variable {X:Cx}
theorem A1 {scope:Scope} {xs:List Str} {aG:List Nat} {pins:List (aaD × Obj)} {σ:St} {H:Hp} {s3:aak} {h1:Heap} {fp:List aaD} {m:Str→Option aae} {tk:Nat} (ok:Ed X.env.scope scope xs (cT X xs aG)) (I:Inv X pins σ H s3)
  (hf:∀b∈fp,jK X pins H b) (eE:∀b∈fp,b<s3.heap.objs.size) (hn:h1.Ns s3.heap.objs.size m) (keep:∀b o,s3.heap.get? b=some o→h1.get? b=some o) :
  Inv (cy X scope (aO X.env scope.names []) (cT X xs aG) s3.heap.objs.size s3 H fp) [] (kb xs.length σ aG) H { s3 with heap:=h1,toks:=tk }:=by
 have gF:∀z∈scope.names,z.2=.free→(X.env.cells.lookup z.1).isSome=true:=fun z hz u4=>by
  obtain⟨c,e⟩:=I.ok.has z.1 (by
   rcases ok.frees z hz u4 with q|q
   ·exact .inl q
   ·exact .inr q)
  rw [e];rfl
 have sub:∀y c,(aO X.env scope.names []).lookup y=some c→X.env.cells.lookup y=some c:=fun y c h=>eY gF (fun _ _ q=>by simp at q) h
 have hC:H s3.heap.objs.size=none:=I.hok.fresh (aaf _)
 have Gv:∀y c,X.env.cells.lookup y=some c→c<s3.heap.objs.size:=fun y c e=>by
  obtain⟨v,z⟩:=I.cell y c e
  exact z.lt
 refine⟨⟨I.ok.mod,?_,I.ok.glob,I.ok.blt,aaf _,fun y z c e1 e2=>I.ok.inj y z c (sub _ _ e1) (sub _ _ e2),fun y hy=>?_,fun y c JQ _=>?_,I.ok.hd,I.ok.frames,.inl rfl,fun b hb=>⟨aaW (eE b hb),fun y c e=>(hf b hb).2.2.2.2.1 y c (sub _ _ e)⟩,
   I.bs,aa5 I.ok.EM I.sz,fun b o e hb=>?_,fun b hb L5=>?_,I.stack,I.rO⟩,
  rfl,I.bare,Un.kept keep,⟨m,hn,fun i y v e1 e2 e3=>?_⟩,fun y c e=>?_,hC,fun y c e=>I.jC y c (sub _ _ e),fun p hp=>absurd (show p∈([]:List (aaD × Obj)) from hp) (by simp),I.hok.kept keep,by simp [cy,cT,kb]⟩
 ·show(relabel scope X.env).kind=.function
  exact ok.kind
 ·have hy':(relabel scope X.env).names.lookup y=some .cell∨(relabel scope X.env).names.lookup y=some .free:=hy
  have fr:scope.names.lookup y=some .free:=by
   rcases hy' with q|q
   ·obtain⟨k,e,z⟩:=dh q
    rcases z with z|⟨z,_⟩
    ·exact absurd z.symm (ok.sR _ (aa6 e))
    ·rw [e,z]
   ·obtain⟨k,e,z⟩:=dh q
    rcases z with z|⟨_,z⟩
    ·rw [e,z]
    ·cases z
  exact abj.mp (eZ (.inl (aa6 fr)))
 ·exact absurd (show(fun _=>false) y=true from JQ) (by simp)
 ·rcases(hf b hb).2.2.2.1 with z|z
  ·exact I.ok.B3 b o e z
  ·exact absurd (aa0 (aay e) (aa5 I.ok.EM z)) (abM _)
 ·rcases aaB.mp (I.jQ b L5) with z|z
  ·exact(hf b hb).2.1 z
  ·exact(hf b hb).2.2.1 z
 ·have e1':(cT X xs aG)[i]?=some y:=e1
  have Fi:(kb xs.length σ aG)[i]?=some (some v):=e2
  rcases aeP i xs.length with Qo|Qo
  ·unfold kb at Fi
   rw [acW (by rw [aaU];exact Qo),abW,if_pos Qo] at Fi
   cases Fi
  ·unfold cT at e1'
   unfold kb at Fi
   rw [abO Qo,aaq] at e1'
   rw [abO (by rw [aaU];exact Qo),aaU,aaq] at Fi
   cases hj:aG[i - xs.length]? with
   | none=>rw [hj] at Fi;cases Fi
   | some j =>
    rw [hj] at e1' Fi
    simp only [aco,aea] at e1' Fi
    cases hσ:σ[j]? with
    | none=>rw [hσ] at Fi;cases Fi
    | some o =>
     rw [hσ] at Fi
     have e2':o=some v:=Fi
     subst e2'
     have L6:j<X.N.length:=by rw [← I.len];exact(aar.mp hσ).1
     have eN:X.N[j]?=some y:=by
      rw [Ge9 L6]
      rw [Gd9,Ge9 L6] at e1'
      exact congrArg some e1'
     have hy:scope.names.lookup y=some .free:=ok.aG y (by
      show y∈(xs++aG.map fun i=>X.N.getD i (aac "")).drop xs.length
      rw [List.drop_left]
      exact aah.mpr ⟨j,abr hj,e1'⟩)
     have hk:=ok.frees (y,.free) (aa6 hy) rfl
     obtain⟨m',_,hl⟩:=I.loc
     obtain⟨u,r,q⟩:=hl j y v eN hσ (.inr hk)
     refine⟨u,r,.inr ⟨iR hy,?_⟩⟩
     rcases q with⟨k,_⟩|⟨_,c,e,z⟩
     ·have k':X.env.scope.names.lookup y=some .local:=k
      rw [k'] at hk
      rcases hk with hk|hk <;> cases hk
     ·obtain⟨c',e'⟩:=abj.mp (eZ (env:=X.env) (cs:=[]) (.inl (aa6 hy)))
      have ec:=sub _ _ e'
      rw [e] at ec
      cases ec
      obtain⟨o,ho,hd⟩:=z
      exact⟨c,e',o,keep c o ho,hd⟩
 ·obtain⟨v,o,ho,hd⟩:=I.cell y c (sub _ _ e)
  exact⟨v,o,keep c o ho,hd⟩
theorem tQ {xs:List Str} {pos p:Pos} {tg iter elt:Expr} {g:TG} {ifs:List Expr} {scope:Scope} {wi:TI} {tt:TT} {te:TE} {aG:List Nat} {use:Option (aae→Sem Unit)} {QQ:aae→aak→Prop}
  (hc:X.calm=true) (ho:ox X.env.scope scope xs (cT X xs aG)=true) (hi:PI X tg iter wi) (hg:∀cl C s₀ H₀ ex,PG (cy X scope cl (cT X xs aG) C s₀ H₀ ex) tg g)
  (ht:∀cl C s₀ H₀ ex,E3 (cy X scope cl (cT X xs aG) C s₀ H₀ ex) ifs tt) (he:∀cl C s₀ H₀ ex,PE (cy X scope cl (cT X xs aG) C s₀ H₀ ex) elt te)
  (hs:∀x,foldedSetIterable iter X.env x=pure x) {pins:List (aaD × Obj)} {s:aak} {σ:St} {H:Hp} {Q:VK} (I:Inv X pins σ H s) (h:CN xs.length wi g tt te aG σ H Q)
  (fin:∀(D C:aaD) (H':Hp) (s':aak) (m:Str→Option aae),Inv X pins σ H' s'→Q (.ref D) H'→s'.heap.Ns C m→jK X pins H' C→compPost (model X.prog X.w) X.A X.xe use QQ (.ref D) C (.ok .next) s') :
  abb (model X.prog X.w) X.A (comprehension (.ListComp elt [⟨tg,iter,ifs,0⟩] scope pos) scope X.env p (newList []) false (eval iter X.env) use) QQ X.xe s:=by
 have ok:=CL ho
 have gF:∀z∈scope.names,z.2=.free→(X.env.cells.lookup z.1).isSome=true:=fun z hz u4=>by
  obtain⟨c,e⟩:=I.ok.has z.1 (by
   rcases ok.frees z hz u4 with q|q
   ·exact .inl q
   ·exact .inr q)
  rw [e];rfl
 refine wpAny_comprehension_free (cl:=aO X.env scope.names []) (use:=use) rfl hs (m7 gF) ok.kind ok.locs (thn (hi pins s σ H _ I h) fun v s1 h1=>thn h1 fun Pm s2 h2=>?_)
 obtain⟨it,fp,tn,J,H2,e,I2,T,nS,f2,rd⟩:=h2
 subst e
 refine wpAny_newObj_type (wpAny_newFunctionEnv ok.sR (by intro y hy;simp at hy) (fun h₁ sS Ct=>?_) ok.kind)
 dsimp only at sS Ct ⊢
 have BY:H2 s2.heap.objs.size=none:=I2.hok.fresh (aaf _)
 obtain⟨W,⟨m0,w0⟩,turn⟩:=rd s2.heap.objs.size BY
 have Ap:∀b∈fp,b<s2.heap.objs.size:=fun b hb=>by
  obtain⟨o,e,_⟩:=T.obj 0 _ nS b hb
  exact aay e
 have hsz:(s2.heap.push { cls:=.type "list",dict:=none,data:=.seq ([]:List aae).toArray }).objs.size=s2.heap.objs.size+1:=acb ..
 have I3:Inv X pins σ (upd H2 s2.heap.objs.size (.lst [])) { s2 with heap:=s2.heap.push { cls:=.type "list",dict:=none,data:=.seq ([]:List aae).toArray } } :=
  I2.laid (t':=s2.toks) (fun b u e=>aag _ e) (aaf _) ⟨by simp,[],0,.nil,aaM _ rfl⟩
 have we:tn 0 (s2.heap.push { cls:=.type "list",dict:=none,data:=.seq ([]:List aae).toArray }):=T.keep _ _ _ nS fun b _ o e=>aag _ e
 generalize Ue:s2.heap.push { cls:=.type "list",dict:=none,data:=.seq ([]:List aae).toArray }=h3 at sS Ct hsz I3 we ⊢
 generalize PV:upd H2 s2.heap.objs.size (.lst [])=H3 at I3 w0
 have xM:∀b∈fp,b<h3.objs.size:=fun b hb=>by rw [hsz];exact acQ (Ap b hb)
 have f3:∀b∈fp,jK X pins H3 b:=fun b hb=>⟨by rw [← PV,ar (aaW (Ap b hb))];exact(f2 b hb).1,(f2 b hb).2⟩
 have keep:∀b o,h3.get? b=some o→h₁.get? b=some o:=fun b o e=>Ct.extBut b o (aaW (aay e)) (aag _ e)
 have I4:=A1 (s3:={ s2 with heap:=h3 }) (tk:=s2.toks+([]:List (Str × aae)).length) ok I3 f3 xM sS keep
 have vc:tn 0 h₁:=T.keep _ _ _ we fun b _ o e=>keep b o e
 generalize fP:cy X scope (aO X.env scope.names []) (cT X xs aG) ({ s2 with heap:=h3 }:aak).heap.objs.size { s2 with heap:=h3 } H3 fp=X' at I4
 have eA:X'.A=X.A:=by rw [← fP] <;> rfl
 have eP:X'.prog=X.prog:=by rw [← fP] <;> rfl
 have ew:X'.w=X.w:=by rw [← fP] <;> rfl
 have eK:X'.K=X.K:=by rw [← fP] <;> rfl
 have ee:X'.env=compEnvC scope (aO X.env scope.names []) h3.objs.size X.env:=by rw [← fP] <;> rfl
 have ex:X'.xe=fun _ _=>False:=by rw [← fP] <;> rfl
 have ec:X'.calm=true:=by rw [← fP];exact hc
 have PX:X'.fs=Ad X.stack:=by rw [← fP] <;> rfl
 have hT':E3 X' ifs tt:=by rw [← fP];exact ht _ _ _ _ _
 have hG':PG X' tg g:=by rw [← fP];exact hg _ _ _ _ _
 have hE':PE X' elt te:=by rw [← fP];exact he _ _ _ _ _
 have leave:∀{σ':St} {H':Hp} {s':aak},Inv X' [] σ' H' s'→Q (.ref s2.heap.objs.size) H'→compPost (model X.prog X.w) X.A X.xe use QQ (.ref s2.heap.objs.size) h3.objs.size (.ok .next) s':=fun {σ' H' s'} J q=>by
  have un:Un (Ad X.stack) fp H3 H' h3 s'.heap:=by have z:=J.base;rw [← fP] at z;exact z
  have EY:s'.os=s2.os:=by have z:=J.os;rw [← fP] at z;exact z
  have hk:mm X.prog X.w H' s'.heap:=by have z:=J.hok;rw [eP,ew] at z;exact z
  have Jx:=I3.Gw (s':=s') (ch:=fp) EY un hk J.bare fun b hb=>⟨(f3 b hb).2.2.2.1,(f3 b hb).2.1,(f3 b hb).2.2.2.2.1,(f3 b hb).2.2.2.2.2⟩
  obtain⟨m,hn,_⟩:=J.loc
  have hn':s'.heap.Ns h3.objs.size m:=by rw [ee] at hn;exact hn
  have u4:H' h3.objs.size=none:=by have z:=J.free;rw [ee] at z;exact z
  exact fin _ _ H' s' m Jx q hn' (I3.xD (aaf _) u4)
 have m4:∀{H':Hp},(∀b∈fp,H' b=none)→∀b∈fp,jK X' [] H' b:=fun {H'} hn b hb=>by
  refine⟨hn b hb,?_,?_,.inl ?_,fun y c e=>?_,fun p hp=>?_⟩
  ·rw [ee];exact aaW (xM b hb)
  ·rw [PX]
   intro z
   rcases aaB.mp (I3.jQ b z) with z|z
   ·exact(f3 b hb).2.1 z
   ·exact(f3 b hb).2.2.1 z
  ·rw [← fP];exact hb
  ·have e':(aO X.env scope.names []).lookup y=some c:=by rw [ee] at e;exact e
   exact(f3 b hb).2.2.2.2.1 y c (eY gF (fun _ _ q=>by simp at q) e')
  ·rw [← fP] at hp
   exact absurd (show p∈([]:List (aaD × Obj)) from hp) (by simp)
 have loop:∀s₃:aak,s₃={ s2 with heap:=h₁,toks:=s2.toks+([]:List (Str × aae)).length } →
   codeAny (model X.prog X.w) X.A (.compLoop (.ListComp elt [⟨tg,iter,ifs,0⟩] scope pos) 0 (.ref it) (.ref s2.heap.objs.size) (compEnvC scope (aO X.env scope.names []) h3.objs.size X.env))
    (compPost (model X.prog X.w) X.A X.xe use QQ (.ref s2.heap.objs.size) h3.objs.size) s₃:=by
  rintro s₃ rfl
  refine iS (fun n s'=>∃i τ H' ys,Inv X' [] τ H' s'∧tn i s'.heap∧(∀b∈fp,H' b=none)∧W i n ys τ H') ?_ m0 ⟨0,_,H3,[],I4,vc,fun b hb=>(f3 b hb).1,w0⟩
  rintro n s' ⟨i,τ,H',ys,J,wd,L7,w'⟩
  obtain⟨PY,hlen,alt⟩:=turn i n ys τ H' w'
  rcases alt with⟨stop,q⟩|⟨go,N,hN,step⟩
  ·have z:=T.done X' eP ew eK ec i [] s' _ H' (fun _ _=>False) J (m4 L7) wd stop
   rw [eA] at z
   refine thn z fun r s4 ⟨hr,J4⟩=>?_
   subst hr
   exact leave J4 q
  ·have z:=T.item X' eP ew eK ec i [] s' _ H' (fun _ _=>False) J (m4 L7) wd go
   rw [eA] at z
   refine thn z fun r s4 ⟨u,hr,h4⟩=>?_
   subst hr
   refine thn h4 fun _ s5 ⟨xv,H5,J5,r5,y5,rQ,MX⟩=>?_
   have PZ:=J5.pinned (m4 MX) (T.obj _ _ rQ)
   have zg:=hG' _ s5 _ H5 xv u _ PZ r5 (step xv _ y5)
   rw [eP,ew,eA,ee,ex] at zg
   refine thn zg fun _ s6 ⟨τ6,H6,J6,q6⟩=>?_
   have zt:=hT' _ s6 _ _ _ J6 q6
   rw [eP,ew,eA,ee,ex] at zt
   refine thn zt fun b s7 ⟨H7,J7,q7⟩=>?_
   have again:∀{H8:Hp} {s8:aak} {DV:List V},Inv X' ([]++m3 fp s5.heap) τ6 H8 s8→N DV τ6 H8→∃m,m<n∧∃i τ H' ys,Inv X' [] τ H' s8∧tn i s8.heap∧(∀b∈fp,H' b=none)∧W i m ys τ H':=fun {H8 s8 DV} J8 n8=>by
    obtain⟨m',hm,w8⟩:=hN DV τ6 H8 n8
    refine⟨m',hm,i+1,τ6,H8,DV,J8.iw,T.keep _ _ _ rQ fun b hb o e=>(J8.pin (b,o) (aaT _ (aaT _ (cW hb e)))).1,fun b hb=>?_,w8⟩
    obtain⟨o,e,d⟩:=T.obj _ _ rQ b hb
    exact(J8.pin (b,o) (aaT _ (aaT _ (cW hb e)))).2.1
   cases b with
   | false=>exact again J7 q7
   | true =>
    have ze:=hE' _ s7 _ H7 _ J7 q7
    rw [eP,ew,eA,ee,ex] at ze
    refine thn ze fun yv s8 ⟨y,H8,J8,r8,P0,q8⟩=>?_
    have za:=bg (X:=X') _ s8 _ H8 (.ref s2.heap.objs.size) [y] (.ref s2.heap.objs.size) [yv] (fun _ H9=>H9=upd H8 s2.heap.objs.size (.lst (ys++[y]))) J8 rfl (.cons r8 .nil) ⟨_,ys,y,rfl,rfl,P0,hlen,rfl⟩
    rw [eP,ew,eA,ex] at za
    refine thn za fun _ s9 ⟨_,H9,J9,_,q9⟩=>?_
    subst q9
    exact again J9 q8
 exact codeAny_compStart_list (loop _ rfl) (T.self _ 0 _ _ _ vc (loop _ rfl))
theorem HV {pos:Pos} {tg iter elt:Expr} {ifs:List Expr} {scope:Scope} {wi:TI} {tt:TT} {te:TE} {g:TG} (xs:List Str) (aG:List Nat)
  (hc:X.calm=true) (ho:ox X.env.scope scope xs (cT X xs aG)=true) (hi:PI X tg iter wi) (hg:∀cl C s₀ H₀ ex,PG (cy X scope cl (cT X xs aG) C s₀ H₀ ex) tg g)
  (ht:∀cl C s₀ H₀ ex,E3 (cy X scope cl (cT X xs aG) C s₀ H₀ ex) ifs tt) (he:∀cl C s₀ H₀ ex,PE (cy X scope cl (cT X xs aG) C s₀ H₀ ex) elt te)
  (hs:∀x,foldedSetIterable iter X.env x=pure x:=by intro _;rfl):PE X (.ListComp elt [⟨tg,iter,ifs,0⟩] scope pos) (CN xs.length wi g tt te aG):=by
 intro pins s σ H Q I h
 rw [eval_ListComp]
 refine tQ (use:=none) hc ho hi hg ht he hs I h fun D C H' s' m J q hn hf=>?_
 exact⟨m,hn,fun h' sb=>⟨.ref D,H',J.turned (t':=s'.toks) (fun b o hb e=>(sb.2 b hb).trans e) hf.1 hf.2.1 hf.2.2.2.1 hf.2.2.2.2.1 hf.2.2.2.2.2,rfl,q⟩⟩
end
def SA (K:aaa) (a b:aaD):It :=
  ⟨fun i H=>∃xs ys x y,aB K H a xs∧aB K H b ys∧xs[i]?=some x∧ys[i]?=some y,
   fun i H x H'=>∃t v u,H t=none∧H'=upd H t (.tup [v,u])∧x=.ref t∧(∀xs,aB K H a xs→xs[i]?=some v)∧∀ys,aB K H b ys→ys[i]?=some u,
   fun i H=>∃xs ys,aB K H a xs∧aB K H b ys∧(xs.length≤i∨ys.length≤i)⟩
theorem HW {P:aa4} {w:abu} {K:aaa} {elts:List Expr} {x1:Nat} {pos:Pos} (a b z TI TO i1 i2:aaD) (D:ZipApart z TI TO i1 i2 a b):Turn P w K (.Tuple elts x1 pos) (SA K a b) [z,TI,TO,i1,i2] z
  (fun i h=>IsZip h z TI TO .none∧IsPair h TI (.ref i1) (.ref i2)∧(∃u v,IsPair h TO u v)∧h.IsListIter i1 a i∧h.IsListIter i2 b i) where
 mem:=by simp
 obj:=fun i h st c hc=>by
  obtain⟨yb,nS,⟨u,v,we⟩,vc,rQ⟩:=st
  rcases(by simpa using hc:c=z∨c=TI∨c=TO∨c=i1∨c=i2) with e|e|e|e|e <;> subst e
  ·exact⟨_,yb,fun v z=>nomatch z⟩
  ·exact⟨_,nS,fun v z=>nomatch z⟩
  ·exact⟨_,we,fun v z=>nomatch z⟩
  ·obtain⟨o,e,c,d⟩:=vc
   exact⟨o,e,fun v z=>by rw [d] at z;cases z⟩
  ·obtain⟨o,e,c,d⟩:=rQ
   exact⟨o,e,fun v z=>by rw [d] at z;cases z⟩
 keep:=fun i h h' st k=>by
  obtain⟨yb,nS,⟨u,v,we⟩,vc,rQ⟩:=st
  exact⟨k z (by simp) _ yb,k TI (by simp) _ nS,⟨u,v,k TO (by simp) _ we⟩,vc.at fun o q=>k i1 (by simp) o q,rQ.at fun o q=>k i2 (by simp) o q⟩
 item:=by
  intro X hP hw hK hc i pins s σ H E I hf st hg
  subst hP hw hK
  obtain⟨yb,nS,⟨u0,v0,we⟩,vc,rQ⟩:=st
  obtain⟨xs,ys,x,y,hq,OS,hx,hy⟩:=hg
  obtain⟨its,rv,p,hz⟩:=I.list hq
  obtain⟨m6,SD,p2,OT⟩:=I.list OS
  obtain⟨u,hu,ru⟩:=rv.get hx
  obtain⟨u2,Ze,UB⟩:=SD.get hy
  refine wpAny_pyNext_zip_item D yb nS we vc rQ p.isList p2.isList (x:=u) (y:=u2) (by simpa using hu) (by simpa using Ze) fun h1 Xh UC Qb UD Zf SE Qj=>?_
  refine⟨_,rfl,wpAny_letOwnedTupleGo_zip Xh fun h2 OR sL=>?_⟩
  replace sL:adB z h1 h2:=sL
  have u4:H s.heap.objs.size=none:=I.hok.fresh (aaf _)
  have lt:∀c∈[z,TI,TO,i1,i2],c<s.heap.objs.size:=fun c hc=>by
   rcases(by simpa using hc:c=z∨c=TI∨c=TO∨c=i1∨c=i2) with e|e|e|e|e <;> rw [e]
   ·exact aay yb
   ·exact aay nS
   ·exact aay we
   ·obtain⟨o,q,_⟩:=id vc
    exact aay q
   ·obtain⟨o,q,_⟩:=id rQ
    exact aay q
  have Qp:=lt z (by simp)
  have ka:h2.get? s.heap.objs.size=some { cls:=.type "tuple",data:=.seq #[u,u2] }:=(sL.2 _ (acH Qp)).trans Zf
  have I1:Inv X pins σ (upd H s.heap.objs.size (.tup [x,y])) { s with heap:=s.heap.push { cls:=.type "tuple",data:=.seq #[u,u2] },toks:=s.toks }:=by
   refine I.laid (t':=s.toks) (fun b u q=>aag _ q) (aaf _) ?_
   exact⟨(by show 2≤aao;decide),[u,u2],.cons ru (.cons UB .nil),⟨_,aaM _ rfl,rfl,0,rfl⟩⟩
  have I2:Inv X pins σ (upd H s.heap.objs.size (.tup [x,y])) { s with heap:=h2,toks:=s.toks }:=by
   refine Inv.ya (s:={ s with heap:=s.heap.push { cls:=.type "tuple",data:=.seq #[u,u2] },toks:=s.toks }) (h':=h2) (t':=s.toks) (ch:=[z,TI,TO,i1,i2]) I1 (fun b o hb q=>?_) (fun b hb=>?_)
   ·have hb1:b≠z:=fun e=>hb (by simp [e])
    have vh:b≠TO:=fun e=>hb (by simp [e])
    have UE:b≠i1:=fun e=>hb (by simp [e])
    have Zg:b≠i2:=fun e=>hb (by simp [e])
    by_cases Qk:b=s.heap.objs.size
    ·subst Qk
     have q2:(s.heap.push { cls:=.type "tuple",data:=.seq #[u,u2] }).get? s.heap.objs.size=some o:=q
     rw [aaM _ rfl] at q2
     rw [ka,← q2]
    ·have q2:(s.heap.push { cls:=.type "tuple",data:=.seq #[u,u2] }).get? b=some o:=q
     have q3:s.heap.get? b=some o:=(qP _ _ _ Qk).symm.trans q2
     exact(sL.2 b hb1).trans (Qj b o hb1 vh UE Zg q3)
   ·have f:=hf b hb
    refine⟨?_,f.2.1,f.2.2.2.1,f.2.2.2.2.1,f.2.2.2.2.2⟩
    rw [ar (aaW (lt b hb))]
    exact f.1
  refine⟨.ref s.heap.objs.size,_,I2,rfl,⟨_,x,y,u4,rfl,rfl,fun zs UG=>by rw [I.nQ UG hq];exact hx,fun zs UG=>by rw [I.nQ UG OS];exact hy⟩,⟨OR,?_,⟨u,u2,?_⟩,?_,?_⟩,fun b hb=>?_⟩
  ·exact(sL.2 TI D.TIz).trans (Qj TI _ D.TIz D.TITO D.TIi1 D.TIi2 nS)
  ·exact(sL.2 TO D.TOz).trans UC
  ·exact Qb.at fun o q=>(sL.2 i1 D.i1z).trans q
  ·exact UD.at fun o q=>(sL.2 i2 D.i2z).trans q
  ·rw [ar (aaW (lt b hb))]
   exact(hf b hb).1
 done:=by
  intro X hP hw hK hc i pins s σ H E I hf st hg
  subst hP hw hK
  obtain⟨yb,nS,⟨u0,v0,we⟩,vc,rQ⟩:=st
  obtain⟨xs,ys,hq,OS,hx⟩:=hg
  obtain⟨its,rv,p,hz⟩:=I.list hq
  obtain⟨m6,SD,p2,OT⟩:=I.list OS
  have hl:=rv.length
  have vb:=SD.length
  refine wpAny_pyNext_zip_end (I.ok.hd hc) D yb nS we vc rQ p.isList p2.isList ?_ fun h' eb=>⟨rfl,?_⟩
  ·rcases hx with hx|hx
   ·exact .inl (by simp;omega)
   ·exact .inr (by simp;omega)
  ·refine Inv.ya (s:=s) (t':=s.toks) (ch:=[z,TI,TO,i1,i2]) I (fun b o hb e=>eb b o (fun e=>hb (by simp [e])) (fun e=>hb (by simp [e])) (fun e=>hb (by simp [e])) (fun e=>hb (by simp [e])) e) fun b hb=>?_
   have f:=hf b hb
   exact⟨f.1,f.2.1,f.2.2.2.1,f.2.2.2.2.1,f.2.2.2.2.2⟩
 self:=fun _ _ _ _ _ st h=>wpAny_pyIter_zip st.1 h
section
variable {X:Cx}
theorem Zh {a b:Nat} (h:a<b∨b<a):a≠b:=fun e=>by omega
theorem Fj (n a b:Nat) (ha:a<n) (hb:b<n):ZipApart (n+4) (n+2) (n+3) n (n+1) a b:=by
 constructor <;> (refine Zh ?_;omega)
def UH (K:aaa) (tl tm:TE):TI:=fun σ H R=>tl σ H fun x H1=>tm σ H1 fun y H2=>∃a b,x=.ref a∧y=.ref b∧(∃xs,aB K H2 a xs)∧(∃ys,aB K H2 b ys)∧R (SA K a b) H2
theorem NL {l m:Expr} {tl tm:TE} {elts:List Expr} {x1:Nat} {GL p cpos:Pos} (hl:PE X l tl) (Zi:PE X m tm) (hg:Gl X "zip") (hm:X.mg "zip"=none) (hv:bootBuiltins "zip"=some (.type "zip"))
  (he:starEach [l,m] X.env=(false,eval l X.env)::starEach [m] X.env) (OR:starEach [m] X.env=(false,eval m X.env)::starEach [] X.env):PI X (.Tuple elts x1 GL) (.Call (.Name "zip" p) [l,m] [] cpos) (UH X.K tl tm):=by
 intro pins s σ H R I h
 refine wpAny_Call_Name_kw (jR I hg hm hv ?_ (by decide) (by decide))
 have NH:PA X [l,m] (Ai tl (Ai tm EV)):=aa hl (aa Zi af OR) he
 refine abx (thn (NH cpos pins s σ H (fun vs H1=>match vs with|[x,y]=>∃a b,x=.ref a∧y=.ref b∧(∃xs,aB X.K H1 a xs)∧(∃ys,aB X.K H1 b ys)∧R (SA X.K a b) H1|_=>False) I h) fun us s1 ⟨vs,H1,I1,r1,q1⟩=>?_) he (by rw [OR];rfl)
 match vs,r1,q1 with
 | [x,y],r1,⟨a,b,ex,ey,⟨xs,hq⟩,⟨ys,OS⟩,q⟩ =>
  subst ex ey
  obtain⟨u,u2,rfl,ru,UB⟩:=vals2 r1
  cases ru
  cases UB
  obtain⟨its,rv,p,hz⟩:=I1.list hq
  obtain⟨m6,SD,p2,OT⟩:=I1.list OS
  have ha:a<s1.heap.objs.size:=by
   obtain⟨_,e,_⟩:=p.isList
   exact aay e
  have hb:b<s1.heap.objs.size:=by
   obtain⟨_,e,_⟩:=p2.isList
   exact aay e
  have D:=Fj s1.heap.objs.size a b ha hb
  refine call_zip_2 p.isList p2.isList fun h' hz Zj Zk Qb UD hsz hk=>wpAny_pyIter_zip hz ?_
  refine⟨s1.heap.objs.size+4,[s1.heap.objs.size+4,s1.heap.objs.size+2,s1.heap.objs.size+3,s1.heap.objs.size,s1.heap.objs.size+1],_,_,H1,rfl,I1.kept (t':=s1.toks) hk,HW a b _ _ _ _ _ D,⟨hz,Zj,⟨_,_,Zk⟩,Qb,UD⟩,fun c hc=>?_,q⟩
  have hb':s1.heap.objs.size≤c:=by
   rcases(by simpa using hc:c=s1.heap.objs.size+4∨c=s1.heap.objs.size+2∨c=s1.heap.objs.size+3∨c=s1.heap.objs.size∨c=s1.heap.objs.size+1) with z|z|z|z|z <;> rw [z]
   ·exact adH _ _
   ·exact adH _ _
   ·exact adH _ _
   ·exact aaf _
   ·exact adH _ _
  exact I1.xD hb' (I1.hok.fresh hb')
theorem HX {ks:List Int}:∀{us:List aae},Vals (ks.map V.int) us→us.length=ks.length∧∀i v,us[i]?=some v→∃t,v=aeF (ks.getD i 0) t:=by
 induction ks with
 | nil=>intro us r;rw [acv] at r;cases r;exact⟨rfl,fun i v h=>by simp at h⟩
 | cons z zs ih =>
  intro us r
  rw [aaZ] at r
  cases r with
  | cons r1 r2 =>
   obtain⟨hl,hi⟩:=ih r2
   refine⟨by rw [aad,aad,hl],fun i v h=>?_⟩
   cases i with
   | zero =>
    cases h
    exact r1
   | succ i =>
    obtain⟨t,e⟩:=hi i v (by simpa using h)
    exact⟨t,by rw [e];rfl⟩
end
section
variable {X:Cx} {pins:List (aaD × Obj)} {σ:St}
end
section
variable {X:Cx}
def Qq (i j:Int):Prop:=0<j∧(j<1073741824∨j.natAbs.log2<9000)
theorem A2:nM X (binaryOp .FloorDiv) (rI Qq fun i j=>.int (i / j)):=ON fun i j _ _ _ _ _ hc q=>by
 have h1:(0:Int)<j:=hc.1
 have h2:j<1073741824∨j.natAbs.log2<9000:=hc.2
 refine PyProof.Rows.floordiv_int (by omega) (by rw [adW i (by omega)];exact q) (.inl ?_)
 rcases h2 with h2|h2
 ·exact aex (by omega)
 ·exact PyProof.noPylong_of_log2 h2
def Qr (i j:Int):Prop:=i.natAbs.log2<100000∧j.natAbs.log2<100000
theorem Ee {i:Int} (h:i.natAbs.log2<100000):ae6 i≤2 ^ 20:=by
 unfold ae6
 split
 ·exact aa3 _
 ·omega
theorem sf:nM X (binaryOp .Mult) (rI Qr fun i j=>.int (i * j)):=ON fun _ _ _ _ _ _ _ hc q=>PyProof.Rows.mul_int q (IntMulOk.of_bits (Ee hc.1) (Ee hc.2))
end
end L2
namespace Bk
open PySem L2 eJ
def cu (sep:Cs):List Cs→Cs
 | []=>[]
 | [a]=>a
 | a::r=>a++(sep++cu sep r)
theorem wV (sep:Cs):∀(ls:List Str),(aen (S sep) ls).cps.toList=cu sep (ls.map fun s=>s.cps.toList)
 | []=>rfl
 | [a]=>rfl
 | a::b::r=>by
  have ih:=wV sep (b::r)
  show((a++S sep)++aen (S sep) (b::r)).cps.toList=_
  rw [abQ,abQ,ih,cG]
  show(a.cps.toList++sep)++_=a.cps.toList++(sep++_)
  simp
theorem sh (sep:Cs) (ls:List Cs):aek (S sep) (ls.map S)=S (cu sep ls):=by
 show afq (S sep) _=_
 rw [aeO,← E8 (aen (S sep) (ls.map S)),wV,abf]
 have e:((fun s:Str=>s.cps.toList) ∘ S)=id:=by
  funext p
  exact cG p
 rw [e,ac7]
theorem kc (sep:Cs):∀(ls:List Cs) (B:Nat),(∀l∈ls,l.length≤B)→(cu sep ls).length≤ls.length * (B+sep.length)
 | [],_,_=>by simp [cu]
 | [a],B,h=>by
  have:=h a (by simp)
  show a.length≤1 * (B+sep.length)
  omega
 | a::b::r,B,h=>by
  have ih:=kc sep (b::r) B fun l hl=>h l (aan _ hl)
  have h1:=h a (by simp)
  show(a++(sep++cu sep (b::r))).length≤((b::r).length+1) * (B+sep.length)
  rw [aab,aab,ae5]
  omega
def fZ:List Cs→List Cs
 | []=>[]
 | [a]=>[a]
 | a::r=>a::[44]::fZ r
abbrev bare (n:Cs):Fc:=⟨n,[]⟩
theorem tR:∀(ns:List Cs),ns≠[]→(∀n∈ns,aQ n=true)→rB (fZ ns) (ns.map bare)
 | [],h,_=>absurd rfl h
 | [a],_,h=>.one (.bare (h a (by simp)))
 | a::b::r,_,h=>.more (.bare (h a (by simp))) (tR (b::r) (by simp) fun n hn=>h n (aan _ hn))
theorem tS {p:Cs} (h:aQ p=true):p≠[]:=fun z=>by
 have:=cz h
 rw [z] at this
 simp at this
theorem qQ:∀(ns:List Cs) (r:Cs),ns≠[]→(∀n∈ns,aQ n=true)→jE r→toks (cu [44,32] ns++r)=fZ ns++toks r
 | [],_,h,_,_=>absurd rfl h
 | [a],r,_,h,hs=>by
  show toks (a++r)=a::toks r
  exact di (fX (h a (by simp))) (tS (h a (by simp))) hs
 | a::b::t,r,_,h,hs=>by
  have ih:=qQ (b::t) r (by simp) (fun n hn=>h n (aan _ hn)) hs
  show toks ((a++([44,32]++cu [44,32] (b::t)))++r)=a::[44]::(fZ (b::t)++toks r)
  rw [aa2,di (fX (h a (by simp))) (tS (h a (by simp))) (show jE (([44,32]++cu [44,32] (b::t))++r) from Ay)]
  rw [aa2]
  show a::toks (44::32::(cu [44,32] (b::t)++r))=_
  rw [E7 (by decide),dA,ih]
theorem A3:∀(ns:List Cs),(∀n∈ns,aQ n=true)→[59]∉fZ ns:=by
 have one:∀n:Cs,aQ n=true→[59]≠n:=fun n hn e=>by rw [← e] at hn;exact absurd hn (by decide +kernel)
 intro ns
 induction ns with
 | nil=>intro _;simp [fZ]
 | cons a r ih =>
  intro h
  cases r with
  | nil =>
   show [59]∉[a]
   rw [aaw]
   exact one a (h a (by simp))
  | cons b t =>
   have Ut:=ih fun n hn=>h n (aan _ hn)
   show [59]∉a::[44]::fZ (b::t)
   simp only [aaB,not_or]
   exact⟨one a (h a (by simp)),by decide,Ut⟩
abbrev PN:=Nat × List Cs
def aR (x:PN):Cs:=wordAt x.1++(32::cu [44,32] x.2)
def gY (x:PN):Pr:=⟨x.1,fZ x.2,.fs (x.2.map bare)⟩
structure tT (x:PN):Prop where
 n:x.1=0∨x.1=1∨x.1=3
 ne:x.2≠[]
 sm:∀n∈x.2,aQ n=true
theorem iY (n:Nat):(wordAt n).all bu=true∧wordAt n≠[]∧(wordAt n).length≤4:=by
 match n with
 | 0=>exact⟨by decide +kernel,by decide,by decide⟩
 | 1=>exact⟨by decide +kernel,by decide,by decide⟩
 | 2=>exact⟨by decide +kernel,by decide,by decide⟩
 | 3=>exact⟨by decide +kernel,by decide,by decide⟩
 | n+4=>exact⟨by show tD.all bu=true;decide +kernel,by show tD≠[];decide,by show tD.length≤4;decide⟩
theorem Ef {x:PN} (h:tT x) {r:Cs} (hs:jE r):toks (aR x++r)=(wordAt x.1::fZ x.2)++toks r:=by
 obtain⟨h1,h2,_⟩:=iY x.1
 unfold aR
 rw [aa2,di h1 h2 (show jE ((32::cu [44,32] x.2)++r) from jZ),ac1,dA,qQ _ _ h.ne h.sm hs]
 rfl
theorem Eg:bu 59=false:=by decide +kernel
theorem A4:∀(L:List PN),L≠[]→(∀x∈L,tT x)→toks (cu [59,32] (L.map aR))=glue [59] ((L.map gY).map fun x=>wordAt x.n::x.ps)
 | [],h,_=>absurd rfl h
 | [x],_,h=>by
  have z:=Ef (h x (by simp)) (r:=[]) trivial
  rw [aa8] at z
  show toks (aR x)=wordAt x.1::fZ x.2
  rw [z]
  show _++[]=_
  simp
 | x::y::t,_,h=>by
  have ih:=A4 (y::t) (by simp) fun z hz=>h z (aan _ hz)
  show toks (aR x++([59,32]++cu [59,32] ((y::t).map aR)))=(wordAt x.1::fZ x.2)++[59]::glue [59] (((y::t).map gY).map fun x=>wordAt x.n::x.ps)
  rw [Ef (h x (by simp)) (show jE ([59,32]++cu [59,32] ((y::t).map aR)) from Eg),← ih]
  show _++toks (59::32::cu [59,32] ((y::t).map aR))=_
  rw [m8 Eg (by decide),dA]
def qR (title:Cs) (L:List PN):Cs:=fV++(32::(title++(58::32::cu [59,32] (L.map aR))))
theorem A5:bu 58=false:=by decide +kernel
theorem Fl {title:Cs} {L:List PN} (ht:aQ title=true) (h0:L≠[]) (h:∀x∈L,tT x):toks (qR title L)=gW title (L.map gY):=by
 unfold qR gW
 rw [di (by decide +kernel) (by decide) (show jE (32::(title++(58::32::cu [59,32] (L.map aR)))) from jZ),dA,di (fX ht) (tS ht) (show jE (58::32::cu [59,32] (L.map aR)) from A5),m8 A5 (by decide),dA,A4 L h0 h]
theorem pU {f:Nat→Bool} {sep:Cs} (hs:sep.all f=true):∀(ls:List Cs),(∀l∈ls,l.all f=true)→(cu sep ls).all f=true
 | [],_=>rfl
 | [a],h=>h a (by simp)
 | a::b::r,h=>by
  have ih:=pU hs (b::r) fun l hl=>h l (aan _ hl)
  show(a++(sep++cu sep (b::r))).all f=true
  rw [abw,abw,h a (by simp),hs,ih]
  rfl
theorem NM {f:Nat→Bool} (Gk:∀c,bu c=true→f c=true) (CD:f 32=true) (NN:f 44=true) {x:PN} (h:tT x):(aR x).all f=true:=by
 have up:∀p:Cs,p.all bu=true→p.all f=true:=fun p h=>by
  rw [abn] at h ⊢
  exact fun x hx=>Gk x (h x hx)
 unfold aR
 rw [abw,up _ (iY x.1).1,abV,CD,pU (by simp [CD,NN]) _ fun l hl=>up l (fX (h.sm l hl))]
 rfl
theorem HY {f:Nat→Bool} (Gk:∀c,bu c=true→f c=true) (CD:f 32=true) (NN:f 44=true) (UI:f 58=true) (UJ:f 59=true) {title:Cs} {L:List PN} (ht:aQ title=true) (h:∀x∈L,tT x):(qR title L).all f=true:=by
 have up:∀p:Cs,p.all bu=true→p.all f=true:=fun p h=>by
  rw [abn] at h ⊢
  exact fun x hx=>Gk x (h x hx)
 unfold qR
 rw [abw,up fV (by decide +kernel),abV,CD,abw,up _ (fX ht),abV,UI,abV,CD,pU (by simp [CD,UJ]) _ fun l hl=>by
  obtain⟨x,hx,rfl⟩:=aah.mp hl
  exact NM Gk CD NN (h x hx)]
 rfl
theorem KG {p:Cs} (h:p.all (fun c=>!(c == 10))=true):10∉p:=fun z=>by
 rw [abn] at h
 exact absurd (h 10 z) (by decide)
theorem KH (c:Nat) (h:bu c=true):(!(c == 10))=true:=by
 cases e:(c == 10) with
 | false=>rfl
 | true =>
  rw [beq_iff_eq.mp e] at h
  exact absurd h (by decide +kernel)
theorem Fm (title:Cs) (L:List PN):told (qR title L)=true:=rfl
def KI:Nat→List PN→Prop
 | _,[]=>True
 | m,x::r=>m≤x.1∧x.1<5∧KI (x.1+1) r
theorem HZ:∀(m:Nat) (L:List PN),KI m L→Nx m (L.map gY)
 | _,[],_=>trivial
 | m,x::r,h=>⟨h.1,h.2.1,HZ (x.1+1) r h.2.2⟩
theorem NO {title:Cs} {L:List PN} (ht:aQ title=true) (h0:L≠[]) (h:∀x∈L,tT x) (hi:KI 0 L) (hd:∃x∈L,x.1=0∨x.1=1):D5 title (L.map gY):=by
 refine⟨ht,by simpa using h0,HZ 0 L hi,fun x hx=>?_,?_,fun x hx=>?_⟩
 ·obtain⟨y,hy,rfl⟩:=aah.mp hx
  exact .fs (h y hy).n (tR _ (h y hy).ne (h y hy).sm)
 ·obtain⟨x,hx,e⟩:=hd
  exact⟨gY x,aah.mpr ⟨x,hx,rfl⟩,e⟩
 ·obtain⟨y,hy,rfl⟩:=aah.mp hx
  exact A3 _ (h y hy).sm
def dR (n:Nat) (L:List PN):List Cs:=match L.find? fun x=>x.1 == n with
 | some x=>x.2
 | none=>[]
theorem yd (n:Nat) (L:List PN):rC n (L.map gY)=(dR n L).map bare:=by
 unfold rC jF dR
 rw [ae1]
 show(match Option.map gY (L.find? fun x=>x.1 == n) with|some ⟨_,_,.fs l⟩=>l|_=>[])=_
 cases L.find? fun x=>x.1 == n with
 | none=>rfl
 | some x=>rfl
theorem Ia {n:Nat} {L:List PN} {z:Cs} (h:z∈dR n L):∃x∈L,z∈x.2:=by
 unfold dR at h
 cases e:L.find? fun x=>x.1 == n with
 | none=>rw [e] at h;cases h
 | some x=>rw [e] at h;exact⟨x,acf e,h⟩
theorem KJ {L:List PN}:Fd (L.map gY)=[]:=by
 unfold Fd jF
 rw [ae1]
 generalize L.find? ((fun x=>x.n == 2) ∘ gY)=o
 cases o with
 | none=>rfl
 | some x=>rfl
theorem KL {L:List PN}:Fe (L.map gY)=[]:=by
 unfold Fe jF
 rw [ae1]
 generalize L.find? ((fun x=>x.n == 4) ∘ gY)=o
 cases o with
 | none=>rfl
 | some x=>rfl
theorem fI (title:Cs) (L:List PN):fm title (L.map gY)=⟨title,(dR 0 L).map bare,(dR 1 L).map bare,[],(dR 3 L).map bare,[]⟩:=by
 unfold fm
 rw [yd,yd,yd,KJ,KL]
theorem pV (ns:List Cs):(ns.map bare).flatMap (·.as)=[]:=by
 induction ns with
 | nil=>rfl
 | cons a r ih =>
  rw [aaZ,List.flatMap_cons,ih]
  rfl
def Mh (K:aaa):Sp:=fun vs H Q _=>∃(c:Int) (l:aaD) (ms:List Int),vs=[.int c,.ref l]∧aB K H l (ms.map V.int)∧ms.length≤10∧(∀m∈ms,0<m∧m≤1000) ∧
 ∀(p:aaD) (ds:List Int) (H':Hp),ag H H'→H p=none→H' p=some (.lst (ds.map V.int))→Paired (fun m d:Int=>0≤d∧d<m) ms ds→Q (.ref p) H'
abbrev c6:Cs:=[97,98,99,100,101,102,103,104]
def nameOf (a b k:Nat):Cs:=aam a 109++([c6.getD k 0]++aam b 109)
def Ib:Sp:=fun vs H Q _=>∃(st:Int) (k:Nat),vs=[.int st,.int k]∧0≤st∧k<8∧∀a b:Nat,a=(st / 5 % (1+st % 5)).toNat→b=(1+st % 5 - 1 - st / 5 % (1+st % 5)).toNat→a+b≤4→Q (tx (nameOf a b k)) H
theorem CO {a b k:Nat} (hk:k<8) (hab:a+b≤4):aQ (nameOf a b k)=true:=by
 have all:∀k,k<8→bu (c6.getD k 0)=true∧(c6.getD k 0)∈gU.cps.toList:=by
  intro k hk
  rcases(by omega:k=0∨k=1∨k=2∨k=3∨k=4∨k=5∨k=6∨k=7) with e|e|e|e|e|e|e|e <;> subst e <;> exact⟨by decide +kernel,by decide +kernel⟩
 have rep:∀n:Nat,(aam n 109).all bu=true:=fun n=>by
  rw [abn]
  intro x hx
  rw [(acF.mp hx).2]
  decide +kernel
 unfold aQ bt nameOf
 have e1:(aam a 109++([c6.getD k 0]++aam b 109)).all bu=true:=by
  rw [abw,abw,rep,rep,abV,(all k hk).1]
  rfl
 have e2:(aam a 109++([c6.getD k 0]++aam b 109)).headD 0∈gU.cps.toList:=by
  cases a with
  | zero=>exact(all k hk).2
  | succ a =>
   show(109:Nat)∈gU.cps.toList
   decide +kernel
 rw [e1,decide_eq_true e2]
 simp only [aab,aaU,aad,aaO,Bool.and_true,abc,decide_eq_true_eq]
 omega
theorem Ic {a b j k:Nat} (hj:j<8) (hk:k<8) (h:nameOf a b j=nameOf a b k):j=k:=by
 unfold nameOf at h
 have h2:=List.append_inj_right h rfl
 have h3:c6.getD j 0=c6.getD k 0:=(aeo h2).1
 have e:c6.Nodup:=by decide
 have gd:∀i,i<8→c6.getD i 0=97+i:=by
  intro i hi
  rcases(by omega:i=0∨i=1∨i=2∨i=3∨i=4∨i=5∨i=6∨i=7) with e|e|e|e|e|e|e|e <;> subst e <;> rfl
 rw [gd j hj,gd k hk] at h3
 omega
abbrev zz:Cs:=[122,122]
theorem KN {a b k:Nat} (hk:k<8):nameOf a b k≠zz:=by
 intro h
 have hl:c6.getD k 0∈nameOf a b k:=by
  unfold nameOf
  simp
 rw [h] at hl
 have gd:c6.getD k 0=97+k:=by
  rcases(by omega:k=0∨k=1∨k=2∨k=3∨k=4∨k=5∨k=6∨k=7) with e|e|e|e|e|e|e|e <;> subst e <;> rfl
 rw [gd] at hl
 have:97+k=122:=by simpa using hl
 omega
def Ie (r:Rl) (z:Cs):Int:=((r.put.filter fun f=>decide (f.k=z)).length:Int) - ((r.take.filter fun f=>decide (f.k=z)).length:Int)
def passing (ks:List Kd):List Cs:=(ks.filter fun k=>!k.l).map (·.n)
def CP (K:aaa) (c:Cl):Sp:=fun vs H Q _=>∃(v:V) (H0:Hp) (ks:List Kd) (rs:List Rl),vs=[v]∧tw K c H0 H ks rs v∧ks.length≤10000∧∀u H',ag H H'→oe H H' u (passing ks)→Q u H'
def Mi (K:aaa) (c:Cl):Sp:=fun vs H Q _=>∃(v:V) (H0:Hp) (r:Rl) (z:Cs),vs=[v,tx z]∧gG K c H0 H r v∧r.put.length≤10000∧r.take.length≤10000∧∀H',ag H H'→Q (.int (Ie r z)) H'
def rE (H0 H:Hp) (row:List Int) (u:V):Prop:=∃a,u=.ref a∧H0 a=none∧H a=some (.lst (row.map V.int))
theorem rE.keep {H0 H H':Hp} {row:List Int} {u:V} (k:Kp H0 H H') (h:rE H0 H row u):rE H0 H' row u:=by
 obtain⟨a,e,n,h1⟩:=h
 exact⟨a,e,n,k.new _ _ n h1⟩
theorem rE.bM {H0 H1 H:Hp} {row:List Int} {u:V} (d:∀b,H1 b=none→H0 b=none) (h:rE H1 H row u):rE H0 H row u:=by
 obtain⟨a,e,n,h1⟩:=h
 exact⟨a,e,d a n,h1⟩
def Table (H0 H:Hp) (v:V) (rows:List (List Int)):Prop:=∃l vs,v=.ref l∧H0 l=none∧H l=some (.lst vs)∧Paired (rE H0 H) rows vs
def f6 (ks:List Kd) (rs:List Rl):List (List Int):=rs.map fun r=>(passing ks).map (Ie r)
def Ig (K:aaa) (c:Cl):Sp:=fun vs H Q _=>∃(v:V) (H0:Hp) (ks:List Kd) (rs:List Rl),vs=[v]∧tw K c H0 H ks rs v∧ks.length≤10000∧rs.length≤10000∧(∀r∈rs,r.put.length≤10000∧r.take.length≤10000)∧∀u H',ag H H'→Table H H' u (f6 ks rs)→Q u H'
def A6 (K:aaa):Sp:=fun vs H Q _=>∃(a:aaD) (row:List Int) (n:Int),vs=[.ref a,.int n]∧H a=some (.lst (row.map V.int))∧n=row.length∧Q (.bl true) H
theorem paired_ints:∀{l:List Int} {ys:List V},Paired (fun b y=>y=V.int b) l ys→ys=l.map V.int
 | _,_,.nil=>rfl
 | _,_,.cons r t=>by rw [r,paired_ints t];rfl
abbrev RI:=List Nat × List Nat
abbrev nI (l:List Nat):List V:=l.map fun(n:Nat)=>V.int (n:Int)
structure CQ (many:Nat) (r:RI):Prop where
 l1:r.1.length≤4
 l2:r.2.length≤4
 m1:∀n∈r.1,n<many
 m2:∀n∈r.2,n<many
structure kg (zs:List Cs) (place:Nat) (rs:List RI):Prop where
 few:zs.length≤5
 pl:place≤zs.length
 many:rs.length≤8
 nd:zs.Nodup
 sm:∀z∈zs,aQ z=true
 nz:∀z∈zs,z≠zz
 ok:∀r∈rs,CQ zs.length r
def qS (K:aaa) (H:Hp) (r:RI) (v:V):Prop:=∃t a b,v=.ref t∧b8 K H t [.ref a,.ref b]∧H a=some (.lst (nI r.1))∧H b=some (.lst (nI r.2))
theorem qS.same {K:aaa} {H H':Hp} {r:RI} {v:V} (s:ag H H') (h:qS K H r v):qS K H' r v:=by
 obtain⟨t,a,b,e,h1,h2,h3⟩:=h
 exact⟨t,a,b,e,h1.same s,s _ _ h2,s _ _ h3⟩
def Eh (K:aaa):Sp:=fun vs H Q _=>∃(s:aaD) (ns:List Int),vs=[.ref s]∧aB K H s (ns.map V.int)∧ns.length≤63 ∧
 ∀(t ln lr:aaD) (zs:List Cs) (place:Nat) (rs:List RI) (us:List V) (H':Hp),ag H H'→H' t=some (.tup [.ref ln,.int (place:Int),.ref lr])→H' ln=some (.lst (zs.map tx))→H' lr=some (.lst us)→Paired (qS K H') rs us→kg zs place rs→Q (.ref t) H'
structure Cells (H:Hp) (n:Nat) (T:Nat→aaD) (A:Nat→Nat→aaD) (R:Nat→Nat→List Nat):Prop where
 tup:∀i,i<n→H (T i)=some (.tup [.ref (A i 0),.ref (A i 1)])
 lst:∀i u,i<n→u<2→H (A i u)=some (.lst (nI (R i u)))
 inj:∀i u j v,i<n→u<2→j<n→v<2→A i u=A j v→i=j∧u=v
theorem Cells.same {H H':Hp} {n:Nat} {T:Nat→aaD} {A:Nat→Nat→aaD} {R:Nat→Nat→List Nat} (s:ag H H') (h:Cells H n T A R):Cells H' n T A R :=
 ⟨fun i hi=>s _ _ (h.tup i hi),fun i u hi hu=>s _ _ (h.lst i u hi hu),h.inj⟩
theorem Cells.snoc {H:Hp} {n:Nat} {T:Nat→aaD} {A:Nat→Nat→aaD} {R:Nat→Nat→List Nat} (h:Cells H n T A R) {H':Hp} {t a b:aaD} (s:ag H H') (na:H a=none) (nb:H b=none) (hab:a≠b) (ha:H' a=some (.lst [])) (hb:H' b=some (.lst [])) (ht:H' t=some (.tup [.ref a,.ref b])) :
  Cells H' (n+1) (fun i=>if i=n then t else T i) (fun i u=>if i=n then (if u=0 then a else b) else A i u) (fun i u=>if i=n then [] else R i u):=by
 refine⟨fun i hi=>?_,fun i u hi hu=>?_,fun i u j v hi hu hj hv e=>?_⟩
 ·by_cases e:i=n
  ·subst e
   simp only [if_true]
   exact ht
  ·simp only [if_neg e]
   exact s _ _ (h.tup i (by omega))
 ·by_cases e:i=n
  ·subst e
   simp only [if_true]
   by_cases e2:u=0
   ·rw [if_pos e2];exact ha
   ·rw [if_neg e2];exact hb
  ·simp only [if_neg e]
   exact s _ _ (h.lst i u (by omega) hu)
 ·have old:∀i u x,i<n→u<2→H x=none→A i u≠x:=fun i u x hi hu hx z=>by
   have y:=h.lst i u hi hu
   rw [z,hx] at y
   cases y
  by_cases e1:i=n <;> by_cases e2:j=n
  ·subst e1;subst e2
   simp only [if_true] at e
   refine⟨rfl,?_⟩
   by_cases z1:u=0 <;> by_cases z2:v=0
   ·rw [z1,z2]
   ·rw [if_pos z1,if_neg z2] at e;exact absurd e hab
   ·rw [if_neg z1,if_pos z2] at e;exact absurd e.symm hab
   ·omega
  ·subst e1
   simp only [if_true,if_neg e2] at e
   by_cases z1:u=0
   ·rw [if_pos z1] at e;exact absurd e.symm (old j v a (by omega) hv na)
   ·rw [if_neg z1] at e;exact absurd e.symm (old j v b (by omega) hv nb)
  ·subst e2
   simp only [if_true,if_neg e1] at e
   by_cases z1:v=0
   ·rw [if_pos z1] at e;exact absurd e (old i u a (by omega) hu na)
   ·rw [if_neg z1] at e;exact absurd e (old i u b (by omega) hu nb)
  ·simp only [if_neg e1,if_neg e2] at e
   exact h.inj i u j v (by omega) hu (by omega) hv e
theorem Cells.write {H:Hp} {n:Nat} {T:Nat→aaD} {A:Nat→Nat→aaD} {R:Nat→Nat→List Nat} (h:Cells H n T A R) {i u:Nat} (hi:i<n) (hu:u<2) (l:List Nat) :
  Cells (upd H (A i u) (.lst (nI l))) n T A (fun j v=>if j=i∧v=u then l else R j v):=by
 refine⟨fun j hj=>?_,fun j v hj hv=>?_,h.inj⟩
 ·rw [ar fun z=>by
   have y:=h.tup j hj
   rw [z,h.lst i u hi hu] at y
   cases y]
  exact h.tup j hj
 ·by_cases e:j=i∧v=u
  ·rw [e.1,e.2,ab]
   simp
  ·rw [ar fun z=>e (h.inj j v i u hj hv hi hu z)]
   simp only [if_neg e]
   exact h.lst j v hj hv
theorem oy {α β:Type} {R:α→β→Prop} {f:Nat→α} {g:Nat→β}:∀{n:Nat},(∀i,i<n→R (f i) (g i))→Paired R ((aal n).map f) ((aal n).map g)
 | 0,_=>.nil
 | n+1,h=>by
  rw [abe,aai,aai]
  exact adz (oy fun i hi=>h i (by omega)) (h n (by omega))
theorem Cells.paired {K:aaa} {H:Hp} {n:Nat} {T:Nat→aaD} {A:Nat→Nat→aaD} {R:Nat→Nat→List Nat} (h:Cells H n T A R):Paired (qS K H) ((aal n).map fun i=>(R i 0,R i 1)) ((aal n).map fun i=>V.ref (T i)) :=
 oy fun i hi=>⟨T i,A i 0,A i 1,rfl,b8.of (h.tup i hi),h.lst i 0 hi (by decide),h.lst i 1 hi (by decide)⟩
theorem KO {α β:Type} {R:α→β→Prop} {a b c:α} {ds:List β} (h:Paired R [a,b,c] ds):∃x y z,ds=[x,y,z]∧R a x∧R b y∧R c z:=by
 obtain⟨_⟩|⟨h1,h⟩:=h
 obtain⟨_⟩|⟨h2,h⟩:=h
 obtain⟨_⟩|⟨h3,h⟩:=h
 obtain⟨_⟩|_:=h
 exact⟨_,_,_,rfl,h1,h2,h3⟩
theorem KP {α β:Type} {R:α→β→Prop} {a b c d e:α} {ds:List β} (h:Paired R [a,b,c,d,e] ds):∃x y z p q,ds=[x,y,z,p,q]∧R a x∧R b y∧R c z∧R d p∧R e q:=by
 obtain⟨_⟩|⟨h1,h⟩:=h
 obtain⟨_⟩|⟨h2,h⟩:=h
 obtain⟨_⟩|⟨h3,h⟩:=h
 obtain⟨_⟩|⟨h4,h⟩:=h
 obtain⟨_⟩|⟨h5,h⟩:=h
 obtain⟨_⟩|_:=h
 exact⟨_,_,_,_,_,rfl,h1,h2,h3,h4,h5⟩
theorem KQ {v:V} {k:Int} (h:0≤k):gC [v] none (some k)=if k=0 then [] else [v]:=by
 by_cases e:k=0
 ·subst e
  rfl
 ·rw [if_neg e]
  obtain⟨j,rfl⟩:∃j:Nat,k=(j:Int):=⟨k.toNat,by omega⟩
  have z:1≤j:=by omega
  unfold gC
  rw [show([v]:List V).length=1 from rfl,HT.xF,show HT.dm 1 0 none=0 from rfl,Nat.min_eq_right z]
  rfl
theorem Cells.other {H:Hp} {n:Nat} {T:Nat→aaD} {A:Nat→Nat→aaD} {R:Nat→Nat→List Nat} (h:Cells H n T A R) {D:aaD} {xs:List V} (hD:H D=some (.lst xs)) (ne:∀i u,i<n→u<2→A i u≠D) (o:HO):Cells (upd H D o) n T A R:=by
 refine⟨fun i hi=>?_,fun i u hi hu=>?_,h.inj⟩
 ·rw [ar fun z=>by
   have y:=h.tup i hi
   rw [z,hD] at y
   cases y]
  exact h.tup i hi
 ·rw [ar (ne i u hi hu)]
  exact h.lst i u hi hu
theorem Fn {n:Nat} {T:Nat→aaD} {t:aaD}:(aal (n+1)).map (fun k=>V.ref (if k=n then t else T k))=(aal n).map (fun k=>V.ref (T k))++[V.ref t]:=by
 rw [abe,aai]
 congr 1
 ·refine ac8 fun k hk=>?_
  rw [if_neg (aaW (aaz.mp hk))]
 ·show [V.ref (if n=n then t else T n)]=_
  rw [if_pos rfl]
theorem dw {n:Nat} {T:Nat→aaD} {j:Int} (h0:0≤j) (h1:j<n):qG ((aal n).map (fun k=>V.ref (T k))) j=some (.ref (T j.toNat)):=by
 have z:=bf (xs:=(aal n).map (fun k=>V.ref (T k))) (j:=j.toNat) (v:=.ref (T j.toNat)) (by
  rw [aaq,ac9 (by omega)]
  rfl)
 rw [show((j.toNat:Nat):Int)=j by omega] at z
 exact z
theorem NP {a b:aaD} {A:Nat→aaD} {j:Int} (e0:A 0=a) (e1:A 1=b) (h0:0≤j) (h1:j<2):qG [V.ref a,V.ref b] j=some (.ref (A j.toNat)):=by
 rcases(by omega:j=0∨j=1) with e|e <;> subst e
 ·show some (V.ref a)=some (V.ref (A 0))
  rw [e0]
 ·show some (V.ref b)=some (V.ref (A 1))
  rw [e1]
end Bk
namespace Bk
theorem Fo {α:Type} {l:List α} (h:l.Nodup):l.reverse.Nodup:=List.pairwise_reverse.mpr (afp (fun h=>abB h) h)
end Bk
namespace Bk
open PySem L2 eJ
def nm (zs:List Cs) (l:List Nat):List Cs:=l.map fun n=>zs.getD n []
def aU (zs:List Cs) (i:Nat) (r:RI):List PN :=
 if r.1=[] then [(1,[(zs++[zz]).getD 0 []])]++(if r.2=[] then [] else [(3,[zz])])
 else ([(0,nm zs r.1)]++(if i % 2=1 then [(1,[zs.getD (zs.length - 1) []])] else []))++(if r.2=[] then [] else [(3,nm zs r.2)])
abbrev cN (i:Nat):Cs:=[114,48+i]
def tU (zs:List Cs) (i:Nat) (r:RI):Cs:=qR (cN i) (aU zs i r)
abbrev kdOf (z:Cs):Kd:=⟨z,0,false⟩
abbrev Qs:Kd:=⟨zz,0,true⟩
def nO (zs:List Cs) (place:Nat):List Kd:=(zs.take place).map kdOf++[Qs]++(zs.drop place).map kdOf
def dt (zs:List Cs) (rs:List RI) (n:Nat):List Cs:=(aal n).map fun i=>tU zs i (rs.getD i ([],[]))
def cI (zs:List Cs) (place:Nat) (rs:List RI):List Cs:=(nO zs place).map bK++dt zs rs rs.length
def A7 (K:aaa):Sp:=fun vs H Q _=>∃(ln lr:aaD) (zs:List Cs) (place:Nat) (rs:List RI) (us:List V),vs=[.ref ln,.int (place:Int),.ref lr]∧H ln=some (.lst (zs.map tx))∧H lr=some (.lst us)∧Paired (qS K H) rs us∧kg zs place rs ∧
 ∀H',ag H H'→Q (tx (cE (cI zs place rs))) H'
theorem tV (l:List Cs):l.map tx=(l.map S).map V.str:=by rw [abf];rfl
theorem me {s:Str} {n:Nat} {ns:List Cs} (h:s=S (wordAt n++[32])):s++S (cu [44,32] ns)=S (aR (n,ns)):=by
 rw [h,fW]
 unfold aR
 rw [aa2]
 rfl
theorem Ih {xs:List V} {k:Nat} (h:k≤xs.length):gC xs none (some (k:Int))=xs.take k:=by
 unfold gC
 rw [HT.xF,Nat.min_eq_left h]
 rfl
theorem br {c:Prop} [Decidable c] {A:Prop} {Rest:Hp→Prop} {H0:Hp} (NQ:Hp→Prop) (hB:c→(∀H',NQ H'→Rest H')→A) (hC:¬ c→NQ H0) (hR:∀H',NQ H'→Rest H'):if c then A else Rest H0:=by
 by_cases h:c
 ·rw [if_pos h];exact hB h hR
 ·rw [if_neg h];exact hR _ (hC h)
theorem UK {c:Nat} (h:c<8):(aac (toString (c:Int)))=S [48+c]∧(c:Int).natAbs.log2<1920:=by
 rcases(by omega:c=0∨c=1∨c=2∨c=3∨c=4∨c=5∨c=6∨c=7) with e|e|e|e|e|e|e|e <;> subst e <;> exact⟨by decide +kernel,by decide +kernel⟩
theorem Ii {zs:List Cs} {l:List Nat} (hz:∀z∈zs,aQ z=true) (hl:∀n∈l,n<zs.length):∀x∈nm zs l,aQ x=true:=by
 intro x hx
 obtain⟨n,hn,rfl⟩:=aah.mp hx
 have h:=hl n hn
 rw [Gd9,Ge9 h]
 exact hz _ (aas h)
theorem NS {x:PN} {B:Nat} (h1:x.2.length≤4) (h2:∀z∈x.2,z.length≤12):(aR x).length≤61:=by
 unfold aR
 have z:=(iY x.1).2.2
 have y:=kc [44,32] x.2 12 h2
 rw [aab,aad]
 simp only [aad,aaO] at y
 omega
theorem tW:aQ zz=true:=by decide +kernel
structure iZ (L:List PN):Prop where
 few:L.length≤3
 each:∀x∈L,tT x∧x.2.length≤4
theorem qT {zs:List Cs} (hz:∀z∈zs,aQ z=true):aQ ((zs++[zz]).getD 0 [])=true:=by
 cases zs with
 | nil=>exact tW
 | cons a r=>exact hz a (by simp)
theorem tX {zs:List Cs} (hz:∀z∈zs,aQ z=true) (h:0<zs.length):aQ (zs.getD (zs.length - 1) [])=true:=by
 rw [Gd9,Ge9 (by omega)]
 exact hz _ (aas _)
theorem iC {zs:List Cs} {i:Nat} {r:RI} (hz:∀z∈zs,aQ z=true) (ok:CQ zs.length r):iZ (aU zs i r):=by
 have one:∀(n:Nat) (z:Cs),n=0∨n=1∨n=3→aQ z=true→tT (n,[z])∧((n,[z]):PN).2.length≤4:=fun n z h1 h2=>⟨⟨h1,List.cons_ne_nil _ _,fun x hx=>by rw [aaw.mp hx];exact h2⟩,by show 1≤4;decide⟩
 have many:∀(n:Nat) (l:List Nat),n=0∨n=1∨n=3→l≠[]→l.length≤4→(∀m∈l,m<zs.length)→tT (n,nm zs l)∧((n,nm zs l):PN).2.length≤4:=fun n l h1 h2 h3 h4=>⟨⟨h1,fun e=>h2 (adS.mp e),Ii hz h4⟩,by show(nm zs l).length≤4;unfold nm;rw [Lm9];exact h3⟩
 have put3:∀(M:List PN) (x:PN) (c:Prop) [Decidable c],M.length≤2→(∀y∈M,tT y∧y.2.length≤4)→(¬ c→tT x∧x.2.length≤4)→iZ (M++(if c then [] else [x])):=fun M x c _ hM hy hx=>by
  by_cases e:c
  ·rw [if_pos e,aa8]
   exact⟨by omega,hy⟩
  ·rw [if_neg e]
   refine⟨by rw [aab,abh];omega,fun y h=>?_⟩
   rcases aaS.mp h with h|h
   ·exact hy y h
   ·rw [aaw.mp h]
    exact hx e
 unfold aU
 by_cases e1:r.1=[]
 ·rw [if_pos e1]
  refine put3 _ _ _ (by show 1≤2;decide) (fun y h=>?_) (fun _=>one 3 zz (by decide) tW)
  rw [aaw.mp h]
  exact one 1 _ (by decide) (qT hz)
 ·rw [if_neg e1]
  have h0:0<zs.length:=by
   obtain⟨a,t,e⟩:=acT e1
   exact acD (aa3 _) (ok.m1 a (by rw [e];simp))
  refine put3 _ _ _ ?_ (fun y h=>?_) (fun e2=>many 3 r.2 (by decide) e2 ok.l2 ok.m2)
  ·by_cases e:i % 2=1
   ·rw [if_pos e];show 2≤2;decide
   ·rw [if_neg e];show 1≤2;decide
  ·rcases aaS.mp h with h|h
   ·rw [aaw.mp h]
    exact many 0 r.1 (by decide) e1 ok.l1 ok.m1
   ·by_cases e:i % 2=1
    ·rw [if_pos e] at h
     rw [aaw.mp h]
     exact one 1 _ (by decide) (tX hz h0)
    ·rw [if_neg e] at h
     cases h
theorem iZ.len {L:List PN} (h:iZ L):∀x∈L.map aR,x.length≤61:=by
 intro x hx
 obtain⟨y,hy,rfl⟩:=aah.mp hx
 exact NS (B:=0) (h.each y hy).2 fun z hz=>(cz ((h.each y hy).1.sm z hz)).2
theorem wW {zs:List Cs} {i:Nat} {r:RI} (hz:∀z∈zs,aQ z=true) (ok:CQ zs.length r):(tU zs i r).length≤250:=by
 have h:=iC (i:=i) hz ok
 have z:=kc [59,32] ((aU zs i r).map aR) 61 h.len
 have f:=h.few
 rw [Lm9] at z
 unfold tU qR
 simp only [aab,aad,aaO] at z ⊢
 omega
theorem Ij {zs:List Cs} {u:Str} (e:u=S zz):qG (zs.map tx++[V.str u]) 0=some (tx ((zs++[zz]).getD 0 [])):=by
 cases zs with
 | nil=>show some (V.str u)=some (tx zz);rw [e]
 | cons a r=>exact bf (xs:=(a::r).map tx++[V.str u]) (j:=0) rfl
theorem KR {l:List Nat} (h:l≠[]):(0:Int)<(((nI l).length:Nat):Int):=by
 rw [Lm9]
 have:0<l.length:=ada.mpr h
 omega
theorem NT {l:List Nat} (h:l=[]):¬ (0:Int)<(((nI l).length:Nat):Int):=by
 rw [Lm9,h]
 decide
theorem wX {l:List Nat} (h:(0:Int)<(((nI l).length:Nat):Int)):l≠[]:=fun e=>NT e h
theorem len0 {l:List Nat}:decide (V.int (((nI l).length:Nat):Int)=V.int 0)=decide (l=[]):=by
 rw [Lm9]
 cases l with
 | nil=>rfl
 | cons a r =>
  refine(decide_eq_false fun z=>?_).trans (decide_eq_false (List.cons_ne_nil a r)).symm
  injection z with z
  rw [aad] at z
  omega
theorem Mj {zs:List Cs} {l:List Nat} (hz:∀z∈zs,aQ z=true) (hl:∀n∈l,n<zs.length) (h4:l.length≤4):(((nm zs l).map S).map (·.length)).sum≤48∧((nm zs l).map S).length≤4∧(cu [44,32] (nm zs l)).length≤56:=by
 have h:=fun x hx=>(cz (Ii hz hl x hx)).2
 have z:=r6 (as:=nm zs l) (B:=12) h
 have y:=kc [44,32] (nm zs l) 12 h
 have e:(nm zs l).length=l.length:=by unfold nm;rw [Lm9]
 rw [e] at z y
 simp only [aad,aaO] at y
 rw [Lm9,e]
 omega
theorem Ik {L:List PN} (h:iZ L):(((L.map aR).map S).map (·.length)).sum≤183∧((L.map aR).map S).length≤3∧(cu [59,32] (L.map aR)).length≤189:=by
 have z:=r6 (as:=L.map aR) (B:=61) h.len
 have y:=kc [59,32] (L.map aR) 61 h.len
 have f:=h.few
 rw [Lm9] at z y
 simp only [aad,aaO] at y
 rw [Lm9,Lm9]
 omega
theorem Ei {i:Nat} (hi:i<8) (L:List PN) {a b d e:Str} (ea:a=S (fV++[32,114])) (eb:b=S [48+i]) (ed:d=S [58,32]) (ee:e=S (cu [59,32] (L.map aR))):((a++b)++d)++e=S (qR (cN i) L):=by
 rw [ea,eb,ed,ee,fW,fW,fW]
 rfl
theorem Il {i:Nat}:decide (V.int ((i:Int) % 2)=V.int 1)=decide (i % 2=1):=by
 by_cases h:i % 2=1
 ·rw [decide_eq_true h]
  exact decide_eq_true (congrArg V.int (by omega))
 ·rw [decide_eq_false h]
  refine decide_eq_false fun z=>h ?_
  injection z with z
  omega
theorem CS {zs:List Cs} {place:Nat} {rs:List RI} (T:kg zs place rs):∀k∈nO zs place,NC k:=by
 intro k hk
 unfold nO at hk
 rcases aaS.mp hk with hk|hk
 ·rcases aaS.mp hk with hk|hk
  ·obtain⟨z,hz,rfl⟩:=aah.mp hk
   exact⟨T.sm z (acU hz),aa3 _⟩
  ·rw [aaw.mp hk]
   exact⟨tW,aa3 _⟩
 ·obtain⟨z,hz,rfl⟩:=aah.mp hk
  exact⟨T.sm z (ach hz),aa3 _⟩
theorem A8 {zs:List Cs} {place:Nat} {rs:List RI} (T:kg zs place rs):∀x∈cI zs place rs,x.length≤250:=by
 intro x hx
 unfold cI at hx
 rcases aaS.mp hx with hx|hx
 ·obtain⟨k,hk,rfl⟩:=aah.mp hx
  have:=x6 (cz (CS T k hk).1).2
  omega
 ·unfold dt at hx
  obtain⟨i,hi,rfl⟩:=aah.mp hx
  have hi:=aaz.mp hi
  refine wW T.sm (T.ok _ ?_)
  rw [Gd9,Ge9 hi]
  exact aas hi
theorem Im {zs:List Cs} {l:List Nat} {j:Nat} {y:V} {b:Cs} (hy:(nI l)[j]?=some y) (hb:(nm zs l)[j]?=some b):∃n∈l,y=V.int (n:Int)∧b=zs.getD n []:=by
 unfold nm at hb
 rw [aaq] at hy hb
 cases h:l[j]? with
 | none=>rw [h] at hy;cases hy
 | some n =>
  rw [h] at hy hb
  exact⟨n,abr h,(aaR hy).symm,(aaR hb).symm⟩
def gD (many:Nat) (r:RI):List Int:=if r.1=[] then aam many 0 else (aal many).map fun k=>(r.2.count k:Int) - (r.1.count k:Int)
def many (k:Cs) (fs:List Fc):Nat:=(fs.filter fun f=>decide (f.k=k)).length
theorem Io (r:Rl) (z:Cs):Ie r z=(many z r.put:Int) - (many z r.take:Int):=rfl
abbrev rowAt (rs:List (List Nat × List Nat)) (i:Nat):List Nat × List Nat:=rs.getD i ([],[])
abbrev A9 (zs:List Cs) (rs:List (List Nat × List Nat)) (i:Nat):List Pr:=(aU zs i (rowAt rs i)).map gY
def vi (zs:List Cs) (place:Nat) (rs:List (List Nat × List Nat)):List (Cs × It):=(nO zs place).map (fun k=>(bK k,It.kind k))++(aal rs.length).map fun i=>(tU zs i (rowAt rs i),It.rule (cN i) (A9 zs rs i))
def Ej (zs:List Cs) (rs:List (List Nat × List Nat)):List Rl:=(aal rs.length).map fun i=>fm (cN i) (A9 zs rs i)
theorem nj:∀ks:List Kd,jL (ks.map It.kind)=ks∧jM (ks.map It.kind)=[]
 | []=>⟨rfl,rfl⟩
 | k::r=>by
  have ih:=nj r
  exact⟨by show k::jL (r.map It.kind)=k::r;rw [ih.1],ih.2⟩
theorem nq {A:Type} (t:A→Cs) (p:A→List Pr):∀xs:List A,jL (xs.map fun x=>It.rule (t x) (p x))=[]∧jM (xs.map fun x=>It.rule (t x) (p x))=xs.map fun x=>fm (t x) (p x)
 | []=>⟨rfl,rfl⟩
 | x::r=>by
  have ih:=nq t p r
  exact⟨ih.1,by show fm (t x) (p x)::jM (r.map _)=_;rw [ih.2];rfl⟩
theorem ye (zs:List Cs) (place:Nat) (rs:List (List Nat × List Nat)):jL ((vi zs place rs).map (·.2))=nO zs place∧jM ((vi zs place rs).map (·.2))=Ej zs rs:=by
 have e:(vi zs place rs).map (·.2)=(nO zs place).map It.kind++(aal rs.length).map fun i=>It.rule (cN i) (A9 zs rs i):=by
  unfold vi
  rw [aai,abf,abf]
  rfl
 rw [e,j8,j9,(nj _).1,(nj _).2,(nq cN (A9 zs rs) _).1,(nq cN (A9 zs rs) _).2,aa8]
 exact⟨rfl,rfl⟩
theorem Ek (zs:List Cs) (place:Nat) (rs:List (List Nat × List Nat)):(vi zs place rs).map (·.1)=cI zs place rs:=by
 unfold vi cI dt
 rw [aai,abf,abf]
 rfl
theorem Ba (zs:List Cs) (i:Nat) (r:List Nat × List Nat):aU zs i r≠[]:=by
 unfold aU
 split
 ·exact fun h=>by cases h
 ·exact fun h=>by cases h
theorem Fp (zs:List Cs) (i:Nat) (r:List Nat × List Nat):KI 0 (aU zs i r):=by
 unfold aU
 by_cases h1:r.1=[]
 ·rw [if_pos h1]
  by_cases h2:r.2=[]
  ·rw [if_pos h2];exact⟨aaI rfl,aaI rfl,trivial⟩
  ·rw [if_neg h2];exact⟨aaI rfl,aaI rfl,aaI rfl,aaI rfl,trivial⟩
 ·rw [if_neg h1]
  by_cases h2:r.2=[] <;> by_cases h3:i % 2=1
  ·rw [if_pos h2,if_pos h3];exact⟨aaI rfl,aaI rfl,aaI rfl,aaI rfl,trivial⟩
  ·rw [if_pos h2,if_neg h3];exact⟨aaI rfl,aaI rfl,trivial⟩
  ·rw [if_neg h2,if_pos h3];exact⟨aaI rfl,aaI rfl,aaI rfl,aaI rfl,aaI rfl,aaI rfl,trivial⟩
  ·rw [if_neg h2,if_neg h3];exact⟨aaI rfl,aaI rfl,aaI rfl,aaI rfl,trivial⟩
theorem CT (zs:List Cs) (i:Nat) (r:List Nat × List Nat):∃x∈aU zs i r,x.1=0∨x.1=1:=by
 unfold aU
 by_cases h1:r.1=[]
 ·rw [if_pos h1];exact⟨(1,[(zs++[zz]).getD 0 []]),by simp,.inr rfl⟩
 ·rw [if_neg h1];exact⟨(0,nm zs r.1),by simp,.inl rfl⟩
theorem qU {i:Nat} (h:i<8):aQ (cN i)=true:=by
 rcases(by omega:i=0∨i=1∨i=2∨i=3∨i=4∨i=5∨i=6∨i=7) with e|e|e|e|e|e|e|e <;> subst e <;> decide +kernel
theorem si (zs:List Cs) (i:Nat) (r:List Nat × List Nat):dR 0 (aU zs i r)=nm zs r.1:=by
 unfold aU
 by_cases h1:r.1=[]
 ·rw [if_pos h1,h1]
  by_cases h2:r.2=[]
  ·rw [if_pos h2];rfl
  ·rw [if_neg h2];rfl
 ·rw [if_neg h1]
  rfl
theorem Ip (zs:List Cs) (i:Nat) (r:List Nat × List Nat):dR 3 (aU zs i r)=if r.1=[] then (if r.2=[] then [] else [zz]) else nm zs r.2:=by
 unfold aU
 by_cases h1:r.1=[]
 ·rw [if_pos h1,if_pos h1]
  by_cases h2:r.2=[]
  ·rw [if_pos h2,if_pos h2];rfl
  ·rw [if_neg h2,if_neg h2];rfl
 ·rw [if_neg h1,if_neg h1]
  by_cases h2:r.2=[] <;> by_cases h3:i % 2=1
  ·rw [if_pos h2,if_pos h3,h2];rfl
  ·rw [if_pos h2,if_neg h3,h2];rfl
  ·rw [if_neg h2,if_pos h3];rfl
  ·rw [if_neg h2,if_neg h3];rfl
theorem CU {zs:List Cs} {l:List Nat} (hl:∀n∈l,n<zs.length):∀x∈nm zs l,x∈zs:=by
 intro x hx
 obtain⟨n,hn,rfl⟩:=aah.mp hx
 have h:=hl n hn
 rw [Gd9,Ge9 h]
 exact aas h
theorem Iq {zs:List Cs} {i:Nat} {r:List Nat × List Nat} (ok:CQ zs.length r):∀x∈aU zs i r,∀z∈x.2,z∈zs∨z=zz:=by
 have first:(zs++[zz]).getD 0 []∈zs∨(zs++[zz]).getD 0 []=zz:=by
  cases zs with
  | nil=>exact .inr rfl
  | cons a t=>exact .inl aaN
 intro x hx z hz
 unfold aU at hx
 by_cases h1:r.1=[]
 ·rw [if_pos h1] at hx
  rcases aaS.mp hx with hx|hx
  ·rw [aaw.mp hx] at hz
   rw [aaw.mp hz]
   exact first
  ·by_cases h2:r.2=[]
   ·rw [if_pos h2] at hx;cases hx
   ·rw [if_neg h2] at hx
    rw [aaw.mp hx] at hz
    exact .inr (aaw.mp hz)
 ·rw [if_neg h1] at hx
  have hz0:0<zs.length:=by
   obtain⟨a,t,e⟩:=acT h1
   exact acD (aa3 _) (ok.m1 a (by rw [e];simp))
  rcases aaS.mp hx with hx|hx
  ·rcases aaS.mp hx with hx|hx
   ·rw [aaw.mp hx] at hz
    exact .inl (CU ok.m1 z hz)
   ·by_cases h3:i % 2=1
    ·rw [if_pos h3] at hx
     rw [aaw.mp hx] at hz
     rw [aaw.mp hz,Gd9,Ge9 (by omega)]
     exact .inl (aas _)
    ·rw [if_neg h3] at hx;cases hx
  ·by_cases h2:r.2=[]
   ·rw [if_pos h2] at hx;cases hx
   ·rw [if_neg h2] at hx
    rw [aaw.mp hx] at hz
    exact .inl (CU ok.m2 z hz)
theorem Ir (zs:List Cs) (place:Nat):(nO zs place).map (·.n)=zs.take place++[zz]++zs.drop place:=by
 unfold nO
 rw [aai,aai,abf,abf]
 rw [show((fun x:Kd=>x.n) ∘ kdOf)=id from rfl,ac7,ac7]
 rfl
theorem El (zs:List Cs) (place:Nat):((nO zs place).filter (·.l)).map (·.n)=[zz]:=by
 have e:∀l:List Cs,(l.map kdOf).filter (·.l)=[]:=fun l=>by
  rw [List.filter_eq_nil_iff]
  intro k hk
  obtain⟨z,_,rfl⟩:=aah.mp hk
  simp
 unfold nO
 rw [abD,abD,e,e]
 rfl
theorem Em (zs:List Cs) (place:Nat):passing (nO zs place)=zs:=by
 have e:∀l:List Cs,(l.map kdOf).filter (fun k=>!k.l)=l.map kdOf:=fun l=>by
  rw [ae7]
  intro k hk
  obtain⟨z,_,rfl⟩:=aah.mp hk
  rfl
 unfold passing nO
 rw [abD,abD,e,e,aai,aai,abf,abf]
 rw [show((fun x:Kd=>x.n) ∘ kdOf)=id from rfl,ac7,ac7]
 show zs.take place++[]++zs.drop place=zs
 rw [aa8,abz]
theorem NU {zs:List Cs} {place:Nat} {z:Cs} (h:z∈zs∨z=zz):ou (nO zs place) (bare z):=by
 rcases h with h|h
 ·refine⟨kdOf z,?_,rfl,rfl⟩
  unfold nO
  rw [← abz place zs,aaS] at h
  rw [aaS,aaS]
  rcases h with h|h
  ·exact .inl (.inl (aah.mpr ⟨z,h,rfl⟩))
  ·exact .inr (aah.mpr ⟨z,h,rfl⟩)
 ·subst h
  refine⟨Qs,?_,rfl,rfl⟩
  unfold nO
  simp
theorem Fq {n:Nat} {L:List PN}:dR n L=[]∨∃x∈L,dR n L=x.2:=by
 unfold dR
 cases e:L.find? fun x=>x.1 == n with
 | none=>exact .inl rfl
 | some x=>exact .inr ⟨x,acf e,rfl⟩
theorem f7 {n:Nat} {L:List PN} (h:iZ L):(dR n L).length≤4∧∀z∈dR n L,aQ z=true:=by
 rcases Fq (n:=n) (L:=L) with e|⟨x,hx,e⟩
 ·rw [e];exact⟨by decide,fun z hz=>by cases hz⟩
 ·rw [e];exact⟨(h.each x hx).2,(h.each x hx).1.sm⟩
theorem Qt {L:List PN} (t:Cs) (h:iZ L):Kz (fm t (L.map gY)):=by
 rw [fI]
 have h0:=f7 (n:=0) h
 have h1:=f7 (n:=1) h
 refine⟨fun f hf=>?_,?_,?_⟩
 ·rcases aaS.mp hf with hf|hf
  ·obtain⟨z,hz,rfl⟩:=aah.mp hf
   exact⟨h0.2 z hz,aa3 _,fun a ha=>by cases ha⟩
  ·obtain⟨z,hz,rfl⟩:=aah.mp hf
   exact⟨h1.2 z hz,aa3 _,fun a ha=>by cases ha⟩
 ·show((dR 0 L).map bare++(dR 1 L).map bare).length≤_
  rw [aab,Lm9,Lm9]
  omega
 ·show(((dR 0 L).map bare++(dR 1 L).map bare).flatMap (·.as)).length≤_
  rw [abG,pV,pV]
  exact aa3 _
theorem KS {zs:List Cs} {place i:Nat} {r:List Nat × List Nat} (hz:∀z∈zs,aQ z=true) (OU:∀z∈zs,z≠zz) (ok:CQ zs.length r):CB (nO zs place) (fm (cN i) ((aU zs i r).map gY)):=by
 have hP:=iC (i:=i) hz ok
 have fits:∀n,∀f∈(dR n (aU zs i r)).map bare,ou (nO zs place) f:=fun n f hf=>by
  obtain⟨z,hz',rfl⟩:=aah.mp hf
  obtain⟨x,hx,Zl⟩:=Ia hz'
  exact NU (Iq ok x hx z Zl)
 have Iu:dB (fm (cN i) ((aU zs i r).map gY))=[]:=by
  rw [fI]
  show []++(((dR 3 (aU zs i r)).map bare).flatMap (·.as)++[])=[]
  rw [pV]
  rfl
 refine⟨?_,?_,?_,?_,?_,?_,?_⟩
 ·rw [fI]
  intro f hf
  rcases aaS.mp hf with hf|hf
  ·rcases aaS.mp hf with hf|hf
   ·exact fits 0 f hf
   ·exact fits 1 f hf
  ·exact fits 3 f hf
 ·rw [fI,El]
  intro f hf
  have hf:f∈(dR 0 (aU zs i r)).map bare:=hf
  rw [si] at hf
  obtain⟨z,hz',rfl⟩:=aah.mp hf
  exact fun h=>OU z (CU ok.m1 z hz') (aaw.mp h)
 ·rw [fI,El]
  intro ht f hf
  have ht:(dR 0 (aU zs i r)).map bare=[]:=ht
  have hf:f∈(dR 3 (aU zs i r)).map bare:=hf
  rw [si] at ht
  have h1:r.1=[]:=adS.mp (adS.mp ht)
  rw [Ip,if_pos h1] at hf
  obtain⟨z,hz',rfl⟩:=aah.mp hf
  by_cases h2:r.2=[]
  ·rw [if_pos h2] at hz';cases hz'
  ·rw [if_neg h2] at hz';exact hz'
 ·rw [Iu];exact fun a ha=>by cases ha
 ·rw [Iu];exact fun a ha=>by cases ha
 ·rw [Iu];exact aa3 _
 ·rw [fI]
  have h0:=f7 (n:=0) hP
  have h1:=f7 (n:=1) hP
  have h3:=f7 (n:=3) hP
  show(((dR 0 (aU zs i r)).map bare++(dR 1 (aU zs i r)).map bare)++(dR 3 (aU zs i r)).map bare).length≤_
  rw [aab,aab,Lm9,Lm9,Lm9]
  omega
theorem tY {zs:List Cs} {place:Nat} {rs:List (List Nat × List Nat)} (T:kg zs place rs) {i:Nat} (h:i<rs.length):CQ zs.length (rowAt rs i):=by
 refine T.ok _ ?_
 show rs.getD i ([],[])∈rs
 rw [Gd9,Ge9 h]
 exact aas h
theorem KU {zs:List Cs} {place:Nat} {rs:List (List Nat × List Nat)}:∀l∈cI zs place rs,told l=true:=by
 intro l hl
 unfold cI at hl
 rcases aaS.mp hl with hl|hl
 ·obtain⟨k,_,rfl⟩:=aah.mp hl
  rw [ni]
  exact CF
 ·unfold dt at hl
  obtain⟨i,_,rfl⟩:=aah.mp hl
  exact Fm _ _
theorem Iv {zs:List Cs} {place:Nat} {rs:List (List Nat × List Nat)} (T:kg zs place rs) {f:Nat→Bool} (Gk:∀c,bu c=true→f c=true) (CD:f 32=true) (NN:f 44=true) (UI:f 58=true) (UJ:f 59=true):∀l∈cI zs place rs,l.all f=true:=by
 intro l hl
 have hm:=T.many
 unfold cI at hl
 rcases aaS.mp hl with hl|hl
 ·obtain⟨k,hk,rfl⟩:=aah.mp hl
  have h:=CS T k hk
  rw [ni]
  exact Ff CD Gk h.1 h.2
 ·unfold dt at hl
  obtain⟨i,hi,rfl⟩:=aah.mp hl
  have hi:=aaz.mp hi
  exact HY Gk CD NN UI UJ (qU (by omega)) fun x hx=>((iC T.sm (tY T hi)).each x hx).1
theorem KW {zs:List Cs} {place:Nat} {rs:List (List Nat × List Nat)} (T:kg zs place rs):Mg (cI zs place rs) (vi zs place rs):=by
 have hm:=T.many
 have hf:=T.few
 have e:=ye zs place rs
 refine⟨?_,?_,?_,?_,?_,?_⟩
 ·rw [Ek]
  exact ae7.mpr KU
 ·intro x hx
  have h1:x.1∈cI zs place rs:=by rw [← Ek];exact aah.mpr ⟨x,hx,rfl⟩
  refine⟨Iv T (fun c h=>ND h) (by decide +kernel) (by decide +kernel) (by decide +kernel) (by decide +kernel) _ h1,?_⟩
  unfold vi at hx
  rcases aaS.mp hx with hx|hx
  ·obtain⟨k,hk,rfl⟩:=aah.mp hx
   have h:=CS T k hk
   refine⟨?_,h⟩
   show toks (bK k)=wH k
   rw [ni]
   exact CC h.1 h.2 (by decide) (by decide)
  ·obtain⟨i,hi,rfl⟩:=aah.mp hx
   have hi:=aaz.mp hi
   have hP:=iC (i:=i) T.sm (tY T hi)
   have ht:=qU (i:=i) (by omega)
   exact⟨Fl ht (Ba _ _ _) fun x hx=>(hP.each x hx).1,NO ht (Ba _ _ _) (fun x hx=>(hP.each x hx).1) (Fp _ _ _) (CT _ _ _),Qt _ hP⟩
 ·rw [e.1,Ir]
  have hn:=T.nd
  rw [← abz place zs] at hn
  have OU:zz∉zs:=fun h=>T.nz zz h rfl
  rw [abJ] at hn
  rw [aa2,abJ]
  refine⟨hn.1,?_,?_⟩
  ·show(zz::zs.drop place).Nodup
   rw [ack]
   exact⟨fun h=>OU (ach h),hn.2.1⟩
  ·intro a ha b hb
   rcases aaB.mp hb with hb|hb
   ·rw [hb]
    exact fun h=>OU (by rw [← h];exact acU ha)
   ·exact hn.2.2 a ha b hb
 ·rw [e.2]
  unfold Ej
  rw [abf,show((fun r:Rl=>r.title) ∘ fun i=>fm (cN i) (A9 zs rs i))=cN from rfl]
  refine List.Pairwise.map cN ?_ aca
  intro a b h h2
  have:48+a=48+b:=(aeo (aeo h2).2).1
  omega
 ·rw [e.1,e.2]
  intro r hr
  unfold Ej at hr
  obtain⟨i,hi,rfl⟩:=aah.mp hr
  exact KS T.sm T.nz (tY T (aaz.mp hi))
 ·unfold vi nO
  rw [aab,Lm9,aab,aab,Lm9,Lm9,Lm9,aax,aaF,aa9]
  show _+1+_+_<_
  omega
theorem yf {zs:List Cs} (hn:zs.Nodup) {k:Nat} (hk:k<zs.length):∀(l:List Nat),(∀n∈l,n<zs.length)→many zs[k] ((nm zs l).map bare)=l.count k
 | [],_=>rfl
 | n::l,h=>by
  have ih:=yf hn hk l fun m hm=>h m (aan _ hm)
  have hn':=h n aaN
  have e:zs.getD n []=zs[n]:=by rw [Gd9,Ge9 hn'];rfl
  unfold many at ih ⊢
  show((bare (zs.getD n [])::(nm zs l).map bare).filter fun f=>decide (f.k=zs[k])).length=_
  rw [acB,List.count_cons]
  by_cases e2:n=k
  ·subst e2
   rw [if_pos (by rw [e];exact decide_eq_true rfl),aad,ih]
   simp
  ·have ne:¬ (bare (zs.getD n [])).k=zs[k]:=by
    show ¬ zs.getD n []=zs[k]
    rw [e]
    exact fun h=>e2 ((List.getElem?_inj hn' hn).mp (by rw [Ge9 hn',Ge9 hk,h]))
   rw [if_neg (by rw [decide_eq_false ne];decide),ih]
   simp [e2]
theorem KY {zs:List Cs} (hn:zs.Nodup) (OU:∀z∈zs,z≠zz) {i:Nat} {r:List Nat × List Nat} (ok:CQ zs.length r):gD zs.length r=zs.map (Ie (fm (cN i) ((aU zs i r).map gY))):=by
 have ez:∀g:Cs→Int,zs.map g=(aal zs.length).map fun k=>g (zs.getD k []):=fun g=>by
  apply ac2
  ·simp
  ·intro k h1 h2
   simp at h1 h2
   simp [Gd9,h1]
 have hg:∀k,k<zs.length→zs.getD k []∈zs:=fun k hk=>by
  rw [Gd9,Ge9 hk]
  exact aas hk
 rw [fI,ez]
 unfold gD
 simp only [Io]
 rw [si,Ip]
 by_cases h1:r.1=[]
 ·rw [if_pos h1,if_pos h1,h1]
  have hz:∀z∈zs,many z ((if r.2=[] then ([]:List Cs) else [zz]).map bare)=0:=fun z hz=>by
   by_cases h2:r.2=[]
   ·rw [if_pos h2];rfl
   ·rw [if_neg h2]
    unfold many
    show((([bare zz]:List Fc)).filter fun f=>decide (f.k=z)).length=0
    rw [acB,if_neg (by rw [decide_eq_false (show ¬ (bare zz).k=z from fun h=>OU z hz h.symm)];decide)]
    rfl
  symm
  rw [List.eq_replicate_iff]
  refine⟨by simp,fun b hb=>?_⟩
  obtain⟨k,hk,rfl⟩:=aah.mp hb
  rw [hz _ (hg k (aaz.mp hk))]
  rfl
 ·rw [if_neg h1,if_neg h1]
  refine ac8 fun k hk=>?_
  have hk:=aaz.mp hk
  have e:zs.getD k []=zs[k]:=by rw [Gd9,Ge9 hk];rfl
  rw [e,yf hn hk _ ok.m2,yf hn hk _ ok.m1]
theorem KZ {zs:List Cs} {place:Nat} {rs:List (List Nat × List Nat)} (T:kg zs place rs):rs.map (gD zs.length)=(Ej zs rs).map fun r=>(passing (nO zs place)).map (Ie r):=by
 rw [Em]
 unfold Ej
 rw [abf]
 apply ac2
 ·simp
 ·intro i h1 h2
  simp at h1 h2
  have hr:=tY T h1
  rw [aa1,aa1,ado]
  have e:rs[i]=rowAt rs i:=by
   show _=rs.getD i ([],[])
   rw [Gd9,Ge9 h1]
   rfl
  rw [e]
  exact KY T.nd T.nz hr
def Ml (K:aaa):Sp:=fun vs H Q _=>∃(ln lr:aaD) (zs:List Cs) (rs:List RI) (us:List V),vs=[.ref ln,.ref lr]∧H ln=some (.lst (zs.map tx))∧H lr=some (.lst us)∧Paired (qS K H) rs us∧zs.length≤5∧rs.length≤8∧(∀r∈rs,r.1.length≤4∧r.2.length≤4) ∧
 ∀u H',ag H H'→Table H H' u (rs.map (gD zs.length))→Q u H'
theorem En (l:List Nat):(nI l).all eV=true:=by
 rw [abn]
 intro x hx
 obtain⟨n,_,rfl⟩:=aah.mp hx
 rfl
theorem Iw (n:Nat):(aam n [V.int 0]).flatten=(aam n (0:Int)).map V.int:=by
 induction n with
 | zero=>rfl
 | succ n ih=>rw [abl,acn,ih,abl];rfl
theorem Bb (l:List Nat) (k:Nat):(nI l).countP (fun z=>z7 z (V.int (k:Int)))=l.count k:=by
 induction l with
 | nil=>rfl
 | cons n l ih =>
  show(V.int (n:Int)::nI l).countP _=_
  rw [aev,List.count_cons,ih]
  by_cases e:n=k
  ·subst e
   simp [z7]
  ·have z:¬ ((n:Int)=(k:Int)):=by omega
   simp [z7,e,z]
end Bk
namespace L2
open PySem PySem.Spec PyProof.Rows
section
variable {g:TG} {tt:TT} {te:TE} {aG:List Nat} {σ:St} {H1:Hp} {Q:VK} {K:aaa}
theorem Iy {k:Nat} {a b D:aaD} {xs ys:List V} (n:Nat) (hx:xs.length=n) (hy:ys.length=n) (hn:n<aao) (Pv:Nat→List V→St→Hp→Prop) (h0:Pv 0 [] (kb k σ aG) (upd H1 D (.lst [])))
  (hl:∀i zs τ H,Pv i zs τ H→aB K H a xs∧aB K H b ys) (hD:∀i zs τ H,Pv i zs τ H→H D=some (.lst zs)∧zs.length≤i)
  (hs:∀i zs τ H t v u,i<n→Pv i zs τ H→xs[i]?=some v→ys[i]?=some u→H t=none→g (.ref t) τ (upd H t (.tup [v,u])) fun τ2 H2=>tt τ2 H2 fun b H3 =>
   if b=true then te τ2 H3 fun y H4=>H4 D=some (.lst zs)∧Pv (i+1) (zs++[y]) τ2 (upd H4 D (.lst (zs++[y]))) else Pv (i+1) zs τ2 H3)
  (hd:∀zs τ H,Pv n zs τ H→Q (.ref D) H):CM k g tt te aG σ Q (SA K a b) H1 D:=by
 refine⟨fun i m zs τ H=>m=n - i∧i≤n∧Pv i zs τ H,⟨n,by simp,aa3 _,h0⟩,?_⟩
 rintro i m zs τ H ⟨rfl,hi,p⟩
 obtain⟨mn,Qp⟩:=hD i zs τ H p
 obtain⟨ha,hb⟩:=hl i zs τ H p
 refine⟨mn,by omega,?_⟩
 by_cases eE:i<n
 ·refine .inr ⟨⟨xs,ys,xs[i],ys[i],ha,hb,by simp,by simp⟩,Pv (i+1),fun zs τ H' q=>⟨n - (i+1),by omega,rfl,eE,q⟩,fun x H' y=>?_⟩
  obtain⟨t,v,u,ht,rfl,rfl,h1,h2⟩:=y
  exact hs i zs τ H t v u eE p (h1 xs ha) (h2 ys hb) ht
 ·have e:i=n:=by omega
  subst e
  exact .inl ⟨⟨xs,ys,ha,hb,.inl (by omega)⟩,hd zs τ H p⟩
end
end L2
namespace Bk
open PySem L2 eJ
def dot (xs ys:List Int):Int:=((xs.zip ys).map fun p=>p.1 * p.2).sum
abbrev sm (i:Int):Prop:=-(2 ^ 64)<i∧i<2 ^ 64
def CV:Sp:=fun vs H Q _=>∃(a b:aaD) (xs ys:List Int),vs=[.ref a,.ref b]∧H a=some (.lst (xs.map V.int))∧H b=some (.lst (ys.map V.int))∧xs.length=ys.length∧xs.length≤1000∧(∀i∈xs,sm i)∧∀H',ag H H'→Q (.int (dot xs ys)) H'
abbrev NV:Str:=aac "stays"
abbrev NW:Str:=aac "never grows"
def brk (s:Str) (c:Int):Bool:=if decide (V.str s=V.str NV)=true then !decide (V.int c=V.int 0) else if decide (V.str s=V.str NW)=true then decide (0<c) else decide (c<0)
theorem Iz {xs ys:List Int} {i:Nat} (h1:i<xs.length) (h2:i<ys.length):dot (xs.take (i+1)) (ys.take (i+1))=dot (xs.take i) (ys.take i)+xs[i] * ys[i]:=by
 unfold dot
 rw [abY,abY,Ge9 h1,Ge9 h2,aeQ (by rw [aaF,aaF];omega)]
 simp
theorem NY {r:Rl} {z:Cs} (h1:r.put.length≤10000) (h2:r.take.length≤10000):sm (Ie r z):=by
 unfold Ie sm
 have a1:=abp (fun f:Fc=>decide (f.k=z)) r.put
 have a2:=abp (fun f:Fc=>decide (f.k=z)) r.take
 omega
end Bk
namespace L2
open PySem
end L2
namespace La
abbrev Row:=List Int
def dot (row nums:Row):Int:=((row.zip nums).map fun p=>p.1 * p.2).sum
def sj (a:Int) (u:Row) (b:Int) (v:Row):Row:=(u.zip v).map fun p=>a * p.1+b * p.2
def pz (k:Int) (u:Row):Row:=u.map (k * ·)
theorem sk {a b:Int} {u v:Row} {w:Nat} (hu:u.length=w) (hv:v.length=w):(sj a u b v).length=w:=by
 unfold sj
 rw [Lm9,List.length_zip,hu,hv,Nat.min_self]
theorem mf {k:Int} {u:Row}:(pz k u).length=u.length:=by unfold pz;rw [Lm9]
theorem CW {a b:Int}:∀{u v:Row} (i:Nat),u.length=v.length→(sj a u b v).getD i 0=a * u.getD i 0+b * v.getD i 0
 | [],[],i,_=>by simp [sj]
 | x::u,y::v,0,_=>by simp [sj]
 | x::u,y::v,i+1,h=>by
  have ih:=CW (a:=a) (b:=b) (u:=u) (v:=v) i (by simpa using h)
  unfold sj at ih ⊢
  rw [acG,aaZ,ab5,ab5,ab5]
  exact ih
 | [],y::v,i,h=>by simp at h
 | x::u,[],i,h=>by simp at h
theorem gZ {k:Int}:∀{u:Row} (i:Nat),(pz k u).getD i 0=k * u.getD i 0
 | [],i=>by simp [pz]
 | x::u,0=>by simp [pz]
 | x::u,i+1=>by
  have ih:=gZ (k:=k) (u:=u) i
  unfold pz at ih ⊢
  rw [aaZ,ab5,ab5]
  exact ih
theorem so {u v:Row} (hl:u.length=v.length) (h:∀i,u.getD i 0=v.getD i 0):u=v:=by
 apply ac2 hl
 intro i h1 h2
 have:=h i
 rw [Gd9,Gd9,Ge9 h1,Ge9 h2] at this
 exact this
theorem oz {a b:Int}:∀(e u v:Row),u.length=v.length→dot e (sj a u b v)=a * dot e u+b * dot e v
 | [],u,v,_=>by simp [dot]
 | x::e,[],[],_=>by simp [dot,sj]
 | x::e,y::u,z::v,h=>by
  have ih:=oz (a:=a) (b:=b) e u v (by simpa using h)
  unfold dot sj at ih ⊢
  simp only [acG,aaZ,acS]
  rw [ih]
  simp only [Int.mul_add,Int.add_mul]
  rw [← abk x a y,← abk x b z,abA x a,abA x b,abk,abk]
  omega
 | x::e,[],z::v,h=>by simp at h
 | x::e,y::u,[],h=>by simp at h
theorem gI {k:Int}:∀(e u:Row),dot e (pz k u)=k * dot e u
 | [],u=>by simp [dot]
 | x::e,[]=>by simp [dot,pz]
 | x::e,y::u=>by
  have ih:=gI (k:=k) e u
  unfold dot pz at ih ⊢
  simp only [aaZ,acG,acS]
  rw [ih,Int.mul_add,← abk x k y,abA x k,abk]
theorem bO:∀(u v:Row),dot u v=dot v u
 | [],v=>by simp [dot]
 | x::u,[]=>by simp [dot]
 | x::u,y::v=>by
  have ih:=bO u v
  unfold dot at ih ⊢
  simp only [acG,aaZ,acS]
  rw [ih,abA]
structure pW (w:Nat) (P:Row→Prop):Prop where
 zero:P (aam w 0)
 mix:∀(a b:Int) (u v:Row),u.length=w→v.length=w→P u→P v→P (sj a u b v)
 div:∀(k:Int) (u:Row),k≠0→u.length=w→P (pz k u)→P u
theorem kh (w:Nat) (E:List Row):pW w fun v=>∀e∈E,dot e v=0:=by
 refine⟨fun e _=>?_,fun a b u v hu hv h1 h2 e he=>?_,fun k u hk hu h e he=>?_⟩
 ·have:=gI (k:=0) e (aam w 0)
  have e2:pz 0 (aam w 0)=aam w 0:=by unfold pz;simp
  rw [e2] at this
  omega
 ·rw [oz e u v (by omega),h1 e he,h2 e he]
  simp
 ·have:=h e he
  rw [gI] at this
  rcases adT.mp this with h|h
  ·exact absurd h hk
  ·exact h
theorem i0 (w:Nat) (n:Row):pW w fun v=>dot v n=0:=by
 have c:=kh w [n]
 refine⟨?_,fun a b u v hu hv h1 h2=>?_,fun k u hk hu h=>?_⟩
 ·rw [bO];exact c.zero n (by simp)
 ·show dot _ n=0
  rw [bO,oz n u v (by omega),bO n u,bO n v]
  have h1:dot u n=0:=h1
  have h2:dot v n=0:=h2
  rw [h1,h2]
  simp
 ·have h:dot (La.pz k u) n=0:=h
  rw [bO,gI,bO] at h
  rcases adT.mp h with h|h
  ·exact absurd h hk
  ·exact h
def cF (row:Row):Nat:=row.foldl (fun f n=>acp f n.natAbs) 0
theorem wY:∀(row:Row) (f:Nat),row.foldl (fun f n=>acp f n.natAbs) f ∣ f∧∀n∈row,((row.foldl (fun f n=>acp f n.natAbs) f:Nat):Int) ∣ n
 | [],f=>⟨Nat.dvd_refl _,fun _ h=>by cases h⟩
 | x::row,f=>by
  obtain⟨h1,h2⟩:=wY row (acp f x.natAbs)
  refine⟨Nat.dvd_trans h1 (Nat.gcd_dvd_left _ _),fun n hn=>?_⟩
  rcases aaB.mp hn with e|hn
  ·subst e
   exact ad1.mpr (Nat.dvd_trans h1 (Nat.gcd_dvd_right _ _))
  ·exact h2 n hn
theorem iD {row:Row} {n:Int} (h:n∈row):((cF row:Nat):Int) ∣ n:=(wY row 0).2 n h
theorem wZ {row:Row} (h:cF row=0):∀n∈row,n=0:=fun n hn=>by
 have:=iD hn
 rw [h] at this
 exact Int.zero_dvd.mp this
def slim (row:Row):Row:=if cF row=0 then row else row.map fun n=>n / (cF row:Nat)
theorem f9 {row:Row}:(slim row).length=row.length:=by
 unfold slim
 split
 ·rfl
 ·rw [Lm9]
theorem yg (row:Row):∃k:Int,0<k∧row=pz k (slim row):=by
 unfold slim
 by_cases h:cF row=0
 ·rw [if_pos h]
  refine⟨1,by decide,?_⟩
  unfold pz
  simp
 ·rw [if_neg h]
  refine⟨(cF row:Nat),by omega,?_⟩
  unfold pz
  rw [abf]
  refine ac2 (by simp) fun i h1 h2=>?_
  rw [aa1]
  exact(aeY (iD (aas h1))).symm
def fp:Row→Nat
 | []=>0
 | x::r=>if x=0 then fp r+1 else 0
theorem NZ:∀{r:Row} {i:Nat},i<fp r→r.getD i 0=0
 | [],i,h=>by simp
 | x::r,i,h=>by
  unfold fp at h
  split at h
  ·rename_i hx
   cases i with
   | zero=>rw [List.getD_cons_zero];exact hx
   | succ i=>rw [ab5];exact NZ (by omega)
  ·omega
def Bc (lead:Row) (p:Nat) (row:Row):Row:=slim (sj (lead.getD p 0) row (0 - row.getD p 0) lead)
theorem Eo (u:Row):u.map (fun n=>0 - n)=pz (-1) u:=by
 unfold pz
 apply ac8
 intro n _
 omega
theorem Ep {lead row:Row} {p w:Nat} (h1:lead.length=w) (h2:row.length=w):(Bc lead p row).length=w:=by
 unfold Bc
 rw [f9,sk h2 h1]
structure Ech (w:Nat) (found:List Row):Prop where
 len:∀r∈found,r.length=w
 pos:∀r∈found,fp r<w∧0<r.getD (fp r) 0
 ord:found.Pairwise fun r s=>fp r<fp s∧r.getD (fp s) 0=0
theorem at_of {u v:Row} {k:Int} (e:u=pz k v) (i:Nat):u.getD i 0=k * v.getD i 0:=by
 rw [← gZ,← e]
section
variable {w:Nat} {found left:List Row}
end
theorem eM:∀{u v:Row} {w:Nat},u.length=w→v.length=w→dot u v=((aal w).map fun i=>u.getD i 0 * v.getD i 0).sum
 | [],[],w,hu,hv=>by
  subst hu
  rfl
 | x::u,y::v,w,hu,hv=>by
  obtain⟨w',rfl⟩:∃w',w=w'+1:=⟨u.length,by rw [← hu];rfl⟩
  have ih:=eM (u:=u) (v:=v) (w:=w') (by simpa using hu) (by simpa using hv)
  unfold dot at ih ⊢
  rw [acG,aaZ,acS,ih,aeE,aaZ,acS,abf]
  rfl
 | [],y::v,w,hu,hv=>by subst hu;simp at hv
 | x::u,[],w,hu,hv=>by subst hv;simp at hu
theorem Be {g:Nat→Int}:∀(w:Nat),(∀i,i<w→g i=0)→((aal w).map g).sum=0
 | 0,_=>rfl
 | w+1,h=>by
  rw [abe,aai,acK,Be w fun i hi=>h i (by omega)]
  simp [h w (by omega)]
theorem mh {g:Nat→Int} {a:Nat}:∀(w:Nat),a<w→(∀i,i<w→i≠a→g i=0)→((aal w).map g).sum=g a
 | 0,h,_=>by omega
 | w+1,h,hz=>by
  rw [abe,aai,acK]
  rcases aeP a w with q|q
  ·rw [mh w q fun i hi=>hz i (by omega)]
   simp [hz w (by omega) (by omega)]
  ·have e:a=w:=by omega
   subst e
   rw [Be a fun i hi=>hz i (by omega) (by omega)]
   simp
theorem oA {g:Nat→Int} {a b:Nat} (hab:a≠b):∀(w:Nat),a<w→b<w→(∀i,i<w→i≠a→i≠b→g i=0)→((aal w).map g).sum=g a+g b
 | 0,h,_,_=>by omega
 | w+1,ha,hb,hz=>by
  rw [abe,aai,acK]
  rcases aeP a w with q|q <;> rcases aeP b w with q2|q2
  ·rw [oA hab w q q2 fun i hi=>hz i (by omega)]
   simp [hz w (by omega) (by omega) (by omega)]
  ·have e:b=w:=by omega
   subst e
   rw [mh b q fun i hi h=>hz i (by omega) h (by omega)]
   simp
  ·have e:a=w:=by omega
   subst e
   rw [mh a q2 fun i hi h=>hz i (by omega) (by omega) h]
   simp [Int.add_comm]
  ·omega
def IA (R:List Row):Int:=R.foldl (fun t r=>t * r.getD (fp r) 0) 1
def jP (R:List Row) (f w:Nat):Row:=R.foldl (fun y r=>y.set (fp r) (0 - r.getD f 0 * (IA R / r.getD (fp r) 0))) ((aam w 0).set f (IA R))
section
variable {w:Nat} {R:List Row}
end
def el (s v:Row):Row:=sj (s.getD (fp s) 0) v (0 - v.getD (fp s) 0) s
def elim (S:List Row) (v:Row):Row:=S.foldl (fun v s=>el s v) v
abbrev Bd (B:Nat) (r:Row):Prop:=∀x∈r,x.natAbs≤2 ^ B
theorem Bd.at {B:Nat} {r:Row} (h:Bd B r) (i:Nat):(r.getD i 0).natAbs≤2 ^ B:=by
 rw [Gd9]
 cases e:r[i]? with
 | none=>exact aa3 _
 | some x=>exact h x (abr e)
theorem Bd.mono {B C:Nat} {r:Row} (h:Bd B r) (hc:B≤C):Bd C r:=fun x hx=>aa5 (h x hx) (abU (by decide) hc)
theorem CY {B:Nat} {u v:Row} {a b:Int} (ha:a.natAbs≤2 ^ B) (hb:b.natAbs≤2 ^ B) (hu:Bd B u) (hv:Bd B v):Bd (2 * B+1) (sj a u b v):=by
 intro x hx
 unfold sj at hx
 obtain⟨p,hp,rfl⟩:=aah.mp hx
 have h1:=hu p.1 (adi hp).1
 have h2:=hv p.2 (adi hp).2
 have e1:(a * p.1).natAbs≤2 ^ (2 * B):=by
  rw [abZ,Nat.two_mul,aep]
  exact acZ ha h1
 have e2:(b * p.2).natAbs≤2 ^ (2 * B):=by
  rw [abZ,Nat.two_mul,aep]
  exact acZ hb h2
 have e3:=Int.natAbs_add_le (a * p.1) (b * p.2)
 rw [afx]
 omega
theorem K0 {B:Nat} {u:Row} (hu:Bd B u):Bd B (slim u):=by
 unfold slim
 split
 ·exact hu
 ·intro x hx
  obtain⟨n,hn,rfl⟩:=aah.mp hx
  exact aa5 (Int.natAbs_ediv_le_natAbs _ _) (hu n hn)
theorem N1 {B:Nat} {u:Row} (hu:Bd B u):cF u≤2 ^ B:=by
 by_cases h:∃x∈u,x≠0
 ·obtain⟨x,hx,h0⟩:=h
  have hd:=iD hx
  have:=Nat.le_of_dvd (by omega) (ad1.mp hd)
  exact aa5 this (hu x hx)
 ·have:∀(l:Row) (f:Nat),(∀x∈l,x=0)→l.foldl (fun f n=>acp f n.natAbs) f=f:=by
   intro l
   induction l with
   | nil=>intro f _;rfl
   | cons a l ih =>
    intro f hl
    rw [adN,hl a aaN]
    show l.foldl _ (acp f 0)=f
    rw [ad2]
    exact ih f fun x hx=>hl x (aan _ hx)
  have e:cF u=0:=this u 0 fun x hx=>by
   rcases Int.lt_trichotomy x 0 with q|q|q
   ·exact absurd ⟨x,hx,by omega⟩ h
   ·exact q
   ·exact absurd ⟨x,hx,by omega⟩ h
  rw [e]
  exact aa3 _
theorem nu {B:Nat} {x:Int} (h:x.natAbs≤2 ^ B):(0 - x).natAbs≤2 ^ B:=by omega
theorem pX:∀(w:Nat) (l:List Nat),l.Nodup→(∀x∈l,x<w)→l.length≤w
 | 0,l,_,h=>by
  cases l with
  | nil=>exact aaf _
  | cons a l=>exact absurd (h a aaN) (by omega)
 | w+1,l,hn,h=>by
  have ih:=pX w (l.erase w) (hn.erase w) fun x hx=>by
   have h1:=h x (adF hx)
   have h2:x≠w:=fun e=>by subst e;exact(hn.not_mem_erase) hx
   omega
  have:=List.length_erase (a:=w) (l:=l)
  split at this <;> omega
theorem w4 {d:Nat}:∀(row:Row) (f:Nat),d ∣ f→(∀n∈row,(d:Int) ∣ n)→d ∣ row.foldl (fun f n=>acp f n.natAbs) f
 | [],_,h,_=>h
 | x::r,f,h,hr=>by
  rw [adN]
  refine w4 r _ (Nat.dvd_gcd h ?_) fun n hn=>hr n (aan _ hn)
  exact ad1.mp (hr x aaN)
theorem w5 {r:Row} (h:cF r≠0):cF (slim r)=1:=by
 have h1:cF r * cF (slim r) ∣ cF r:=by
  refine w4 r 0 (Nat.dvd_zero _) fun n hn=>?_
  have hm:n / ((cF r:Nat):Int)∈slim r:=by
   unfold slim
   rw [if_neg h]
   exact aah.mpr ⟨n,hn,rfl⟩
  obtain⟨c,hc⟩:=iD hm
  have e:n=((cF r:Nat):Int) * (n / ((cF r:Nat):Int)):=(aeY (iD hn)).symm
  rw [e,hc,Int.natCast_mul,← abk]
  exact⟨c,rfl⟩
 obtain⟨c,hc⟩:=h1
 rw [afj] at hc
 have e:cF (slim r) * c=1:=by
  have hp:0<cF r:=adp h
  have:cF r * (cF (slim r) * c)=cF r * 1:=by rw [aeq];exact hc.symm
  exact ac0 hp this
 exact Nat.eq_one_of_mul_eq_one_right e
end La
namespace Bk
open PySem L2 eJ
def ki (H:Hp) (r:List Int) (v:V):Prop:=∃a,v=.ref a∧H a=some (.lst (r.map V.int))
theorem ki.same {H H':Hp} {r:List Int} {v:V} (s:ag H H') (h:ki H r v):ki H' r v:=by
 obtain⟨a,e,h⟩:=h
 exact⟨a,e,s _ _ h⟩
theorem rE.row {H0 H:Hp} {r:List Int} {v:V} (h:rE H0 H r v):ki H r v:=by
 obtain⟨a,e,_,h⟩:=h
 exact⟨a,e,h⟩
theorem lg {n B C:Nat} (h:n≤2 ^ B) (hB:B+1≤C) (hC:0<C):n.log2<C:=by
 by_cases h0:n=0
 ·subst h0
  exact hC
 ·rw [Nat.log2_lt h0]
  exact acD h (Nat.pow_lt_pow_right (by decide) (by omega))
def Mm:Sp:=fun vs H Q _=>∃(a:aaD) (r:List Int),vs=[.ref a]∧H a=some (.lst (r.map V.int))∧Q (.int (La.cF r:Nat)) H
def IB (H:Hp) (Q:VK) (r:List Int):Prop:=∀(p:aaD) (H':Hp),ag H H'→H p=none→H' p=some (.lst (r.map V.int))→Q (.ref p) H'
def CZ:Sp:=fun vs H Q _=>∃(a:aaD) (r:List Int) (B:Nat),vs=[.ref a]∧H a=some (.lst (r.map V.int))∧La.Bd B r∧B≤8000∧r.length≤1000∧IB H Q (La.slim r)
def Er:Sp:=fun vs H Q _=>∃(a b:Int) (u v:aaD) (x y:List Int) (B:Nat),vs=[.int a,.ref u,.int b,.ref v]∧H u=some (.lst (x.map V.int))∧H v=some (.lst (y.map V.int))∧x.length=y.length∧x.length≤1000∧a.natAbs≤2 ^ B∧b.natAbs≤2 ^ B∧La.Bd B x∧La.Bd B y∧B≤50000∧IB H Q (La.sj a x b y)
def Mn:Sp:=fun vs H Q _=>∃(u v:aaD) (row lead:List Int) (p B:Nat),vs=[.ref u,.ref v,.int (p:Int)]∧H u=some (.lst (row.map V.int))∧H v=some (.lst (lead.map V.int))∧row.length=lead.length∧p<row.length∧row.length≤1000∧La.Bd B row∧La.Bd B lead∧B≤3000∧IB H Q (La.Bc lead p row)
end Bk
namespace La
abbrev li (L:List Row) (i:Nat):Row:=L.getD i []
abbrev bz (b:List Nat) (i:Nat):Nat:=b.getD i 0
def IC (n:Nat) (L:List Row) (x:Row):Prop:=x.length=n∧∀l∈L,dot l x=0
structure Tab (n w:Nat) (L0:List Row) (g0:Row) (L:List Row) (b:List Nat) (g:Row):Prop where
 ll:L.length=w
 ln:∀l∈L,l.length=n
 gl:g.length=n
 bl:b.length=w
 bn:∀i,i<w→bz b i<n
 dg:∀i,i<w→0<(li L i).getD (bz b i) 0
 od:∀i j,i<w→j<w→i≠j→(li L i).getD (bz b j) 0=0
 gz:∀j,j<w→g.getD (bz b j) 0=0
 sol:∀x,IC n L x↔IC n L0 x
 gr:∃p q:Int,0<p∧0<q∧∀x,IC n L0 x→p * dot g x=q * dot g0 x
 pr:∀l∈L,cF l=1
theorem dC {L:List Row} {i:Nat} (h:i<L.length):li L i∈L:=by
 show L.getD i []∈L
 rw [Gd9,Ge9 h]
 exact aas h
theorem nv {L:List Row} {l:Row} (h:l∈L):∃i,i<L.length∧l=li L i:=by
 obtain⟨i,hi,e⟩:=acA h
 refine⟨i,hi,?_⟩
 show l=L.getD i []
 rw [Gd9,Ge9 hi,← e]
 rfl
theorem iE {lead row:Row} {p:Nat} (h:row.length=lead.length):∃k:Int,0<k∧(∀i,k * (Bc lead p row).getD i 0=lead.getD p 0 * row.getD i 0 - row.getD p 0 * lead.getD i 0) ∧
  ∀x,k * dot (Bc lead p row) x=lead.getD p 0 * dot row x - row.getD p 0 * dot lead x:=by
 obtain⟨k,hk,e⟩:=yg (sj (lead.getD p 0) row (0 - row.getD p 0) lead)
 have e':sj (lead.getD p 0) row (0 - row.getD p 0) lead=pz k (Bc lead p row):=e
 refine⟨k,hk,fun i=>?_,fun x=>?_⟩
 ·have z:(sj (lead.getD p 0) row (0 - row.getD p 0) lead).getD i 0=k * (Bc lead p row).getD i 0:=by rw [e',gZ]
  rw [← z,CW i h,adf,ae8]
  omega
 ·have z:dot x (sj (lead.getD p 0) row (0 - row.getD p 0) lead)=k * dot x (Bc lead p row):=by rw [e',gI]
  rw [bO (Bc lead p row),← z,oz _ _ _ h,bO x row,bO x lead,adf,ae8]
  omega
def z9 (L:List Row) (c col:Nat):List Row:=(aal L.length).map fun i=>if i=c then li L c else Bc (li L c) col (li L i)
theorem Mo {L:List Row} {c col i:Nat} (h:i<L.length):li (z9 L c col) i=if i=c then li L c else Bc (li L c) col (li L i):=by
 show(z9 L c col).getD i []=_
 unfold z9
 rw [Gd9,aaq,ac9 h]
 rfl
theorem ID {b:List Nat} {c col i:Nat} (h:i<b.length):bz (b.set c col) i=if i=c then col else bz b i:=by
 show(b.set c col).getD i 0=_
 rw [Gd9,aee]
 by_cases e:c=i
 ·subst e
  rw [if_pos rfl,if_pos h,if_pos rfl]
  rfl
 ·rw [if_neg e,if_neg (abB e)]
  show(b[i]?).getD 0=b.getD i 0
  rw [Gd9]
theorem gcd_one {r:Row} {i:Nat} (h:(slim r).getD i 0≠0):cF (slim r)=1:=by
 refine w5 fun z=>h ?_
 have hz:=wZ z
 have e:slim r=r:=by unfold slim;rw [if_pos z]
 rw [e,Gd9]
 cases q:r[i]? with
 | none=>rfl
 | some x=>exact hz x (abr q)
theorem mi {k a:Int} (hk:0<k) (h:0<k * a):0<a:=by
 refine Int.not_le.mp fun z=>?_
 have:=Int.mul_le_mul_of_nonneg_left z (adG hk)
 rw [aaL] at this
 omega
theorem d7 {k a:Int} (hk:0<k) (h:k * a=0):a=0:=by
 rcases adT.mp h with e|e
 ·omega
 ·exact e
section
variable {n w:Nat} {L0:List Row} {g0:Row} {L:List Row} {b:List Nat} {g:Row}
theorem Tab.Gm (T:Tab n w L0 g0 L b g) {i:Nat} (h:i<w):(li L i).length=n:=T.ln _ (dC (by rw [T.ll];exact h))
theorem Tab.step (T:Tab n w L0 g0 L b g) {c col:Nat} (hc:c<w) (UL:col<n) (hp:0<(li L c).getD col 0):Tab n w L0 g0 (z9 L c col) (b.set c col) (Bc (li L c) col g):=by
 have HR:=T.Gm hc
 have hpl:(z9 L c col).length=w:=by unfold z9;rw [Lm9,aax,T.ll]
 have at_:∀i,i<w→li (z9 L c col) i=if i=c then li L c else Bc (li L c) col (li L i):=fun i hi=>Mo (by rw [T.ll];exact hi)
 have SF:∀i,i<w→bz (b.set c col) i=if i=c then col else bz b i:=fun i hi=>ID (by rw [T.bl];exact hi)
 have Xk:∀i,i<w→0<(li (z9 L c col) i).getD (bz (b.set c col) i) 0:=fun i hi=>by
  rw [at_ i hi,SF i hi]
  by_cases e:i=c
  ·rw [if_pos e,if_pos e];exact hp
  ·rw [if_neg e,if_neg e]
   obtain⟨k,hk,h1,_⟩:=iE (lead:=li L c) (row:=li L i) (p:=col) (by rw [T.Gm hi,HR])
   refine mi hk ?_
   rw [h1,T.od c i hc hi (abB e),aaL,aeR]
   exact acL hp (T.dg i hi)
 refine⟨hpl,fun l hl=>?_,Ep HR T.gl,by rw [aeK];exact T.bl,fun i hi=>?_,Xk,fun i j hi hj Nl=>?_,fun j hj=>?_,fun x=>?_,?_,fun l hl=>?_⟩
 ·obtain⟨i,hi,rfl⟩:=nv hl
  rw [hpl] at hi
  rw [at_ i hi]
  split
  ·exact HR
  ·exact Ep HR (T.Gm hi)
 ·rw [SF i hi]
  split
  ·exact UL
  ·exact T.bn i hi
 ·rw [at_ i hi,SF j hj]
  by_cases e:i=c
  ·rw [if_pos e,if_neg (fun z=>Nl (by rw [e,z]))]
   exact T.od c j hc hj (fun z=>Nl (by rw [e,z]))
  ·rw [if_neg e]
   obtain⟨k,hk,h1,_⟩:=iE (lead:=li L c) (row:=li L i) (p:=col) (by rw [T.Gm hi,HR])
   refine d7 hk ?_
   rw [h1]
   by_cases e2:j=c
   ·rw [if_pos e2,abA]
    omega
   ·rw [if_neg e2,T.od i j hi hj Nl,T.od c j hc hj (abB e2),aaL,aaL]
    rfl
 ·rw [SF j hj]
  obtain⟨k,hk,h1,_⟩:=iE (lead:=li L c) (row:=g) (p:=col) (by rw [T.gl,HR])
  refine d7 hk ?_
  rw [h1]
  by_cases e2:j=c
  ·rw [if_pos e2,abA]
   omega
  ·rw [if_neg e2,T.gz j hj,T.od c j hc hj (abB e2),aaL,aaL]
   rfl
 ·rw [← T.sol x]
  refine⟨fun⟨h1,h2⟩=>⟨h1,fun l hl=>?_⟩,fun⟨h1,h2⟩=>⟨h1,fun l hl=>?_⟩⟩
  ·obtain⟨i,hi,rfl⟩:=nv hl
   rw [T.ll] at hi
   have N2:dot (li L c) x=0:=by
    have z:=h2 _ (dC (i:=c) (by rw [hpl];exact hc))
    rw [at_ c hc,if_pos rfl] at z
    exact z
   by_cases e:i=c
   ·rw [e];exact N2
   ·have z:=h2 _ (dC (i:=i) (by rw [hpl];exact hi))
    rw [at_ i hi,if_neg e] at z
    obtain⟨k,hk,_,h3⟩:=iE (lead:=li L c) (row:=li L i) (p:=col) (by rw [T.Gm hi,HR])
    have z2:=h3 x
    rw [z,N2,aaL,aaL,aeR] at z2
    exact d7 hp z2.symm
  ·obtain⟨i,hi,rfl⟩:=nv hl
   rw [hpl] at hi
   rw [at_ i hi]
   have N2:=h2 _ (dC (i:=c) (by rw [T.ll];exact hc))
   split
   ·exact N2
   ·obtain⟨k,hk,_,h3⟩:=iE (lead:=li L c) (row:=li L i) (p:=col) (by rw [T.Gm hi,HR])
    refine d7 hk ?_
    rw [h3,h2 _ (dC (i:=i) (by rw [T.ll];exact hi)),N2,aaL,aaL]
    rfl
 ·obtain⟨p,q,h1,h2,h3⟩:=T.gr
  obtain⟨k,hk,_,h4⟩:=iE (lead:=li L c) (row:=g) (p:=col) (by rw [T.gl,HR])
  refine⟨p * k,q * (li L c).getD col 0,acL h1 hk,acL h2 hp,fun x hx=>?_⟩
  have N2:=((T.sol x).mpr hx).2 _ (dC (i:=c) (by rw [T.ll];exact hc))
  rw [abk,h4,N2,aaL,aeR,aef,h3 x hx,aef,abk]
 ·obtain⟨i,hi,rfl⟩:=nv hl
  rw [hpl] at hi
  have hd:=Xk i hi
  rw [at_ i hi] at hd ⊢
  by_cases e:i=c
  ·rw [if_pos e]
   exact T.pr _ (dC (by rw [T.ll];exact hc))
  ·rw [if_neg e] at hd ⊢
   exact gcd_one (i:=bz (b.set c col) i) (by unfold Bc at hd;omega)
end
def bS (L:List Row) (b:List Nat):Int:=(aal L.length).foldl (fun t i=>t * (li L i).getD (bz b i) 0) 1
def cv (n:Nat) (L:List Row) (b:List Nat) (f:Nat):Row:=(aal n).map fun j=>if j=f then bS L b else match (aal L.length).find? (fun i=>bz b i == j) with
 | some i=>0 - (li L i).getD f 0 * (bS L b / (li L i).getD (bz b i) 0)
 | none=>0
theorem Bf {g:Nat→Int}:∀(l:List Nat) (t:Int),(∀i∈l,0<g i)→0<t→0<l.foldl (fun t i=>t * g i) t∧t ∣ l.foldl (fun t i=>t * g i) t∧∀i∈l,g i ∣ l.foldl (fun t i=>t * g i) t
 | [],t,_,ht=>⟨ht,Int.dvd_refl t,fun i hi=>nomatch hi⟩
 | a::r,t,h,ht=>by
  obtain⟨h1,h2,h3⟩:=Bf r (t * g a) (fun i hi=>h i (aan _ hi)) (acL ht (h a aaN))
  refine⟨h1,Int.dvd_trans (Int.dvd_mul_right ..) h2,fun i hi=>?_⟩
  rcases aaB.mp hi with e|e
  ·rw [e];exact Int.dvd_trans (Int.dvd_mul_left ..) h2
  ·exact h3 i e
section
variable {n w:Nat} {L0:List Row} {g0:Row} {L:List Row} {b:List Nat} {g:Row}
theorem Tab.times (T:Tab n w L0 g0 L b g):0<bS L b∧∀i,i<w→(li L i).getD (bz b i) 0 ∣ bS L b:=by
 obtain⟨h1,_,h3⟩:=Bf (g:=fun i=>(li L i).getD (bz b i) 0) (aal L.length) 1 (fun i hi=>T.dg i (by rw [← T.ll];exact aaz.mp hi)) (by decide)
 exact⟨h1,fun i hi=>h3 i (aaz.mpr (by rw [T.ll];exact hi))⟩
theorem Tab.inj (T:Tab n w L0 g0 L b g) {i j:Nat} (hi:i<w) (hj:j<w) (e:bz b i=bz b j):i=j:=by
 refine Decidable.byContradiction fun h=>?_
 have z:=T.od i j hi hj h
 rw [← e] at z
 have:=T.dg i hi
 omega
theorem dj {f:Nat}:(cv n L b f).length=n:=by unfold cv;rw [Lm9,aax]
theorem C0 {f j:Nat} (h:j<n):(cv n L b f).getD j 0=if j=f then bS L b else match (aal L.length).find? (fun i=>bz b i == j) with
 | some i=>0 - (li L i).getD f 0 * (bS L b / (li L i).getD (bz b i) 0)
 | none=>0:=by
 unfold cv
 rw [Gd9,aaq,ac9 h]
 rfl
theorem oB {f:Nat} (h:f<n):(cv n L b f).getD f 0=bS L b:=by rw [C0 h,if_pos rfl]
theorem Tab.tZ (T:Tab n w L0 g0 L b g) {f i:Nat} (hi:i<w) (hf:bz b i≠f):(cv n L b f).getD (bz b i) 0=0 - (li L i).getD f 0 * (bS L b / (li L i).getD (bz b i) 0):=by
 rw [C0 (T.bn i hi),if_neg hf]
 cases e:(aal L.length).find? (fun k=>bz b k == bz b i) with
 | none =>
  have z:=List.find?_eq_none.mp e i (aaz.mpr (by rw [T.ll];exact hi))
  simp at z
 | some k =>
  have z:=List.find?_some e
  have hk:k<w:=by rw [← T.ll];exact aaz.mp (acf e)
  have e2:=T.inj hk hi (by simpa using z)
  rw [e2]
theorem oC {f j:Nat} (hj:j<n) (hf:j≠f) (h:∀i,i<L.length→bz b i≠j):(cv n L b f).getD j 0=0:=by
 rw [C0 hj,if_neg hf]
 cases e:(aal L.length).find? (fun k=>bz b k == j) with
 | none=>rfl
 | some k =>
  have z:=List.find?_some e
  exact absurd (by simpa using z) (h k (aaz.mp (acf e)))
theorem Tab.sq (T:Tab n w L0 g0 L b g) {f:Nat} {r:Row} (hf:f<n) (hr:r.length=n) (h:∀j,j<w→r.getD (bz b j) 0=0):dot r (cv n L b f)=r.getD f 0 * bS L b:=by
 rw [eM hr dj,mh n hf fun j hj hne=>?_]
 ·rw [oB hf]
 ·by_cases hb:∃i,i<w∧bz b i=j
  ·obtain⟨i,hi,e⟩:=hb
   rw [← e,h i hi,acx]
  ·rw [oC hj hne fun i hi e=>hb ⟨i,by rw [← T.ll];exact hi,e⟩,aaL]
theorem Tab.oE (T:Tab n w L0 g0 L b g) {f:Nat} (hf:f<n) (hn:∀i,i<w→bz b i≠f):IC n L (cv n L b f):=by
 refine⟨dj,fun l hl=>?_⟩
 obtain⟨i,hi,rfl⟩:=nv hl
 rw [T.ll] at hi
 rw [eM (T.Gm hi) dj,oA (a:=f) (b:=bz b i) (abB (hn i hi)) n hf (T.bn i hi) fun j hj h1 h2=>?_]
 ·rw [oB hf,T.tZ hi (hn i hi)]
  obtain⟨c,hc⟩:=T.times.2 i hi
  have hd:=T.dg i hi
  rw [hc,abK _ (by omega),adf,ae9]
  have z:(li L i).getD f 0 * ((li L i).getD (bz b i) 0 * c)=(li L i).getD (bz b i) 0 * ((li L i).getD f 0 * c):=aef ..
  omega
 ·by_cases hb:∃k,k<w∧bz b k=j
  ·obtain⟨k,hk,e⟩:=hb
   have Zm:i≠k:=fun z=>h2 (by rw [← e,z])
   rw [← e,T.od i k hi hk Zm,acx]
  ·rw [oC hj h1 fun k hk e=>hb ⟨k,by rw [← T.ll];exact hk,e⟩,aaL]
theorem IE {h:Nat→Int}:∀(w:Nat),(∀i,i<w→h i≤0)→((aal w).map h).sum≤0
 | 0,_=>adb 0
 | w+1,hz=>by
  have:=IE w fun i hi=>hz i (by omega)
  have:=hz w (by omega)
  rw [abe,aai,acK]
  simp only [aaZ,acv,acS,List.sum_nil]
  omega
theorem Qu {LA LB:List Row} {bA bB:List Nat} {gA gB:Row} (TA:Tab n w L0 g0 LA bA gA) (TB:Tab n w L0 g0 LB bB gB) {s t c:Nat} (hs:s<n) (Zn:0<gB.getD s 0)
  (ht:0<gA.getD t 0) (Qv:∀j,j<t→gA.getD j 0≤0) (hc:c<w) (Nu:bz bB c=t) (OO:0<(li LB c).getD s 0) (UM:∀i,i<w→0<(li LB i).getD s 0→t≤bz bB i)
  (UN:∀j,j<n→t<j→gA.getD j 0=0∨(j≠s∧∀i,i<w→bz bB i≠j)):False:=by
 have Xl:∀i,i<w→bz bB i≠s:=fun i hi e=>by
  have:=TB.gz i hi
  rw [e] at this
  omega
 have yh:=(TB.sol _).mp (TB.oE hs Xl)
 have UO:=TB.times
 have e1:dot gB (cv n LB bB s)=gB.getD s 0 * bS LB bB:=TB.sq hs TB.gl TB.gz
 obtain⟨pB,qB,a1,a2,a3⟩:=TB.gr
 obtain⟨pA,qA,c1,c2,c3⟩:=TA.gr
 have z1:=a3 _ yh
 have z2:=c3 _ yh
 have h0:0<dot g0 (cv n LB bB s):=by
  refine mi a2 ?_
  rw [← z1,e1]
  exact acL a1 (acL Zn UO.1)
 have h1:0<dot gA (cv n LB bB s):=by
  refine mi c1 ?_
  rw [z2]
  exact acL c2 h0
 rw [eM TA.gl dj] at h1
 have h2:=IE (h:=fun i=>gA.getD i 0 * (cv n LB bB s).getD i 0) n fun j hj=>?_
 ·omega
 show gA.getD j 0 * (cv n LB bB s).getD j 0≤0
 have sg:∀i,i<w→∃q:Int,0<q∧(cv n LB bB s).getD (bz bB i) 0 = - ((li LB i).getD s 0 * q):=fun i hi=>by
  obtain⟨q,hq⟩:=UO.2 i hi
  have hd:=TB.dg i hi
  refine⟨q,mi hd (by rw [← hq];exact UO.1),?_⟩
  rw [TB.tZ hi (Xl i hi),hq,abK _ (by omega)]
  omega
 rcases Nat.lt_trichotomy j t with h|h|h
 ·have hg:=Qv j h
  have hx:0≤(cv n LB bB s).getD j 0:=by
   by_cases e:j=s
   ·rw [e,oB hs];omega
   ·by_cases hb:∃i,i<w∧bz bB i=j
    ·obtain⟨i,hi,e2⟩:=hb
     obtain⟨q,hq,e3⟩:=sg i hi
     rw [← e2,e3]
     have hle:(li LB i).getD s 0≤0:=afr.mp fun z=>by
      have:=UM i hi z
      omega
     have:=ab7 hle (adG hq)
     omega
    ·rw [oC hj e fun i hi e2=>hb ⟨i,by rw [← TB.ll];exact hi,e2⟩]
     exact adb 0
  exact ab7 hg hx
 ·rw [h,← Nu]
  obtain⟨q,hq,e3⟩:=sg c hc
  rw [e3,Nu,ae9]
  have:=acL ht (acL OO hq)
  omega
 ·rcases UN j hj h with e|⟨e1,e2⟩
  ·rw [e,acx];exact adb 0
  ·rw [oC hj e1 fun i hi=>e2 i (by rw [← TB.ll];exact hi),aaL]
   exact adb 0
end
structure Tb where
 L:List Row
 b:List Nat
 g:Row
def fa (g:Row):Option Nat:=(aal g.length).find? fun i=>decide (0<g.getD i 0)
def BZ (L:List Row) (b:List Nat) (col:Nat) (f:Option Nat) (i:Nat):Option Nat:=if 0<(li L i).getD col 0∧(∀c,f=some c→bz b i<bz b c) then some i else f
instance (b:List Nat) (f:Option Nat) (i:Nat):Decidable (∀c,f=some c→bz b i<bz b c):=match f with
 | none=>isTrue fun _ h=>nomatch h
 | some c=>if h:bz b i<bz b c then isTrue fun d e=>by cases e;exact h else isFalse fun z=>h (z c rfl)
def lv (L:List Row) (b:List Nat) (col:Nat):Option Nat:=(aal L.length).foldl (BZ L b col) none
def Gn (T:Tb) (s c:Nat):Tb:=⟨z9 T.L c s,T.b.set c s,Bc (li T.L c) s T.g⟩
theorem fJ {g:Row} {s:Nat} (h:fa g=some s):s<g.length∧0<g.getD s 0∧∀j,j<s→g.getD j 0≤0:=by
 unfold fa at h
 obtain⟨h1,i,hi,e,h2⟩:=List.find?_eq_some_iff_getElem.mp h
 rw [ado] at e
 rw [aax] at hi
 subst e
 refine⟨hi,by simpa using h1,fun j hj=>?_⟩
 have z:=h2 j hj
 rw [ado] at z
 have z':¬ 0<g.getD j 0:=by simpa using z
 omega
theorem Es {g:Row} (h:fa g=none):∀j,g.getD j 0≤0:=fun j=>by
 by_cases hj:j<g.length
 ·have z:=List.find?_eq_none.mp h j (aaz.mpr hj)
  have z':¬ 0<g.getD j 0:=by simpa using z
  omega
 ·rw [Gd9,acM (by omega)]
  exact adb 0
theorem sr {L:List Row} {b:List Nat} {col:Nat}:∀(m:Nat),match (aal m).foldl (BZ L b col) none with
  | none=>∀i,i<m→(li L i).getD col 0≤0
  | some c=>c<m∧0<(li L c).getD col 0∧∀i,i<m→0<(li L i).getD col 0→bz b c≤bz b i
 | 0=>fun i hi=>absurd hi (by omega)
 | m+1=>by
  have ih:=sr (L:=L) (b:=b) (col:=col) m
  rw [abe,ab1]
  show match BZ L b col ((aal m).foldl (BZ L b col) none) m with|none=>_|some c=>_
  generalize (aal m).foldl (BZ L b col) none=f at ih
  unfold BZ
  by_cases h1:0<(li L m).getD col 0∧(∀c,f=some c→bz b m<bz b c)
  ·rw [if_pos h1]
   refine⟨by omega,h1.1,fun i hi hp=>?_⟩
   rcases(by omega:i=m∨i<m) with e|e
   ·rw [e];exact aaf _
   ·cases f with
    | none =>
     have:=ih i e
     omega
    | some c =>
     have:=ih.2.2 i e hp
     have:=h1.2 c rfl
     omega
  ·rw [if_neg h1]
   cases f with
   | none =>
    intro i hi
    rcases(by omega:i=m∨i<m) with e|e
    ·rw [e]
     exact afr.mp fun z=>h1 ⟨z,fun c hc=>nomatch hc⟩
    ·exact ih i e
   | some c =>
    refine⟨by have:=ih.1;omega,ih.2.1,fun i hi hp=>?_⟩
    rcases(by omega:i=m∨i<m) with e|e
    ·rw [e] at hp ⊢
     refine Nat.not_lt.mp fun z=>h1 ⟨hp,fun d hd=>?_⟩
     cases hd
     exact z
    ·exact ih.2.2 i e hp
theorem oF {L:List Row} {b:List Nat} {col c:Nat} (h:lv L b col=some c):c<L.length∧0<(li L c).getD col 0∧∀i,i<L.length→0<(li L i).getD col 0→bz b c≤bz b i:=by
 have z:=sr (L:=L) (b:=b) (col:=col) L.length
 unfold lv at h
 rw [h] at z
 exact z
theorem K1 {L:List Row} {b:List Nat} {col:Nat} (h:lv L b col=none):∀i,i<L.length→(li L i).getD col 0≤0:=by
 have z:=sr (L:=L) (b:=b) (col:=col) L.length
 unfold lv at h
 rw [h] at z
 exact z
def Qw (T T':Tb):Prop:=∃s c,fa T.g=some s∧lv T.L T.b s=some c∧T'=Gn T s c
abbrev oG (n w:Nat) (L0:List Row) (g0:Row) (T:Tb):Prop:=Tab n w L0 g0 T.L T.b T.g
def w6 (w:Nat) (T:Tb) (j:Nat):Prop:=∃i,i<w∧bz T.b i=j
section
variable {n w:Nat} {L0:List Row} {g0:Row}
theorem Qw.tab {T T':Tb} (h:Qw T T') (t:oG n w L0 g0 T):oG n w L0 g0 T':=by
 obtain⟨s,c,h1,h2,rfl⟩:=h
 obtain⟨a1,a2,_⟩:=fJ h1
 obtain⟨b1,b2,_⟩:=oF h2
 exact t.step (by rw [← t.ll];exact b1) (by rw [← t.gl];exact a1) b2
theorem C6 {T:Tb} {s c:Nat} (t:oG n w L0 g0 T) (hc:c<w) {j:Nat}:w6 w (Gn T s c) j↔j=s∨(w6 w T j∧j≠bz T.b c):=by
 have hb:∀i,i<w→bz (T.b.set c s) i=if i=c then s else bz T.b i:=fun i hi=>ID (by rw [t.bl];exact hi)
 constructor
 ·rintro⟨i,hi,e⟩
  have e':bz (T.b.set c s) i=j:=e
  rw [hb i hi] at e'
  by_cases z:i=c
  ·rw [if_pos z] at e';exact .inl e'.symm
  ·rw [if_neg z] at e'
   exact .inr ⟨⟨i,hi,e'⟩,fun q=>z (t.inj hi hc (by rw [e',q]))⟩
 ·rintro(e|⟨⟨i,hi,e⟩,h⟩)
  ·exact⟨c,hc,by show bz (T.b.set c s) c=j;rw [hb c hc,if_pos rfl,e]⟩
  ·refine⟨i,hi,?_⟩
   show bz (T.b.set c s) i=j
   rw [hb i hi,if_neg fun z=>h (by rw [← e,z])]
   exact e
theorem IF {f:Nat→Nat}:∀(i k:Nat),i<k→∃A,i≤A∧A<k∧∀x,i≤x→x<k→f x≤f A
 | i,0,h=>by omega
 | i,k+1,h=>by
  rcases(by omega:i=k∨i<k) with e|e
  ·exact⟨k,by omega,by omega,fun x h1 h2=>by rw [show x=k by omega];exact aaf _⟩
  ·obtain⟨A,h1,h2,h3⟩:=IF (f:=f) i k e
   by_cases z:f A≤f k
   ·refine⟨k,by omega,by omega,fun x JL N3=>?_⟩
    rcases(by omega:x=k∨x<k) with q|q
    ·rw [q];exact aaf _
    ·have:=h3 x JL q;omega
   ·refine⟨A,h1,by omega,fun x JL N3=>?_⟩
    rcases(by omega:x=k∨x<k) with q|q
    ·rw [q];omega
    ·exact h3 x JL q
theorem down {P:Nat→Prop} {i:Nat}:∀(k:Nat),i≤k→(∀x,i≤x→x<k→P (x+1)→P x)→P k→∀x,i≤x→x≤k→P x
 | 0,h,_,hk,x,h1,h2=>by rw [show x=0 by omega];exact hk
 | k+1,h,hs,hk,x,h1,h2=>by
  rcases(by omega:x=k+1∨x≤k) with e|e
  ·rw [e];exact hk
  ·exact down k (by omega) (fun y a c=>hs y a (by omega)) (hs k (by omega) (by omega) hk) x h1 e
theorem up {P:Nat→Prop} {i:Nat} (hi:P i):∀(k:Nat),(∀x,i≤x→x<k→P x→P (x+1))→∀x,i≤x→x≤k→P x
 | k,hs,0,h1,h2=>by rw [show(0:Nat)=i by omega];exact hi
 | k,hs,x+1,h1,h2=>by
  rcases(by omega:i=x+1∨i≤x) with e|e
  ·rw [← e];exact hi
  ·exact hs x e (by omega) (up hi k hs x e (by omega))
theorem N4 {S:Nat→Tb} {m:Nat} (h0:∀k,k≤m→oG n w L0 g0 (S k)) (hs:∀k,k<m→Qw (S k) (S (k+1))) {i k:Nat} (N5:i<k) (hk:k≤m):(S i).b≠(S k).b:=fun heq=>by
 have IG:∀j,w6 w (S i) j↔w6 w (S k) j:=fun j=>by unfold w6;rw [heq]
 let ent:Nat→Nat:=fun x=>(fa (S x).g).getD 0
 have he:∀x,x<m→∃c,fa (S x).g=some (ent x)∧lv (S x).L (S x).b (ent x)=some c∧S (x+1)=Gn (S x) (ent x) c:=fun x hx=>by
  obtain⟨s,c,h1,h2,h3⟩:=hs x hx
  have e:ent x=s:=by show(fa (S x).g).getD 0=s;rw [h1];rfl
  exact⟨c,by rw [e];exact h1,by rw [e];exact h2,by rw [e];exact h3⟩
 obtain⟨A,Xm,hA2,Xn⟩:=IF (f:=ent) i k N5
 obtain⟨cA,fA,lA,eA⟩:=he A (by omega)
 obtain⟨a1,a2,a3⟩:=fJ fA
 have TA:=h0 A (by omega)
 have jP:∀j,ent A<j→∀x,i≤x→x≤k→(w6 w (S x) j↔w6 w (S i) j):=fun j hj x JL N3=>by
  have dn:∀y,i≤y→y<k→w6 w (S (y+1)) j→w6 w (S y) j:=fun y Zo Zp z=>by
   obtain⟨c,f1,l1,e1⟩:=he y (by omega)
   have Ty:=h0 y (by omega)
   rw [e1,C6 Ty (by rw [← Ty.ll];exact(oF l1).1)] at z
   rcases z with z|z
   ·have:=Xn y Zo Zp;omega
   ·exact z.1
  refine⟨fun z=>?_,fun z=>?_⟩
  ·exact down (P:=fun x=>w6 w (S x) j) x JL (fun y a b'=>dn y a (by omega)) z i (aaf _) JL
  ·exact down (P:=fun x=>w6 w (S x) j) k (by omega) dn ((IG j).mp z) x JL N3
 have tA:¬ w6 w (S A) (ent A):=fun⟨q,hq,e⟩=>by
  have:=TA.gz q hq
  rw [e] at this
  omega
 obtain⟨B,Xo,Zq,Zr,Zs⟩:∃B,i≤B∧B<k∧w6 w (S B) (ent A)∧¬ w6 w (S (B+1)) (ent A):=by
  refine abq fun z=>tA ?_
  have inc:∀x,i≤x→x<k→w6 w (S x) (ent A)→w6 w (S (x+1)) (ent A):=fun x h1 h2 h3=>abq fun q=>z ⟨x,h1,h2,h3,q⟩
  have z1:w6 w (S (A+1)) (ent A):=by
   rw [eA,C6 TA (by rw [← TA.ll];exact(oF lA).1)]
   exact .inl rfl
  have z2:=up (P:=fun x=>w6 w (S x) (ent A)) (i:=A+1) z1 k (fun x h1 h2=>inc x (by omega) h2) k (by omega) (aaf _)
  exact up (P:=fun x=>w6 w (S x) (ent A)) (i:=i) ((IG _).mpr z2) A (fun x h1 h2=>inc x h1 (by omega)) A Xm (aaf _)
 obtain⟨c,f1,l1,e1⟩:=he B (by omega)
 obtain⟨b1,b2,b3⟩:=fJ f1
 obtain⟨d1,d2,d3⟩:=oF l1
 have TB:=h0 B (by omega)
 have Mp:c<w:=by rw [← TB.ll];exact d1
 have Nu:bz (S B).b c=ent A:=by
  refine abq fun z=>Zs ?_
  rw [e1,C6 TB Mp]
  exact .inr ⟨Zr,fun q=>z q.symm⟩
 refine Qu TA TB (s:=ent B) (t:=ent A) (c:=c) (by rw [← TB.gl];exact b1) b2 a2 a3 Mp Nu d2 (fun q hq hp=>?_) fun j hj eE=>?_
 ·rw [← Nu]
  exact d3 q (by rw [TB.ll];exact hq) hp
 ·by_cases z:w6 w (S A) j
  ·obtain⟨q,hq,e⟩:=z
   exact .inl (by rw [← e];exact TA.gz q hq)
  ·refine .inr ⟨fun e=>?_,fun q hq e=>z ?_⟩
   ·have:=Xn B Xo Zq
    omega
   ·exact(jP j eE A Xm (by omega)).mpr ((jP j eE B Xo (by omega)).mp ⟨q,hq,e⟩)
def code (n:Nat):List Nat→Nat
 | []=>0
 | a::r=>a+n * code n r
theorem Et {n:Nat}:∀(l:List Nat),(∀x∈l,x<n)→code n l<n ^ l.length
 | [],_=>by show 0<n ^ 0;simp
 | a::r,h=>by
  have ih:=Et r fun x hx=>h x (aan _ hx)
  have ha:=h a aaN
  show a+n * code n r<n ^ (r.length+1)
  rw [afx,afw (n ^ r.length) n]
  have:n * (code n r+1)≤n * n ^ r.length:=Nat.mul_le_mul_left n ih
  rw [Nat.mul_add,aeq] at this
  omega
theorem code_inj {n:Nat}:∀(l l2:List Nat),l.length=l2.length→(∀x∈l,x<n)→(∀x∈l2,x<n)→code n l=code n l2→l=l2
 | [],[],_,_,_,_=>rfl
 | a::r,c::s,hl,h1,h2,e=>by
  have e':a+n * code n r=c+n * code n s:=e
  have ha:=h1 a aaN
  have hc:=h2 c aaN
  have m1:=congrArg (· % n) e'
  simp only [Nat.add_mul_mod_self_left,Nat.mod_eq_of_lt ha,Nat.mod_eq_of_lt hc] at m1
  subst m1
  have e3:n * code n r=n * code n s:=by omega
  have e4:=ac0 (by omega) e3
  rw [code_inj r s (by simpa using hl) (fun x hx=>h1 x (aan _ hx)) (fun x hx=>h2 x (aan _ hx)) e4]
theorem Fs {S:Nat→Tb} {m:Nat} (h0:∀k,k≤m→oG n w L0 g0 (S k)) (hs:∀k,k<m→Qw (S k) (S (k+1))):m<n ^ w:=by
 have hb:∀k,k≤m→(S k).b.length=w∧∀x∈(S k).b,x<n:=fun k hk=>by
  have T:=h0 k hk
  refine⟨T.bl,fun x hx=>?_⟩
  obtain⟨i,hi,e⟩:=acA hx
  have z:=T.bn i (by rw [← T.bl];exact hi)
  have e2:bz (S k).b i=x:=by show(S k).b.getD i 0=x;rw [Gd9,Ge9 hi,e];rfl
  rw [e2] at z
  exact z
 have nd:((aal (m+1)).map fun k=>code n (S k).b).Nodup:=by
  refine acR.mpr ((List.pairwise_lt_range (n:=m+1)).imp_of_mem fun {i k} hi hk eE e=>?_)
  have hi':=aaz.mp hi
  have hk':=aaz.mp hk
  refine N4 h0 hs eE (by omega) (code_inj _ _ ?_ (hb i (by omega)).2 (hb k (by omega)).2 e)
  rw [(hb i (by omega)).1,(hb k (by omega)).1]
 have z:=pX (n ^ w) _ nd fun x hx=>by
  obtain⟨k,hk,rfl⟩:=aah.mp hx
  have hk':=aaz.mp hk
  have:=Et (n:=n) (S k).b (hb k (by omega)).2
  rw [(hb k (by omega)).1] at this
  exact this
 rw [Lm9,aax] at z
 omega
end
structure IH (n B:Nat) (P:Row→Prop) (Z:Nat→Prop) (I:List Nat) (R:Nat→Row):Prop where
 nd:I.Nodup
 len:∀i∈I,(R i).length=n
 bd:∀i∈I,Bd B (R i)
 p:∀i∈I,P (R i)
 z:∀i∈I,∀c,Z c→(R i).getD c 0=0
 own:∀i∈I,∃c,(R i).getD c 0≠0∧∀j∈I,j≠i→(R j).getD c 0=0
def Mq (q:Row) (c:Nat) (r:Row):Row:=sj (q.getD c 0) r (0 - r.getD c 0) q
theorem t4 {q r:Row} {c:Nat} (h:r.length=q.length) (i:Nat):(Mq q c r).getD i 0=q.getD c 0 * r.getD i 0 - r.getD c 0 * q.getD i 0:=by
 unfold Mq
 rw [CW i h,adf,ae8]
 omega
theorem Bg {q r:Row} {c:Nat} (h:r.length=q.length):(Mq q c r).getD c 0=0:=by
 rw [t4 h,abA]
 omega
theorem yi {a b:Int} (ha:a≠0) (hb:b≠0):a * b≠0:=fun h=>by
 rcases adT.mp h with e|e
 ·exact ha e
 ·exact hb e
section
variable {n:Nat} {P:Row→Prop}
theorem IH.step (C:pW n P) {B:Nat} {Z:Nat→Prop} {I:List Nat} {R:Nat→Row} (L:IH n B P Z I R) {q c:Nat} (hq:q∈I) (hc:(R q).getD c 0≠0):IH n (2 * B+1) P (fun x=>Z x∨x=c) (I.erase q) fun i=>Mq (R q) c (R i):=by
 have mem:∀{i},i∈I.erase q→i∈I∧i≠q:=fun {i} h=>⟨adF h,fun e=>by subst e;exact L.nd.not_mem_erase h⟩
 have hl:∀i∈I,(R i).length=(R q).length:=fun i hi=>by rw [L.len i hi,L.len q hq]
 refine⟨L.nd.erase q,fun i hi=>sk (L.len i (mem hi).1) (L.len q hq),fun i hi=>CY ((L.bd q hq).at c) (nu ((L.bd i (mem hi).1).at c)) (L.bd i (mem hi).1) (L.bd q hq),fun i hi=>C.mix _ _ _ _ (L.len i (mem hi).1) (L.len q hq) (L.p i (mem hi).1) (L.p q hq),fun i hi x hx=>?_,fun i hi=>?_⟩
 ·show(Mq (R q) c (R i)).getD x 0=0
  rcases hx with hx|hx
  ·rw [t4 (hl i (mem hi).1),L.z i (mem hi).1 x hx,L.z q hq x hx,aaL,aaL]
   rfl
  ·rw [hx];exact Bg (hl i (mem hi).1)
 ·obtain⟨x,h1,h2⟩:=L.own i (mem hi).1
  refine⟨x,?_,fun j hj hne=>?_⟩
  ·show(Mq (R q) c (R i)).getD x 0≠0
   rw [t4 (hl i (mem hi).1),h2 q hq (abB (mem hi).2),aaL,aeR]
   exact yi hc h1
  ·show(Mq (R q) c (R j)).getD x 0=0
   rw [t4 (hl j (mem hj).1),h2 j (mem hj).1 hne,h2 q hq (abB (mem hi).2),aaL,aaL]
   rfl
theorem IH.drop {B:Nat} {Z:Nat→Prop} {I:List Nat} {R:Nat→Row} (L:IH n B P Z I R) {q c:Nat} (hc:∀i∈I,(R i).getD c 0=0):IH n B P (fun x=>Z x∨x=c) (I.erase q) R:=by
 have mem:∀{i},i∈I.erase q→i∈I:=fun {i} h=>adF h
 refine⟨L.nd.erase q,fun i hi=>L.len i (mem hi),fun i hi=>L.bd i (mem hi),fun i hi=>L.p i (mem hi),fun i hi x hx=>?_,fun i hi=>?_⟩
 ·rcases hx with hx|hx
  ·exact L.z i (mem hi) x hx
  ·rw [hx];exact hc i (mem hi)
 ·obtain⟨x,h1,h2⟩:=L.own i (mem hi)
  exact⟨x,h1,fun j hj=>h2 j (mem hj)⟩
theorem II (B k:Nat):(2 * B+1+1) * 2 ^ k - 1=(B+1) * 2 ^ (k+1) - 1:=by
 rw [afx,show 2 * B+1+1=(B+1) * 2 by omega,afj,afw 2]
theorem N6 (B k:Nat):(B+1) * 2 ^ k - 1≤(B+1) * 2 ^ (k+1) - 1:=by
 have:(B+1) * 2 ^ k≤(B+1) * 2 ^ (k+1):=Nat.mul_le_mul_left _ (abU (by decide) (by omega))
 omega
theorem iF (C:pW n P):∀(cs:List Nat) (B:Nat) (Z:Nat→Prop) (I:List Nat) (R:Nat→Row),IH n B P Z I R→cs.length<I.length →
  ∃r,r.length=n∧Bd ((B+1) * 2 ^ cs.length - 1) r∧P r∧(∀c,Z c∨c∈cs→r.getD c 0=0)∧∃c,r.getD c 0≠0
 | [],B,Z,I,R,L,h=>by
  obtain⟨q,hq⟩:=adI h
  obtain⟨c,h1,_⟩:=L.own q hq
  refine⟨R q,L.len q hq,?_,L.p q hq,fun c hc=>?_,c,h1⟩
  ·show Bd ((B+1) * 2 ^ 0 - 1) _
   rw [Nat.pow_zero,aeq]
   exact L.bd q hq
  ·rcases hc with hc|hc
   ·exact L.z q hq c hc
   ·exact nomatch hc
 | c::cs,B,Z,I,R,L,h=>by
  rw [aad] at h
  by_cases hq:∃q∈I,(R q).getD c 0≠0
  ·obtain⟨q,hq,hc⟩:=hq
   obtain⟨r,h1,h2,h3,h4,h5⟩:=iF C cs _ _ _ _ (L.step C hq hc) (by rw [acq hq];omega)
   rw [II] at h2
   refine⟨r,h1,h2,h3,fun x hx=>h4 x ?_,h5⟩
   rcases hx with hx|hx
   ·exact .inl (.inl hx)
   ·rcases aaB.mp hx with e|e
    ·exact .inl (.inr e)
    ·exact .inr e
  ·have hz:∀i∈I,(R i).getD c 0=0:=fun i hi=>abq fun z=>hq ⟨i,hi,z⟩
   obtain⟨q,hq⟩:=adI (l:=I) (by omega)
   obtain⟨r,h1,h2,h3,h4,h5⟩:=iF C cs _ _ _ _ (L.drop (q:=q) hz) (by rw [acq hq];omega)
   refine⟨r,h1,h2.mono (N6 ..),h3,fun x hx=>h4 x ?_,h5⟩
   rcases hx with hx|hx
   ·exact .inl (.inl hx)
   ·rcases aaB.mp hx with e|e
    ·exact .inl (.inr e)
    ·exact .inr e
theorem w9 (C:pW n P) {G:Int→Row→Prop} (hG:∀(a k m:Int) (u v:Row),u.length=n→v.length=n→G a u→P v→G (k * a) (sj k u m v)):∀(cs:List Nat) (B:Nat) (Z:Nat→Prop) (I:List Nat) (R:Nat→Row) (g:Row) (a:Int),IH n B P Z I R→cs.length≤I.length→g.length=n→Bd B g→G a g→a≠0→(∀c,Z c→g.getD c 0=0) →
  (∀r,r.length=n→P r→(∀c,Z c∨c∈cs→r.getD c 0=0)→∀c,r.getD c 0=0) →
  ∃r a',r.length=n∧Bd ((B+1) * 2 ^ cs.length - 1) r∧G a' r∧a'≠0∧∀c,Z c∨c∈cs→r.getD c 0=0
 | [],B,Z,I,R,g,a,L,_,hl,hb,hg,ha,hz,_=>by
  refine⟨g,a,hl,?_,hg,ha,fun c hc=>?_⟩
  ·show Bd ((B+1) * 2 ^ 0 - 1) _
   rw [Nat.pow_zero,aeq]
   exact hb
  ·rcases hc with hc|hc
   ·exact hz c hc
   ·exact nomatch hc
 | c::cs,B,Z,I,R,g,a,L,h,hl,hb,hg,ha,hz,hf=>by
  rw [aad] at h
  by_cases hq:∃q∈I,(R q).getD c 0≠0
  ·obtain⟨q,hq,hc⟩:=hq
   have e:g.length=(R q).length:=by rw [hl,L.len q hq]
   obtain⟨r,a',h1,h2,h3,h4,h5⟩:=w9 C hG cs _ (fun x=>Z x∨x=c) _ _ (Mq (R q) c g) ((R q).getD c 0 * a) (L.step C hq hc) (by rw [acq hq];omega) (sk hl (L.len q hq)) (CY ((L.bd q hq).at c) (nu (hb.at c)) hb (L.bd q hq)) (hG _ _ _ _ _ hl (L.len q hq) hg (L.p q hq)) (yi hc ha) (fun x hx=>by
    rcases hx with hx|hx
    ·rw [t4 e,hz x hx,L.z q hq x hx,aaL,aaL]
     rfl
    ·rw [hx];exact Bg e) fun r h1 h2 h3=>hf r h1 h2 fun x hx=>h3 x (by
    rcases hx with hx|hx
    ·exact .inl (.inl hx)
    ·rcases aaB.mp hx with e|e
     ·exact .inl (.inr e)
     ·exact .inr e)
   rw [II] at h2
   refine⟨r,a',h1,h2,h3,h4,fun x hx=>h5 x ?_⟩
   rcases hx with hx|hx
   ·exact .inl (.inl hx)
   ·rcases aaB.mp hx with e|e
    ·exact .inl (.inr e)
    ·exact .inr e
  ·have OT:∀i∈I,(R i).getD c 0=0:=fun i hi=>abq fun z=>hq ⟨i,hi,z⟩
   have L2:IH n B P (fun x=>Z x∨x=c) I R:=⟨L.nd,L.len,L.bd,L.p,fun i hi x hx=>by
    rcases hx with hx|hx
    ·exact L.z i hi x hx
    ·rw [hx];exact OT i hi,L.own⟩
   obtain⟨r,h1,h2,h3,h4,x,h5⟩:=iF C cs _ _ _ _ L2 (by omega)
   exact absurd (hf r h1 h3 (fun y hy=>h4 y (by
    rcases hy with hy|hy
    ·exact .inl (.inl hy)
    ·rcases aaB.mp hy with e|e
     ·exact .inl (.inr e)
     ·exact .inr e)) x) h5
end
theorem Bh {k:Int} {r:Row}:cF (pz k r)=k.natAbs * cF r:=by
 have key:∀(r:Row) (f:Nat),(pz k r).foldl (fun f n=>acp f n.natAbs) (k.natAbs * f)=k.natAbs * r.foldl (fun f n=>acp f n.natAbs) f:=by
  intro r
  induction r with
  | nil=>intro f;rfl
  | cons x r ih =>
   intro f
   show(pz k r).foldl _ (acp (k.natAbs * f) (k * x).natAbs)=k.natAbs * r.foldl _ (acp f x.natAbs)
   rw [abZ,Nat.gcd_mul_left]
   exact ih _
 have:=key r 0
 rw [Nat.mul_zero] at this
 exact this
theorem ny {u r:Row} {k m:Int} (hk:k≠0) (e:pz k u=pz m r) (hu:cF u≤1) {B:Nat} (hr:Bd B r):Bd B u:=by
 intro x hx
 have hg:=congrArg cF e
 rw [Bh,Bh] at hg
 by_cases h0:cF u=0
 ·rw [wZ h0 x hx]
  exact aa3 _
 ·have h1:cF u=1:=by omega
  rw [h1,aeq] at hg
  obtain⟨i,hi,ex⟩:=acA hx
  have e2:=congrArg (fun l:Row=>(l.getD i 0).natAbs) e
  simp only [gZ,abZ] at e2
  have WW:u.getD i 0=x:=by rw [Gd9,Ge9 hi,← ex];rfl
  rw [WW,hg,afj] at e2
  have hm:0<m.natAbs:=adp fun z=>by
   rw [z,Nat.zero_mul] at hg
   omega
  have e3:=ac0 hm e2
  have UP:0<cF r:=adp fun z=>by
   rw [z,Nat.mul_zero] at hg
   omega
  have:=hr.at i
  have h4:x.natAbs≤cF r * x.natAbs:=adv _ UP
  omega
theorem IJ {u v:Row} {i:Nat} (h:i<u.length):(u++v).getD i 0=u.getD i 0:=by
 rw [Gd9,acW h,Gd9]
theorem IK {u v:Row} {m i:Nat} (h:u.length=m):(u++v).getD (m+i) 0=v.getD i 0:=by
 rw [Gd9,abO (by omega),Gd9,show m+i - u.length=i by omega]
theorem dw {α:Type} {f:Nat→α} {d:α} {w i:Nat} (h:i<w):((aal w).map f).getD i d=f i:=by
 rw [Gd9,aaq,ac9 h]
 rfl
theorem IL {α:Type} {f:α→Int} {l:List α} {d:α} {i:Nat} (h:i<l.length):(l.map f).getD i 0=f (l.getD i d):=by
 rw [Gd9,aaq,Gd9,Ge9 h]
 rfl
theorem g4 {u:Row} {i:Nat} (h:u.length≤i):u.getD i 0=0:=by
 rw [Gd9,acM h]
 rfl
def mv (E:List Row) (w k:Nat):Row:=E.map (fun r=>0 - r.getD k 0)++(aal w).map fun o=>if o=k then 1 else 0
def Bi (E:List Row) (w:Nat):List Row:=(aal w).map (mv E w)
def IM (m w:Nat):List Nat:=(aal w).map (m + ·)
def nP (m w:Nat):Row:=aam m 1++aam w 0
def T0 (E:List Row) (w:Nat):Tb:=⟨Bi E w,IM E.length w,nP E.length w⟩
section
variable {E:List Row} {w:Nat}
theorem yj {k:Nat}:(mv E w k).length=E.length+w:=by unfold mv;rw [aab,Lm9,Lm9,aax]
theorem N7 {k j:Nat} (h:j<E.length):(mv E w k).getD j 0=0 - (li E j).getD k 0:=by
 unfold mv
 rw [IJ (by rw [Lm9];exact h),IL (d:=[]) h]
theorem pY {k o:Nat} (h:o<w):(mv E w k).getD (E.length+o) 0=if o=k then 1 else 0:=by
 unfold mv
 rw [IK (by rw [Lm9]),dw h]
theorem Mr {i:Nat} (h:i<w):li (Bi E w) i=mv E w i:=dw h
theorem Eu {m i:Nat} (h:i<w):bz (IM m w) i=m+i:=dw h
theorem Qx {m j:Nat} (h:j<m):(nP m w).getD j 0=1:=by
 unfold nP
 rw [IJ (by rw [aaU];exact h),Gd9,abW,if_pos h]
 rfl
theorem Qy {m o:Nat}:(nP m w).getD (m+o) 0=0:=by
 unfold nP
 rw [IK (by rw [aaU]),Gd9,abW]
 split <;> rfl
theorem Bj {r:Row} (h:(1:Int)∈r):cF r=1:=by
 have:=iD h
 have z:cF r ∣ 1:=Int.natCast_dvd_natCast.mp this
 exact Nat.dvd_one.mp z
theorem UQ:oG (E.length+w) w (Bi E w) (nP E.length w) (T0 E w):=by
 have hl:(Bi E w).length=w:=by unfold Bi;rw [Lm9,aax]
 refine⟨hl,fun l h=>?_,?_,?_,fun i hi=>?_,fun i hi=>?_,fun i j hi hj Nl=>?_,fun j hj=>?_,fun x=>Iff.rfl,⟨1,1,by decide,by decide,fun x _=>rfl⟩,fun l h=>?_⟩
 ·obtain⟨k,_,rfl⟩:=aah.mp h
  exact yj
 ·show(nP E.length w).length=_
  unfold nP
  rw [aab,aaU,aaU]
 ·show(IM E.length w).length=w
  unfold IM
  rw [Lm9,aax]
 ·show bz (IM E.length w) i<_
  rw [Eu hi]
  omega
 ·show 0<(li (Bi E w) i).getD (bz (IM E.length w) i) 0
  rw [Eu hi,Mr hi,pY hi,if_pos rfl]
  decide
 ·show(li (Bi E w) i).getD (bz (IM E.length w) j) 0=0
  rw [Eu hj,Mr hi,pY hj,if_neg (abB Nl)]
 ·show(nP E.length w).getD (bz (IM E.length w) j) 0=0
  rw [Eu hj,Qy]
 ·obtain⟨k,hk,rfl⟩:=aah.mp h
  refine Bj ?_
  unfold mv
  exact aaT _ (aah.mpr ⟨k,hk,if_pos rfl⟩)
def tv (E:List Row) (j:Nat):Row:=(aal E.length).map (fun i=>if i=j then 1 else 0)++li E j
theorem C7 (hE:∀r∈E,r.length=w) {j:Nat} (h:j<E.length):(tv E j).length=E.length+w:=by
 unfold tv
 rw [aab,Lm9,aax,hE _ (dC h)]
theorem Bl {i j:Nat} (h:i<E.length):(tv E j).getD i 0=if i=j then 1 else 0:=by
 unfold tv
 rw [IJ (by rw [Lm9,aax];exact h),dw h]
theorem Qz {k j:Nat}:(tv E j).getD (E.length+k) 0=(li E j).getD k 0:=by
 unfold tv
 rw [IK (by rw [Lm9,aax])]
theorem jY {n m i:Nat} (h:i<m+n) (h2:¬ i<m):∃o,o<n∧i=m+o:=⟨i - m,by omega,by omega⟩
theorem IP (hE:∀r∈E,r.length=w) {j:Nat} (h:j<E.length):IC (E.length+w) (Bi E w) (tv E j):=by
 refine⟨C7 hE h,fun l hl=>?_⟩
 obtain⟨k,hk,rfl⟩:=aah.mp hl
 have hk:=aaz.mp hk
 rw [eM yj (C7 hE h),oA (a:=j) (b:=E.length+k) (by omega) (E.length+w) (by omega) (by omega) fun i hi h1 h2=>?_]
 ·rw [N7 h,pY hk,if_pos rfl,Bl h,if_pos rfl,Qz]
  omega
 ·by_cases z:i<E.length
  ·rw [Bl z,if_neg h1,aaL]
  ·obtain⟨o,ho,rfl⟩:=jY hi z
   rw [pY ho,if_neg (by omega),acx]
theorem Ew {u v x y:Row} (h:u.length=x.length):dot (u++v) (x++y)=dot u x+dot v y:=by
 unfold dot
 rw [aeQ h,aai,acK]
theorem IQ {j:Nat} (h:j<E.length) {g:Row} (hg:E.length≤g.length):dot g (tv E j)=g.getD j 0+dot (g.drop E.length) (li E j):=by
 have e:g=g.take E.length++g.drop E.length:=(abz ..).symm
 have hl:(g.take E.length).length=E.length:=by rw [aaF];omega
 have h1:dot g (tv E j)=dot (g.take E.length) ((aal E.length).map fun i=>if i=j then 1 else 0)+dot (g.drop E.length) (li E j):=by
  have:=Ew (u:=g.take E.length) (v:=g.drop E.length) (x:=(aal E.length).map fun i=>if i=j then 1 else 0) (y:=li E j) (by rw [hl,Lm9,aax])
  rw [← e] at this
  exact this
 rw [h1,eM hl (by rw [Lm9,aax]),mh E.length h fun i hi hne=>?_]
 ·rw [dw h,if_pos rfl,Int.mul_one,Gd9,ad3,if_pos h,Gd9]
 ·rw [dw hi,if_neg hne,aaL]
def nx (T:Tb):Tb:=match fa T.g with
 | none=>T
 | some s=>match lv T.L T.b s with
  | none=>T
  | some c=>Gn T s c
def pZ (T:Tb):Nat→Tb
 | 0=>T
 | k+1=>nx (pZ T k)
def Stop (T:Tb):Prop:=fa T.g=none∨∃s,fa T.g=some s∧lv T.L T.b s=none
theorem K2 {T:Tb} (h:Stop T):nx T=T:=by
 unfold nx
 rcases h with h|⟨s,h1,h2⟩
 ·rw [h]
 ·rw [h1]
  show(match lv T.L T.b s with|none=>T|some c=>Gn T s c)=T
  rw [h2]
theorem QA {T:Tb} {s c:Nat} (h1:fa T.g=some s) (h2:lv T.L T.b s=some c):nx T=Gn T s c:=by
 unfold nx
 rw [h1]
 show(match lv T.L T.b s with|none=>T|some c=>Gn T s c)=_
 rw [h2]
def iG (E:List Row) (w:Nat):Tb:=pZ (T0 E w) ((E.length+w) ^ w)
theorem Bm {T:Tb} {m:Nat} (h:Stop (pZ T m)):∀k,pZ T (m+k)=pZ T m
 | 0=>rfl
 | k+1=>by
  show nx (pZ T (m+k))=_
  rw [Bm h k,K2 h]
def vj (E:List Row) (w m:Nat):Prop:=∀k,k<m→Qw (pZ (T0 E w) k) (pZ (T0 E w) (k+1))
theorem kj {m:Nat} (h:vj E w m):∀k,k≤m→oG (E.length+w) w (Bi E w) (nP E.length w) (pZ (T0 E w) k)
 | 0,_=>UQ
 | k+1,hk=>(h k (by omega)).tab (kj h k (by omega))
theorem oH {m:Nat} (h:vj E w m):m<(E.length+w) ^ w:=Fs (kj h) h
theorem xa {m s c:Nat} (h:vj E w m) (h1:fa (pZ (T0 E w) m).g=some s) (h2:lv (pZ (T0 E w) m).L (pZ (T0 E w) m).b s=some c):vj E w (m+1)∧pZ (T0 E w) (m+1)=Gn (pZ (T0 E w) m) s c:=by
 have e:pZ (T0 E w) (m+1)=Gn (pZ (T0 E w) m) s c:=QA h1 h2
 refine⟨fun k hk=>?_,e⟩
 by_cases z:k<m
 ·exact h k z
 ·rw [show k=m by omega]
  exact⟨s,c,h1,h2,e⟩
theorem p8 {m:Nat} (h:vj E w m) (hs:Stop (pZ (T0 E w) m)):iG E w=pZ (T0 E w) m:=by
 have:=oH h
 unfold iG
 rw [show(E.length+w) ^ w=m+((E.length+w) ^ w - m) by omega]
 exact Bm hs _
theorem Bn (u:Row):cF (slim u)≤1:=by
 by_cases h:cF u=0
 ·unfold slim
  rw [if_pos h,h]
  decide
 ·rw [w5 h]
  exact aaf _
theorem QB:cF (nP E.length w)≤1:=by
 by_cases h:E.length=0
 ·rw [h]
  have:∀(k f:Nat),(aam k (0:Int)).foldl (fun f n=>acp f n.natAbs) f=f:=by
   intro k
   induction k with
   | zero=>intro f;rfl
   | succ k ih =>
    intro f
    show(aam k (0:Int)).foldl _ (acp f 0)=f
    rw [ad2]
    exact ih f
  show(aam w (0:Int)).foldl (fun f n=>acp f n.natAbs) 0≤1
  rw [this]
  decide
 ·rw [Bj]
  ·exact aaf _
  ·unfold nP
   exact abT _ (acF.mpr ⟨h,rfl⟩)
theorem Bo {m:Nat} (h:vj E w m):cF (pZ (T0 E w) m).g≤1:=by
 cases m with
 | zero=>exact QB
 | succ m =>
  obtain⟨s,c,_,_,e⟩:=h m (by omega)
  rw [e]
  exact Bn _
def qV (m:Nat) (g:Row):Row:=slim ((g.drop m).map fun n=>0 - n)
def g5 (m n:Nat) (T:Tb) (s:Nat):Row:=slim ((cv n T.L T.b s).take m)
theorem Bp {e u:Row}:∃k:Int,0<k∧dot e u=k * dot e (slim u):=by
 obtain⟨k,hk,h⟩:=yg u
 refine⟨k,hk,?_⟩
 have:=gI (k:=k) e (slim u)
 rw [← h] at this
 exact this
theorem t5 {u:Row}:∃k:Int,0<k∧∀i,u.getD i 0=k * (slim u).getD i 0:=by
 obtain⟨k,hk,h⟩:=yg u
 exact⟨k,hk,fun i=>at_of h i⟩
theorem yk {u:Row} {x:Int} (h:x∈u):∃i,i<u.length∧u.getD i 0=x:=by
 obtain⟨i,hi,e⟩:=acA h
 exact⟨i,hi,by rw [Gd9,Ge9 hi,e];rfl⟩
theorem qa {k a:Int} (hk:0<k) (h:0≤k * a):0≤a:=by
 refine afr.mp fun z=>?_
 have:=Int.mul_neg_of_pos_of_neg hk z
 omega
theorem IS (hE:∀r∈E,r.length=w) {T:Tb} (t:oG (E.length+w) w (Bi E w) (nP E.length w) T) (h:fa T.g=none):(qV E.length T.g).length=w∧(∀x∈qV E.length T.g,0≤x)∧∀j,j<E.length→dot (li E j) (qV E.length T.g)<0:=by
 have hg:=Es h
 have QC:T.g.length=E.length+w:=t.gl
 refine⟨?_,fun x hx=>?_,fun j hj=>?_⟩
 ·unfold qV
  rw [f9,Lm9,aa9,QC]
  omega
 ·obtain⟨i,hi,rfl⟩:=yk hx
  obtain⟨k,hk,e⟩:=t5 (u:=(T.g.drop E.length).map fun n=>0 - n)
  refine qa hk ?_
  show 0≤k * (slim _).getD i 0
  rw [← e]
  unfold qV at hi
  rw [f9,Lm9] at hi
  rw [IL (d:=0) hi,Gd9,adm,← Gd9]
  have:=hg (E.length+i)
  omega
 ·obtain⟨k,hk,e⟩:=Bp (e:=li E j) (u:=(T.g.drop E.length).map fun n=>0 - n)
  have e1:=IQ (E:=E) hj (g:=T.g) (by omega)
  obtain⟨p,q,hp,hq,h3⟩:=t.gr
  have e2:=h3 _ (IP hE hj)
  have e3:dot (nP E.length w) (tv E j)=1:=by
   rw [IQ hj (by unfold nP;rw [aab,aaU];omega),Qx hj]
   have e0:(nP E.length w).drop E.length=aam w 0:=by
    unfold nP
    rw [List.drop_append_of_le_length (by rw [aaU];exact aaf _),adw (by rw [aaU];exact aaf _)]
    rfl
   rw [e0,bO,(kh w [li E j]).zero _ (by simp)]
   rfl
  have e4:0<dot T.g (tv E j):=by
   refine mi hp ?_
   show 0<p * dot T.g (tv E j)
   rw [e2,e3,Int.mul_one]
   exact hq
  have:=hg j
  have e5:dot (li E j) ((T.g.drop E.length).map fun n=>0 - n) = - dot (T.g.drop E.length) (li E j):=by
   rw [Eo,gI,bO]
   omega
  rw [e5] at e
  show dot (li E j) (slim _)<0
  refine Int.not_le.mp fun z=>?_
  have:=Int.mul_nonneg (adG hk) z
  omega
theorem IT (hE:∀r∈E,r.length=w) {T:Tb} (t:oG (E.length+w) w (Bi E w) (nP E.length w) T) {s:Nat} (h1:fa T.g=some s) (h2:lv T.L T.b s=none) :
  (g5 E.length (E.length+w) T s).length=E.length∧(∀x∈g5 E.length (E.length+w) T s,0≤x)∧(∃x∈g5 E.length (E.length+w) T s,x≠0)∧∀k,k<w→0≤dot (E.map (·.getD k 0)) (g5 E.length (E.length+w) T s):=by
 obtain⟨a1,a2,_⟩:=fJ h1
 have hs:s<E.length+w:=by rw [← t.gl];exact a1
 have Ft:=K1 h2
 have DS:∀i,i<w→bz T.b i≠s:=fun i hi e=>by
  have:=t.gz i hi
  rw [e] at this
  omega
 have hT:=t.times
 have Fu:∀j,0≤(cv (E.length+w) T.L T.b s).getD j 0:=fun j=>by
  by_cases hj:j<E.length+w
  ·by_cases e:j=s
   ·rw [e,oB hs];exact adG hT.1
   ·by_cases hb:∃i,i<w∧bz T.b i=j
    ·obtain⟨i,hi,rfl⟩:=hb
     rw [t.tZ hi e]
     have h3:=Ft i (by rw [t.ll];exact hi)
     have h4:0≤bS T.L T.b / (li T.L i).getD (bz T.b i) 0:=Int.ediv_nonneg (adG hT.1) (adG (t.dg i hi))
     have:=ab7 h3 h4
     omega
    ·rw [oC hj e fun i hi e2=>hb ⟨i,by rw [← t.ll];exact hi,e2⟩]
     exact adb 0
  ·rw [g4 (by rw [dj];omega)]
   exact adb 0
 have yh:=(t.sol _).mp (t.oE hs DS)
 have tl:((cv (E.length+w) T.L T.b s).take E.length).length=E.length:=by rw [aaF,dj];omega
 have UR:∀j,j<E.length→((cv (E.length+w) T.L T.b s).take E.length).getD j 0=(cv (E.length+w) T.L T.b s).getD j 0:=fun j hj=>by
  rw [Gd9,ad3,if_pos hj,← Gd9]
 have hk:∀k,k<w→dot (E.map (·.getD k 0)) ((cv (E.length+w) T.L T.b s).take E.length)=(cv (E.length+w) T.L T.b s).getD (E.length+k) 0:=fun k hk=>by
  have z:=yh.2 (mv E w k) (aah.mpr ⟨k,aaz.mpr hk,rfl⟩)
  have ed:cv (E.length+w) T.L T.b s=(cv (E.length+w) T.L T.b s).take E.length++(cv (E.length+w) T.L T.b s).drop E.length:=(abz ..).symm
  rw [ed] at z
  unfold mv at z
  rw [Ew (by rw [Lm9,tl])] at z
  have e1:E.map (fun r=>0 - r.getD k 0)=pz (-1) (E.map (·.getD k 0)):=by
   rw [← Eo,abf]
   rfl
  have dl:((cv (E.length+w) T.L T.b s).drop E.length).length=w:=by rw [aa9,dj];omega
  rw [e1,bO,gI,bO,eM (w:=w) (by rw [Lm9,aax]) dl,mh w hk fun i hi hne=>?_,dw hk,if_pos rfl,Int.one_mul,Gd9,adm,← Gd9] at z
  ·omega
  ·rw [dw hi,if_neg hne,acx]
 obtain⟨c,hc,e⟩:=t5 (u:=(cv (E.length+w) T.L T.b s).take E.length)
 refine⟨?_,fun x hx=>?_,?_,fun k hk'=>?_⟩
 ·unfold g5
  rw [f9,tl]
 ·obtain⟨i,hi,rfl⟩:=yk hx
  unfold g5 at hi
  rw [f9,tl] at hi
  refine qa hc ?_
  show 0≤c * (slim _).getD i 0
  rw [← e,UR i hi]
  exact Fu i
 ·refine abq fun z=>?_
  have hz:∀j,j<E.length→(cv (E.length+w) T.L T.b s).getD j 0=0:=fun j hj=>by
   rw [← UR j hj,e j]
   have Xp:j<(slim ((cv (E.length+w) T.L T.b s).take E.length)).length:=by rw [f9,tl];exact hj
   have:(slim ((cv (E.length+w) T.L T.b s).take E.length)).getD j 0=0:=abq fun q=>z ⟨_,by
    rw [Gd9,Ge9 Xp]
    exact aas Xp,q⟩
   rw [this,aaL]
  have h5:(cv (E.length+w) T.L T.b s).getD s 0=0:=by
   by_cases q:s<E.length
   ·exact hz s q
   ·obtain⟨o,ho,e2⟩:=jY hs q
    subst e2
    rw [← hk o ho,eM (w:=E.length) (by rw [Lm9]) tl]
    have:∀(m:Nat),m≤E.length→((aal m).map fun i=>(E.map (·.getD o 0)).getD i 0 * ((cv (E.length+w) T.L T.b (E.length+o)).take E.length).getD i 0).sum=0:=by
     intro m
     induction m with
     | zero=>intro _;rfl
     | succ m ih =>
      intro hm
      have q2:=UR m (by omega)
      rw [hz m (by omega)] at q2
      rw [abe,aai,acK,ih (by omega),List.map_singleton,q2,aaL]
      rfl
    exact this _ (aaf _)
  rw [oB hs] at h5
  omega
 ·obtain⟨c2,Xq,e3⟩:=Bp (e:=E.map (·.getD k 0)) (u:=(cv (E.length+w) T.L T.b s).take E.length)
  refine qa Xq ?_
  show 0≤c2 * dot _ (slim _)
  rw [← e3,hk k hk']
  exact Fu _
end
section
variable {n w:Nat} {L0:List Row} {g0:Row} {L:List Row} {b:List Nat} {g:Row}
theorem Ex:pW n fun r=>∀x,IC n L0 x→dot r x=0 :=
 ⟨fun x _=>(i0 n x).zero,fun a b u v hu hv h1 h2 x hx=>(i0 n x).mix a b u v hu hv (h1 x hx) (h2 x hx),fun k u hk hu h x hx=>(i0 n x).div k u hk hu (h x hx)⟩
theorem Tab.full (T:Tab n w L0 g0 L b g) {r:Row} (hr:r.length=n) (hP:∀x,IC n L0 x→dot r x=0) (hz:∀j,j<w→r.getD (bz b j) 0=0) (f:Nat):r.getD f 0=0:=by
 by_cases hf:f<n
 ·by_cases hb:∃i,i<w∧bz b i=f
  ·obtain⟨i,hi,rfl⟩:=hb
   exact hz i hi
  ·have z:=hP _ ((T.sol _).mp (T.oE hf fun i hi e=>hb ⟨i,hi,e⟩))
   rw [T.sq hf hr hz,abA] at z
   exact d7 T.times.1 z
 ·exact g4 (by omega)
theorem Tab.par (T:Tab n w L0 g0 L b g) {r:Row} (hr:r.length=n) (hP:∀x,IC n L0 x→dot r x=0) {i:Nat} (hi:i<w) (hz:∀j,j<w→j≠i→r.getD (bz b j) 0=0) (f:Nat):(li L i).getD (bz b i) 0 * r.getD f 0=r.getD (bz b i) 0 * (li L i).getD f 0:=by
 by_cases hf:f<n
 ·by_cases hb:∃j,j<w∧bz b j=f
  ·obtain⟨j,hj,rfl⟩:=hb
   by_cases e:j=i
   ·rw [e,abA]
   ·rw [hz j hj e,T.od i j hi hj (abB e),aaL,aaL]
  ·have hn:∀i,i<w→bz b i≠f:=fun i hi e=>hb ⟨i,hi,e⟩
   have z:=hP _ ((T.sol _).mp (T.oE hf hn))
   rw [eM hr dj,oA (a:=f) (b:=bz b i) (abB (hn i hi)) n hf (T.bn i hi) fun j hj h1 h2=>?_] at z
   ·rw [oB hf,T.tZ hi (hn i hi)] at z
    obtain⟨c,hc⟩:=T.times.2 i hi
    have hd:=T.dg i hi
    have ht:=T.times.1
    rw [hc] at ht
    rw [hc,abK _ (by omega),adf,ae9] at z
    have hcp:0<c:=mi hd ht
    refine Int.eq_of_mul_eq_mul_left (a:=c) (by omega) ?_
    have e1:c * ((li L i).getD (bz b i) 0 * r.getD f 0)=r.getD f 0 * ((li L i).getD (bz b i) 0 * c):=by
     rw [abA c,abA ((li L i).getD (bz b i) 0) (r.getD f 0),abk]
    have e2:c * (r.getD (bz b i) 0 * (li L i).getD f 0)=r.getD (bz b i) 0 * ((li L i).getD f 0 * c):=by
     rw [abA c,abk]
    rw [e1,e2]
    omega
   ·by_cases vh:∃k,k<w∧bz b k=j
    ·obtain⟨k,hk,rfl⟩:=vh
     rw [hz k hk fun e=>h2 (by rw [e]),acx]
    ·rw [oC hj h1 fun k hk e=>vh ⟨k,by rw [← T.ll];exact hk,e⟩,aaL]
 ·rw [g4 (u:=r) (i:=f) (by omega),g4 (u:=li L i) (i:=f) (by rw [T.Gm hi];omega),aaL,aaL]
end
section
variable {E:List Row} {w:Nat} {T:Tb}
theorem N8 {k:Nat} (hB:∀r∈E,Bd 2 r):Bd 2 (mv E w k):=fun x hx=>by
 unfold mv at hx
 rcases aaS.mp hx with h|h
 ·obtain⟨r,hr,rfl⟩:=aah.mp h
  exact nu ((hB r hr).at k)
 ·obtain⟨o,_,rfl⟩:=aah.mp h
  split <;> decide
theorem Ms (hB:∀r∈E,Bd 2 r):IH (E.length+w) 2 (fun r=>∀x,IC (E.length+w) (Bi E w) x→dot r x=0) (fun _=>False) (aal w) (mv E w):=by
 refine⟨aca,fun i hi=>yj,fun i hi=>N8 hB,fun i hi x hx=>hx.2 _ (aah.mpr ⟨i,hi,rfl⟩),fun i hi c h=>h.elim,fun i hi=>⟨E.length+i,?_,fun j hj hne=>?_⟩⟩
 ·rw [pY (aaz.mp hi),if_pos rfl]
  decide
 ·rw [pY (aaz.mp hi),if_neg (abB hne)]
theorem t6 {k:Nat} (h:k≤5):(2+1) * 2 ^ k - 1≤95:=by
 have:2 ^ k≤2 ^ 5:=abU (by decide) h
 have:(2:Nat) ^ 5=32:=by decide
 omega
theorem C8 (hB:∀r∈E,Bd 2 r) (hw:w≤5) (t:oG (E.length+w) w (Bi E w) (nP E.length w) T):∀l∈T.L,Bd 95 l:=fun l hl=>by
 obtain⟨i,hi,rfl⟩:=nv hl
 rw [t.ll] at hi
 have hlen:(((aal w).erase i).map (bz T.b)).length=w - 1:=by rw [Lm9,acq (aaz.mpr hi),aax]
 obtain⟨r,h1,h2,h3,h4,c,h5⟩:=iF Ex (((aal w).erase i).map (bz T.b)) _ _ _ _ (Ms (w:=w) hB) (by rw [hlen,aax];omega)
 have hz:∀j,j<w→j≠i→r.getD (bz T.b j) 0=0:=fun j hj hne=>h4 _ (.inr (aah.mpr ⟨j,(List.mem_erase_of_ne hne).mpr (aaz.mpr hj),rfl⟩))
 have hp:=t.par h1 h3 hi hz
 have hd:=t.dg i hi
 rw [hlen] at h2
 have hb:r.getD (bz T.b i) 0≠0:=fun z=>by
  have:=hp c
  rw [z,acx] at this
  exact h5 (d7 hd this)
 refine ny (k:=r.getD (bz T.b i) 0) (m:=(li T.L i).getD (bz T.b i) 0) (r:=r) hb (so ?_ fun f=>?_) (by rw [t.pr _ hl];exact aaf _) (h2.mono (t6 (by omega)))
 ·rw [mf,mf,t.ln _ hl,h1]
 ·rw [gZ,gZ,← hp f]
theorem t7 (hB:∀r∈E,Bd 2 r) (hw:w≤5) (t:oG (E.length+w) w (Bi E w) (nP E.length w) T) (hg:cF T.g≤1):Bd 95 T.g:=by
 have hlen:((aal w).map (bz T.b)).length=w:=by rw [Lm9,aax]
 have Zt:Bd 2 (nP E.length w):=fun x hx=>by
  unfold nP at hx
  rcases aaS.mp hx with h|h
  ·rw [(acF.mp h).2];decide
  ·rw [(acF.mp h).2];decide
 have QC:(nP E.length w).length=E.length+w:=by unfold nP;rw [aab,aaU,aaU]
 obtain⟨r,a,h1,h2,h3,h4,h5⟩:=w9 Ex (G:=fun a r=>∀x,IC (E.length+w) (Bi E w) x→dot r x=a * dot (nP E.length w) x) (fun a k m u v hu hv h1 h2 x hx=>by
  rw [bO,oz _ _ _ (by omega),bO x u,bO x v,h1 x hx,h2 x hx,aaL,Int.add_zero,abk]) ((aal w).map (bz T.b)) _ _ _ _ (nP E.length w) 1 (Ms (w:=w) hB) (by rw [hlen,aax];exact aaf _) QC Zt (fun x _=>(Int.one_mul _).symm) (by decide) (fun _ h=>h.elim)
  fun r h1 h2 h3=>t.full h1 h2 fun j hj=>h3 _ (.inr (aah.mpr ⟨j,aaz.mpr hj,rfl⟩))
 have hz:∀j,j<w→r.getD (bz T.b j) 0=0:=fun j hj=>h5 _ (.inr (aah.mpr ⟨j,aaz.mpr hj,rfl⟩))
 obtain⟨p,q,hp,hq,h6⟩:=t.gr
 rw [hlen] at h2
 refine ny (k:=a * p) (m:=q) (r:=r) (yi h4 (by omega)) (so ?_ fun f=>?_) hg (h2.mono (t6 hw))
 ·rw [mf,mf,t.gl,h1]
 ·rw [gZ,gZ]
  by_cases hf:f<E.length+w
  ·by_cases hb:∃i,i<w∧bz T.b i=f
   ·obtain⟨i,hi,rfl⟩:=hb
    rw [hz i hi,t.gz i hi,aaL,aaL]
   ·have yh:=(t.sol _).mp (t.oE hf fun i hi e=>hb ⟨i,hi,e⟩)
    have e1:=h6 _ yh
    have e2:=h3 _ yh
    rw [t.sq hf t.gl t.gz] at e1
    rw [t.sq hf h1 hz] at e2
    have ht:=t.times.1
    generalize bS T.L T.b=tm at e1 e2 ht
    generalize dot (nP E.length w) (cv (E.length+w) T.L T.b f)=y at e1 e2
    generalize T.g.getD f 0=u at e1
    generalize r.getD f 0=v at e2
    refine Int.eq_of_mul_eq_mul_right (a:=tm) (by omega) ?_
    rw [abk,abk,abk,e1,e2,← abk,← abk,abA a q]
  ·rw [g4 (u:=T.g) (by rw [t.gl];omega),g4 (u:=r) (by omega),aaL,aaL]
theorem Ey {u:Row} {m i:Nat} (h:i<m):(u.take m).getD i 0=u.getD i 0:=by
 rw [Gd9,ad3,if_pos h,Gd9]
theorem t8 {p:Nat→Bool}:∀(l:List Nat),(l.filter p).length+(l.filter fun x=>!p x).length=l.length
 | []=>rfl
 | a::l=>by
  have:=t8 (p:=p) l
  cases h:p a with
  | true =>
   rw [adq h,ads (by rw [h];decide),aad,aad]
   omega
  | false =>
   rw [ads (by rw [h];decide),adq (by rw [h];rfl),aad,aad]
   omega
theorem Bq (hE:∀r∈E,r.length=w) (hB:∀r∈E,Bd 2 r) (hw:w≤5) (t:oG (E.length+w) w (Bi E w) (nP E.length w) T) {s:Nat} (h1:fa T.g=some s):Bd 95 (g5 E.length (E.length+w) T s):=by
 obtain⟨a1,a2,_⟩:=fJ h1
 have hs:s<E.length+w:=by rw [← t.gl];exact a1
 have DS:∀i,i<w→bz T.b i≠s:=fun i hi e=>by
  have:=t.gz i hi
  rw [e] at this
  omega
 let A:List Nat:=s::(aal w).map (bz T.b)
 let p:Nat→Bool:=fun j=>decide (j∈A)
 let I:List Nat:=(aal E.length).filter p
 let cs:List Nat:=((aal w).map (E.length + ·)).filter fun c=>!p c
 have hA:A.Nodup:=by
  refine ack.mpr ⟨fun h=>?_,acR.mpr ((aca (n:=w)).imp_of_mem fun {i j} hi hj hne e=>?_)⟩
  ·obtain⟨i,hi,e⟩:=aah.mp h
   exact DS i (aaz.mp hi) e
  ·exact hne (t.inj (aaz.mp hi) (aaz.mp hj) e)
 have Zu:∀x∈A,x<E.length+w:=fun x hx=>by
  rcases aaB.mp hx with e|e
  ·rw [e];exact hs
  ·obtain⟨i,hi,rfl⟩:=aah.mp e
   exact t.bn i (aaz.mp hi)
 have Zv:A.length=w+1:=by show((aal w).map (bz T.b)).length+1=_;rw [Lm9,aax]
 have Xr:cs.Nodup:=ad4 adU (acR.mpr ((aca (n:=w)).imp fun {i j} hne e=>hne (by omega)))
 have QD:cs.length+1≤I.length:=by
  have hx:((aal E.length).filter fun x=>!p x).length+I.length=E.length:=by
   have:=t8 (p:=p) (aal E.length)
   rw [aax] at this
   show((aal E.length).filter fun x=>!p x).length+((aal E.length).filter p).length=_
   omega
  have:=pX (E.length+w) (A++(cs++(aal E.length).filter fun x=>!p x)) (by
   refine abJ.mpr ⟨hA,abJ.mpr ⟨Xr,ad4 adU aca,fun a ha b hb e=>?_⟩,fun a ha b hb e=>?_⟩
   ·obtain⟨k,_,rfl⟩:=aah.mp (abt.mp ha).1
    have:=aaz.mp (abt.mp hb).1
    omega
   ·subst e
    have hp:p a=true:=decide_eq_true ha
    rcases aaS.mp hb with h|h
    ·have:=(abt.mp h).2
     rw [hp] at this
     cases this
    ·have:=(abt.mp h).2
     rw [hp] at this
     cases this) fun x hx=>by
   rcases aaS.mp hx with h|h
   ·exact Zu x h
   ·rcases aaS.mp h with h|h
    ·obtain⟨k,hk,rfl⟩:=aah.mp (abt.mp h).1
     have:=aaz.mp hk
     show E.length+k<_
     omega
    ·have:=aaz.mp (abt.mp h).1
     omega
  rw [aab,aab,Zv] at this
  omega
 have Mp:cs.length≤5:=by
  have:=abp (fun c=>!p c) ((aal w).map (E.length + ·))
  rw [Lm9,aax] at this
  show(afD _ _).length≤5
  omega
 have QE:∀{j},j∈I→j<E.length:=fun {j} hj=>aaz.mp (abt.mp hj).1
 have L:IH (E.length+w) 2 (fun v=>∀l∈Bi E w,dot l v=0) (fun c=>c<E.length∧p c=false) I (tv E):=by
  refine⟨ad4 adU aca,fun i hi=>C7 hE (QE hi),fun i hi x hx=>?_,fun i hi=>(IP hE (QE hi)).2,fun i hi c hc=>?_,fun i hi=>⟨i,?_,fun j hj hne=>?_⟩⟩
  ·unfold tv at hx
   rcases aaS.mp hx with h|h
   ·obtain⟨o,_,rfl⟩:=aah.mp h
    split <;> decide
   ·exact hB _ (dC (QE hi)) x h
  ·rw [Bl hc.1,if_neg fun e=>?_]
   have:=(abt.mp hi).2
   rw [← e,hc.2] at this
   cases this
  ·rw [Bl (QE hi),if_pos rfl]
   decide
  ·rw [Bl (QE hi),if_neg (abB hne)]
 obtain⟨r,b1,b2,b3,b4,c,b5⟩:=iF (kh _ _) cs _ _ _ _ L (by omega)
 have hz:∀j,j<E.length+w→j∉A→r.getD j 0=0:=fun j hj hA=>by
  have Xs:p j=false:=decide_eq_false hA
  by_cases q:j<E.length
  ·exact b4 j (.inl ⟨q,Xs⟩)
  ·obtain⟨o,ho,rfl⟩:=jY hj q
   refine b4 _ (.inr (abt.mpr ⟨aah.mpr ⟨o,aaz.mpr ho,rfl⟩,?_⟩))
   rw [Xs]
   rfl
 have yh:IC (E.length+w) T.L r:=(t.sol r).mpr ⟨b1,b3⟩
 have Xt:∀{j},j∈A↔j=s∨∃i,i<w∧bz T.b i=j:=fun {j}=>by
  show j∈s::(aal w).map (bz T.b)↔_
  rw [aaB,aah]
  exact⟨fun h=>h.imp id fun⟨i,hi,e⟩=>⟨i,aaz.mp hi,e⟩,fun h=>h.imp id fun⟨i,hi,e⟩=>⟨i,aaz.mpr hi,e⟩⟩
 have QF:∀f,r.getD s 0 * (cv (E.length+w) T.L T.b s).getD f 0=bS T.L T.b * r.getD f 0:=fun f=>by
  by_cases hf:f<E.length+w
  ·by_cases e:f=s
   ·rw [e,oB hs,abA]
   ·by_cases hb:∃i,i<w∧bz T.b i=f
    ·obtain⟨i,hi,rfl⟩:=hb
     have z:=yh.2 (li T.L i) (dC (by rw [t.ll];exact hi))
     rw [eM (t.Gm hi) b1,oA (a:=s) (b:=bz T.b i) (abB (DS i hi)) _ hs (t.bn i hi) fun j hj h1 h2=>?_] at z
     ·rw [t.tZ hi (DS i hi)]
      obtain⟨k,hk⟩:=t.times.2 i hi
      have hd:=t.dg i hi
      rw [hk,abK _ (by omega),adf,ae9]
      generalize (li T.L i).getD (bz T.b i) 0=d at z ⊢
      generalize (li T.L i).getD s 0=v at z ⊢
      generalize r.getD (bz T.b i) 0=y at z ⊢
      generalize r.getD s 0=x at z ⊢
      have e1:v * x = - (d * y):=by omega
      rw [← abk,abA x v,e1,ae8,Int.neg_neg,abk,abk,abA y k]
     ·by_cases vh:∃k,k<w∧bz T.b k=j
      ·obtain⟨k,hk,rfl⟩:=vh
       rw [t.od i k hi hk fun e=>h2 (by rw [e]),acx]
      ·rw [hz j hj fun h=>?_,aaL]
       rcases Xt.mp h with q|q
       ·exact h1 q
       ·exact vh q
    ·rw [oC hf e fun i hi e2=>hb ⟨i,by rw [← t.ll];exact hi,e2⟩,hz f hf fun h=>?_,aaL,aaL]
     rcases Xt.mp h with q|q
     ·exact e q
     ·exact hb q
  ·rw [g4 (u:=r) (i:=f) (by omega),g4 (u:=cv _ _ _ _) (i:=f) (by rw [dj];omega),aaL,aaL]
 have US:r.getD s 0≠0:=fun z=>by
  have:=QF c
  rw [z,acx] at this
  exact b5 (d7 t.times.1 this.symm)
 obtain⟨k,hk,e⟩:=t5 (u:=(cv (E.length+w) T.L T.b s).take E.length)
 have tl:((cv (E.length+w) T.L T.b s).take E.length).length=E.length:=by rw [aaF,dj];omega
 refine ny (k:=r.getD s 0 * k) (m:=bS T.L T.b) (r:=r.take E.length) (yi US (by omega)) (so ?_ fun f=>?_) (Bn _) fun x hx=>(b2.mono (t6 Mp)) x (acU hx)
 ·show(pz _ (slim _)).length=_
  rw [mf,mf,f9,tl,aaF,b1]
  omega
 ·show(pz _ (slim _)).getD f 0=_
  rw [gZ,gZ,abk,← e f]
  by_cases hf:f<E.length
  ·rw [Ey hf,Ey hf]
   exact QF f
  ·rw [g4 (u:=(cv _ _ _ _).take _) (i:=f) (by rw [tl];omega),g4 (u:=r.take E.length) (i:=f) (by rw [aaF];omega),aaL,aaL]
end
theorem Ez {E:List Row} {w:Nat}:∃m,vj E w m∧Stop (pZ (T0 E w) m)∧iG E w=pZ (T0 E w) m:=by
 have key:∀k,(∃m,vj E w m∧Stop (pZ (T0 E w) m))∨vj E w k:=by
  intro k
  induction k with
  | zero=>exact .inr fun k hk=>absurd hk (aeS k)
  | succ k ih =>
   rcases ih with h|h
   ·exact .inl h
   ·cases h1:fa (pZ (T0 E w) k).g with
    | none=>exact .inl ⟨k,h,.inl h1⟩
    | some s =>
     cases h2:lv (pZ (T0 E w) k).L (pZ (T0 E w) k).b s with
     | none=>exact .inl ⟨k,h,.inr ⟨s,h1,h2⟩⟩
     | some c=>exact .inr (xa h h1 h2).1
 rcases key ((E.length+w) ^ w) with⟨m,h1,h2⟩|h
 ·exact⟨m,h1,h2,p8 h1 h2⟩
 ·exact absurd (oH h) (abM _)
theorem EA {L:List Row} {b:List Nat} {w:Nat} (h:∀i,i<w→((li L i).getD (bz b i) 0).natAbs≤2 ^ 95):∀m,m≤w→((aal m).foldl (fun t i=>t * (li L i).getD (bz b i) 0) 1).natAbs≤2 ^ (95 * m)
 | 0,_=>aaf _
 | m+1,hm=>by
  rw [abe,ab1]
  show((aal m).foldl (fun t i=>t * (li L i).getD (bz b i) 0) 1 * (li L m).getD (bz b m) 0).natAbs≤_
  rw [abZ,Nat.mul_add,aep]
  exact acZ (EA h m (by omega)) (h m (by omega))
theorem N9 {n w:Nat} {L0:List Row} {g0:Row} {T:Tb} (t:oG n w L0 g0 T) (hB:∀l∈T.L,Bd 95 l) (hw:w≤5) {s:Nat} (hs:s<n):Bd 570 (cv n T.L T.b s):=fun x hx=>by
 have OV:∀i j,i<w→((li T.L i).getD j 0).natAbs≤2 ^ 95:=fun i j hi=>(hB _ (dC (by rw [t.ll];exact hi))).at j
 have ht:(bS T.L T.b).natAbs≤2 ^ 475:=by
  have:=EA (L:=T.L) (b:=T.b) (w:=w) (fun i hi=>OV i _ hi) T.L.length (by rw [t.ll];exact aaf _)
  refine aa5 this (abU (by decide) ?_)
  rw [t.ll]
  omega
 have Zw:(2:Nat) ^ 475≤2 ^ 570:=abU (by decide) (by decide)
 obtain⟨j,hj,rfl⟩:=yk hx
 rw [dj] at hj
 by_cases e:j=s
 ·rw [e,oB hs]
  exact aa5 ht Zw
 ·by_cases hb:∃i,i<w∧bz T.b i=j
  ·obtain⟨i,hi,rfl⟩:=hb
   rw [t.tZ hi e]
   obtain⟨c,hc⟩:=t.times.2 i hi
   have hd:=t.dg i hi
   rw [hc,abK _ (by omega)]
   have h1:c.natAbs≤2 ^ 475:=by
    refine aa5 ?_ ht
    rw [hc,abZ]
    exact adv _ (by omega)
   rw [adf,Int.natAbs_neg,abZ,show 570=95+475 by rfl,aep]
   exact acZ (OV i s hi) h1
  ·rw [oC hj e fun i hi z=>hb ⟨i,by rw [← t.ll];exact hi,z⟩]
   exact aa3 _
def mw (E:List Row) (w:Nat):Bool:=(fa (iG E w).g).isNone
def km (E:List Row) (w:Nat):Row:=match fa (iG E w).g with
 | none=>qV E.length (iG E w).g
 | some s=>g5 E.length (E.length+w) (iG E w) s
structure QG (E:List Row) (w:Nat) (W:Row):Prop where
 len:W.length=w
 pos:∀x∈W,0≤x
 bd:Bd 95 W
 fall:∀j,j<E.length→dot (li E j) W<0
structure Round (E:List Row) (w:Nat) (Y:Row):Prop where
 len:Y.length=E.length
 pos:∀x∈Y,0≤x
 bd:Bd 95 Y
 some:∃x∈Y,x≠0
 keep:∀k,k<w→0≤dot (E.map (·.getD k 0)) Y
theorem Fv {E:List Row} {w:Nat} (hE:∀r∈E,r.length=w) (hB:∀r∈E,Bd 2 r) (hw:w≤5) (h:mw E w=true):QG E w (km E w):=by
 obtain⟨m,h1,h2,h3⟩:=Ez (E:=E) (w:=w)
 have t:=kj h1 m (aaf _)
 have hg:=Bo h1
 rw [← h3] at t hg
 unfold mw at h
 cases e:fa (iG E w).g with
 | some s=>rw [e] at h;cases h
 | none =>
  obtain⟨a,b,c⟩:=IS hE t e
  have ea:km E w=qV E.length (iG E w).g:=by unfold km;rw [e]
  rw [ea]
  refine⟨a,b,K0 fun x hx=>?_,c⟩
  obtain⟨y,hy,rfl⟩:=aah.mp hx
  exact nu (t7 hB hw t hg y (ach hy))
theorem xb {E:List Row} {w:Nat} (hE:∀r∈E,r.length=w) (hB:∀r∈E,Bd 2 r) (hw:w≤5) (h:mw E w=false):Round E w (km E w):=by
 obtain⟨m,h1,h2,h3⟩:=Ez (E:=E) (w:=w)
 have t:=kj h1 m (aaf _)
 rw [← h3] at t h2
 unfold mw at h
 cases e:fa (iG E w).g with
 | none=>rw [e] at h;cases h
 | some s =>
  have hs:lv (iG E w).L (iG E w).b s=none:=by
   rcases h2 with q|⟨s',q1,q2⟩
   ·rw [e] at q;cases q
   ·rw [e] at q1;cases q1;exact q2
  obtain⟨a,b,c,d⟩:=IT hE t e hs
  have ea:km E w=g5 E.length (E.length+w) (iG E w) s:=by unfold km;rw [e]
  rw [ea]
  exact⟨a,b,Bq hE hB hw t e,c,d⟩
theorem QH {g:Row} {i:Nat} (h:i<g.length) (hp:0<g.getD i 0) (hz:∀j,j<i→g.getD j 0≤0):fa g=some i:=by
 cases e:fa g with
 | none =>
  have:=Es e i
  omega
 | some s =>
  obtain⟨h1,h2,h3⟩:=fJ e
  rcases Nat.lt_trichotomy s i with q|q|q
  ·have:=hz s q
   omega
  ·rw [q]
  ·have:=h3 i q
   omega
theorem Oa {g:Row} (hz:∀j,j<g.length→g.getD j 0≤0):fa g=none:=by
 cases e:fa g with
 | none=>rfl
 | some s =>
  obtain⟨h1,h2,_⟩:=fJ e
  have:=hz s h1
  omega
end La
namespace Bk
open PySem L2 eJ
def Fw:Option Nat→V
 | none=>.cU
 | some n=>.int (n:Int)
def gc (b:List Nat):List V:=b.map fun(n:Nat)=>V.int (n:Int)
def Mt:Sp:=fun vs H Q _=>∃(l:aaD) (us:List V) (E:List (List Int)) (k w:Nat),vs=[.ref l,.int (k:Int),.int (w:Int)]∧H l=some (.lst us)∧Paired (ki H) E us∧(∀r∈E,r.length=w)∧k<w∧E.length≤1000∧w≤1000∧IB H Q (La.mv E w k)
def QI:Sp:=fun vs H Q _=>∃(a:aaD) (g:List Int),vs=[.ref a]∧H a=some (.lst (g.map V.int))∧g.length≤1000∧∀H',ag H H'→Q (Fw (La.fa g)) H'
def QJ:Sp:=fun vs H Q _=>∃(l b:aaD) (us:List V) (L:List (List Int)) (bs:List Nat) (col n:Nat),vs=[.ref l,.ref b,.int (col:Int)]∧H l=some (.lst us)∧Paired (ki H) L us∧H b=some (.lst (gc bs))∧bs.length=L.length∧L.length≤1000∧(∀r∈L,r.length=n)∧col<n∧∀H',ag H H'→Q (Fw (La.lv L bs col)) H'
def Mu:Sp:=fun vs H Q _=>∃(l b:aaD) (us:List V) (T:La.Tb) (s cnt n w:Nat) (L0:List (List Int)) (g0:List Int),vs=[.ref l,.ref b,.int (s:Int),.int (cnt:Int)]∧H l=some (.lst us)∧Paired (ki H) T.L us∧H b=some (.lst (gc T.b))∧La.oG n w L0 g0 T∧(∀r∈T.L,La.Bd 95 r)∧s<n∧(∀i,i<w→La.bz T.b i≠s)∧cnt≤n∧n≤1000∧w≤5∧IB H Q ((La.cv n T.L T.b s).take cnt)
def gJ (b:Bool):V:=.str (aac (if b=true then "falls" else "round"))
def Ob (H:Hp) (Q:VK) (b:Bool) (r:List Int):Prop:=∀(t p:aaD) (H':Hp),ag H H'→H t=none→H p=none→H' t=some (.tup [gJ b,.ref p])→H' p=some (.lst (r.map V.int))→Q (.ref t) H'
def Mv:Sp:=fun vs H Q _=>∃(l:aaD) (us:List V) (E:List (List Int)) (w:Nat),vs=[.ref l,.int (w:Int)]∧H l=some (.lst us)∧Paired (ki H) E us∧(∀r∈E,r.length=w)∧(∀r∈E,La.Bd 2 r)∧E.length≤8∧w≤5∧Ob H Q (La.mw E w) (La.km E w)
theorem IU {n i:Nat} (h:i<n):GV n (i:Int)=some i:=by
 unfold GV
 rw [if_pos (by omega),if_pos (by omega)]
 simp
theorem t9 (n:Nat) (x:Int):(aam n [V.int x]).flatten=(aam n x).map V.int:=by
 induction n with
 | zero=>rfl
 | succ n ih=>rw [abl,acn,ih,abl];rfl
structure EB (H H':Hp) (ll bb gg:aaD) (ys:List V) (T:La.Tb):Prop where
 sm:ag H H'
 nb:H bb=none
 hl:H' ll=some (.lst ys)
 lb:ll≠bb
 po:Paired (fun r v=>ki H' r v∧v≠.ref bb) T.L ys
 hb:H' bb=some (.lst (gc T.b))
 hg:H' gg=some (.lst (T.g.map V.int))
 gb:gg≠bb
theorem EB.same {H H' H2:Hp} {ll bb gg:aaD} {ys:List V} {T:La.Tb} (I:EB H H' ll bb gg ys T) (s:ag H' H2):EB H H2 ll bb gg ys T :=
 ⟨ag.trans I.sm s,I.nb,s _ _ I.hl,I.lb,L2.Paired.cj I.po fun _ _ h=>⟨h.1.same s,h.2⟩,s _ _ I.hb,s _ _ I.hg,I.gb⟩
def Mw (H:Hp) (l:aaD) (E:List (List Int)) (w:Nat):Nat→St→Hp→Prop:=fun m' σ H'=>∃(m:Nat) (ll bb gg:aaD) (ys:List V) (o6 o7 o8:Option V),m'=(E.length+w) ^ w - m∧La.vj E w m ∧
 σ=[some (.ref l),some (.int (w:Int)),some (.int (E.length:Int)),some (.ref ll),some (.ref bb),some (.ref gg),o6,o7,o8]∧EB H H' ll bb gg ys (La.pZ (La.T0 E w) m)
end Bk
namespace La
def iK {α:Type}:List Bool→List α→List α
 | true::fs,a::l=>a::iK fs l
 | false::fs,_::l=>iK fs l
 | _,_=>[]
def jN:List Bool→Row→Row
 | [],_=>[]
 | false::fs,Y=>0::jN fs Y
 | true::fs,[]=>0::jN fs []
 | true::fs,y::Y=>y::jN fs Y
def idx (fs:List Bool):List Nat:=(aal fs.length).filter fun i=>fs.getD i false
theorem oI (f:Bool) (fs:List Bool):idx (f::fs)=(if f=true then [0] else [])++(idx fs).map (·+1):=by
 unfold idx
 rw [aad,aeE,acB,List.filter_map]
 have e:(fun i=>(f::fs).getD i false) ∘ Nat.succ=fun i=>fs.getD i false:=rfl
 rw [e]
 cases f <;> rfl
theorem yl {α:Type} {d:α}:∀(fs:List Bool) (D:List α),D.length=fs.length→(idx fs).map (fun i=>D.getD i d)=iK fs D
 | [],[],_=>rfl
 | [],_::_,h=>by cases h
 | _::_,[],h=>by cases h
 | f::fs,a::D,h=>by
  rw [oI,aai,abf]
  have ih:=yl (d:=d) fs D (by simpa using h)
  have e:((fun i=>(a::D).getD i d) ∘ fun x=>x+1)=fun i=>D.getD i d:=rfl
  rw [e,ih]
  cases f <;> rfl
theorem ym {α:Type} (fs:List Bool) (D:List α) (h:D.length=fs.length):(idx fs).length=(iK fs D).length:=by
 cases D with
 | nil =>
  cases fs with
  | nil=>rfl
  | cons=>cases h
 | cons a D=>rw [← yl (d:=a) fs (a::D) h,Lm9]
theorem IV {fs:List Bool} {i:Nat} (h:i∈idx fs):i<fs.length∧fs.getD i false=true:=by
 obtain⟨h1,h2⟩:=abt.mp h
 exact⟨aaz.mp h1,h2⟩
theorem su {α β:Type} {g:α→β}:∀(fs:List Bool) (D:List α),iK fs (D.map g)=(iK fs D).map g
 | [],_=>rfl
 | true::_,[]=>rfl
 | false::_,[]=>rfl
 | true::fs,a::D=>by
  show g a::iK fs (D.map g)=g a::(iK fs D).map g
  rw [su fs D]
 | false::fs,a::D=>su fs D
theorem eO {α:Type} {x:α}:∀{fs:List Bool} {D:List α},x∈iK fs D→x∈D
 | [],_,h=>nomatch h
 | true::_,[],h=>nomatch h
 | false::_,[],h=>nomatch h
 | true::fs,a::D,h=>by
  rcases aaB.mp h with e|e
  ·rw [e];exact aaN
  ·exact aan _ (eO e)
 | false::fs,a::D,h=>aan _ (eO (fs:=fs) h)
theorem yn {α:Type} {d:α}:∀{fs:List Bool} {D:List α} {i:Nat},i<D.length→fs.getD i false=true→D.getD i d∈iK fs D
 | [],_,i,_,h=>by cases h
 | _::_,[],i,h,_=>absurd h (aeS i)
 | true::fs,a::D,0,_,_=>aaN
 | false::fs,a::D,0,_,h=>by cases h
 | true::fs,a::D,i+1,h1,h2=>aan _ (yn (fs:=fs) (D:=D) (i:=i) (by simpa using h1) h2)
 | false::fs,a::D,i+1,h1,h2=>yn (fs:=fs) (D:=D) (i:=i) (by simpa using h1) h2
theorem yo {α:Type}:∀(fs:List Bool) (D:List α),(iK fs D).length≤D.length
 | [],_=>aa3 _
 | true::_,[]=>aaf _
 | false::_,[]=>aaf _
 | true::fs,a::D=>Nat.succ_le_succ (yo fs D)
 | false::fs,a::D=>Nat.le_succ_of_le (yo fs D)
theorem iH:∀(fs:List Bool) (Y:Row),(jN fs Y).length=fs.length
 | [],_=>rfl
 | false::fs,Y=>congrArg (·+1) (iH fs Y)
 | true::fs,[]=>congrArg (·+1) (iH fs [])
 | true::fs,y::Y=>congrArg (·+1) (iH fs Y)
theorem kn:∀{fs:List Bool} {Y:Row} {j:Nat},fs.getD j false=false→(jN fs Y).getD j 0=0
 | [],_,_,_=>rfl
 | false::fs,Y,0,_=>rfl
 | true::fs,Y,0,h=>by cases h
 | false::fs,Y,j+1,h=>kn (fs:=fs) (Y:=Y) (j:=j) h
 | true::fs,[],j+1,h=>kn (fs:=fs) (Y:=[]) (j:=j) h
 | true::fs,y::Y,j+1,h=>kn (fs:=fs) (Y:=Y) (j:=j) h
theorem kq:∀(fs:List Bool) (Y:Row) (i:Nat),i<(idx fs).length→(jN fs Y).getD ((idx fs).getD i 0) 0=Y.getD i 0
 | [],_,i,h=>absurd h (aeS i)
 | false::fs,Y,i,h=>by
  rw [oI] at h ⊢
  have h':i<(idx fs).length:=by simpa using h
  have e:((if false=true then [0] else [])++(idx fs).map (·+1)).getD i 0=(idx fs).getD i 0+1:=by
   show((idx fs).map (·+1)).getD i 0=_
   rw [Gd9,aaq,Gd9,Ge9 h']
   rfl
  rw [e]
  exact kq fs Y i h'
 | true::fs,Y,0,h=>by
  rw [oI]
  show(jN (true::fs) Y).getD 0 0=_
  cases Y <;> rfl
 | true::fs,Y,i+1,h=>by
  rw [oI] at h ⊢
  have h':i<(idx fs).length:=by simpa using h
  have e:((if true=true then [0] else [])++(idx fs).map (·+1)).getD (i+1) 0=(idx fs).getD i 0+1:=by
   show((idx fs).map (·+1)).getD i 0=_
   rw [Gd9,aaq,Gd9,Ge9 h']
   rfl
  rw [e]
  cases Y with
  | nil =>
   show(jN fs []).getD ((idx fs).getD i 0) 0=_
   rw [kq fs [] i h']
   rfl
  | cons y Y=>exact kq fs Y i h'
theorem ua:∀(fs:List Bool) (C Y:Row),C.length=fs.length→Y.length=(iK fs C).length→dot C (jN fs Y)=dot (iK fs C) Y
 | [],[],Y,_,_=>by cases Y <;> rfl
 | [],_::_,_,h,_=>by cases h
 | _::_,[],_,h,_=>by cases h
 | false::fs,c::C,Y,h1,h2=>by
  have ih:=ua fs C Y (by simpa using h1) h2
  show c * 0+dot C (jN fs Y)=_
  rw [ih,aaL,adg]
  rfl
 | true::fs,c::C,[],_,h2=>by cases h2
 | true::fs,c::C,y::Y,h1,h2=>by
  have ih:=ua fs C Y (by simpa using h1) (by
   have:(y::Y).length=(c::iK fs C).length:=h2
   simpa using this)
  show c * y+dot C (jN fs Y)=c * y+dot (iK fs C) Y
  rw [ih]
theorem iI:∀{fs:List Bool} {Y:Row} {x:Int},x∈jN fs Y→x∈Y∨x=0
 | [],_,_,h=>nomatch h
 | false::fs,Y,x,h=>by
  rcases aaB.mp h with e|e
  ·exact .inr e
  ·exact iI (fs:=fs) e
 | true::fs,[],x,h=>by
  rcases aaB.mp h with e|e
  ·exact .inr e
  ·exact iI (fs:=fs) e
 | true::fs,y::Y,x,h=>by
  rcases aaB.mp h with e|e
  ·exact .inl (by rw [e];exact aaN)
  ·exact(iI (fs:=fs) e).imp (aan _) id
theorem IW {fs:List Bool} {Y:Row} {x:Int} (h:Y.length=(idx fs).length) (hx:x∈Y):x∈jN fs Y:=by
 obtain⟨i,hi,rfl⟩:=yk hx
 have hi':i<(idx fs).length:=by omega
 rw [← kq fs Y i hi']
 have hm:(idx fs).getD i 0∈idx fs:=by rw [Gd9,Ge9 hi'];exact aas hi'
 have hl:=(IV hm).1
 rw [← iH fs Y] at hl
 rw [Gd9,Ge9 hl]
 exact aas hl
def told (fs:List Bool) (D:List Row) (w:Nat):Row:=if mw (iK fs D) w=true then km (iK fs D) w else jN fs (km (iK fs D) w)
structure ToldF (fs:List Bool) (D:List Row) (w:Nat) (W:Row):Prop where
 len:W.length=w
 pos:∀x∈W,0≤x
 bd:Bd 95 W
 fall:∀i,i<D.length→fs.getD i false=true→dot (li D i) W<0
structure IX (fs:List Bool) (D:List Row) (w:Nat) (Y:Row):Prop where
 len:Y.length=D.length
 pos:∀x∈Y,0≤x
 bd:Bd 95 Y
 some:∃x∈Y,x≠0
 off:∀i,fs.getD i false=false→Y.getD i 0=0
 keep:∀k,k<w→0≤dot (D.map (·.getD k 0)) Y
theorem Oc {fs:List Bool} {D:List Row} {w:Nat} (hl:D.length=fs.length) (hD:∀r∈D,r.length=w) (hB:∀r∈D,Bd 2 r) (hw:w≤5) (h:mw (iK fs D) w=true):ToldF fs D w (told fs D w):=by
 have F:=Fv (E:=iK fs D) (fun r hr=>hD r (eO hr)) (fun r hr=>hB r (eO hr)) hw h
 unfold told
 rw [if_pos h]
 refine⟨F.len,F.pos,F.bd,fun i hi hf=>?_⟩
 obtain⟨j,hj,e⟩:=nv (yn (d:=[]) hi hf)
 have:=F.fall j hj
 rw [← e] at this
 exact this
theorem Od {fs:List Bool} {D:List Row} {w:Nat} (hl:D.length=fs.length) (hD:∀r∈D,r.length=w) (hB:∀r∈D,Bd 2 r) (hw:w≤5) (h:mw (iK fs D) w=false):IX fs D w (told fs D w):=by
 have F:=xb (E:=iK fs D) (fun r hr=>hD r (eO hr)) (fun r hr=>hB r (eO hr)) hw h
 unfold told
 rw [if_neg (by rw [h];decide)]
 have hlen:(km (iK fs D) w).length=(idx fs).length:=by rw [F.len,ym fs D hl]
 refine⟨by rw [iH,hl],fun x hx=>?_,fun x hx=>?_,?_,fun i hi=>kn hi,fun k hk=>?_⟩
 ·rcases iI hx with q|q
  ·exact F.pos x q
  ·rw [q];exact adb 0
 ·rcases iI hx with q|q
  ·exact F.bd x q
  ·rw [q];exact aa3 _
 ·obtain⟨x,hx,h0⟩:=F.some
  exact⟨x,IW hlen hx,h0⟩
 ·rw [ua fs _ _ (by rw [Lm9,hl]) (by rw [su,Lm9];exact F.len),su]
  exact F.keep k hk
end La
namespace Bk
open PySem L2 eJ
def aP (rs:List Rl):List Bool:=rs.map fun r=>!decide (r.take=[])
def IY (K:aaa) (c:Cl):Sp:=fun vs H Q _=>∃(v:V) (H0:Hp) (ks:List Kd) (rs:List Rl),vs=[v]∧tw K c H0 H ks rs v∧ks.length≤10000∧rs.length≤8∧(∀r∈rs,r.put.length≤4∧r.take.length≤4)∧(passing ks).length≤5∧Ob H Q (La.mw (La.iK (aP rs) (f6 ks rs)) (passing ks).length) (La.told (aP rs) (f6 ks rs) (passing ks).length)
def B2 (rs:List RI):List Bool:=rs.map fun r=>!decide (r.1=[])
structure C9 (K:aaa) (H:Hp) (lt lr:aaD) (ws us:List V) (D:List (List Int)) (rs:List RI) (w:Nat):Prop where
 eE:H lt=some (.lst ws)
 pw:Paired (ki H) D ws
 mq:H lr=some (.lst us)
 pu:Paired (qS K H) rs us
 lD:D.length=rs.length
 lw:∀r∈D,r.length=w
 sm:∀r∈D,∀i∈r,sm i
 few:rs.length≤8
 QK:w≤5
theorem C9.same {K:aaa} {H H':Hp} {lt lr:aaD} {ws us:List V} {D:List (List Int)} {rs:List RI} {w:Nat} (T:C9 K H lt lr ws us D rs w) (s:ag H H'):C9 K H' lt lr ws us D rs w :=
 ⟨s _ _ T.eE,L2.Paired.cj T.pw fun _ _ h=>h.same s,s _ _ T.mq,L2.Paired.cj T.pu fun _ _ h=>h.same s,T.lD,T.lw,T.sm,T.few,T.QK⟩
def Mx:Sp:=fun vs H Q _=>∃(a:aaD) (r:List Int),vs=[.ref a]∧H a=some (.lst (r.map V.int))∧(∀x∈r,0≤x)∧La.Bd 95 r∧Q (.bl true) H
def Br (K:aaa):Sp:=fun vs H Q _=>∃(lt lr a:aaD) (ws us:List V) (D:List (List Int)) (rs:List RI) (w:Nat) (W:List Int),vs=[.ref lt,.ref lr,.ref a]∧C9 K H lt lr ws us D rs w∧H a=some (.lst (W.map V.int))∧La.ToldF (B2 rs) D w W∧∀H',ag H H'→Q (.bl true) H'
def Bs (K:aaa):Sp:=fun vs H Q _=>∃(lt lr a:aaD) (ws us:List V) (D:List (List Int)) (rs:List RI) (w:Nat) (Y:List Int),vs=[.ref lt,.ref lr,.ref a,.int (w:Int)]∧C9 K H lt lr ws us D rs w∧H a=some (.lst (Y.map V.int))∧La.IX (B2 rs) D w Y∧∀H',ag H H'→Q (.bl true) H'
def EC (K:aaa):Sp:=fun vs H Q _=>∃(lt lr t a:aaD) (ws us:List V) (D:List (List Int)) (rs:List RI) (w:Nat) (R:List Int) (b:Bool),vs=[.ref lt,.ref lr,.ref t,.int (w:Int)]∧C9 K H lt lr ws us D rs w∧H t=some (.tup [gJ b,.ref a])∧H a=some (.lst (R.map V.int))∧(b=true→La.ToldF (B2 rs) D w R)∧(b=false→La.IX (B2 rs) D w R)∧∀H',ag H H'→Q (.bl true) H'
theorem IZ {rs:List RI} {i:Nat} (h:i<rs.length):(B2 rs).getD i false = !decide (rs[i].1=[]):=by
 unfold B2
 rw [Gd9,aaq,Ge9 h]
 rfl
theorem takes_all {zs:List Cs} {rs:List RI}:aP (Ej zs rs)=B2 rs:=by
 unfold aP Ej B2
 rw [abf]
 apply ac2
 ·simp
 ·intro i h1 h2
  simp at h1 h2
  rw [aa1,aa1,ado]
  have e:rs[i]=rowAt rs i:=by
   show _=rs.getD i ([],[])
   rw [Gd9,Ge9 h1]
   rfl
  have et:(fm (cN i) (A9 zs rs i)).take=(nm zs rs[i].1).map bare:=by
   show(fm (cN i) ((aU zs i (rowAt rs i)).map gY)).take=_
   rw [fI]
   show(dR 0 (aU zs i (rowAt rs i))).map bare=_
   rw [si,e]
  show(!decide ((fm (cN i) (A9 zs rs i)).take=[])) = !decide (rs[i].1=[])
  rw [et]
  congr 1
  unfold nm
  simp
end Bk
namespace L2
open PySem PySem.Spec PyProof.Rows
section
variable {X:Cx}
theorem Bt {i:Nat} {y:Str} {py pos G1:Pos} {tg iter elt:Expr} {ifs:List Expr} {scope:Scope} {wi:TI} {tt:TT} {te:TE} {g:TG} (xs:List Str) (aG:List Nat)
  (hN:X.N.Nodup) (JK:X.N[i]?=some y) (hy:Loc X.env.scope y)
  (hc:X.calm=true) (ho:ox X.env.scope scope xs (cT X xs aG)=true) (hi:PI X tg iter wi) (hg:∀cl C s₀ H₀ ex,PG (cy X scope cl (cT X xs aG) C s₀ H₀ ex) tg g)
  (ht:∀cl C s₀ H₀ ex,E3 (cy X scope cl (cT X xs aG) C s₀ H₀ ex) ifs tt) (he:∀cl C s₀ H₀ ex,PE (cy X scope cl (cT X xs aG) C s₀ H₀ ex) elt te)
  (hsw:swapsWith (.ListComp elt [⟨tg,iter,ifs,0⟩] scope pos) (some (.Name y py)) G1.line X.env=pure true:=by rfl)
  (hs:∀x,foldedSetIterable iter X.env x=pure x:=by intro _;rfl) (hf:X.fn y=true∨X.env.scope.names.lookup y=some .local:=by first|exact .inl rfl|exact .inr rfl|assumption) :
  PS X (.Assign [.Name y py] (.ListComp elt [⟨tg,iter,ifs,0⟩] scope pos) G1) (JU (CN xs.length wi g tt te aG) (jD i)):=by
 intro pins s σ H D I h
 rw [exec_Assign_Name_used _ _ _ _ hsw]
 refine aap (wpAny_standAt (aap ?_))
 show abb _ X.A (do let _ ← comprehension (.ListComp elt [⟨tg,iter,ifs,0⟩] scope pos) scope X.env _ (newList []) false (eval iter X.env) (some (assign (.Name y py) X.env))) _ _ s
 refine aap (wpAny_mono (tQ (QQ:=fun _ s'=>SP X pins D .next s') (use:=some (assign (.Name y py) X.env)) hc ho hi hg ht he hs I h fun D' C H' s' m J q hn hf'=>?_) (fun _ s' hq=>aaP (aaP hq)) fun _ _ e=>e)
 refine wpAny_assign_Name (pC (v:=.ref D') J hN JK hy rfl (fun s2 I2 OP=>?_) hf)
 obtain⟨a,sb,ha⟩:=OP
 have hne:C≠a:=by
  rcases ha with rfl|e
  ·exact hf'.2.1
  ·exact fun z=>hf'.2.2.2.2.1 y a e z.symm
 exact⟨m,hn.sameBut sb hne,fun YZ Uh=>⟨_,H',I2.turned (t':=s2.toks) (fun b o hb e=>(Uh.2 b hb).trans e) hf'.1 hf'.2.1 hf'.2.2.2.1 hf'.2.2.2.2.1 hf'.2.2.2.2.2,q⟩⟩
end
theorem xc {k:Nat} {g:TG} {tt:TT} {te:TE} {aG:List Nat} {σ:St} {H1:Hp} {Q:VK} {K:aaa} {a D:aaD} {xs:List V} (hn:xs.length<aao) (Pv:Nat→List V→St→Hp→Prop) (h0:Pv 0 [] (kb k σ aG) (upd H1 D (.lst [])))
  (hl:∀i zs τ H,Pv i zs τ H→aB K H a xs) (hD:∀i zs τ H,Pv i zs τ H→H D=some (.lst zs)∧zs.length≤i)
  (hs:∀i zs τ H t v,Pv i zs τ H→xs[i]?=some v→H t=none→g (.ref t) τ (upd H t (.tup [.int (i:Int),v])) fun τ2 H2=>tt τ2 H2 fun b H3 =>
   if b=true then te τ2 H3 fun y H4=>H4 D=some (.lst zs)∧Pv (i+1) (zs++[y]) τ2 (upd H4 D (.lst (zs++[y]))) else Pv (i+1) zs τ2 H3)
  (hd:∀zs τ H,Pv xs.length zs τ H→Q (.ref D) H):CM k g tt te aG σ Q (NF K a) H1 D:=by
 refine⟨fun i m zs τ H=>m=xs.length - i∧i≤xs.length∧Pv i zs τ H,⟨xs.length,by simp,aa3 _,h0⟩,?_⟩
 rintro i m zs τ H ⟨rfl,hi,p⟩
 obtain⟨mn,Qp⟩:=hD i zs τ H p
 have ha:=hl i zs τ H p
 refine⟨mn,by omega,?_⟩
 by_cases eE:i<xs.length
 ·refine .inr ⟨⟨xs,xs[i],ha,by simp⟩,Pv (i+1),fun zs τ H' q=>⟨xs.length - (i+1),by omega,rfl,eE,q⟩,fun x H' y=>?_⟩
  obtain⟨t,v,ht,rfl,rfl,hv⟩:=y
  exact hs i zs τ H t v p (hv xs ha) ht
 ·have e:i=xs.length:=by omega
  subst e
  exact .inl ⟨⟨xs,ha,aaf _⟩,hd zs τ H p⟩
section
variable {X:Cx}
theorem Fx:fT X (.builtin "max") (fun xs H Q=>∃(p:aaD) (ks:List Int),xs=[.ref p]∧X.calm=true∧aB X.K H p (ks.map V.int)∧ks≠[]∧∀m∈ks,(∀k∈ks,k≤m)→Q (.int m) H):=by
 intro pins s σ H xs us Q I r h
 obtain⟨p,ks,rfl,hc,hq,hne,q⟩:=h
 obtain⟨u,rfl,rx⟩:=vals1 r
 cases rx
 obtain⟨its,r',pl,hz⟩:=I.list hq
 obtain⟨hl,hi⟩:=HX r'
 have eE:p<s.heap.objs.size:=by
  obtain⟨_,e,_⟩:=pl.isList
  exact aay e
 have Fu:0<ks.length:=ada.mpr hne
 refine call_max_walk (wpAny_pyIter_list pl.isList ?_)
 refine⟨s.heap.objs.size,[s.heap.objs.size,p],[s.heap.objs.size],its.toArray.size,_,_,fun i j=>decide (ks.getD i 0 > ks.getD j 0),rfl,Walks.list (A:=X.A.in1) (I.ok.hd hc) _ p (aaW eE) its.toArray,
  ⟨⟨_,aaM _ rfl,rfl,rfl⟩,pl.isList.push _⟩,fun b hb=>?_,(by rw [aau,hl];exact Fu),CmpOf.ints_gt (fun i=>ks.getD i 0) (fun i v hP=>hi i v (by simpa using hP)),fun v h' tk hP hk=>?_⟩
 ·show b<(s.heap.push _).objs.size
  rw [acb]
  rcases(by simpa using hb:b=s.heap.objs.size∨b=p) with e|e <;> rw [e]
  ·exact aes _
  ·exact acQ eE
 ·have el:its.toArray.size=ks.length:=by rw [aau,hl]
  rw [el] at hP
  obtain⟨b1,b2⟩:=argBest_gt (fun i=>ks.getD i 0) (ks.length - 1)
  have hP':its[argBest (fun i j=>decide (ks.getD i 0 > ks.getD j 0)) (ks.length - 1)]?=some v:=by rw [← List.getElem?_toArray];exact hP
  obtain⟨t,ev⟩:=hi _ v hP'
  generalize argBest (fun i j=>decide (ks.getD i 0 > ks.getD j 0)) (ks.length - 1)=j at b1 b2 ev
  have hj:j<ks.length:=by omega
  have ej:ks.getD j 0=ks[j]:=by simp [Gd9,hj]
  have b2:∀i,i≤ks.length - 1→ks.getD i 0≤ks.getD j 0:=b2
  rw [ej] at ev b2
  refine⟨.int ks[j],H,I.kept (t':=tk) fun b o e=>hk b o (fun hm=>?_) (aag _ e),⟨t,ev⟩,q _ (aas hj) fun k hk=>?_⟩
  ·rw [aaw.mp hm] at e
   exact abM _ (aay e)
  ·obtain⟨i,hi',rfl⟩:=List.mem_iff_getElem.mp hk
   have z:=b2 i (by omega)
   rw [show ks.getD i 0=ks[i] by simp [Gd9,hi']] at z
   exact z
end
end L2
namespace fq
open PySem L2 eJ Bk
set_option maxHeartbeats 4000000
def top (i:Nat):Stmt:=PySem.Challenge.pw_poolrules_k34_weights_or_a_round.main.body.getD i (.Pass ⟨0,0,0,0⟩)
abbrev yp:Stmt:=top 2
abbrev qb:Stmt:=top 3
abbrev qc:Stmt:=top 4
abbrev qd:Stmt:=top 5
abbrev qe:Stmt:=top 7
abbrev ft:Stmt:=top 8
abbrev ub:Stmt:=top 9
abbrev qf:Stmt:=top 11
abbrev d8:Stmt:=top 12
abbrev i6:Stmt:=top 13
abbrev g6:Stmt:=top 14
abbrev qg:Stmt:=top 15
abbrev uc:Stmt:=top 16
abbrev fu:Stmt:=top 31
abbrev qh:Stmt:=top 32
abbrev nA:Stmt:=top 33
abbrev gf:Stmt:=top 34
abbrev gh:Stmt:=top 35
abbrev ud:Stmt:=top 36
abbrev nB:Stmt:=top 37
abbrev nC:Stmt:=top 38
abbrev qi:Stmt:=top 39
abbrev gi:Stmt:=top 40
abbrev g7:Stmt:=top 42
abbrev g8:Stmt:=top 43
abbrev kr:Stmt:=inClass (top 45) 0
abbrev i7:Stmt:=top 54
abbrev qj:Stmt:=top 55
abbrev g9:Stmt:=top 56
abbrev ku:Stmt:=top 57
abbrev ky:Stmt:=top 58
abbrev kz:Stmt:=top 59
abbrev i8:Stmt:=top 60
abbrev kC:Stmt:=top 61
abbrev i9:Stmt:=top 62
abbrev kE:Stmt:=top 63
abbrev dS:Stmt:=top 64
abbrev ue:Stmt:=top 65
abbrev kI:Stmt:=inClass (top 67) 0
abbrev ja:Stmt:=inClass (top 67) 1
abbrev kJ:Stmt:=inClass (top 68) 0
abbrev jb:Stmt:=top 69
abbrev kL:Stmt:=top 70
abbrev kO:Stmt:=top 71
abbrev jc:Stmt:=top 72
abbrev jd:Stmt:=top 73
abbrev hV:Stmt:=top 74
abbrev je:Stmt:=top 75
abbrev kU:Stmt:=top 77
abbrev hW:Stmt:=top 78
abbrev kW:Stmt:=top 79
abbrev jf:Stmt:=top 80
abbrev jg:Stmt:=top 81
abbrev gj:Stmt:=top 82
abbrev nD:Stmt:=top 83
abbrev jh:Stmt:=top 84
abbrev gk:Stmt:=top 85
abbrev ji:Stmt:=top 86
abbrev jj:Stmt:=top 87
abbrev kY:Stmt:=top 88
abbrev oJ:Stmt:=top 89
section
variable {P:aa4} {w:abu} {K:aaa} {mg:Str→Option aae} {base:Heap} {f:aaD} {fd:abo} {c:Cl}
theorem rF:ax ["sign"] ["sign"] (aq gf):=⟨rfl,rfl,rfl,by decide +kernel,rfl,by decide +kernel,by decide +kernel⟩
theorem rG {u1 u2 u3:aae} (F:cY K "is_name_sign" "is_name_sign" gf f fd) (yq:mg "SMALL"=some u1) (yr:RelV (.str gU) u1) (yt:mg "GREAT"=some u2) (yu:RelV (.str pN) u2) (Fy:mg "FIGURES"=some u3) (Fz:RelV (.str Kv) u3) :
  aY P w K mg base cS 1 f fd ["sign"] Cy:=by
 refine F.ok rF (fun vs H Q E h=>?_) (fun cx A outer s H vs Q E hr h=>?_)
 ·obtain⟨c,rfl,_⟩:=h
  rfl
 obtain⟨c,rfl,q⟩:=h
 refine⟨_,(ah (ay (LR (eG fN (pv 0) (de rfl yq yr) (by with_unfolding_all rfl)) (LR (eG fN (pv 0) (de rfl yt yu) (by with_unfolding_all rfl)) (mY (eG fN (pv 0) (de rfl Fy Fz) (by with_unfolding_all rfl))))))),?_⟩
 refine⟨_,rfl,_,_,rfl,rfl,_,rfl,?_⟩
 rw [acr]
 refine df (fun z=>?_) (fun z=>?_)
 ·have e:bu c=true:=by unfold bu;rw [z];rfl
  rw [e] at q
  exact q
 refine⟨_,rfl,_,_,rfl,rfl,_,rfl,?_⟩
 rw [acr]
 have z':decide (c∈gU.cps.toList)=false:=by simpa using z
 refine df (fun y=>?_) (fun y=>?_)
 ·have e:bu c=true:=by unfold bu;rw [y];simp
  rw [e] at q
  exact q
 have y':decide (c∈pN.cps.toList)=false:=by simpa using y
 refine⟨_,rfl,_,_,rfl,rfl,?_⟩
 rw [acr]
 have e:bu c=decide (c∈Kv.cps.toList):=by unfold bu;rw [z',y'];rfl
 rw [e] at q
 exact q
theorem Dc:ax ["text"] ["text"] (aq qh):=⟨rfl,rfl,rfl,by decide +kernel,rfl,by decide +kernel,by decide +kernel⟩
theorem Dd {u1:aae} (F:cY K "is_name" "is_name" qh f fd) (cJ:cV P w K mg base "is_name_sign" 1 ["sign"] Cy)
  (aW:mg "len"=none) (QL:mg "all"=none) (FA:mg "LONGEST"=some u1) (FC:RelV (.int 12) u1):aY P w K mg base cS 2 f fd ["text"] (AB fC):=by
 refine F.ok Dc (fun vs H Q E h=>?_) (fun cx A outer s H vs Q E hr h=>?_)
 ·obtain⟨c,rfl,_⟩:=h
  rfl
 obtain⟨x,rfl,hx,q⟩:=h
 refine⟨_,(ah (ay (mZ (GH LW LW aj (aE iP rfl aW aaH (aa (pv 0) af)) (de rfl FA FC)) (mY (aE G4 rfl QL PyProof.Rows.boot_all (aa (b6 [] rfl (by kernel_rfl) (Nh (pv 0)) (fun _ _ _ _ _=>bp) (fun _ _ _ _ _=>(ao cJ (hr.mono (by decide)) rfl (aa (pv 0) af)))) af)))))),?_⟩
 refine⟨_,rfl,x,rfl,sz (by omega),_,_,rfl,rfl,_,rfl,?_⟩
 refine df (fun c1=>?_) (fun c1=>?_)
 ·refine⟨_,_,rfl,rfl,_,rfl,?_⟩
  refine df (fun c2=>?_) (fun c2=>?_)
  ·refine⟨_,rfl,x,rfl,fun D hD=>?_⟩
   refine G3 (x:=x) (fj (show x.cps.size≤100000 by have z:x.cps.size≤20000:=hx;omega)) (fun i ys H'=>ag H H'∧H' D=some (.lst ys)∧ys=((x.cps.toList.take i).map bu).map V.bl) ⟨ak hD _,ab,rfl⟩ (fun i ys H' p=>⟨p.2.1,?_⟩) (fun i ys H' hi p=>?_) (fun ys H' p=>?_)
   ·rw [p.2.2]
    simp
    omega
   ·refine⟨_,rfl,_,rfl,p.2.1,?_⟩
    refine⟨fun b o e=>?_,ab,?_⟩
    ·rw [ar (aI e hD)]
     exact p.1 b o e
    ·rw [p.2.2]
     have hi':i<x.cps.toList.length:=by simpa using hi
     rw [aaA hi']
     simp [adO,hi]
   ·refine⟨D,(x.cps.toList.map bu),rfl,rfl,.inl (.inl ?_),?_⟩
    ·rw [p.2.1,p.2.2,ab6 (by simp)]
    ·have e:fC x=(x.cps.toList.map bu).all id:=by
      unfold fC
      rw [c1,c2]
      simp [List.all_map,afs]
     have q':=q H' p.1
     rw [e] at q'
     exact q'
  ·have e:fC x=false:=by
    unfold fC
    have QM:decide ((x.length:Int)≤12)=false:=by simpa using c2
    rw [QM]
    simp
   have q':=q H (ag.refl H)
   rw [e] at q'
   exact q'
 ·have e:fC x=false:=by
   unfold fC
   have Zx:decide ((1:Int)≤x.length)=false:=by simpa using c1
   rw [Zx]
   simp
  have q':=q H (ag.refl H)
  rw [e] at q'
  exact⟨_,rfl,bh q'⟩
theorem qk:ax ["text"] ["text"] (aq fu):=⟨rfl,rfl,rfl,by decide +kernel,rfl,by decide +kernel,by decide +kernel⟩
theorem qm {u1:aae} (F:cY K "is_small_word" "is_small_word" fu f fd) (cR:cV P w K mg base "is_name" 2 ["text"] (AB fC))
  (yq:mg "SMALL"=some u1) (yr:RelV (.str gU) u1):aY P w K mg base cS 3 f fd ["text"] (AB iT):=by
 refine F.ok qk (fun vs H Q E h=>?_) (fun cx A outer s H vs Q E hr h=>?_)
 ·obtain⟨c,rfl,_⟩:=h
  rfl
 obtain⟨x,rfl,hx,q⟩:=h
 refine⟨_,(ah (ay (mZ (ao cR (hr.mono (by decide)) rfl (aa (pv 0) af)) (mY (eG fN (aw pH (pv 0) aj (fun _ _=>rfl)) (de rfl yq yr) (by with_unfolding_all rfl)))))),?_⟩
 refine⟨_,rfl,x,rfl,hx,fun H' sm=>⟨_,rfl,?_⟩⟩
 have q':=q H' sm
 unfold iT at q'
 refine df (fun c=>?_) (fun c=>?_)
 ·refine⟨_,rfl,x,0,_,rfl,rfl,sz (by omega),DX (He c),_,_,rfl,rfl,?_⟩
  rw [acr]
  rw [c,Bool.true_and] at q'
  exact q'
 ·have e:fC x=false:=by simpa using c
  rw [e,Bool.false_and] at q'
  exact q'
theorem kZ:ax ["text","start","end"] ["text","start"] (aq nB):=⟨rfl,rfl,rfl,by decide +kernel,rfl,by decide +kernel,by decide +kernel⟩
theorem Bu (F:cY K "name_end" "name_end" nB f fd) (cJ:cV P w K mg base "is_name_sign" 1 ["sign"] Cy) (aW:mg "len"=none):aY P w K mg base cS 2 f fd ["text","start"] Ma:=by
 refine F.ok kZ (fun vs H Q E h=>?_) (fun cx A outer s H vs Q E hr h=>?_)
 ·obtain⟨x,p,rfl,_⟩:=h
  rfl
 obtain⟨x,p,rfl,hx,hp,q⟩:=h
 have hl:=xT x
 refine⟨_,(ae (aA (i:=2) kZ.nd rfl (aaQ rfl) (pv 1))
 (ae (iu aaG (PW.pt (gP (au sJ (pv 2) (aE iP rfl aW aaH (aa (pv 0) af)) (aF _)) (fD (bV (ao cJ (hr.mono (by decide)) rfl (aa (aw pH (pv 0) (pv 2) (fun _ _=>rfl)) af))))))
 (ah (xB (i:=2) kZ.nd rfl (aaQ rfl) aj xC)))
 (ah (ay (pv 2))))),?_⟩
 refine⟨_,rfl,fun m σ H'=>H'=H∧∃j:Nat,m=x.length - (p+j)∧σ=[some (.str x),some (.int p),some (.int ((p+j:Nat):Int))]∧p+j≤x.length∧bE (x.cps.toList.drop p)=j+bE (x.cps.toList.drop (p+j)),⟨_,rfl,0,rfl,rfl,hp,by simp⟩,?_⟩
 rintro m σ H' ⟨rfl,j,rfl,rfl,hj,e⟩
 refine⟨_,rfl,_,rfl,x,rfl,sz (by omega),_,_,rfl,rfl,_,rfl,?_⟩
 refine df (fun c=>?_) (fun c=>?_)
 ·have c':p+j<x.length:=by
   have z:=of_decide_eq_true c
   omega
  have hd:x.cps.toList.drop (p+j)=x.cps.toList.getD (p+j) 0::x.cps.toList.drop (p+j+1):=Az (by omega)
  rw [hd,xW] at e
  refine⟨_,rfl,_,rfl,x,_,_,rfl,rfl,sz (by omega),Hf (by omega) (by omega),_,rfl,_,rfl,?_⟩
  rw [show((p+j:Nat):Int).toNat=p+j by omega]
  refine df (fun c2=>?_) (fun c2=>?_)
  ·rw [if_pos c2] at e
   refine⟨fun σ' H2=>H2=H'∧σ'=[some (.str x),some (.int p),some (.int ((p+(j+1):Nat):Int))],fun σ' H2 z=>⟨x.length - (p+(j+1)),by omega,z.1,j+1,rfl,z.2,by omega,by rw [← Nat.add_assoc];omega⟩,?_⟩
   refine⟨_,rfl,_,_,rfl,rfl,rfl,?_⟩
   show [some (V.str x),some (V.int p),some (V.int (((p+j:Nat):Int)+1))]=_
   rw [show((p+(j+1):Nat):Int)=((p+j:Nat):Int)+1 by omega]
  ·rw [if_neg c2] at e
   refine⟨_,rfl,?_⟩
   rw [e] at q
   exact q
 ·have c':¬ (p+j<x.length):=fun z=>c (decide_eq_true (by omega))
  have hd:x.cps.toList.drop (p+j)=[]:=adw (by omega)
  rw [hd] at e
  refine bh ⟨_,rfl,?_⟩
  rw [e] at q
  exact q
theorem d9:ax ["text","marks","found","place","end","sign"] ["text","marks"] (aq ud):=⟨rfl,rfl,rfl,by decide +kernel,rfl,by decide +kernel,by decide +kernel⟩
theorem FD (F:cY K "pieces" "pieces" ud f fd) (nE:cV P w K mg base "name_end" 2 ["text","start"] Ma) (aW:mg "len"=none):aY P w K mg base cS 3 f fd ["text","marks"] AD:=by
 refine F.ok d9 (fun vs H Q E h=>?_) (fun cx A outer s H vs Q E hr h=>?_)
 ·obtain⟨x,m,rfl,_⟩:=h
  rfl
 obtain⟨x,mk,rfl,hx,UT,hok,q⟩:=h
 have hl:=xT x
 refine⟨_,(ae (aA (i:=2) d9.nd rfl (aaQ rfl) (bF af))
 (ae (aA (i:=3) d9.nd rfl (aaQ rfl) aj)
 (ae (iu aaG (au sJ (pv 3) (aE iP rfl aW aaH (aa (pv 0) af)) (aF _))
 (ae (aA (i:=4) d9.nd rfl (aaQ rfl) (ao nE (hr.mono (by decide)) rfl (aa (pv 0) (aa (pv 3) af))))
 (ae (aV (au jU (pv 4) (pv 3) (aF _))
 (ae (a7 (ck aaC aaV aaY bg (pv 2) (aa (dN Ni (pv 0) (dM (pv 3)) (dM (pv 4))) af)))
 (ae (aA (i:=3) d9.nd rfl (aaQ rfl) (pv 4))
 (ah Ag)))
 aC)
 (ae (aA (i:=5) d9.nd rfl (aaQ rfl) (aw pH (pv 0) (pv 3) (fun _ _=>rfl)))
 (ae (aV (au fN (pv 5) (pv 1) (by with_unfolding_all rfl))
 (ah (a7 (ck aaC aaV aaY bg (pv 2) (aa (pv 5) af))))
 (ah (aV (au eU (pv 5) aM (aF _))
 aZ
 aC)))
 (ah (xB (i:=3) d9.nd rfl (aaQ rfl) aj xC)))))))
 (ah (ay (pv 2)))))),?_⟩
 refine⟨(by show 0≤aao;decide),fun l Ft=>?_⟩
 refine⟨DY x mk l H,⟨_,0,[],none,none,rfl,rfl,aa3 _,ak Ft _,ab,rfl⟩,?_⟩
 rintro m σ H' ⟨p,done,o3,o4,rfl,rfl,hp,sm,hL,e⟩
 have hlen:done.length≤20000:=by
  have z:=congrArg ae3 e
  rw [aab] at z
  have z2:=AF x.cps.toList
  omega
 refine⟨_,rfl,_,rfl,x,rfl,sz (by omega),_,_,rfl,rfl,_,rfl,?_⟩
 refine df (fun c=>?_) (fun c=>?_)
 ·have c':p<x.length:=by
   have z:=of_decide_eq_true c
   omega
  refine⟨fun σ' H2=>∃m',m'<x.length - p∧DY x mk l H m' σ' H2,fun σ' H2 z=>z,?_⟩
  refine⟨_,rfl,_,rfl,x,p,rfl,hx,hp,?_⟩
  refine⟨_,rfl,_,rfl,_,_,rfl,rfl,_,rfl,?_⟩
  have hd:=Az (l:=x.cps.toList) (i:=p) (by omega)
  have Xu:=Cz (x.cps.toList.drop p)
  rw [aa9] at Xu
  refine df (fun c2=>?_) (fun c2=>?_)
  ·have QM:0<bE (x.cps.toList.drop p):=by
    have z:=of_decide_eq_true c2
    omega
   refine⟨_,rfl,.inl ⟨rfl,_,aB.of hL⟩,_,rfl,_,rfl,_,rfl,_,rfl,_,rfl,x,rfl,sz (by omega),?_⟩
   rw [Ky (by omega)]
   refine⟨l,_,_,rfl,rfl,hL,(by rw [Lm9];exact fj (by omega)),?_⟩
   refine⟨_,rfl,x.length - (p+bE (x.cps.toList.drop p)),by omega,p+bE (x.cps.toList.drop p),done++[(x.cps.toList.drop p).take (bE (x.cps.toList.drop p))],_,_,rfl,rfl,by omega,ag.aJ sm Ft _,?_,?_⟩
   ·rw [ab,aai]
    rfl
   ·rw [tq (by omega),adA] at e
    rw [aa2]
    exact e
  ·have QM:bE (x.cps.toList.drop p)=0:=by
    have z:¬ ((p:Int)<((p+bE (x.cps.toList.drop p):Nat):Int)):=fun z=>c2 (decide_eq_true z)
    omega
   have Gk:bu (x.cps.toList.getD p 0)=false:=by
    rw [hd] at QM
    exact xS QM
   have SG:Mb mk (x.cps.toList.getD p 0)=true:=by
    rw [abn] at hok
    exact hok _ (abr (getD_get (by omega)))
   refine⟨_,rfl,_,rfl,x,p,_,rfl,rfl,sz (by omega),Hf (by omega) (by omega),?_⟩
   rw [show((p:Nat):Int).toNat=p by omega]
   refine⟨_,rfl,_,rfl,_,_,rfl,rfl,_,rfl,?_⟩
   rw [acr]
   rw [hd] at e
   refine df (fun c3=>?_) (fun c3=>?_)
   ·have hb:x.cps.toList.getD p 0≠32:=fun z=>UT (by have:=of_decide_eq_true c3;rw [z] at this;exact this)
    rw [m8 Gk hb] at e
    refine⟨_,rfl,.inl ⟨rfl,_,aB.of hL⟩,_,rfl,l,_,_,rfl,rfl,hL,(by rw [Lm9];exact fj (by omega)),?_⟩
    refine⟨_,rfl,_,_,rfl,rfl,x.length - (p+1),by omega,p+1,done++[[x.cps.toList.getD p 0]],_,_,rfl,rfl,by omega,ag.aJ sm Ft _,?_,?_⟩
    ·rw [ab,aai]
     rfl
    ·rw [aa2]
     exact e
   ·have hb:x.cps.toList.getD p 0=32:=by
     unfold Mb at SG
     rw [Gk,afh] at SG
     have Zy:decide (x.cps.toList.getD p 0∈mk.cps.toList)=false:=by simpa using c3
     rw [Zy,afh] at SG
     exact eq_of_beq SG
    rw [hb] at e ⊢
    rw [dA] at e
    refine⟨_,rfl,rfl,_,rfl,?_⟩
    have z:decide (V.str ⟨#[32]⟩=V.str (aac " "))=true:=by decide +kernel
    rw [z]
    refine bh ?_
    exact⟨_,rfl,_,_,rfl,rfl,x.length - (p+1),by omega,p+1,done,_,_,rfl,rfl,by omega,sm,hL,e⟩
 ·have c':p=x.length:=by
   have z:¬ ((p:Int)<(x.length:Int)):=fun z=>c (decide_eq_true z)
   omega
  have hd:x.cps.toList.drop p=[]:=adw (by omega)
  rw [hd] at e
  have e':done=toks x.cps.toList:=by
   rw [← e]
   show done=done++[]
   rw [aa8]
  rw [e'] at hL
  exact⟨_,rfl,q l H' sm Ft hL⟩
theorem Bv:ax ["found","place"] ["found","place"] (aq nC):=⟨rfl,rfl,rfl,by decide +kernel,rfl,by decide +kernel,by decide +kernel⟩
theorem Bw (F:cY K "piece_at" "piece_at" nC f fd) (aW:mg "len"=none):aY P w K mg base cS 1 f fd ["found","place"] rV:=by
 refine F.ok Bv (fun vs H Q E h=>?_) (fun cx A outer s H vs Q E hr h=>?_)
 ·obtain⟨l,ps,p,rfl,_⟩:=h
  rfl
 obtain⟨l,ps,p,rfl,hL,hz,q⟩:=h
 refine⟨_,(ae (aV (au sJ (pv 1) (aE av rfl aW aaH (aa (pv 0) af)) (aF _))
 (ah (ay (aw az (pv 0) (pv 1) (fun _ _=>rfl))))
 aC)
 (ah (ay aM))),?_⟩
 refine⟨_,rfl,_,rfl,l,_,rfl,.inl (aB.of hL),_,_,rfl,rfl,_,rfl,?_⟩
 refine df (fun c=>?_) (fun c=>?_)
 ·have c':p<ps.length:=by
   have z:=of_decide_eq_true c
   rw [Lm9] at z
   omega
  refine⟨_,rfl,_,rfl,l,_,_,tx (ps.getD p []),rfl,rfl,aB.of hL,?_,q⟩
  refine bf ?_
  rw [aaq,Gd9,Ge9 c']
  rfl
 ·have c':ps.length≤p:=by
   have z:¬ ((p:Int)<(((ps.map tx).length:Nat):Int)):=fun z=>c (decide_eq_true z)
   rw [Lm9] at z
   omega
  have e:ps.getD p []=[]:=by
   rw [Gd9,acM c']
   rfl
  rw [e] at q
  exact q
theorem cQ:ax ["found","place","names","name","mark"] ["found","place"] (aq gi):=⟨rfl,rfl,rfl,by decide +kernel,rfl,by decide +kernel,by decide +kernel⟩
theorem rH (F:cY K "arguments_at" "arguments_at" gi f fd) (bw:cV P w K mg base "piece_at" 1 ["found","place"] rV) (cR:cV P w K mg base "is_name" 2 ["text"] (AB fC)) (yw:mg "tuple"=none) :
  aY P w K mg base cS 3 f fd ["found","place"] Hg:=by
 refine F.ok cQ (fun vs H Q E h=>?_) (fun cx A outer s H vs Q E hr h=>?_)
 ·obtain⟨l,ps,p,n,as,rfl,_⟩:=h
  rfl
 obtain⟨l,ps,p,n,as,rfl,hL,hz,alt,q⟩:=h
 refine⟨_,(ae (aA (i:=2) cQ.nd rfl (aaQ rfl) (bF af))
 (ae (aV (au cP (ao bw (hr.mono (by decide)) rfl (aa (pv 0) (aa (pv 1) af))) aM (aF _))
 (ah (ay (cX (aa (cX af) (aa (aL d6 (pv 1) aj) af)))))
 aC)
 (ah (iu aaG (bV d5)
 (ae (aA (i:=3) cQ.nd rfl (aaQ rfl) (ao bw (hr.mono (by decide)) rfl (aa (pv 0) (aa (pv 1) af))))
 (ae (aV (dH (bV (ao cR (hr.mono (by decide)) rfl (aa (pv 3) af))))
 aZ
 aC)
 (ae (a7 (ck aaC aaV aaY bg (pv 2) (aa (pv 3) af)))
 (ae (aA (i:=4) cQ.nd rfl (aaQ rfl) (ao bw (hr.mono (by decide)) rfl (aa (pv 0) (aa (aL d6 (pv 1) aj) af))))
 (ae (xB (i:=1) cQ.nd rfl (aaQ rfl) aj xC)
 (ae (aV (au cP (pv 4) aM (aF _))
 (ah (ay (cX (aa (fO va rfl yw PyProof.Rows.Boot.«tuple» (aa (pv 2) af)) (aa (pv 1) af)))))
 aC)
 (ah (aV (au eU (pv 4) aM (aF _))
 aZ
 aC)))))))))))),?_⟩
 refine⟨(by show 0≤aao;decide),fun ln SH=>?_⟩
 have Xv:l≠ln:=fun z=>by rw [z,SH] at hL;cases hL
 have rA:upd H ln (.lst []) l=some (.lst (ps.map tx)):=by rw [ar Xv];exact hL
 refine⟨_,rfl,_,rfl,l,ps,p,rfl,rA,hz,rfl,_,rfl,?_⟩
 rcases alt with⟨rfl,rfl,Zz⟩|⟨UU,ha⟩
 ·rw [Zz]
  have z:decide (tx [41]=V.str (aac ")"))=true:=by decide +kernel
  rw [z]
  refine fE ⟨(by show 0≤aao;decide),fun t2 ka=>?_⟩
  refine⟨_,rfl,_,_,rfl,rfl,(by show 2≤aao;decide),fun t ht=>?_⟩
  have UW:t2≠t:=fun z=>by rw [← z,ab] at ht;cases ht
  refine q t t2 _ (ag.trans (ak SH _) (ag.trans (ak ka _) (ak ht _))) ab ?_
  rw [ar UW]
  exact ab
 ·have z:decide (tx (ps.getD p [])=V.str (aac ")"))=false:=Hh (b:=[41]) UU
  rw [z]
  refine bh ?_
  refine⟨Mc l ln ps as (p+n) H,⟨_,p,n,[],as,none,none,rfl,rfl,ak SH _,rA,ab,ha,rfl,rfl,by rw [aa9];simp;omega⟩,?_⟩
  rintro m σ H' ⟨p',n',done,as',o3,o4,rfl,rfl,sm,hL',hN',ha',ed,ep,ZA⟩
  obtain⟨nm,mk,r,er,K3,UX⟩:=E9 ha'
  have g0:ps.getD p' []=nm:=by
   have z:=fQ (l:=ps) (p:=p') (i:=0)
   rw [er] at z
   exact z.symm
  have g1:ps.getD (p'+1) []=mk:=by
   have z:=fQ (l:=ps) (p:=p') (i:=1)
   rw [er] at z
   exact z.symm
  have QN:ps.drop (p'+2)=r:=by
   rw [← adA,er]
   rfl
  have mq:(ps.drop p').length=r.length+2:=by rw [er];rfl
  refine⟨_,rfl,?_⟩
  refine fE ⟨fun σ' H2=>∃m',m'<(ps.drop p').length∧Mc l ln ps as (p+n) H m' σ' H2,fun σ' H2 z=>z,?_⟩
  refine⟨_,rfl,_,rfl,l,ps,p',rfl,hL',hz,?_⟩
  rw [g0]
  have Xu:nm.length≤12:=by
   unfold bt at K3
   simp only [abc,decide_eq_true_eq] at K3
   exact K3.2.1
  refine⟨_,rfl,S nm,rfl,by rw [a6];omega,fun H2 nF=>⟨_,rfl,?_⟩⟩
  rw [oi,K3]
  refine bh ?_
  have Xw:=nF _ _ hN'
  have QO:=nF _ _ hL'
  refine⟨_,rfl,.inl ⟨rfl,_,aB.of Xw⟩,_,rfl,ln,_,_,rfl,rfl,Xw,(by rw [Lm9];exact fj (by omega)),?_⟩
  have K4:upd H2 ln (.lst (done.map tx++[tx nm])) l=some (.lst (ps.map tx)):=by rw [ar Xv];exact QO
  refine⟨_,rfl,_,rfl,_,_,rfl,rfl,l,ps,p'+1,rfl,K4,hz,?_⟩
  rw [g1]
  refine⟨_,rfl,_,_,rfl,rfl,?_⟩
  have QP:ag H (upd H2 ln (.lst (done.map tx++[tx nm]))):=ag.aJ (ag.trans sm nF) SH _
  refine⟨_,rfl,rfl,_,rfl,?_⟩
  rcases UX with⟨rfl,rfl,rfl⟩|⟨rfl,ZC,n2,UY,rfl,rfl⟩
  ·have z:decide (tx [41]=V.str (aac ")"))=true:=by decide +kernel
   rw [z]
   refine fE ⟨_,rfl,ln,_,rfl,.inl ⟨aB.of ab,fun t2 ka=>?_⟩⟩
   refine⟨_,rfl,(by show 2≤aao;decide),fun t ht=>?_⟩
   have UW:t2≠t:=fun z=>by rw [← z,ab] at ht;cases ht
   refine q t t2 _ (ag.trans QP (ag.trans (ak ka _) (ak ht _))) ?_ ?_
   ·rw [ab,← ep]
    rfl
   ·rw [ar UW,ab,← ed,aai]
    rfl
  ·have z:decide (tx [44]=V.str (aac ")"))=false:=by decide +kernel
   rw [z]
   refine bh ?_
   have z2:decide (tx [44]=V.str (aac ","))=true:=by decide +kernel
   refine⟨_,rfl,rfl,_,rfl,?_⟩
   rw [z2]
   refine bh ?_
   refine⟨(ps.drop (p'+2)).length,by rw [QN,mq];omega,p'+2,n2,done++[nm],ZC,_,_,rfl,rfl,QP,K4,?_,by rw [QN];exact UY,by rw [aa2];exact ed,by omega,by rw [QN,aab];simp only [aad,aaO];omega⟩
   rw [ab,aai]
   rfl
theorem nG:ax ["found","place","kind","reading"] ["found","place"] (aq qi):=⟨rfl,rfl,rfl,by decide +kernel,rfl,by decide +kernel,by decide +kernel⟩
theorem De (F:cY K "fact_at" "fact_at" qi f fd) (bw:cV P w K mg base "piece_at" 1 ["found","place"] rV) (bq:cV P w K mg base "is_small_word" 3 ["text"] (AB iT)) (gm:cV P w K mg base "arguments_at" 3 ["found","place"] Hg) :
  aY P w K mg base cS 4 f fd ["found","place"] AE:=by
 refine F.ok nG (fun vs H Q E h=>?_) (fun cx A outer s H vs Q E hr h=>?_)
 ·obtain⟨l,ps,p,n,k,as,rfl,_⟩:=h
  rfl
 obtain⟨l,ps,p,n,k,as,rfl,hL,hz,hF,q⟩:=h
 refine⟨_,(ae (aA (i:=2) nG.nd rfl (aaQ rfl) (ao bw (hr.mono (by decide)) rfl (aa (pv 0) (aa (pv 1) af))))
 (ae (aV (dH (bV (ao bq (hr.mono (by decide)) rfl (aa (pv 2) af))))
 aZ
 aC)
 (ae (aV (au eU (ao bw (hr.mono (by decide)) rfl (aa (pv 0) (aa (aL d6 (pv 1) aj) af))) aM (aF _))
 (ah (ay (cX (aa (cX (aa (pv 2) (aa (cX af) af))) (aa (aL d6 (pv 1) aj) af)))))
 aC)
 (ae (aA (i:=3) nG.nd rfl (aaQ rfl) (ao gm (hr.mono (by decide)) rfl (aa (pv 0) (aa (aL d6 (pv 1) aj) af))))
 (ah (ay (cX (aa (cX (aa (pv 2) (aa (aw aN (pv 3) aj (fun _ _=>rfl)) af))) (aa (aw aN (pv 3) aj (fun _ _=>rfl)) af))))))))),?_⟩
 have hd:∃r,ps.drop p=k::r∧aQ k=true:=by
  generalize ps.drop p=l0 at hF
  cases hF with
  | bare hk h=>exact⟨_,rfl,hk⟩
  | empty hk=>exact⟨_,rfl,hk⟩
  | args hk h0 h=>exact⟨_,rfl,hk⟩
 obtain⟨r0,ed,hk⟩:=hd
 have g0:ps.getD p []=k:=by
  have z:=fQ (l:=ps) (p:=p) (i:=0)
  rw [ed] at z
  exact z.symm
 have UZ:k.length≤12:=by
  unfold aQ bt at hk
  simp only [abc,decide_eq_true_eq] at hk
  exact hk.1.2.1
 have ZD:iT (S k)=true:=by
  unfold iT
  rw [oi,cG]
  exact hk
 refine⟨_,rfl,_,rfl,l,ps,p,rfl,hL,hz,?_⟩
 rw [g0]
 refine⟨_,rfl,S k,rfl,by rw [a6];omega,fun H1 s1=>⟨_,rfl,?_⟩⟩
 rw [ZD]
 refine bh ?_
 have rA:=s1 _ _ hL
 refine⟨_,rfl,_,rfl,_,_,rfl,rfl,l,ps,p+1,rfl,rA,hz,rfl,_,rfl,?_⟩
 have g1:ps.getD (p+1) []=r0.getD 0 []:=by
  have z:=fQ (l:=ps) (p:=p) (i:=1)
  rw [ed] at z
  exact z.symm
 rw [g1]
 have full:∀(as':List (List Nat)) (n':Nat),r0.getD 0 []=[40]→n=n'+2→as=as'→((as'=[]∧n'=1∧ps.getD (p+2) []=[41])∨(ps.getD (p+2) []≠[41]∧fB (ps.drop (p+2))=some (as',n')))→True:=fun _ _ _ _ _ _=>trivial
 by_cases QR:r0.getD 0 []=[40]
 ·rw [QR]
  have z:decide (tx [40]=V.str (aac "("))=true:=by decide +kernel
  rw [z]
  refine bh ?_
  have key:∃n',n=n'+2∧((as=[]∧n'=1∧ps.getD (p+2) []=[41])∨(ps.getD (p+2) []≠[41]∧fB (ps.drop (p+2))=some (as,n'))):=by
   have g2:∀r1,ps.drop p=k::[40]::r1→ps.getD (p+2) []=r1.getD 0 []∧ps.drop (p+2)=r1:=fun r1 e=>by
    refine⟨?_,?_⟩
    ·have z:=fQ (l:=ps) (p:=p) (i:=2)
     rw [e] at z
     exact z.symm
    ·rw [← adA,e]
     rfl
   rw [ed] at hF g2
   cases hF with
   | bare hk' h=>exact absurd QR h
   | @empty _ r hk' =>
    obtain⟨a1,a2⟩:=g2 _ rfl
    exact⟨1,rfl,.inl ⟨rfl,rfl,a1⟩⟩
   | @args _ r _ n' hk' h0 h =>
    obtain⟨a1,a2⟩:=g2 _ rfl
    exact⟨n',rfl,.inr ⟨by rw [a1];exact h0,by rw [a2];exact h⟩⟩
  obtain⟨n',en,alt⟩:=key
  refine⟨_,rfl,_,rfl,_,_,rfl,rfl,l,ps,p+2,n',as,rfl,rA,hz,alt,fun t t2 H2 s2 ht ka=>?_⟩
  refine⟨_,rfl,_,rfl,t,_,0,.ref t2,rfl,rfl,b8.of ht,rfl,(by show 2≤aao;decide),fun t1 Fh=>?_⟩
  have Oe:=ak Fh (.tup [tx k,.ref t2])
  refine⟨_,rfl,t,_,1,_,rfl,rfl,b8.of (Oe _ _ ht),rfl,(by show 2≤aao;decide),fun t0 FE=>?_⟩
  have QS:t1≠t0:=fun z=>by rw [← z,ab] at FE;cases FE
  refine q t0 t1 t2 _ (ag.trans s1 (ag.trans s2 (ag.trans Oe (ak FE _)))) ?_ ?_ ((ak FE _) _ _ (Oe _ _ ka))
  ·rw [ab,en,show p+2+n'=p+(n'+2) by omega]
  ·rw [ar QS]
   exact ab
 ·have z:decide (tx (r0.getD 0 [])=V.str (aac "("))=false:=Hh (b:=[40]) QR
  rw [z]
  have key:as=[]∧n=1:=by
   rw [ed] at hF
   cases hF with
   | bare hk' h=>exact⟨rfl,rfl⟩
   | empty hk'=>exact absurd rfl QR
   | args hk' h0 h=>exact absurd rfl QR
  obtain⟨rfl,rfl⟩:=key
  refine fE ⟨_,rfl,(by show 0≤aao;decide),fun t2 ka=>?_⟩
  refine⟨(by show 2≤aao;decide),fun t1 Fh=>?_⟩
  refine⟨_,rfl,_,_,rfl,rfl,(by show 2≤aao;decide),fun t0 FE=>?_⟩
  have QS:t1≠t0:=fun z=>by rw [← z,ab] at FE;cases FE
  refine q t0 t1 t2 _ (ag.trans s1 (ag.trans (ak ka _) (ag.trans (ak Fh _) (ak FE _)))) ab ?_ ((ak FE _) _ _ ((ak Fh _) _ _ ab))
  rw [ar QS]
  exact ab
theorem cf:ax ["found","facts","place","reading"] ["found"] (aq gh):=⟨rfl,rfl,rfl,by decide +kernel,rfl,by decide +kernel,by decide +kernel⟩
theorem rJ (F:cY K "row_of_facts" "row_of_facts" gh f fd) (qo:cV P w K mg base "fact_at" 4 ["found","place"] AE) (aW:mg "len"=none):aY P w K mg base cS 5 f fd ["found"] (Md K):=by
 refine F.ok cf (fun vs H Q E h=>?_) (fun cx A outer s H vs Q E hr h=>?_)
 ·obtain⟨l,ps,fs,rfl,_⟩:=h
  rfl
 obtain⟨l,ps,fs,rfl,hL,hz,hR,q⟩:=h
 refine⟨_,(ae (aA (i:=1) cf.nd rfl (aaQ rfl) (bF af))
 (ae (aA (i:=2) cf.nd rfl (aaQ rfl) aj)
 (ah (iu aaG (bV d5)
 (ae (aA (i:=3) cf.nd rfl (aaQ rfl) (ao qo (hr.mono (by decide)) rfl (aa (pv 0) (aa (pv 2) af))))
 (ae (a7 (ck aaC aaV aaY bg (pv 1) (aa (aw aN (pv 3) aj (fun _ _=>rfl)) af)))
 (ae (aA (i:=2) cf.nd rfl (aaQ rfl) (aw aN (pv 3) aj (fun _ _=>rfl)))
 (ae (aV (au cP (pv 2) (aE av rfl aW aaH (aa (pv 0) af)) (aF _))
 (ah (ay (pv 1)))
 aC)
 (ae (aV (au eU (aw az (pv 0) (pv 2) (fun _ _=>rfl)) aM (aF _))
 aZ
 aC)
 (ah (xB (i:=2) cf.nd rfl (aaQ rfl) aj xC))))))))))),?_⟩
 refine⟨(by show 0≤aao;decide),fun lf SI=>?_⟩
 have hne:l≠lf:=aI hL SI
 refine⟨Qi K l lf ps fs H,⟨_,0,[],fs,[],none,rfl,rfl,ak SI _,by rw [ar hne];exact hL,ab,.nil,by rw [ae0];exact hR,rfl,by rw [ae0];simpa using hz⟩,?_⟩
 rintro m σ H' ⟨p,done,rest,us,o3,rfl,rfl,sm,hL',hf',pr,hr',ed,ZA⟩
 obtain⟨f1,n,fs',rfl,hF,alt⟩:=hr'.head
 refine⟨_,rfl,fE ⟨fun σ' H2=>∃m',m'<(ps.drop p).length∧Qi K l lf ps fs H m' σ' H2,fun σ' H2 z=>z,?_⟩⟩
 refine⟨_,rfl,_,rfl,l,ps,p,n,f1.k,f1.as,rfl,hL',hz,hF,fun t t1 t2 H2 s2 ht Fh ka=>?_⟩
 have K5:=s2 _ _ hf'
 have QO:=s2 _ _ hL'
 have hlen:us.length≤20000:=by
  have z:=pr.length
  omega
 refine⟨_,rfl,.inl ⟨rfl,_,aB.of K5⟩,_,rfl,t,_,0,_,rfl,rfl,b8.of ht,rfl,lf,_,_,rfl,rfl,K5,fj (by omega),?_⟩
 have ZE:t≠lf:=Ac ht K5 (by intro z;cases z)
 have kp:Kp (upd H lf (.lst [])) H2 (upd H2 lf (.lst (us++[V.ref t1]))):=Kp.upd ab K5 (by intro xs z;cases z) (by intro o u z;cases z)
 have Xx:Paired (Fact K (upd H2 lf (.lst (us++[V.ref t1])))) (done++[f1]) (us++[V.ref t1]):=by
  refine(L2.Paired.cj pr fun a b z=>Fact.keep kp (Fact.keep (H0:=H) (Kp.same s2) z)).snoc ?_
  exact Fact.keep kp ⟨t1,t2,rfl,b8.of Fh,b8.of ka⟩
 have K4:upd H2 lf (.lst (us++[V.ref t1])) l=some (.lst (ps.map tx)):=by rw [ar hne];exact QO
 have QP:ag H (upd H2 lf (.lst (us++[V.ref t1]))):=ag.aJ (ag.trans sm s2) SI _
 refine⟨_,rfl,t,_,1,_,rfl,rfl,b8.of (by rw [ar ZE];exact ht),rfl,?_⟩
 refine⟨_,rfl,_,rfl,l,_,rfl,.inl (aB.of K4),rfl,_,rfl,?_⟩
 rw [Lm9]
 have hdr:(ps.drop p).length=ps.length - p:=aa9 ..
 rcases alt with⟨en,rfl⟩|⟨hn,NN,hR'⟩
 ·have z:decide (V.int ((p+n:Nat):Int)=V.int (ps.length:Int))=true:=by
   refine decide_eq_true ?_
   have:1≤(ps.drop p).length:=hr'.pos
   rw [show p+n=ps.length by omega]
  rw [z]
  refine fE ⟨_,rfl,q _ _ QP ⟨lf,_,rfl,SI,ab,?_⟩⟩
  rw [← ed]
  exact Xx
 ·have z:decide (V.int ((p+n:Nat):Int)=V.int (ps.length:Int))=false:=by
   refine decide_eq_false fun z=>?_
   have z':((p+n:Nat):Int)=(ps.length:Int):=by injection z
   omega
  rw [z]
  refine bh ?_
  have g:ps.getD (p+n) []=[44]:=by
   have z:=fQ (l:=ps) (p:=p) (i:=n)
   rw [← z]
   exact NN
  refine⟨_,rfl,_,rfl,l,_,_,tx [44],rfl,rfl,aB.of K4,?_,rfl,_,rfl,?_⟩
  ·refine bf ?_
   rw [aaq,Ge9 (by omega)]
   rw [Gd9,Ge9 (by omega)] at g
   exact congrArg (fun z=>some (tx z)) g
  ·have z2:decide (tx [44]=V.str (aac ","))=true:=by decide +kernel
   rw [z2]
   refine bh ⟨_,rfl,_,_,rfl,rfl,(ps.drop (p+n+1)).length,?_,p+n+1,done++[f1],fs',_,_,rfl,rfl,QP,K4,ab,Xx,?_,by rw [aa2];exact ed,?_⟩
   ·rw [aa9,aa9];omega
   ·rw [show p+n+1=p+(n+1) by omega,← adA];exact hR'
   ·rw [aab,aa9];simp only [aad,aaO];omega
end
section
variable {P:aa4} {w:abu} {K:aaa} {mg:Str→Option aae} {base:Heap} {f:aaD} {fd:abo} {c:Cl}
theorem uf:ax ["line","bare"] ["line"] (aq qj):=⟨rfl,rfl,rfl,by decide +kernel,rfl,by decide +kernel,by decide +kernel⟩
theorem Df (F:cY K "is_told" "is_told" qj f fd):aY P w K mg base cS 1 f fd ["line"] Hk:=by
 refine F.ok uf (fun vs H Q E h=>?_) (fun cx A outer s H vs Q E hr h=>?_)
 ·obtain⟨p,rfl,_⟩:=h
  rfl
 obtain⟨p,rfl,hx,q⟩:=h
 refine⟨_,(ae (aA (i:=1) uf.nd rfl (aaQ rfl) (ck abP PySem.F.slot_str_strip PySem.F.type_str_strip G6 (pv 0) (aa aM af)))
 (ah (ay (mZ (eG eU (pv 1) aM (aF _)) (mY (eG eU (aw pH (pv 1) aj (fun _ _=>rfl)) aM (aF _))))))),?_⟩
 obtain⟨b,eb,hb,eh⟩:=Hj p
 refine⟨_,rfl,rfl,_,_,rfl,rfl,(by rw [a6];exact sz (by omega)),?_⟩
 rw [eb]
 unfold told at q
 refine⟨_,rfl,rfl,_,rfl,?_⟩
 have e0:(aac "")=S []:=by decide +kernel
 rw [e0]
 cases hd:p.dropWhile (· == 32) with
 | nil =>
  rw [hd] at eh q
  have hb0:b=[]:=by
   cases b with
   | nil=>rfl
   | cons x r=>cases eh
  subst hb0
  rw [decide_eq_true rfl]
  exact bh q
 | cons x r =>
  rw [hd] at eh q
  obtain⟨b',rfl⟩:∃b',b=x::b':=by
   cases b with
   | nil=>cases eh
   | cons y r'=>exact⟨r',by rw [aaR eh]⟩
  have e1:decide (V.str (S (x::b'))=V.str (S []))=false:=Hh (a:=x::b') (b:=[]) (by simp)
  rw [e1]
  refine fE ⟨_,rfl,S (x::b'),0,x,rfl,rfl,(by rw [a6];exact sz (by omega)),?_,rfl,?_⟩
  ·rw [cG]
   exact bf (j:=0) rfl
  ·have e2:decide (V.str ⟨#[x]⟩=V.str (aac "#"))=(x == 35):=by
    have e3:(aac "#")=S [35]:=by decide +kernel
    rw [e3]
    have e4:=xU [x] [35]
    show decide (tx [x]=tx [35])=_
    rw [e4]
    simp [aeN]
   rw [e2]
   exact q
theorem vm:ax ["text"] ["text"] (aq i7):=⟨rfl,rfl,rfl,by decide +kernel,rfl,by decide +kernel,by decide +kernel⟩
theorem vo (F:cY K "told_lines" "told_lines" i7 f fd) (qp:cV P w K mg base "is_told" 1 ["line"] Hk):aY P w K mg base cS 2 f fd ["text"] D0:=by
 refine F.ok vm (fun vs H Q E h=>?_) (fun cx A outer s H vs Q E hr h=>?_)
 ·obtain⟨ls,rfl,_⟩:=h
  rfl
 obtain⟨ls,rfl,h0,hN,hx,q⟩:=h
 refine⟨_,(ah (ay (b6 [] rfl (by kernel_rfl) (aS (ck abP acC PySem.F.type_str_split G5 (pv 0) (aa aM af))) (fun _ _ _ _ _=>(lZ (bV (ao qp (hr.mono (by decide)) rfl (aa (pv 0) af))))) (fun _ _ _ _ _=>(pv 0))))),?_⟩
 have QT:=wG ls
 refine⟨_,rfl,rfl,_,_,rfl,rfl,rfl,(by rw [a6];exact sz (by omega)),?_⟩
 rw [AJ h0 hN]
 refine⟨(by rw [Lm9];exact sz (by omega)),fun l hl=>⟨l,rfl,⟨_,aB.of ab⟩,fun D hD=>?_⟩⟩
 have ZF:H D=none:=(ak hl _).free hD
 refine Kg (K:=K) (xs:=(ls.map S).map V.str) (by rw [Lm9,Lm9];exact fj (by omega)) hD (aB.of ab) (fun v=>match v with|.str x=>told x.cps.toList|_=>false) id (fun x H' R hm sm hR=>?_) (fun x H' R hm hk sm hR=>?_) (fun H' sm hL=>?_)
 ·obtain⟨z,hz,rfl⟩:=aah.mp hm
  obtain⟨y,hy,rfl⟩:=aah.mp hz
  refine⟨_,rfl,y,rfl,by have:=pQ ls y hy;omega,_,rfl,?_⟩
  have z:R (told (S y).cps.toList) H':=hR H' (ag.refl H')
  rw [cG] at z
  exact z
 ·exact⟨_,rfl,hR H' (ag.refl H')⟩
 ·refine q _ _ (ag.trans (ak hl _) sm) ⟨D,rfl,ZF,?_⟩
  rw [hL,ac7,abf]
  congr 2
  rw [List.filter_map]
  have e:((fun v=>match v with|V.str x=>told x.cps.toList|_=>false) ∘ (V.str ∘ S))=told:=by
   funext y
   show told (S y).cps.toList=told y
   rw [cG]
  rw [e]
  rfl
theorem uh:ax ["line"] ["line"] (aq g9):=⟨rfl,rfl,rfl,by decide +kernel,rfl,by decide +kernel,by decide +kernel⟩
theorem ui {u1:aae} (F:cY K "line_pieces" "line_pieces" g9 f fd) (uj:cV P w K mg base "pieces" 3 ["text","marks"] AD) (yx:mg "LINE_MARKS"=some u1) (yy:RelV (.str AK) u1):aY P w K mg base cS 4 f fd ["line"] Hl:=by
 refine F.ok uh (fun vs H Q E h=>?_) (fun cx A outer s H vs Q E hr h=>?_)
 ·obtain⟨p,rfl,_⟩:=h
  rfl
 obtain⟨p,rfl,hx,hok,q⟩:=h
 refine⟨_,(ah (ay (ao uj (hr.mono (by decide)) rfl (aa (pv 0) (aa (de rfl yx yy) af))))),?_⟩
 refine⟨_,rfl,_,_,rfl,by rw [a6];exact hx,by decide +kernel,by rw [cG];exact hok,fun l H' sm hl hL=>?_⟩
 rw [cG] at hL
 exact q _ _ sm ⟨l,rfl,hl,hL⟩
theorem yz:ax ["found"] ["found"] (aq ku):=⟨rfl,rfl,rfl,by decide +kernel,rfl,by decide +kernel,by decide +kernel⟩
theorem yA {QU QV:aaD} (F:cY K "read_kind" "read_kind" ku f fd) (bq:cV P w K mg base "is_small_word" 3 ["text"] (AB iT)) (aW:mg "len"=none) (I0:mg "int"=none)
  (yB:mg "KIND_WORDS"=some (.ref QU)) (yC:∀H,b8 K H QU [tx bU,tx cb]) (I8:mg "COUNTS"=some (.ref QV)) (I9:∀H,b8 K H QV [tx [48],tx [49],tx [50],tx [51],tx [52]]) :
  aY P w K mg base cS 4 f fd ["found"] (Hq K):=by
 have yD:RelV (.ref QU) (.ref QU):=rfl
 have Ja:RelV (.ref QV) (.ref QV):=rfl
 refine F.ok yz (fun vs H Q E h=>?_) (fun cx A outer s H vs Q E hr h=>?_)
 ·obtain⟨l,k,rfl,_⟩:=h
  rfl
 obtain⟨l,⟨n,c,b⟩,rfl,hL,hn,hc,q⟩:=h
 have hn:aQ n=true:=hn
 have hc:c≤4:=hc
 have hL':H l=some (.lst [tx (if b=true then cb else bU),tx n,tx [48+c]]):=hL
 refine⟨_,(ae (aV (PW.pt (jS (au eU (aE av rfl aW aaH (aa (pv 0) af)) aj (aF _)) (iM (au dO (aw az (pv 0) aj (fun _ _=>rfl)) (de rfl yB yD) (by with_unfolding_all rfl)))))
 aZ
 aC)
 (ae (aV (dH (bV (ao bq (hr.mono (by decide)) rfl (aa (aw az (pv 0) aj (fun _ _=>rfl)) af))))
 aZ
 aC)
 (ae (aV (au dO (aw az (pv 0) aj (fun _ _=>rfl)) (de rfl I8 Ja) (by with_unfolding_all rfl))
 aZ
 aC)
 (ah (ay (cX (aa (aw az (pv 0) aj (fun _ _=>rfl)) (aa (fO vd rfl I0 PyProof.Rows.Boot.«int» (aa (aw az (pv 0) aj (fun _ _=>rfl)) af)) (aa (eG cP (aw az (pv 0) aj (fun _ _=>rfl)) aM (aF _)) af))))))))),?_⟩
 refine⟨_,rfl,l,_,rfl,.inl (aB.of hL'),rfl,_,rfl,bh ?_⟩
 refine⟨_,rfl,l,_,0,_,rfl,rfl,aB.of hL',rfl,QU,_,rfl,.inr (yC _),rfl,rfl,_,rfl,?_⟩
 have e1:JI (tx (if b=true then cb else bU)) [tx bU,tx cb]=true:=by cases b <;> decide +kernel
 rw [e1]
 refine bh ?_
 refine⟨_,rfl,l,_,1,_,rfl,rfl,aB.of hL',rfl,S n,rfl,by have:=cz hn;rw [a6];omega,fun H1 s1=>⟨_,rfl,?_⟩⟩
 rw [AA,hn]
 refine bh ?_
 have rA:=s1 _ _ hL'
 refine⟨_,rfl,l,_,2,_,rfl,rfl,aB.of rA,rfl,QV,_,rfl,.inr (I9 _),rfl,rfl,_,rfl,?_⟩
 have e2:JI (tx [48+c]) [tx [48],tx [49],tx [50],tx [51],tx [52]]=true:=by
  rcases(by omega:c=0∨c=1∨c=2∨c=3∨c=4) with e|e|e|e|e <;> subst e <;> decide +kernel
 rw [e2]
 refine bh ?_
 have e3:PySem.intText? (S [48+c])=some (c:Int):=by
  rcases(by omega:c=0∨c=1∨c=2∨c=3∨c=4) with e|e|e|e|e <;> subst e <;> decide +kernel
 refine⟨_,rfl,l,_,1,_,rfl,rfl,aB.of rA,rfl,_,rfl,l,_,2,_,rfl,rfl,aB.of rA,rfl,_,_,rfl,e3,(by rw [a6];show 1≤640;decide),?_⟩
 refine⟨_,rfl,l,_,0,_,rfl,rfl,aB.of rA,rfl,rfl,(by show 3≤aao;decide),fun t ht=>?_⟩
 have e4:decide (tx (if b=true then cb else bU)=V.str (aac "lasting"))=b:=by cases b <;> decide +kernel
 rw [e4]
 exact q _ _ (ag.trans s1 (ak ht _)) ⟨t,rfl,b8.of ab⟩
end
section
variable {P:aa4} {w:abu} {K:aaa} {mg:Str→Option aae} {base:Heap} {f:aaD} {fd:abo} {c:Cl}
theorem K6 {xs:List V} {v:V}:qG (xs++[v]) (-1)=some v:=by
 unfold qG
 have e:GV (xs++[v]).length (-1)=some xs.length:=by
  unfold GV
  rw [aab,abh,if_neg (by decide)]
  simp
  omega
 rw [e]
 simp
theorem qr:ax ["found","mark","rows","piece"] ["found","mark"] (aq ue):=⟨rfl,rfl,rfl,by decide +kernel,rfl,by decide +kernel,by decide +kernel⟩
theorem FF (F:cY K "parted" "parted" ue f fd):aY P w K mg base cS 1 f fd ["found","mark"] om:=by
 refine F.ok qr (fun vs H Q E h=>?_) (fun cx A outer s H vs Q E hr h=>?_)
 ·obtain⟨l,ps,m,rfl,_⟩:=h
  rfl
 obtain⟨l,ps,m,rfl,hL,hz,q⟩:=h
 refine⟨_,(ae (aA (i:=2) qr.nd rfl (aaQ rfl) (bF (aa (bF af) af)))
 (ae (bI aaG rfl (aS (pv 0)) (aH (i:=3) qr.nd rfl (aaQ rfl))
 (ah (aV (au cP (pv 3) (pv 1) (aF _))
 (ah (a7 (ck aaC aaV aaY bg (pv 2) (aa (bF af) af))))
 (ah (a7 (ck aaC aaV aaY bg (aw az (pv 2) (Pp M1 aj) (fun _ _=>rfl)) (aa (pv 3) af)))))))
 (ah (ay (pv 2))))),?_⟩
 refine⟨(by show 0≤aao;decide),fun b0 hb0=>⟨(by show 1≤aao;decide),fun lr mq=>?_⟩⟩
 have Xy:b0≠lr:=fun z=>by rw [← z,ab] at mq;cases mq
 have QW:H lr=none:=(ak hb0 _).free mq
 have s0:ag H (upd (upd H b0 (.lst [])) lr (.lst [V.ref b0])):=ag.trans (ak hb0 _) (ak mq _)
 refine⟨_,rfl,l,rfl,⟨_,aB.of (s0 _ _ hL)⟩,bN (K:=K) (a:=l) (xs:=ps.map tx) (fun i σ H'=>∃(bs:List aaD) (o:Option V),σ=[some (.ref l),some (tx m),some (.ref lr),o]∧ag H H'∧H' lr=some (.lst (bs.map V.ref)) ∧
   Paired (fun row b=>H b=none∧b≠lr∧H' b=some (.lst (row.map tx))) (bQ m (ps.take i) [[]]) bs∧bs.Nodup)
  ⟨[b0],none,rfl,s0,ab,.cons ⟨hb0,Xy,by rw [ar Xy];exact ab⟩ .nil,by simp⟩ (fun i σ H' _ ⟨_,_,_,sm,_⟩=>aB.of (sm _ _ hL)) ?_ ?_⟩
 ·rintro i y σ H' hi ⟨bs,o,rfl,sm,hr',pr,nd⟩
  have nN:i<ps.length:=by
   have:=(aar.mp hi).1
   simpa using this
  obtain rfl:y=tx ps[i]:=by
   rw [aaq,Ge9 nN] at hi
   exact(aaR hi).symm
  have Gn:bQ m (ps.take (i+1)) [[]]=iB m ps[i] (bQ m (ps.take i) [[]]):=by
   rw [aaA nN,oj]
  have U0:bs.length≤20002:=by
   have z:=aat pr
   have z2:=qK m (ps.take i) [[]]
   rw [aaF] at z2
   simp only [aad,aaO] at z2
   omega
  refine⟨_,rfl,_,rfl,rfl,_,rfl,?_⟩
  rw [xU]
  refine df (fun e=>?_) (fun e=>?_)
  ·have e':ps[i]=m:=of_decide_eq_true e
   refine⟨_,rfl,.inl ⟨rfl,_,aB.of hr'⟩,(by show 0≤aao;decide),fun b hb=>?_⟩
   have U1:b≠lr:=fun z=>by rw [z,hr'] at hb;cases hb
   have Xz:H b=none:=sm.free hb
   have QN:upd H' b (.lst []) lr=some (.lst (bs.map V.ref)):=by rw [ar (abB U1)];exact hr'
   refine⟨lr,_,_,rfl,rfl,QN,(by rw [Lm9];exact fj (by omega)),bs++[b],_,rfl,ag.aJ (ag.aJ sm Xz _) QW _,?_,?_,?_⟩
   ·rw [ab,aai]
    rfl
   ·rw [Gn]
    unfold iB
    rw [if_pos e']
    have p2:Paired (fun row x=>H x=none∧x≠lr∧upd (upd H' b (.lst [])) lr (.lst (bs.map V.ref++[V.ref b])) x=some (.lst (row.map tx))) (bQ m (ps.take i) [[]]) bs:=L2.Paired.cj pr fun row x z=>⟨z.1,z.2.1,by
     rw [ar z.2.1,ar (aI z.2.2 hb)]
     exact z.2.2⟩
    exact p2.snoc ⟨Xz,U1,by rw [ar U1];exact ab⟩
   ·rw [abJ]
    refine⟨nd,by simp,?_⟩
    intro x hx y hy
    rw [aaw.mp hy]
    intro z
    subst z
    obtain⟨row,_,ZG⟩:=m9 pr hx
    rw [ZG.2.2] at hb
    cases hb
  ·have e':ps[i]≠m:=fun z=>by rw [decide_eq_true z] at e;exact e rfl
   obtain⟨a1,row,b1,b,e1,e2,p1,hb⟩:=qI pr (tE m _ _ (by simp))
   have jk:row.length≤20000:=by
    have z:=tF m (ps.take i) [[]] 0 (by intro r hr;rw [aaw.mp hr];exact aaf _) row (by rw [e1];simp)
    rw [aaF] at z
    omega
   have U2:H' lr=some (.lst (b1.map V.ref++[V.ref b])):=by
    rw [hr',e2,aai]
    rfl
   refine⟨_,rfl,_,rfl,lr,_,_,V.ref b,rfl,rfl,aB.of U2,K6,.inl ⟨rfl,_,aB.of hb.2.2⟩,_,rfl,b,_,_,rfl,rfl,hb.2.2,(by rw [Lm9];exact fj (by omega)),?_⟩
   refine⟨bs,_,rfl,ag.aJ sm hb.1 _,by rw [ar (abB hb.2.1)];exact hr',?_,nd⟩
   rw [Gn]
   unfold iB
   rw [if_neg e',e1,aeX,show(a1++[row]).getLastD []=row by simp,e2]
   rw [e2,abJ] at nd
   refine adz ?_ ⟨hb.1,hb.2.1,?_⟩
   ·refine cZ p1 fun r x hx z=>⟨z.1,z.2.1,?_⟩
    rw [ar (nd.2.2 x hx b (by simp))]
    exact z.2.2
   ·rw [ab,aai]
    rfl
 ·rintro σ H' ⟨bs,o,rfl,sm,hr',pr,nd⟩
  rw [Lm9,aba] at pr
  refine⟨_,rfl,q _ _ sm ⟨lr,_,rfl,QW,hr',?_⟩⟩
  exact qJ (L2.Paired.cj pr fun row b z=>(⟨b,rfl,z.1,z.2.2⟩:Mf H H' row (V.ref b)))
end
section
variable {P:aa4} {w:abu} {K:aaa} {mg:Str→Option aae} {base:Heap} {f:aaD} {fd:abo} {c:Cl}
theorem nH:ax ["found"] ["found"] (aq dS):=⟨rfl,rfl,rfl,by decide +kernel,rfl,by decide +kernel,by decide +kernel⟩
theorem nJ (F:cY K "check_two_names" "check_two_names" dS f fd) (cR:cV P w K mg base "is_name" 2 ["text"] (AB fC)) (aW:mg "len"=none):aY P w K mg base cS 3 f fd ["found"] Hs:=by
 refine F.ok nH (fun vs H Q E h=>?_) (fun cx A outer s H vs Q E hr h=>?_)
 ·obtain⟨l,a,m,b,rfl,_⟩:=h
  rfl
 obtain⟨l,a,m,b,rfl,hL,ha,hb,q⟩:=h
 refine⟨_,(ah (aV (PW.pt (jS (au eU (aE av rfl aW aaH (aa (pv 0) af)) aj (aF _)) (jS (dH (bV (ao cR (hr.mono (by decide)) rfl (aa (aw az (pv 0) aj (fun _ _=>rfl)) af)))) (iM (dH (bV (ao cR (hr.mono (by decide)) rfl (aa (aw az (pv 0) aj (fun _ _=>rfl)) af))))))))
 aZ
 aC)),?_⟩
 refine⟨_,rfl,l,_,rfl,.inl (aB.of hL),rfl,_,rfl,bh ?_⟩
 refine⟨_,rfl,l,_,0,_,rfl,rfl,aB.of hL,rfl,S a,rfl,by have:=iA ha;rw [a6];omega,fun H1 s1=>⟨_,rfl,?_⟩⟩
 rw [oi,ha]
 refine bh ⟨_,rfl,l,_,2,_,rfl,rfl,aB.of (s1 _ _ hL),rfl,S b,rfl,by have:=iA hb;rw [a6];omega,fun H2 s2=>⟨_,rfl,?_⟩⟩
 rw [oi,hb]
 exact bh (q _ (ag.trans s1 s2))
theorem yE:ax ["self","left","right"] ["self","left","right"] (aq kr):=⟨rfl,rfl,rfl,by decide +kernel,rfl,by decide +kernel,by decide +kernel⟩
theorem yF (F:cY K "__init__" "Look.__init__" kr f fd):aY P w K mg base cS 1 f fd ["self","left","right"] (iU K):=by
 refine F.ok yE (fun vs H Q E h=>?_) (fun cx A outer s H vs Q E hr h=>?_)
 ·obtain⟨C,p,dx,l,r,rfl,_⟩:=h
  rfl
 obtain⟨C,p,dx,l,r,rfl,T,hp,q⟩:=h
 refine⟨_,(ae (ps_fld (pv 0) (pv 1) rfl)
 (ah (ps_fld (pv 0) (pv 2) rfl))),?_⟩
 refine⟨_,rfl,_,rfl,p,C,dx,[],rfl,hp,T.cl,T.nL,(by show 0<1000;decide),_,rfl,_,rfl,p,C,dx,_,rfl,ab,T.cl,T.nR,(by show 1<1000;decide),?_⟩
 refine q _ _ ab ?_ ?_ ?_ ?_ fun b o e hb=>?_
 ·rw [aT,if_neg (by decide +kernel),aT,if_pos rfl]
 ·rw [aT,if_pos rfl]
 ·rw [aT,if_neg (by decide +kernel),aT,if_neg (by decide +kernel)]
  rfl
 ·rw [aT,if_neg (by decide +kernel),aT,if_neg (by decide +kernel)]
  rfl
 ·rw [ar hb,ar hb]
  exact e
theorem xf {H:Hp} {C:aaD} {a b:V} {Q:VK} (T:AL K C) (q:∀x dx fs H',ag H H'→H x=none→H' x=some (.ins C dx fs)→fs.lookup ("left":Str)=some a→fs.lookup ("right":Str)=some b→fs.lookup ("holds":Str)=none→fs.lookup ("word":Str)=none→Q (.ref x) H') :
  ∀x dx,H x=none→H dx=none→dx≠x→iU K (.ref x::([a,b]++[])) (upd (upd H dx (.own x)) x (.ins C dx [])) (fun v H2=>v=.cU∧Q (.ref x) H2) E0:=fun x dx hx QX U3=>by
 refine⟨C,x,dx,a,b,rfl,T,ab,fun H' fs h1 h2 h3 h4 h5 kp=>⟨rfl,q x dx fs H' (fun b o e=>kp b o ?_ (aI e hx)) hx h1 h2 h3 h4 h5⟩⟩
 rw [ar (aI e hx),ar (aI e QX)]
 exact e
theorem yG:ax ["found"] ["found"] (aq kC):=⟨rfl,rfl,rfl,by decide +kernel,rfl,by decide +kernel,by decide +kernel⟩
theorem yH (F:cY K "read_look" "read_look" kC f fd) (bP:cV P w K mg base "check_two_names" 3 ["found"] Hs) (Ts:AL K c.same) (Tu:AL K c.unlike)
  (Dg:Kf P w K mg base "Same" c.same 1 ["self","left","right"] (iU K)) (um:Kf P w K mg base "Unlike" c.unlike 1 ["self","left","right"] (iU K)):aY P w K mg base cS 4 f fd ["found"] (Ht c):=by
 refine F.ok yG (fun vs H Q E h=>?_) (fun cx A outer s H vs Q E hr h=>?_)
 ·obtain⟨l,k,rfl,_⟩:=h
  rfl
 obtain⟨l,⟨sm,a,b⟩,rfl,hL,ha,hb,q⟩:=h
 have hL':H l=some (.lst [tx a,tx (if sm=true then tG else j5),tx b]):=hL
 refine⟨_,(ae (a7 (ao bP (hr.mono (by decide)) rfl (aa (pv 0) af)))
 (ae (aV (au cP (aw az (pv 0) aj (fun _ _=>rfl)) aM (aF _))
 (ah (ay (nV Dg (hr.mono (by decide)) rfl (aa (aw az (pv 0) aj (fun _ _=>rfl)) (aa (aw az (pv 0) aj (fun _ _=>rfl)) af)))))
 aC)
 (ae (aV (au cP (aw az (pv 0) aj (fun _ _=>rfl)) aM (aF _))
 (ah (ay (nV um (hr.mono (by decide)) rfl (aa (aw az (pv 0) aj (fun _ _=>rfl)) (aa (aw az (pv 0) aj (fun _ _=>rfl)) af)))))
 aC)
 (ah Gz)))),?_⟩
 refine⟨_,rfl,l,a,_,b,rfl,hL',ha,hb,fun H1 s1=>?_⟩
 have rA:=s1 _ _ hL'
 refine⟨_,rfl,l,_,1,_,rfl,rfl,aB.of rA,rfl,rfl,_,rfl,?_⟩
 cases sm with
 | true =>
  have e:decide (tx (if true=true then tG else j5)=V.str (aac "same"))=true:=by decide +kernel
  rw [e]
  refine fE ⟨_,rfl,l,_,0,_,rfl,rfl,aB.of rA,rfl,_,rfl,l,_,2,_,rfl,rfl,aB.of rA,rfl,xf Ts fun x dx fs H' s' hx h1 h2 h3 h4 h5=>?_⟩
  exact q _ _ (ag.trans s1 s') ⟨x,dx,fs,rfl,s1.free hx,h1,h2,h3,h4,h5⟩
 | false =>
  have e:decide (tx (if false=true then tG else j5)=V.str (aac "same"))=false:=by decide +kernel
  have e2:decide (tx (if false=true then tG else j5)=V.str (aac "unlike"))=true:=by decide +kernel
  rw [e]
  refine bh ⟨_,rfl,l,_,1,_,rfl,rfl,aB.of rA,rfl,rfl,_,rfl,?_⟩
  rw [e2]
  refine fE ⟨_,rfl,l,_,0,_,rfl,rfl,aB.of rA,rfl,_,rfl,l,_,2,_,rfl,rfl,aB.of rA,rfl,xf Tu fun x dx fs H' s' hx h1 h2 h3 h4 h5=>?_⟩
  exact q _ _ (ag.trans s1 s') ⟨x,dx,fs,rfl,s1.free hx,h1,h2,h3,h4,h5⟩
theorem yI:ax ["found"] ["found"] (aq kE):=⟨rfl,rfl,rfl,by decide +kernel,rfl,by decide +kernel,by decide +kernel⟩
theorem yJ (F:cY K "read_pair" "read_pair" kE f fd) (bP:cV P w K mg base "check_two_names" 3 ["found"] Hs):aY P w K mg base cS 4 f fd ["found"] (Hu K):=by
 refine F.ok yI (fun vs H Q E h=>?_) (fun cx A outer s H vs Q E hr h=>?_)
 ·obtain⟨l,k,rfl,_⟩:=h
  rfl
 obtain⟨l,⟨a,b⟩,rfl,hL,ha,hb,q⟩:=h
 have hL':H l=some (.lst [tx a,tx [61],tx b]):=hL
 refine⟨_,(ae (a7 (ao bP (hr.mono (by decide)) rfl (aa (pv 0) af)))
 (ae (aV (au eU (aw az (pv 0) aj (fun _ _=>rfl)) aM (aF _))
 aZ
 aC)
 (ah (ay (cX (aa (aw az (pv 0) aj (fun _ _=>rfl)) (aa (aw az (pv 0) aj (fun _ _=>rfl)) af))))))),?_⟩
 refine⟨_,rfl,l,a,_,b,rfl,hL',ha,hb,fun H1 s1=>?_⟩
 have rA:=s1 _ _ hL'
 refine⟨_,rfl,l,_,1,_,rfl,rfl,aB.of rA,rfl,rfl,_,rfl,?_⟩
 have e:decide (tx [61]=V.str (aac "="))=true:=by decide +kernel
 rw [e]
 refine bh ⟨_,rfl,l,_,0,_,rfl,rfl,aB.of rA,rfl,_,rfl,l,_,2,_,rfl,rfl,aB.of rA,rfl,(by show 2≤aao;decide),fun t ht=>?_⟩
 exact q _ _ (ag.trans s1 (ak ht _)) ⟨t,rfl,b8.of ab⟩
theorem FG {ks:List Lk} (h:∀k∈ks,bt k.l=true∧bt k.r=true):∀q∈ks.map tH,([44]:Cs)∉q:=by
 intro q hq hm
 obtain⟨k,hk,rfl⟩:=aah.mp hq
 have hn:=h k hk
 unfold tH at hm
 rcases aaB.mp hm with e|hm
 ·exact l7 hn.1 e.symm
 rcases aaB.mp hm with e|hm
 ·revert e;cases k.same <;> decide
 ·exact l7 hn.2 (aaw.mp hm).symm
theorem FH {ks:List (Cs × Cs)} (h:∀k∈ks,bt k.1=true∧bt k.2=true):∀q∈ks.map tI,([44]:Cs)∉q:=by
 intro q hq hm
 obtain⟨k,hk,rfl⟩:=aah.mp hq
 have hn:=h k hk
 unfold tI at hm
 rcases aaB.mp hm with e|hm
 ·exact l7 hn.1 e.symm
 rcases aaB.mp hm with e|hm
 ·revert e;decide
 ·exact l7 hn.2 (aaw.mp hm).symm
theorem ED:(aac ",")=S [44]:=by decide +kernel
theorem Of:(aac ";")=S [59]:=by decide +kernel
theorem vp:ax ["found"] ["found"] (aq i8):=⟨rfl,rfl,rfl,by decide +kernel,rfl,by decide +kernel,by decide +kernel⟩
theorem vq (F:cY K "read_looks" "read_looks" i8 f fd) (dU:cV P w K mg base "parted" 1 ["found","mark"] om) (la:cV P w K mg base "read_look" 4 ["found"] (Ht c)):aY P w K mg base cS 5 f fd ["found"] (D1 c):=by
 refine F.ok vp (fun vs H Q E h=>?_) (fun cx A outer s H vs Q E hr h=>?_)
 ·obtain⟨l,k,rfl,_⟩:=h
  rfl
 obtain⟨l,ks,rfl,hL,h0,hz,hn,q⟩:=h
 refine⟨_,(ah (ay (b6 [] rfl (by kernel_rfl) (aS (ao dU (hr.mono (by decide)) rfl (aa (pv 0) (aa aM af)))) (fun _ _ _ _ _=>bp) (fun _ _ _ _ _=>(ao la (hr.mono (by decide)) rfl (aa (pv 0) af)))))),?_⟩
 refine⟨_,rfl,l,_,[44],by rw [ED];rfl,hL,?_,fun v H1 s1 R=>?_⟩
 ·have z:=tJ (m:=[44]) (ks.map tH) 3 (by intro q hq;obtain⟨k,_,rfl⟩:=aah.mp hq;exact aaf _)
  rw [Lm9] at z
  omega
 have e:=fG (m:=[44]) (ks.map tH) [] (by simpa using h0) (FG hn)
 rw [abE] at e
 rw [e,abE] at R
 obtain⟨lr,vs,rfl,mq,hR,pr⟩:=R
 have hlen:=aat pr
 rw [Lm9] at hlen
 refine⟨lr,rfl,⟨_,aB.of hR⟩,fun D hD=>?_⟩
 refine bZ (K:=K) (xs:=vs) ks (fun H0 H b y=>oa c H0 H b y) (fun _ _ _ _ _ k h=>h.keep k) (fun _ _ _ _ _ d h=>h.bM d) (fj (by omega)) hD (aB.of hR) hlen (fun i x k H' R hx hk sm hQ=>?_) (fun H' ys sm hL' po=>?_)
 ·have hi:i<vs.length:=(aar.mp hx).1
  have N5:i<ks.length:=(aar.mp hk).1
  have ex:vs[i]=x:=(aar.mp hx).2
  have ek:ks[i]=k:=(aar.mp hk).2
  obtain⟨b,eb,hb,jk⟩:=paired_at pr i (by rw [Lm9];exact N5) hi
  rw [aa1,ek] at jk
  rw [ex] at eb
  subst eb
  have hm:=hn k (by rw [← ek];exact aas N5)
  exact⟨_,rfl,b,k,rfl,sm _ _ jk,hm.1,hm.2,fun v wz s2 ho=>hQ v wz s2 ho⟩
 ·refine q _ _ (ag.trans s1 sm) ⟨D,ys,rfl,s1.free hD,hL',L2.Paired.cj po fun b y z=>z.bM fun _ h=>s1.free h⟩
theorem vv:ax ["found"] ["found"] (aq i9):=⟨rfl,rfl,rfl,by decide +kernel,rfl,by decide +kernel,by decide +kernel⟩
theorem vw (F:cY K "read_pairs" "read_pairs" i9 f fd) (dU:cV P w K mg base "parted" 1 ["found","mark"] om) (lh:cV P w K mg base "read_pair" 4 ["found"] (Hu K)):aY P w K mg base cS 5 f fd ["found"] (D4 K):=by
 refine F.ok vv (fun vs H Q E h=>?_) (fun cx A outer s H vs Q E hr h=>?_)
 ·obtain⟨l,k,rfl,_⟩:=h
  rfl
 obtain⟨l,ks,rfl,hL,h0,hz,hn,q⟩:=h
 refine⟨_,(ah (ay (b6 [] rfl (by kernel_rfl) (aS (ao dU (hr.mono (by decide)) rfl (aa (pv 0) (aa aM af)))) (fun _ _ _ _ _=>bp) (fun _ _ _ _ _=>(ao lh (hr.mono (by decide)) rfl (aa (pv 0) af)))))),?_⟩
 refine⟨_,rfl,l,_,[44],by rw [ED];rfl,hL,?_,fun v H1 s1 R=>?_⟩
 ·have z:=tJ (m:=[44]) (ks.map tI) 3 (by intro q hq;obtain⟨k,_,rfl⟩:=aah.mp hq;exact aaf _)
  rw [Lm9] at z
  omega
 have e:=fG (m:=[44]) (ks.map tI) [] (by simpa using h0) (FH hn)
 rw [abE] at e
 rw [e,abE] at R
 obtain⟨lr,vs,rfl,mq,hR,pr⟩:=R
 have hlen:=aat pr
 rw [Lm9] at hlen
 refine⟨lr,rfl,⟨_,aB.of hR⟩,fun D hD=>?_⟩
 refine bZ (K:=K) (xs:=vs) ks (fun _ H b y=>Pair K H b y) (fun _ _ _ _ _ k h=>h.keep k) (fun _ _ _ _ _ _ h=>h) (fj (by omega)) hD (aB.of hR) hlen (fun i x k H' R hx hk sm hQ=>?_) (fun H' ys sm hL' po=>?_)
 ·have hi:i<vs.length:=(aar.mp hx).1
  have N5:i<ks.length:=(aar.mp hk).1
  have ex:vs[i]=x:=(aar.mp hx).2
  have ek:ks[i]=k:=(aar.mp hk).2
  obtain⟨b,eb,hb,jk⟩:=paired_at pr i (by rw [Lm9];exact N5) hi
  rw [aa1,ek] at jk
  rw [ex] at eb
  subst eb
  have hm:=hn k (by rw [← ek];exact aas N5)
  exact⟨_,rfl,b,k,rfl,sm _ _ jk,hm.1,hm.2,fun v wz s2 ho=>hQ v wz s2 ho⟩
 ·exact q _ _ (ag.trans s1 sm) ⟨D,ys,rfl,s1.free hD,hL',po⟩
theorem yK:ax ["word","found"] ["word","found"] (aq kz):=⟨rfl,rfl,rfl,by decide +kernel,rfl,by decide +kernel,by decide +kernel⟩
theorem yL (F:cY K "read_part" "read_part" kz f fd) (jl:cV P w K mg base "read_looks" 5 ["found"] (D1 c)) (jm:cV P w K mg base "read_pairs" 5 ["found"] (D4 K)) (gn:cV P w K mg base "row_of_facts" 5 ["found"] (Md K)) :
  aY P w K mg base cS 6 f fd ["word","found"] (Hv K c):=by
 refine F.ok yK (fun vs H Q E h=>?_) (fun cx A outer s H vs Q E hr h=>?_)
 ·obtain⟨l,n,ps,p,rfl,_⟩:=h
  rfl
 obtain⟨l,n,ps,p,rfl,hL,hz,hP,q⟩:=h
 refine⟨_,(ae (aV (au cP (pv 0) aM (aF _))
 (ah (ay (ao jl (hr.mono (by decide)) rfl (aa (pv 1) af))))
 aC)
 (ae (aV (au cP (pv 0) aM (aF _))
 (ah (ay (ao jm (hr.mono (by decide)) rfl (aa (pv 1) af))))
 aC)
 (ah (ay (ao gn (hr.mono (by decide)) rfl (aa (pv 1) af)))))),?_⟩
 refine⟨_,rfl,rfl,_,rfl,?_⟩
 cases hP with
 | lk h0 hl h =>
  have e:decide (tx (wordAt 2)=V.str (aac "look"))=true:=by decide +kernel
  rw [e]
  exact fE ⟨_,rfl,l,_,rfl,hL,h0,hl,h,fun v H' s' ho=>q v H' s' ho⟩
 | pr h0 hl h =>
  have e:decide (tx (wordAt 4)=V.str (aac "look"))=false:=by decide +kernel
  have e2:decide (tx (wordAt 4)=V.str (aac "tell"))=true:=by decide +kernel
  rw [e]
  refine bh ⟨_,rfl,rfl,_,rfl,?_⟩
  rw [e2]
  exact fE ⟨_,rfl,l,_,rfl,hL,h0,hl,h,fun v H' s' ho=>q v H' s' ho⟩
 | fs hn h =>
  have e:decide (tx (wordAt n)=V.str (aac "look"))=false:=by rcases hn with e|e|e <;> subst e <;> decide +kernel
  have e2:decide (tx (wordAt n)=V.str (aac "tell"))=false:=by rcases hn with e|e|e <;> subst e <;> decide +kernel
  rw [e]
  refine bh ⟨_,rfl,rfl,_,rfl,?_⟩
  rw [e2]
  exact bh ⟨_,rfl,l,_,_,rfl,hL,hz,h,fun v H' s' ho=>q v H' s' ho⟩
end
section
variable {P:aa4} {w:abu} {K:aaa} {mg:Str→Option aae} {base:Heap} {f:aaD} {fd:abo} {c:Cl}
abbrev gp:List V:=[tx Hm,tx Hn,tx Ho,tx Me,tx tD]
theorem Jb {n:Nat} (hn:n≤5):gC gp (some (n:Int)) none=gp.drop n:=by
 rcases(by omega:n=0∨n=1∨n=2∨n=3∨n=4∨n=5) with e|e|e|e|e|e <;> subst e <;> rfl
theorem K7 {m n:Nat} (h:m≤n) (hn:n<5):JI (tx (wordAt n)) (gp.drop m)=true:=by
 rcases(by omega:n=0∨n=1∨n=2∨n=3∨n=4) with e|e|e|e|e <;> subst e <;>
 rcases(by omega:m=0∨m=1∨m=2∨m=3∨m=4) with e|e|e|e|e <;> subst e <;> first|omega|decide +kernel
theorem uo (m:Nat):(gp.drop m).all eV=true:=by
 rw [abn]
 intro x hx
 have hx':=ach hx
 rcases aaB.mp hx' with e|hx'
 ·rw [e];rfl
 rcases aaB.mp hx' with e|hx'
 ·rw [e];rfl
 rcases aaB.mp hx' with e|hx'
 ·rw [e];rfl
 rcases aaB.mp hx' with e|hx'
 ·rw [e];rfl
 ·rw [aaw.mp hx'];rfl
theorem Dh {n:Nat} (hn:n<5):(∃z,gp[n]?=some z∧z7 z (tx (wordAt n))=true)∧∀m z,m<n→gp[m]?=some z→z7 z (tx (wordAt n))=false:=by
 rcases(by omega:n=0∨n=1∨n=2∨n=3∨n=4) with e|e|e|e|e <;> subst e <;> refine⟨⟨_,rfl,by decide +kernel⟩,fun m z hm hz=>?_⟩
 ·omega
 all_goals
  rcases(by omega:m=0∨m=1∨m=2∨m=3) with e|e|e|e <;> subst e <;> first|omega|(cases hz;decide +kernel)
theorem cO:ax ["found","title","parts","earliest","piece","word"] ["found"] (aq ky):=⟨rfl,rfl,rfl,by decide +kernel,rfl,by decide +kernel,by decide +kernel⟩
theorem yM {Og:aaD} {u1:aae} (F:cY K "read_rule" "read_rule" ky f fd) (bw:cV P w K mg base "piece_at" 1 ["found","place"] rV) (bq:cV P w K mg base "is_small_word" 3 ["text"] (AB iT)) (dU:cV P w K mg base "parted" 1 ["found","mark"] om)
  (lj:cV P w K mg base "read_part" 6 ["word","found"] (Hv K c)) (lq:mg "RULE_WORD"=some u1) (lu:RelV (tx fV) u1) (oK:mg "PART_WORDS"=some (.ref Og)) (oM:∀H,b8 K H Og gp) (yN:∃o,K.lookup Og=some o∧o.cls=.type "tuple"∧o.dict=none) :
  aY P w K mg base cS 7 f fd ["found"] (Hw K c):=by
 have oN:RelV (.ref Og) (.ref Og):=rfl
 refine F.ok cO (fun vs H Q E h=>?_) (fun cx A outer s H vs Q E hr h=>?_)
 ·obtain⟨l,title,L,rfl,_⟩:=h
  rfl
 obtain⟨l,title,L,rfl,hL,hz,R,q⟩:=h
 have hu:=An hr
 refine⟨_,(ae (aA (i:=1) cO.nd rfl (aaQ rfl) (ao bw (hr.mono (by decide)) rfl (aa (pv 0) (aa aj af))))
 (ae (aV (PW.pt (jS (au eU (ao bw (hr.mono (by decide)) rfl (aa (pv 0) (aa aj af))) (de rfl lq lu) (aF _)) (jS (dH (bV (ao bq (hr.mono (by decide)) rfl (aa (pv 1) af)))) (iM (au eU (ao bw (hr.mono (by decide)) rfl (aa (pv 0) (aa aj af))) aM (aF _))))))
 aZ
 aC)
 (ae (aA (i:=2) cO.nd rfl (aaQ rfl) Ax)
 (ae (aA (i:=3) cO.nd rfl (aaQ rfl) aj)
 (ae (bI aaG rfl (aS (ao dU (hr.mono (by decide)) rfl (aa (dN iO (pv 0) (dM aj) iN) (aa aM af)))) (aH (i:=4) cO.nd rfl (aaQ rfl))
 (ae (aA (i:=5) cO.nd rfl (aaQ rfl) (ao bw (hr.mono (by decide)) rfl (aa (pv 4) (aa aj af))))
 (ae (aV (au dO (pv 5) (dN Kh (de rfl oK oN) (dM (pv 3)) iN) (by with_unfolding_all rfl))
 aZ
 aC)
 (ae (aA (i:=3) cO.nd rfl (aaQ rfl) (aL d6 (ck PySem.F.plainAttrs_tuple aec PySem.F.type_tuple_index Hb (de rfl oK oN) (aa (pv 5) af)) aj))
 (ah (xP hu (pv 2) (pv 5) (ao lj (hr.mono (by decide)) rfl (aa (pv 5) (aa (dN iO (pv 4) (dM aj) iN) af))) rfl))))))
 (ae (aV (PW.pt (gP (B5 (pM hu aM (pv 2))) (fD (B5 (pM hu aM (pv 2))))))
 aZ
 aC)
 (ah (ay (cX (aa (pv 1) (aa (pv 2) af))))))))))),?_⟩
 refine⟨_,rfl,l,_,1,rfl,hL,hz,?_⟩
 have Qv:=cz R.tt
 refine⟨_,rfl,l,_,0,rfl,hL,hz,rfl,_,rfl,?_⟩
 have e0:decide (tx ((gW title L).getD 0 [])=tx fV)=true:=decide_eq_true rfl
 rw [e0]
 refine bh ⟨_,rfl,S title,rfl,by rw [a6];omega,fun H1 s1=>⟨_,rfl,?_⟩⟩
 rw [AA,R.tt]
 have rA:=s1 _ _ hL
 refine bh ⟨_,rfl,l,_,2,rfl,rA,hz,rfl,_,rfl,?_⟩
 have e2:decide (tx ((gW title L).getD 2 [])=V.str (aac ":"))=true:=by
  show decide (tx [58]=V.str (aac ":"))=true
  decide +kernel
 rw [e2]
 refine bh ?_
 intro d hd
 have SJ:H d=none:=s1.free hd
 have s2:ag H (upd H1 d (.dK [])):=ag.aJ s1 SJ _
 refine⟨_,rfl,_,rfl,l,_,rfl,.inl (.inl (s2 _ _ hL)),fun l2 vb=>?_⟩
 have U4:gC ((gW title L).map tx) (some (3:Int)) none=(glue [59] (L.map fun x=>wordAt x.n::x.ps)).map tx:=nY (k:=3) (by rw [Lm9];show 3≤(glue [59] (L.map fun x=>wordAt x.n::x.ps)).length+3;omega)
 rw [U4]
 have QC:(glue [59] (L.map fun x=>wordAt x.n::x.ps)).length≤20000:=by
  have z:(gW title L).length=(glue [59] (L.map fun x=>wordAt x.n::x.ps)).length+3:=rfl
  omega
 have Oh:H l2=none:=s2.free vb
 have s3:ag H (upd (upd H1 d (.dK [])) l2 (.lst ((glue [59] (L.map fun x=>wordAt x.n::x.ps)).map tx))):=ag.aJ s2 Oh _
 have ZH:d≠l2:=fun z=>by rw [← z,ab] at vb;cases vb
 refine⟨l2,_,[59],by rw [Of];rfl,ab,QC,fun v H2 s4 RW=>?_⟩
 have U5:∀q∈L.map (fun x=>wordAt x.n::x.ps),([59]:Cs)∉q:=by
  intro q hq hm
  obtain⟨x,hx,rfl⟩:=aah.mp hq
  rcases aaB.mp hm with e|hm
  ·have SK:=(pR R.inc x hx).2
   revert e
   rcases(by omega:x.n=0∨x.n=1∨x.n=2∨x.n=3∨x.n=4) with e|e|e|e|e <;> rw [e] <;> decide
  ·exact R.no x hx hm
 have eP:=fG (m:=[59]) (L.map fun x=>wordAt x.n::x.ps) [] (by simpa using R.ne) U5
 rw [abE] at eP
 rw [eP,abE] at RW
 obtain⟨lr,rows,rfl,mq,hR,pr⟩:=RW
 have SM:=aat pr
 rw [Lm9] at SM
 have hd2:H2 d=some (.dK []):=s4 _ _ (by rw [ar ZH];exact ab)
 have ZI:ag H H2:=ag.trans s3 s4
 have XA:L.length≤5:=D6 R.inc (by omega)
 refine⟨lr,rfl,⟨_,aB.of hR⟩,bN (K:=K) (a:=lr) (xs:=rows) (fun i σ H'=>∃(kvs:List (Key × V)) (m:Nat) (o4 o5:Option V),σ=[some (.ref l),some (tx title),some (.ref d),some (.int m),o4,o5]∧m≤5∧(∀x∈L.drop i,m≤x.n) ∧
   (∀b o,b≠d→H2 b=some o→H' b=some o)∧(∀b,H' b=none→H2 b=none)∧H' d=some (.dK kvs)∧cM K c (upd H1 d (.dK [])) H' (L.take i) kvs)
  ⟨[],0,none,none,rfl,by omega,fun _ _=>aa3 _,fun _ _ _ h=>h,fun _ h=>h,hd2,.nil⟩ (fun i σ H' _ ⟨_,_,_,_,_,_,_,k1,_⟩=>aB.of (k1 _ _ (Ac hR hd2 (by intro z;cases z)) hR)) ?_ ?_⟩
 ·rintro i y σ H' hi ⟨kvs,m,o4,o5,rfl,XC,U6,k1,k2,Gp,pa⟩
  have FI:i<rows.length:=(aar.mp hi).1
  have xg:i<L.length:=by omega
  have ey:rows[i]=y:=(aar.mp hi).2
  obtain⟨b,eb,hb0,SN⟩:=paired_at pr i (by rw [Lm9];exact xg) FI
  rw [aa1] at SN
  rw [ey] at eb
  subst eb
  have OW:L[i]∈L:=aas xg
  generalize hx:L[i]=x at SN OW
  have SK:=(pR R.inc x OW).2
  have ZJ:m≤x.n:=U6 x (by rw [← hx];exact abr (by rw [adm,Nat.add_zero];exact Ge9 xg))
  have Gq:b≠d:=Ac SN hd2 (by intro z;cases z)
  have hb':=k1 _ _ Gq SN
  have XD:(wordAt x.n::x.ps).length≤20000:=by
   have z:=AM (m:=[59]) (L.map fun x=>wordAt x.n::x.ps) (wordAt x.n::x.ps) (aah.mpr ⟨x,OW,rfl⟩)
   omega
  refine⟨_,rfl,b,_,0,rfl,hb',XD,?_⟩
  refine⟨_,rfl,_,rfl,_,rfl,Og,_,rfl,oM _,fun p H3 OX hp=>?_⟩
  rw [Jb XC] at hp
  refine⟨p,_,rfl,.inr hp,rfl,uo m,_,rfl,?_⟩
  have ZK:(if true=true then !JI (tx ((wordAt x.n::x.ps).getD 0 [])) (gp.drop m) else JI (tx ((wordAt x.n::x.ps).getD 0 [])) (gp.drop m))=false:=by
   rw [if_pos rfl]
   show(!JI (tx (wordAt x.n)) (gp.drop m))=false
   rw [K7 ZJ SK]
   rfl
  rw [ZK]
  refine bh ?_
  obtain⟨ZL,ZM⟩:=Dh SK
  refine⟨.inr (.inl ⟨rfl,yN⟩),_,rfl,Og,gp,_,x.n,rfl,rfl,oM _,rfl,uo 0,ZL,ZM,_,_,rfl,rfl,?_⟩
  have UE:=OX _ _ hb'
  refine⟨_,rfl,_,rfl,_,rfl,b,_,rfl,.inl (.inl UE),fun l3 OY=>?_⟩
  have ec:gC ((wordAt x.n::x.ps).map tx) (some (1:Int)) none=x.ps.map tx:=nY (k:=1) (by rw [Lm9,aad];omega)
  rw [ec]
  have SO:H3 d=some (.dK kvs):=OX _ _ Gp
  have nd3:d≠l3:=aI SO OY
  refine⟨l3,x.n,x.ps,x.p,rfl,ab,by rw [aad] at XD;omega,R.ok x OW,fun v H5 s5 NH=>?_⟩
  have SQ:ag H3 H5:=ag.trans (ak OY _) s5
  have OZ:H5 d=some (.dK kvs):=SQ _ _ SO
  have UZ:kvs.length≤5:=by
   have z:=aat pa
   rw [aaF] at z
   omega
  have Cp:bc kvs (aa7 (S (wordAt x.n)):Key)=none:=wI fun kv ZN e=>by
   obtain⟨z,hz,OT⟩:=m9 pa ZN
   rw [OT.1] at e
   have e2:wordAt z.n=wordAt x.n:=wF (aeh e)
   have ia:=Hx R.inc i xg
   rw [hx] at ia
   have eE:=ia.1 z hz
   have:=tK (by omega) SK e2
   omega
  have kp:Kp (upd H1 d (.dK [])) H5 (upd H5 d (.dK (kvs++[(aa7 (S (wordAt x.n)),v)]))):=Kp.upd ab OZ (by intro xs z;cases z) (by intro o u z;cases z)
  have ZO:∀b,H5 b=none→H2 b=none:=fun b h=>k2 b (ag.free (ag.trans OX SQ) h)
  refine⟨_,rfl,_,rfl,d,_,rfl,Cu.k (k:=(aa7 (S (wordAt x.n)):Key)) OZ (fj (by omega)),?_⟩
  rw [As _ Cp]
  refine⟨kvs++[(aa7 (S (wordAt x.n)),v)],x.n+1,_,_,rfl,by omega,fun z hz=>?_,fun b' o hb hH=>?_,fun b' h=>ZO b' (kp.tu b' h),ab,?_⟩
  ·have z2:=wJ R.inc i xg z hz
   rw [hx] at z2
   omega
  ·rw [ar hb]
   exact SQ _ _ (OX _ _ (k1 _ _ hb hH))
  ·rw [aaA xg,hx]
   refine((cM.keep (Kp.same (ag.trans OX SQ)) pa).keep kp).snoc ⟨rfl,?_⟩
   refine cL.keep kp (cL.bM (fun b h=>?_) NH)
   have h3:H3 b=none:=(ak OY _).free h
   exact(ag.trans (ak vb _) s4).free (k2 b (OX.free h3))
 ·rintro σ H' ⟨kvs,m,o4,o5,rfl,XC,U6,k1,k2,Gp,pa⟩
  have U2:rows.length=L.length:=SM.symm
  rw [U2,aba] at pa
  have sH:ag H H':=fun b o e=>k1 b o (aI e SJ) (ZI b o e)
  have fin:∀t,H' t=none→Q (.ref t) (upd H' t (.tup [tx title,.ref d])):=fun t ht=>by
   have ZP:d≠t:=aI Gp ht
   refine q t d kvs _ (ag.trans sH (ak ht _)) ab SJ (by rw [ar ZP];exact Gp) ?_
   exact L2.Paired.cj pa fun x kv z=>⟨z.1,cL.bM (fun b h=>ag.free (ag.aJ s1 SJ _) h) (z.2.keep (Kp.same (ak ht _)))⟩
  refine⟨_,rfl,d,_,rfl,iy.k (k:=(aa7 (aac "take"):Key)) Gp,_,rfl,?_⟩
  obtain⟨x,OW,U7⟩:=R.hd
  have FJ:=wK pa OW
  rcases U7 with e|e
  ·rw [e] at FJ
   have e2:(S (wordAt 0))=aac "take":=by decide +kernel
   rw [e2] at FJ
   rw [FJ]
   exact bh ⟨_,rfl,_,rfl,(by show 2≤aao;decide),fin⟩
  ·rw [e] at FJ
   have e2:(S (wordAt 1))=aac "keep":=by decide +kernel
   rw [e2] at FJ
   have two:∀b:Bool,(if b=true then (∃a o,V.ref d=.ref a∧iy H' a (.str (aac "keep")) o∧False) else True)→True:=fun _ _=>trivial
   refine df (fun _=>⟨_,rfl,d,_,rfl,iy.k (k:=(aa7 (aac "keep"):Key)) Gp,_,rfl,?_⟩) (fun _=>bh ⟨_,rfl,_,rfl,(by show 2≤aao;decide),fin⟩)
   rw [FJ]
   exact bh ⟨_,rfl,_,rfl,(by show 2≤aao;decide),fin⟩
end
section
variable {P:aa4} {w:abu} {K:aaa} {mg:Str→Option aae} {base:Heap} {f:aaD} {fd:abo} {c:Cl}
theorem Bx:ax ["name"] ["name"] (aq nA):=⟨rfl,rfl,rfl,by decide +kernel,rfl,by decide +kernel,by decide +kernel⟩
theorem By {u1:aae} (F:cY K "is_great" "is_great" nA f fd) (yt:mg "GREAT"=some u1) (yu:RelV (.str pN) u1):aY P w K mg base cS 1 f fd ["name"] xV:=by
 refine F.ok Bx (fun vs H Q E h=>?_) (fun cx A outer s H vs Q E hr h=>?_)
 ·obtain⟨p,rfl,_⟩:=h
  rfl
 obtain⟨p,rfl,h1,hx,q⟩:=h
 refine⟨_,(ah (ay (eG fN (aw pH (pv 0) aj (fun _ _=>rfl)) (de rfl yt yu) (by with_unfolding_all rfl)))),?_⟩
 have hl:1≤(S p).length:=by
  rw [a6]
  cases p with
  | nil=>exact absurd rfl h1
  | cons a r=>simp
 refine⟨_,rfl,S p,0,_,rfl,rfl,(by rw [a6];exact sz (by omega)),DX hl,_,_,rfl,rfl,?_⟩
 rw [acr,cG]
 exact q
theorem eQ:ax ["facts","found","fact","name"] ["facts"] (aq jb):=⟨rfl,rfl,rfl,by decide +kernel,rfl,by decide +kernel,by decide +kernel⟩
theorem vx (F:cY K "open_names" "open_names" jb f fd) (ef:cV P w K mg base "is_great" 1 ["name"] xV) (nK:mg "list"=none):aY P w K mg base cS 2 f fd ["facts"] (D7 K):=by
 refine F.ok eQ (fun vs H Q E h=>?_) (fun cx A outer s H vs Q E hr h=>?_)
 ·obtain⟨l,us,fs,rfl,_⟩:=h
  rfl
 obtain⟨l,us,fs,rfl,hL,hP,hz,hok,hfl,q⟩:=h
 have hu:=An hr
 refine⟨_,(ae (aA (i:=1) eQ.nd rfl (aaQ rfl) Ax)
 (ae (bI aaG rfl (aS (pv 0)) (aH (i:=2) eQ.nd rfl (aaQ rfl))
 (ah (bI aaG rfl (MW (aw aN (pv 2) aj (fun _ _=>rfl))) (aH (i:=3) eQ.nd rfl (aaQ rfl))
 (ah (aV (bV (ao ef (hr.mono (by decide)) rfl (aa (pv 3) af)))
 (ah (xP hu (pv 1) (pv 3) d5 rfl))
 aC)))))
 (ah (ay (fO (tf rfl) rfl nK PyProof.Rows.Boot.«list» (aa (pv 1) af)))))),?_⟩
 intro d hd
 have ZQ:=aat hP
 refine⟨_,rfl,l,rfl,⟨_,aB.of ((ak hd _) _ _ hL)⟩,bN (K:=K) (a:=l) (xs:=us) (fun i σ H'=>∃o2 o3,σ=[some (.ref l),some (.ref d),o2,o3]∧ag H H'∧H' d=some (.dK ((dQ ((fs.take i).flatMap (·.as)) []).map vf))∧(dQ ((fs.take i).flatMap (·.as)) []).length≤((fs.take i).flatMap (·.as)).length)
  ⟨none,none,rfl,ak hd _,ab,aaf _⟩ (fun i σ H' _ ⟨_,_,_,sm,_⟩=>aB.of (sm _ _ hL)) ?_ ?_⟩
 ·rintro i y σ H' hi ⟨o2,o3,rfl,sm,Gp,tj⟩
  have qt:i<us.length:=(aar.mp hi).1
  have Jc:i<fs.length:=by omega
  have ey:us[i]=y:=(aar.mp hi).2
  obtain⟨t,t2,et,h1,h2⟩:=paired_at hP i Jc qt
  rw [ey] at et
  subst et
  have h1':b8 K H' t [tx fs[i].k,.ref t2]:=h1.same sm
  have ZR:=hok fs[i] (aas Jc)
  generalize My:dQ ((fs.take i).flatMap (·.as)) []=Bz at Gp tj
  have XE:∀j,dQ (((fs.take i).flatMap (·.as))++(fs[i].as.take j)) []=dQ (fs[i].as.take j) Bz:=fun j=>by rw [pS,My]
  have XF:((fs.take i).flatMap (·.as)).length+fs[i].as.length≤20000:=by
   have e:fs.flatMap (·.as)=(fs.take i).flatMap (·.as)++(fs[i].as++(fs.drop (i+1)).flatMap (·.as)):=by
    rw [← List.flatMap_cons,← abG,← acY Jc,abz]
   have z:=congrArg ae3 e
   rw [aab,aab] at z
   omega
  refine⟨_,rfl,t,_,1,_,rfl,rfl,h1',rfl,t2,rfl,⟨_,h2.same sm⟩,JW (K:=K) (a:=t2) (xs:=fs[i].as.map tx) (fun j σ H2=>∃o3,σ=[some (.ref l),some (.ref d),some (.ref t),o3]∧ag H H2∧H2 d=some (.dK ((dQ (fs[i].as.take j) Bz).map vf))∧(dQ (fs[i].as.take j) Bz).length≤Bz.length+j)
   ⟨_,rfl,sm,Gp,aaf _⟩ (fun j σ H2 _ ⟨_,_,nF,_⟩=>h2.same nF) ?_ ?_⟩
  ·rintro j y σ H2 hj ⟨ZS,rfl,nF,Jd,vb⟩
   have U8:j<fs[i].as.length:=by
    have:=(aar.mp hj).1
    simpa using this
   obtain rfl:y=tx fs[i].as[j]:=by
    rw [aaq,Ge9 U8] at hj
    exact(aaR hj).symm
   have K3:=iA (ZR.2.2 _ (aas U8))
   have st:dQ (fs[i].as.take (j+1)) Bz=mB fs[i].as[j] (dQ (fs[i].as.take j) Bz):=by
    rw [aaA U8,pS]
    rfl
   have OY:=Fb fs[i].as[j] (dQ (fs[i].as.take j) Bz)
   refine⟨_,rfl,fs[i].as[j],rfl,(fun z=>by rw [z] at K3;simp at K3),by omega,_,rfl,?_⟩
   refine df (fun g=>?_) (fun g=>?_)
   ·refine⟨_,rfl,_,rfl,d,_,rfl,Cu.k (k:=(aa7 (S fs[i].as[j]):Key)) Jd (by rw [Lm9];exact fj (by omega)),?_⟩
    rw [HA]
    refine⟨_,rfl,ag.aJ nF hd _,?_,?_⟩
    ·rw [ab,st]
     unfold mB
     rw [if_pos g]
    ·rw [st];omega
   ·refine⟨_,rfl,nF,?_,?_⟩
    ·rw [st]
     unfold mB
     rw [if_neg g]
     exact Jd
    ·rw [st];omega
  ·rintro σ H2 ⟨ZS,rfl,nF,Jd,vb⟩
   rw [Lm9,aba] at Jd vb
   have e:dQ ((fs.take (i+1)).flatMap (·.as)) []=dQ fs[i].as Bz:=by
    rw [aaA Jc,abG,pS,My]
    simp
   refine⟨_,_,rfl,nF,by rw [e];exact Jd,?_⟩
   rw [e,aaA Jc,abG,aab,show([fs[i]].flatMap (·.as))=fs[i].as by simp]
   omega
 ·rintro σ H' ⟨o2,o3,rfl,sm,Gp,tj⟩
  rw [← ZQ,aba] at Gp
  refine⟨_,rfl,d,_,rfl,Gp,fun l2 vb=>?_⟩
  refine q _ _ (ag.trans sm (ak vb _)) ⟨l2,rfl,sm.free vb,?_⟩
  rw [ab,Hz,abf]
  rfl
theorem yO:ax ["self","title","parts"] ["self","title","parts"] (aq kI):=⟨rfl,rfl,rfl,by decide +kernel,rfl,by decide +kernel,by decide +kernel⟩
theorem yP (F:cY K "__init__" "Rule.__init__" kI f fd) (T:xX K c.rule) (jn:cV P w K mg base "open_names" 2 ["facts"] (D7 K)):aY P w K mg base cS 3 f fd ["self","title","parts"] (rW K c):=by
 refine F.ok yO (fun vs H Q E h=>?_) (fun cx A outer s H vs Q E hr h=>?_)
 ·obtain⟨H0,p,dx,d,title,L,kvs,u0,rfl,_⟩:=h
  rfl
 obtain⟨H0,p,dx,d,title,L,kvs,u0,rfl,hp,U9,tu,hd,pa,h5,hok,QY,q⟩:=h
 have hu:=An hr
 refine⟨_,(ae (ps_fld (pv 0) (pv 1) rfl)
 (ae (ps_fld (pv 0) (iz hu (pv 2) aM (bF af) ⟨rfl,rfl,rfl,rfl⟩) rfl)
 (ae (ps_fld (pv 0) (iz hu (pv 2) aM (bF af) ⟨rfl,rfl,rfl,rfl⟩) rfl)
 (ae (ps_fld (pv 0) (iz hu (pv 2) aM (bF af) ⟨rfl,rfl,rfl,rfl⟩) rfl)
 (ae (ps_fld (pv 0) (iz hu (pv 2) aM (bF af) ⟨rfl,rfl,rfl,rfl⟩) rfl)
 (ae (ps_fld (pv 0) (iz hu (pv 2) aM (bF af) ⟨rfl,rfl,rfl,rfl⟩) rfl)
 (ah (ps_fld (pv 0) (ao jn (hr.mono (by decide)) rfl (aa (aL jW (pe_fld (pv 0) rfl) (pe_fld (pv 0) rfl)) af)) rfl)))))))),?_⟩
 have XG:p≠d:=Ac hp hd (by intro z;cases z)
 have O0:∀(o:HO),(∃fs,o=.ins c.rule dx fs)→(∀xs,o≠.tup xs)∧∀ob u,o≠.sv ob u:=fun o ⟨fs,e⟩=>⟨(by intro xs z;rw [e] at z;cases z),(by intro ob u z;rw [e] at z;cases z)⟩
 refine⟨_,rfl,_,rfl,p,c.rule,dx,[],rfl,hp,T.cl,T.n1,(by show 0<1000;decide),?_⟩
 have key:∀(H1:Hp) (JM:List (Str × V)) (n:Str),H1 p=some (.ins c.rule dx JM)→H1 d=some (.dK kvs)→cM K c H0 H1 L kvs→(∀b,H1 b=none→H0 b=none)→(∀b o,H b=some o→b≠p→H1 b=some o) →
   ∀l,H1 l=none→∀y:V,(upd (upd H1 l (.lst [])) p (.ins c.rule dx (bG n y JM))) p=some (.ins c.rule dx (bG n y JM))∧(upd (upd H1 l (.lst [])) p (.ins c.rule dx (bG n y JM))) d=some (.dK kvs) ∧
    Kp H0 H1 (upd (upd H1 l (.lst [])) p (.ins c.rule dx (bG n y JM)))∧H0 l=none∧upd H1 l (.lst []) l=some (.lst [])∧upd H1 l (.lst []) d=some (.dK kvs)∧upd H1 l (.lst []) p=some (.ins c.rule dx JM)∧cM K c H0 (upd H1 l (.lst [])) L kvs ∧
    (∀b o,H b=some o→b≠p→(upd (upd H1 l (.lst [])) p (.ins c.rule dx (bG n y JM))) b=some o)∧Kp H0 (upd H1 l (.lst [])) (upd (upd H1 l (.lst [])) p (.ins c.rule dx (bG n y JM))):=by
  intro H1 JM n SR XH Va QZ ZT l hl y
  have s1:=ak hl (.lst [])
  have XI:=s1 _ _ SR
  have L9:Kp H0 (upd H1 l (.lst [])) (upd (upd H1 l (.lst [])) p (.ins c.rule dx (bG n y JM))):=Kp.upd U9 XI (O0 _ ⟨_,rfl⟩).1 (O0 _ ⟨_,rfl⟩).2
  refine⟨ab,by rw [ar (abB XG)];exact s1 _ _ XH,(Kp.same s1).trans L9,QZ l hl,ab,s1 _ _ XH,XI,Va.keep (Kp.same s1),fun b o e hb=>?_,L9⟩
  rw [ar hb]
  exact s1 _ _ (ZT b o e hb)
 have OQ:Kp H0 H (upd H p (.ins c.rule dx (bG "title" (tx title) []))):=Kp.upd U9 hp (O0 _ ⟨_,rfl⟩).1 (O0 _ ⟨_,rfl⟩).2
 have XJ:(upd H p (.ins c.rule dx (bG "title" (tx title) []))) p=some (.ins c.rule dx (bG "title" (tx title) [])):=ab
 have Vb:(upd H p (.ins c.rule dx (bG "title" (tx title) []))) d=some (.dK kvs):=by rw [ar (abB XG)];exact hd
 have XM:∀b o,H b=some o→b≠p→(upd H p (.ins c.rule dx (bG "title" (tx title) []))) b=some o:=fun b o e hb=>by rw [ar hb];exact e
 have Oi:=pa.keep OQ
 have Je:∀b,(upd H p (.ins c.rule dx (bG "title" (tx title) []))) b=none→H0 b=none:=fun b h=>tu b (OQ.tu b h)
 generalize upd H p (.ins c.rule dx (bG "title" (tx title) []))=H1 at OQ XJ Vb XM Oi Je ⊢
 refine⟨_,rfl,d,rfl,.inl ⟨_,.inl Vb⟩,(by show 0≤aao;decide),fun l1 Uo=>?_⟩
 obtain⟨Q0,Q3,Oj,Vc,Vd,Ve,Vf,Vg,Q4,Mz⟩:=key H1 _ "taken" XJ Vb Oi Je XM l1 Uo ((bc kvs (aa7 (aac "take"):Key)).getD (.ref l1))
 refine⟨_,iy.k (k:=(aa7 (aac "take"):Key)) Ve,_,rfl,p,c.rule,dx,_,rfl,Vf,T.cl,T.n2,(by show 1<1000;decide),?_⟩
 have v1:=(CA Vg h5 hok (n:=0) (by decide) Vc Vd).keep Mz
 rw [show S (wordAt 0)=aac "take" by decide +kernel] at v1
 have Ol:=Oi.keep Oj
 have Jf:∀b,_=none→H0 b=none:=fun b h=>Je b (Oj.tu b h)
 generalize hH2:upd (upd H1 l1 (.lst [])) p (.ins c.rule dx (bG "taken" ((bc kvs (aa7 (aac "take"):Key)).getD (.ref l1)) (bG "title" (tx title) [])))=H2 at Q0 Q3 Oj Q4 Mz Ol Jf v1  ⊢
 have ZU:=Q0
 have XN:=Q3
 have ZV:=Q4
 refine⟨_,rfl,d,rfl,.inl ⟨_,.inl XN⟩,(by show 0≤aao;decide),fun l2 vb=>?_⟩
 obtain⟨Q5,Q6,K8,Vh,Vi,Vj,Vk,Vl,Q7,MA⟩:=key H2 _ "kept" ZU XN Ol Jf ZV l2 vb ((bc kvs (aa7 (aac "keep"):Key)).getD (.ref l2))
 refine⟨_,iy.k (k:=(aa7 (aac "keep"):Key)) Vj,_,rfl,p,c.rule,dx,_,rfl,Vk,T.cl,T.n3,(by show 2<1000;decide),?_⟩
 have v2:=(CA Vl h5 hok (n:=1) (by decide) Vh Vi).keep MA
 rw [show S (wordAt 1)=aac "keep" by decide +kernel] at v2
 have Om:=Ol.keep K8
 have Jg:∀b,_=none→H0 b=none:=fun b h=>Jf b (K8.tu b h)
 have v1:=v1.keep K8
 generalize Ue:upd (upd H2 l2 (.lst [])) p (.ins c.rule dx (bG "kept" ((bc kvs (aa7 (aac "keep"):Key)).getD (.ref l2)) (bG "taken" ((bc kvs (aa7 (aac "take"):Key)).getD (.ref l1)) (bG "title" (tx title) []))))=H3 at Q5 Q6 K8 Q7 MA Om Jg v2 v1 ⊢
 have ZW:=Q5
 have XO:=Q6
 have ZX:=Q7
 refine⟨_,rfl,d,rfl,.inl ⟨_,.inl XO⟩,(by show 0≤aao;decide),fun l3 OY=>?_⟩
 obtain⟨Q8,Q9,Jh,Vm,Vn,Vo,Vp,Vq,Ra,MB⟩:=key H3 _ "looks" ZW XO Om Jg ZX l3 OY ((bc kvs (aa7 (aac "look"):Key)).getD (.ref l3))
 refine⟨_,iy.k (k:=(aa7 (aac "look"):Key)) Vo,_,rfl,p,c.rule,dx,_,rfl,Vp,T.cl,T.n4,(by show 3<1000;decide),?_⟩
 have v3:=(Ny Vq h5 hok Vm Vn).keep MB
 rw [show S (wordAt 2)=aac "look" by decide +kernel] at v3
 have Oo:=Om.keep Jh
 have Ji:∀b,_=none→H0 b=none:=fun b h=>Jg b (Jh.tu b h)
 have v1:=v1.keep Jh
 have v2:=v2.keep Jh
 generalize hH4:upd (upd H3 l3 (.lst [])) p (.ins c.rule dx (bG "looks" ((bc kvs (aa7 (aac "look"):Key)).getD (.ref l3)) (bG "kept" ((bc kvs (aa7 (aac "keep"):Key)).getD (.ref l2)) (bG "taken" ((bc kvs (aa7 (aac "take"):Key)).getD (.ref l1)) (bG "title" (tx title) [])))))=H4 at Q8 Q9 Jh Ra MB Oo Ji v3 v1 v2 ⊢
 have ZY:=Q8
 have XQ:=Q9
 have ZZ:=Ra
 refine⟨_,rfl,d,rfl,.inl ⟨_,.inl XQ⟩,(by show 0≤aao;decide),fun l4 Vr=>?_⟩
 obtain⟨Rb,Rc,FK,Vs,Vt,Vu,Vv,Vw,Rf,MC⟩:=key H4 _ "given" ZY XQ Oo Ji ZZ l4 Vr ((bc kvs (aa7 (aac "put"):Key)).getD (.ref l4))
 refine⟨_,iy.k (k:=(aa7 (aac "put"):Key)) Vu,_,rfl,p,c.rule,dx,_,rfl,Vv,T.cl,T.n5,(by show 4<1000;decide),?_⟩
 have v4:=(CA Vw h5 hok (n:=3) (by decide) Vs Vt).keep MC
 rw [show S (wordAt 3)=aac "put" by decide +kernel] at v4
 have Oq:=Oo.keep FK
 have Jj:∀b,_=none→H0 b=none:=fun b h=>Ji b (FK.tu b h)
 have v1:=v1.keep FK
 have v2:=v2.keep FK
 have v3:=v3.keep FK
 generalize hH5:upd (upd H4 l4 (.lst [])) p (.ins c.rule dx (bG "given" ((bc kvs (aa7 (aac "put"):Key)).getD (.ref l4)) (bG "looks" ((bc kvs (aa7 (aac "look"):Key)).getD (.ref l3)) (bG "kept" ((bc kvs (aa7 (aac "keep"):Key)).getD (.ref l2)) (bG "taken" ((bc kvs (aa7 (aac "take"):Key)).getD (.ref l1)) (bG "title" (tx title) []))))))=H5 at Rb Rc FK Rf MC Oq Jj v4 v1 v2 v3 ⊢
 have Z0:=Rb
 have XR:=Rc
 have Z1:=Rf
 refine⟨_,rfl,d,rfl,.inl ⟨_,.inl XR⟩,(by show 0≤aao;decide),fun l5 Z2=>?_⟩
 obtain⟨Rg,Rh,Di,Vx,Vy,Vz,VA,VB,Ri,MD⟩:=key H5 _ "told" Z0 XR Oq Jj Z1 l5 Z2 ((bc kvs (aa7 (aac "tell"):Key)).getD (.ref l5))
 refine⟨_,iy.k (k:=(aa7 (aac "tell"):Key)) Vz,_,rfl,p,c.rule,dx,_,rfl,VA,T.cl,T.n6,(by show 5<1000;decide),?_⟩
 have v5:=(Nz VB h5 hok Vx Vy).keep MD
 rw [show S (wordAt 4)=aac "tell" by decide +kernel] at v5
 have VC:=Oq.keep Di
 have Jk:∀b,_=none→H0 b=none:=fun b h=>Jj b (Di.tu b h)
 have v1:=v1.keep Di
 have v2:=v2.keep Di
 have v3:=v3.keep Di
 have v4:=v4.keep Di
 generalize hH6:upd (upd H5 l5 (.lst [])) p (.ins c.rule dx (bG "told" ((bc kvs (aa7 (aac "tell"):Key)).getD (.ref l5)) (bG "given" ((bc kvs (aa7 (aac "put"):Key)).getD (.ref l4)) (bG "looks" ((bc kvs (aa7 (aac "look"):Key)).getD (.ref l3)) (bG "kept" ((bc kvs (aa7 (aac "keep"):Key)).getD (.ref l2)) (bG "taken" ((bc kvs (aa7 (aac "take"):Key)).getD (.ref l1)) (bG "title" (tx title) [])))))))=H6 at Rg Rh Di Ri MD VC Jk v5 v1 v2 v3 v4 ⊢
 have SS:=Rg
 have g6d:=Rh
 have Z3:=Ri
 generalize L5:(bG "told" ((bc kvs (aa7 (aac "tell"):Key)).getD (.ref l5)) (bG "given" ((bc kvs (aa7 (aac "put"):Key)).getD (.ref l4)) (bG "looks" ((bc kvs (aa7 (aac "look"):Key)).getD (.ref l3)) (bG "kept" ((bc kvs (aa7 (aac "keep"):Key)).getD (.ref l2)) (bG "taken" ((bc kvs (aa7 (aac "take"):Key)).getD (.ref l1)) (bG "title" (tx title) []))))))=Gr at SS ⊢
 have lk:∀n:Str,Gr.lookup n=if n="told" then some ((bc kvs (aa7 (aac "tell"):Key)).getD (.ref l5)) else if n="given" then some ((bc kvs (aa7 (aac "put"):Key)).getD (.ref l4)) else if n="looks" then some ((bc kvs (aa7 (aac "look"):Key)).getD (.ref l3)) else if n="kept" then some ((bc kvs (aa7 (aac "keep"):Key)).getD (.ref l2)) else if n="taken" then some ((bc kvs (aa7 (aac "take"):Key)).getD (.ref l1)) else if n="title" then some (tx title) else none:=fun n=>by
  rw [← L5,aT,aT,aT,aT,aT,aT]
  rfl
 obtain⟨lt,ut,et,nt,ht,pt⟩:=id v1
 obtain⟨XS,uk,ek,nk,hk,pk⟩:=id v2
 have XT:Gr.lookup ("taken":Str)=some (.ref lt):=by
  rw [lk,if_neg (by decide +kernel),if_neg (by decide +kernel),if_neg (by decide +kernel),if_neg (by decide +kernel),if_pos rfl,et]
 have XU:Gr.lookup ("kept":Str)=some (.ref XS):=by
  rw [lk,if_neg (by decide +kernel),if_neg (by decide +kernel),if_neg (by decide +kernel),if_pos rfl,ek]
 have QD:Gr.length<1000:=by
  rw [← L5]
  show 6<1000
  decide
 have zl1:=aat pt
 have zl2:=aat pk
 have hfew:=QY.few
 have VD:(fm title L).take++(fm title L).keep=rC 0 L++rC 1 L:=rfl
 rw [VD,aab] at hfew
 refine⟨_,rfl,p,c.rule,dx,Gr,_,rfl,SS,T.cl,T.n2,XT,_,rfl,p,c.rule,dx,Gr,_,rfl,SS,T.cl,T.n3,XU,lt,XS,_,_,rfl,rfl,ht,hk,sz (by omega),fun l6 Z4=>?_⟩
 have s6:=ak Z4 (.lst (ut++uk))
 refine⟨l6,_,rC 0 L++rC 1 L,rfl,ab,iV (L2.Paired.cj pt fun _ _ z=>z.keep (H0:=H0) (Kp.same s6)) (L2.Paired.cj pk fun _ _ z=>z.keep (H0:=H0) (Kp.same s6)),by rw [aab];omega,QY.heads,QY.Uu,fun v7 H7 s7 T7=>?_⟩
 have VE:=ag.trans s6 s7
 have XW:=VE _ _ SS
 refine⟨_,rfl,p,c.rule,dx,Gr,rfl,XW,T.cl,T.n7,QD,?_⟩
 have XX:Kp H0 H7 (upd H7 p (.ins c.rule dx (bG "names" v7 Gr))):=Kp.upd U9 XW (O0 _ ⟨_,rfl⟩).1 (O0 _ ⟨_,rfl⟩).2
 have FL:Kp H0 H6 (upd H7 p (.ins c.rule dx (bG "names" v7 Gr))):=(Kp.same VE).trans XX
 have Ot:∀n:Str,n≠"names"→(bG "names" v7 Gr).lookup n=Gr.lookup n:=fun n hn=>by rw [aT,if_neg hn]
 refine q _ (bG "names" v7 Gr) ab ⟨?_,⟨_,?_,v1.keep FL⟩,⟨_,?_,v2.keep FL⟩,⟨_,?_,v3.keep FL⟩,⟨_,?_,v4.keep FL⟩,⟨_,?_,v5.keep FL⟩,⟨v7,?_,?_⟩,?_⟩ (fun b o e hb=>?_)
 ·rw [Ot _ (by decide +kernel),lk,if_neg (by decide +kernel),if_neg (by decide +kernel),if_neg (by decide +kernel),if_neg (by decide +kernel),if_neg (by decide +kernel),if_pos rfl]
  rfl
 ·rw [Ot _ (by decide +kernel),XT,et]
 ·rw [Ot _ (by decide +kernel),XU,ek]
 ·rw [Ot _ (by decide +kernel),lk,if_neg (by decide +kernel),if_neg (by decide +kernel),if_pos rfl]
 ·rw [Ot _ (by decide +kernel),lk,if_neg (by decide +kernel),if_pos rfl]
 ·rw [Ot _ (by decide +kernel),lk,if_pos rfl]
 ·rw [aT,if_pos rfl]
 ·obtain⟨ln,en,nn,hn⟩:=T7
  have XY:H6 ln=none:=s6.free nn
  exact⟨ln,en,Jk ln XY,XX.new _ _ (Jk ln XY) hn⟩
 ·rw [Ot _ (by decide +kernel),lk,if_neg (by decide +kernel),if_neg (by decide +kernel),if_neg (by decide +kernel),if_neg (by decide +kernel),if_neg (by decide +kernel),if_neg (by decide +kernel)]
 ·rw [ar hb]
  exact VE _ _ (Z3 b o e hb)
theorem vy:ax ["self"] ["self"] (aq ja):=⟨rfl,rfl,rfl,by decide +kernel,rfl,by decide +kernel,by decide +kernel⟩
theorem vz (F:cY K "calls" "Rule.calls" ja f fd) (T:xX K c.rule) (aW:mg "len"=none):aY P w K mg base cS 1 f fd ["self"] (rZ K c):=by
 refine F.ok vy (fun vs H Q E h=>?_) (fun cx A outer s H vs Q E hr h=>?_)
 ·obtain⟨H0,v,r,rfl,_⟩:=h
  rfl
 obtain⟨H0,v,r,rfl,hR,q⟩:=h
 obtain⟨a,dx,fs,rfl,n,h1,RF⟩:=hR
 obtain⟨vt,ev,lt,us,rfl,nt,ht,pt⟩:=RF.taken
 have zl:=aat pt
 refine⟨_,(ah (ay (eG cP (aE av rfl aW aaH (aa (pe_fld (pv 0) rfl) af)) aj (aF _)))),?_⟩
 refine⟨_,rfl,a,c.rule,dx,fs,_,rfl,h1,T.cl,T.n2,ev,lt,_,rfl,.inl (aB.of ht),rfl,?_⟩
 have e:decide (V.int (us.length:Int)=V.int 0)=decide (r.take=[]):=by
  rw [decide_eq_decide]
  constructor
  ·intro z
   have z':(us.length:Int)=0:=by injection z
   exact List.eq_nil_of_length_eq_zero (by omega)
  ·intro z
   rw [z] at zl
   rw [← zl]
   rfl
 rw [e]
 exact q
theorem yQ:ax ["self","kinds","rules"] ["self","kinds","rules"] (aq kJ):=⟨rfl,rfl,rfl,by decide +kernel,rfl,by decide +kernel,by decide +kernel⟩
theorem yR (F:cY K "__init__" "Book.__init__" kJ f fd) (T:HB K c.book):aY P w K mg base cS 1 f fd ["self","kinds","rules"] (rY K c):=by
 refine F.ok yQ (fun vs H Q E h=>?_) (fun cx A outer s H vs Q E hr h=>?_)
 ·obtain⟨p,dx,l,r,rfl,_⟩:=h
  rfl
 obtain⟨p,dx,l,r,rfl,hp,q⟩:=h
 refine⟨_,(ae (ps_fld (pv 0) (pv 1) rfl)
 (ah (ps_fld (pv 0) (pv 2) rfl))),?_⟩
 refine⟨_,rfl,_,rfl,p,c.book,dx,[],rfl,hp,T.cl,T.n1,(by show 0<1000;decide),_,rfl,_,rfl,p,c.book,dx,_,rfl,ab,T.cl,T.n2,(by show 1<1000;decide),?_⟩
 refine q _ _ ab ?_ ?_ fun b o e hb=>?_
 ·rw [aT,if_neg (by decide +kernel),aT,if_pos rfl]
 ·rw [aT,if_pos rfl]
 ·rw [ar hb,ar hb]
  exact e
end
section
variable {P:aa4} {w:abu} {K:aaa} {mg:Str→Option aae} {base:Heap} {f:aaD} {fd:abo} {c:Cl}
theorem aK {α:Type} {l:List α} {i:Nat} {x:α} (h:l[i]?=some x):∃hi:i<l.length,l[i]=x:=aar.mp h
theorem fK:ax ["kinds","rules","line","found","reading","kind"] ["kinds","rules","line"] (aq kO):=⟨rfl,rfl,rfl,by decide +kernel,rfl,by decide +kernel,by decide +kernel⟩
theorem yS {u1:aae} (F:cY K "hear_line" "hear_line" kO f fd) (T:xX K c.rule) (ib:cV P w K mg base "line_pieces" 4 ["line"] Hl) (ly:cV P w K mg base "read_rule" 7 ["found"] (Hw K c)) (lz:cV P w K mg base "read_kind" 4 ["found"] (Hq K))
  (Dj:Kf P w K mg base "Rule" c.rule 3 ["self","title","parts"] (rW K c)) (lq:mg "RULE_WORD"=some u1) (lu:RelV (tx fV) u1):aY P w K mg base cS 8 f fd ["kinds","rules","line"] (HC K c):=by
 refine F.ok fK (fun vs H Q E h=>?_) (fun cx A outer s H vs Q E hr h=>?_)
 ·obtain⟨H0,lk,lr,ks,rs,kvs,nh,p,rfl,_⟩:=h
  rfl
 obtain⟨H0,lk,lr,ks,rs,kvs,nh,p,rfl,I,fk1,fr1,hz,hok,alt⟩:=h
 refine⟨_,(ae (aA (i:=3) fK.nd rfl (aaQ rfl) (ao ib (hr.mono (by decide)) rfl (aa (pv 2) af)))
 (ah (aV (au cP (aw az (pv 3) aj (fun _ _=>rfl)) (de rfl lq lu) (aF _))
 (ae (aA (i:=4) fK.nd rfl (aaQ rfl) (ao ly (hr.mono (by decide)) rfl (aa (pv 3) af)))
 (ae (aV (au pI (aw aN (pv 4) aj (fun _ _=>rfl)) (b6 [] rfl (by kernel_rfl) (aS (pv 1)) (fun _ _ _ _ _=>bp) (fun _ _ _ _ _=>(Ki (K:=K) rfl (pv 0) rfl))) (by with_unfolding_all rfl))
 aZ
 aC)
 (ah (a7 (ck aaC aaV aaY bg (pv 1) (aa (nV Dj (hr.mono (by decide)) rfl (aa (aw aN (pv 4) aj (fun _ _=>rfl)) (aa (aw aN (pv 4) aj (fun _ _=>rfl)) af))) af))))))
 (ae (aA (i:=5) fK.nd rfl (aaQ rfl) (ao lz (hr.mono (by decide)) rfl (aa (pv 3) af)))
 (ae (aV (au pI (aw aN (pv 5) aj (fun _ _=>rfl)) (b6 [] rfl (by kernel_rfl) (aS (pv 0)) (fun _ _ _ _ _=>bp) (fun _ _ _ _ _=>(aw (r:=rn K) aN (pv 0) aj (fun _ _=>rfl)))) (by with_unfolding_all rfl))
 aZ
 aC)
 (ah (a7 (ck aaC aaV aaY bg (pv 0) (aa (pv 5) af))))))))),?_⟩
 refine⟨_,rfl,p,rfl,hz,hok,fun v H1 s1 T1=>?_⟩
 obtain⟨l,rfl,Ft,hl⟩:=T1
 have Qv:(toks p).length≤20000:=aa5 (AF p) hz
 rcases alt with⟨k,VF,XZ,VG,q⟩|⟨title,L,VF,R,QY,VH,q⟩
 ·rw [VF] at hl
  have hl':H1 l=some (.lst [tx (if k.l=true then cb else bU),tx k.n,tx [48+k.c]]):=hl
  refine⟨_,rfl,l,_,0,_,rfl,rfl,aB.of hl',rfl,rfl,_,rfl,?_⟩
  have e0:decide (tx (if k.l=true then cb else bU)=tx fV)=false:=by cases k.l <;> decide +kernel
  rw [e0]
  refine bh ⟨_,rfl,l,k,rfl,hl,XZ.1,XZ.2,fun v H2 s2 hK=>?_⟩
  have K9:=ag.trans s1 s2
  obtain⟨t,rfl,ht⟩:=hK
  refine⟨_,rfl,t,_,0,_,rfl,rfl,ht,rfl,_,rfl,lk,rfl,⟨_,aB.of (K9 _ _ I.hk)⟩,fun D hD=>?_⟩
  have zl:=aat I.pk
  refine bZ (K:=K) (xs:=kvs) (ks.map (·.n)) (fun _ _ b y=>y=tx b) (fun _ _ _ _ _ _ h=>h) (fun _ _ _ _ _ _ h=>h) (fj (by have:=I.fk;omega)) hD (aB.of (K9 _ _ I.hk)) (by rw [Lm9];exact zl) (fun i x b H' R hx hb sm hQ=>?_) (fun H3 ys sm hL po=>?_)
  ·obtain⟨hi,ex⟩:=aK hx
   obtain⟨gH,eb⟩:=aK hb
   rw [Lm9] at gH
   rw [aa1] at eb
   obtain⟨tk,Rj,hk⟩:=paired_at I.pk i gH hi
   rw [ex] at Rj
   subst Rj
   refine⟨_,rfl,tk,_,0,_,rfl,rfl,hk.same (ag.trans K9 sm),rfl,hQ _ _ (ag.refl _) ?_⟩
   rw [eb]
  ·rw [dF po] at hL
   refine⟨D,_,rfl,.inl (aB.of hL),rfl,j7 _,_,rfl,?_⟩
   rw [oq,decide_eq_false VG]
   refine bh ?_
   have sA:=ag.trans K9 sm
   have ME:=sA _ _ I.hk
   refine⟨_,rfl,.inl ⟨rfl,_,aB.of ME⟩,_,rfl,lk,_,_,rfl,rfl,ME,fj (by have:=I.fk;omega),?_⟩
   obtain⟨u0,Z5⟩:=I.ok
   have kp:Kp H0 H3 (upd H3 lk (.lst (kvs++[V.ref t]))):=Kp.upd Z5 ME (by intro xs z;cases z) (by intro o u z;cases z)
   have FL:Kp H0 H (upd H3 lk (.lst (kvs++[V.ref t]))):=(Kp.same sA).trans kp
   refine q (.ref t) _ (fun b o hb e=>by rw [ar hb];exact sA _ _ e) ⟨ab,?_,?_,L2.Paired.cj I.pr fun _ _ z=>z.keep FL,I.ne,I.ok,I.or,fun b h=>I.tu b (FL.tu b h),?_,I.fr⟩
   ·exact(L2.Paired.cj I.pk fun _ _ z=>z.keep FL).snoc (Kind.keep kp ⟨t,rfl,ht.same sm⟩)
   ·rw [ar (abB I.ne)]
    exact sA _ _ I.hr
   ·rw [aab,abh]
    omega
 ·rw [VF] at hl Qv
  refine⟨_,rfl,l,_,0,tx fV,rfl,rfl,aB.of hl,bf (j:=0) rfl,rfl,_,rfl,?_⟩
  rw [decide_eq_true rfl]
  refine fE ⟨_,rfl,l,title,L,rfl,hl,Qv,R,fun t d kd H2 s2 ht hd0 hd pa=>?_⟩
  have K9:=ag.trans s1 s2
  refine⟨_,rfl,t,_,0,_,rfl,rfl,b8.of ht,rfl,_,rfl,lr,rfl,⟨_,aB.of (K9 _ _ I.hr)⟩,fun D hD=>?_⟩
  have zl:=aat I.pr
  refine bZ (K:=K) (xs:=nh) (rs.map (·.title)) (fun _ _ b y=>y=tx b) (fun _ _ _ _ _ _ h=>h) (fun _ _ _ _ _ _ h=>h) (fj (by have:=I.fr;omega)) hD (aB.of (K9 _ _ I.hr)) (by rw [Lm9];exact zl) (fun i x b H' R hx hb sm hQ=>?_) (fun H3 ys sm hL po=>?_)
  ·obtain⟨hi,ex⟩:=aK hx
   obtain⟨gH,eb⟩:=aK hb
   rw [Lm9] at gH
   rw [aa1] at eb
   obtain⟨a,dx,fs,ea,na,ha,RF⟩:=paired_at I.pr i gH hi
   rw [ex] at ea
   subst ea
   refine⟨_,rfl,a,c.rule,dx,fs,_,rfl,(ag.trans K9 sm) _ _ ha,T.cl,T.n1,RF.title,hQ _ _ (ag.refl _) ?_⟩
   rw [eb]
  ·rw [dF po] at hL
   refine⟨D,_,rfl,.inl (aB.of hL),rfl,j7 _,_,rfl,?_⟩
   rw [oq,decide_eq_false VH]
   refine bh ?_
   have sA:=ag.trans K9 sm
   have X0:=sA _ _ I.hr
   have X1:=sm _ _ ht
   have SO:=sm _ _ hd
   refine⟨_,rfl,.inl ⟨rfl,_,aB.of X0⟩,_,rfl,t,_,0,_,rfl,rfl,b8.of X1,rfl,_,rfl,t,_,1,_,rfl,rfl,b8.of X1,rfl,fun x dx hx QX U3=>?_⟩
   have X2:H x=none:=sA.free hx
   have SU:H0 x=none:=I.tu x X2
   have sM:ag H3 (upd (upd H3 dx (.own x)) x (.ins c.rule dx [])):=ag.trans (ak QX _) (ag.aJ (ag.refl _) (by rw [ar (abB U3)];exact hx) _)
   have Z6:cM K c (upd H0 x (.own x)) (upd (upd H3 dx (.own x)) x (.ins c.rule dx [])) L kd:=by
    refine L2.Paired.cj pa fun y kv z=>⟨z.1,?_⟩
    have z1:=cL.bM (H0:=H0) (fun b h=>I.tu b (s1.free h)) z.2
    exact cL.keep (Kp.same sM) (cL.apart hx (cL.keep (Kp.same sm) z1))
   obtain⟨ur,X3⟩:=I.or
   have X4:lr≠x:=aI X0 hx
   refine⟨upd H0 x (.own x),x,dx,d,title,L,kd,_,rfl,ab,ab,fun b h=>?_,sM _ _ SO,Z6,fun y hy=>(pR R.inc y hy).2,R.ok,QY,fun H4 fs h4 RF Z7=>⟨rfl,?_⟩⟩
   ·have VI:b≠x:=fun z=>by rw [z,ab] at h;cases h
    rw [ar VI]
    exact I.tu b (ag.free (ag.trans sA sM) h)
   have s4:ag H H4:=fun b o e=>Z7 b o ((ag.trans sA sM) b o e) (aI e X2)
   have VJ:=s4 _ _ I.hr
   refine⟨lr,_,_,rfl,rfl,VJ,fj (by have:=I.fr;omega),?_⟩
   have kp:Kp H0 H4 (upd H4 lr (.lst (nh++[V.ref x]))):=Kp.upd X3 VJ (by intro xs z;cases z) (by intro o u z;cases z)
   have Z8:Kp (upd H0 x (.own x)) H4 (upd H4 lr (.lst (nh++[V.ref x]))):=Kp.upd (by rw [ar X4];exact X3) VJ (by intro xs z;cases z) (by intro o u z;cases z)
   have FL:Kp H0 H (upd H4 lr (.lst (nh++[V.ref x]))):=(Kp.same s4).trans kp
   refine q (.ref x) _ (fun b o hb e=>by rw [ar hb];exact s4 _ _ e) ⟨?_,L2.Paired.cj I.pk fun _ _ z=>z.keep FL,ab,?_,I.ne,I.ok,I.or,fun b h=>I.tu b (FL.tu b h),I.fk,?_⟩
   ·rw [ar I.ne]
    exact s4 _ _ I.hk
   ·refine(L2.Paired.cj I.pr fun _ _ z=>z.keep FL).snoc ⟨x,dx,fs,rfl,SU,by rw [ar (abB X4)];exact h4,?_⟩
    refine og.bM (fun b h=>?_) (RF.keep Z8)
    have VI:b≠x:=fun z=>by rw [z,ab] at h;cases h
    rw [ar VI] at h
    exact h
   ·rw [aab,abh]
    omega
end
section
variable {P:aa4} {w:abu} {K:aaa} {mg:Str→Option aae} {base:Heap} {f:aaD} {fd:abo} {c:Cl}
theorem gq:ax ["kinds","facts","counts","fact"] ["kinds","facts"] (aq g7):=⟨rfl,rfl,rfl,by decide +kernel,rfl,by decide +kernel,by decide +kernel⟩
theorem uq (F:cY K "check_facts" "check_facts" g7 f fd) (Ou:mg "dict"=none) (aW:mg "len"=none):aY P w K mg base cS 1 f fd ["kinds","facts"] (AS K):=by
 refine F.ok gq (fun vs H Q E h=>?_) (fun cx A outer s H vs Q E hr h=>?_)
 ·obtain⟨lk,lf,kvs,HD,ks,fs,rfl,_⟩:=h
  rfl
 obtain⟨lk,lf,kvs,HD,ks,fs,rfl,hk,pk,nd,fk,hf,pf,hfit,q⟩:=h
 have hu:=An hr
 refine⟨_,(ae (aA (i:=2) gq.nd rfl (aaQ rfl) (fO (rq rfl) rfl Ou PyProof.Rows.Boot.«dict» (aa (b6 [] rfl (by kernel_rfl) (aS (pv 0)) (fun _ _ _ _ _=>bp) (fun _ _ _ _ _=>(cX (aa (aw (r:=rn K) aN (pv 0) aj (fun _ _=>rfl)) (aa (aw (r:=rn K) aN (pv 0) aj (fun _ _=>rfl)) af))))) af)))
 (ah (bI aaG rfl (aS (pv 1)) (aH (i:=3) gq.nd rfl (aaQ rfl))
 (ae (aV (B5 (pM hu (aw aN (pv 3) aj (fun _ _=>rfl)) (pv 2)))
 aZ
 aC)
 (ah (aV (au eU (aE av rfl aW aaH (aa (aw aN (pv 3) aj (fun _ _=>rfl)) af)) (Km hu (pv 2) (aw aN (pv 3) aj (fun _ _=>rfl)) (fun _ _=>rfl)) (aF _))
 aZ
 aC)))))),?_⟩
 have zl:=aat pk
 have zf:=aat pf
 refine⟨_,rfl,lk,rfl,⟨_,aB.of hk⟩,fun D hD=>?_⟩
 refine bZ (K:=K) (xs:=kvs) ks (fun _ H k y=>∃t,y=.ref t∧b8 K H t [tx k.n,.int k.c]) (fun _ _ _ _ _ k ⟨t,e,h⟩=>⟨t,e,b8.keep k h⟩) (fun _ _ _ _ _ _ h=>h) (fj (by omega)) hD (aB.of hk) zl (fun i x b H' R hx hb sm hQ=>?_) (fun H1 ys s1 hL po=>?_)
 ·obtain⟨hi,ex⟩:=aK hx
  obtain⟨gH,eb⟩:=aK hb
  obtain⟨t,et,ht⟩:=paired_at pk i gH hi
  rw [ex] at et
  rw [eb] at ht
  subst et
  have ht':=ht.same sm
  exact⟨_,rfl,t,_,0,_,rfl,rfl,ht',rfl,_,rfl,t,_,1,_,rfl,rfl,ht',rfl,(by show 2≤aao;decide),fun t2 ka=>hQ _ _ (ak ka _) ⟨t2,rfl,b8.of ab⟩⟩
 refine⟨D,ys,ks.map qL,rfl,hL,qM po,(by rw [Lm9];omega),fun d hd=>?_⟩
 rw [ow _ _ (qN nd),abE]
 have s2:ag H (upd H1 d (.dK (ks.map qL))):=ag.trans s1 (ak hd _)
 have VL:=ab (H:=H1) (a:=d) (o:=.dK (ks.map qL))
 generalize upd H1 d (.dK (ks.map qL))=H2 at s2 VL ⊢
 refine⟨_,rfl,lf,rfl,⟨_,aB.of (s2 _ _ hf)⟩,bN (K:=K) (a:=lf) (xs:=HD) (fun i σ H'=>H'=H2∧∃o,σ=[some (.ref lk),some (.ref lf),some (.ref d),o]) ⟨rfl,none,rfl⟩ (fun i σ H' _ ⟨e,_⟩=>by rw [e];exact aB.of (s2 _ _ hf)) ?_ ?_⟩
 ·rintro i y σ H' hi ⟨rfl,o,rfl⟩
  obtain⟨Jc,ey⟩:=aK hi
  have MF:i<fs.length:=by omega
  obtain⟨t,t2,et,h1,h2⟩:=paired_at pf i MF Jc
  rw [ey] at et
  subst et
  obtain⟨k,Z9,ekn,ekc⟩:=hfit fs[i] (aas MF)
  have Rk:bc (ks.map qL) (aa7 (S fs[i].k):Key)=some (.int k.c):=by
   rw [← ekn]
   exact wL (qN nd) (aah.mpr ⟨k,Z9,rfl⟩)
  have h1':=h1.same s2
  have h2':=h2.same s2
  refine⟨_,rfl,t,_,0,_,rfl,rfl,h1',rfl,_,rfl,d,_,rfl,iy.k (k:=(aa7 (S fs[i].k):Key)) VL,_,rfl,?_⟩
  rw [Rk]
  refine bh ?_
  refine⟨_,rfl,t,_,1,_,rfl,rfl,h1',rfl,t2,_,rfl,.inr h2',_,rfl,_,rfl,t,_,0,_,rfl,rfl,h1',rfl,d,_,rfl,(by have z:=iy.k (k:=(aa7 (S fs[i].k):Key)) VL;rw [Rk] at z;exact z),rfl,_,rfl,?_⟩
  rw [Lm9,ekc,decide_eq_true rfl]
  exact bh ⟨rfl,_,rfl⟩
 ·rintro σ H' ⟨rfl,o,rfl⟩
  exact q _ s2
theorem lB:ax ["lasts","taken","fact"] ["lasts","taken"] (aq g8):=⟨rfl,rfl,rfl,by decide +kernel,rfl,by decide +kernel,by decide +kernel⟩
theorem uu (F:cY K "check_taken" "check_taken" g8 f fd):aY P w K mg base cS 1 f fd ["lasts","taken"] (AU K):=by
 refine F.ok lB (fun vs H Q E h=>?_) (fun cx A outer s H vs Q E hr h=>?_)
 ·obtain⟨ll,lf,HD,ls,fs,rfl,_⟩:=h
  rfl
 obtain⟨ll,lf,HD,ls,fs,rfl,hl,hf,pf,M7,q⟩:=h
 refine⟨_,(ah (bI aaG rfl (aS (pv 1)) (aH (i:=2) lB.nd rfl (aaQ rfl))
 (ah (aV (au pI (aw aN (pv 2) aj (fun _ _=>rfl)) (pv 0) (by with_unfolding_all rfl))
 aZ
 aC)))),?_⟩
 have zf:=aat pf
 refine⟨_,rfl,lf,rfl,⟨_,aB.of hf⟩,bN (K:=K) (a:=lf) (xs:=HD) (fun i σ H'=>H'=H∧∃o,σ=[some (.ref ll),some (.ref lf),o]) ⟨rfl,none,rfl⟩ (fun i σ H' _ ⟨e,_⟩=>by rw [e];exact aB.of hf) ?_ ?_⟩
 ·rintro i y σ H' hi ⟨rfl,o,rfl⟩
  obtain⟨Jc,ey⟩:=aK hi
  have MF:i<fs.length:=by omega
  obtain⟨t,t2,et,h1,h2⟩:=paired_at pf i MF Jc
  rw [ey] at et
  subst et
  refine⟨_,rfl,t,_,0,_,rfl,rfl,h1,rfl,_,rfl,ll,_,rfl,.inl (aB.of hl),rfl,j7 _,_,rfl,?_⟩
  rw [oq,decide_eq_false (M7 _ (aas MF))]
  exact bh ⟨rfl,_,rfl⟩
 ·rintro σ H' ⟨rfl,o,rfl⟩
  exact q
theorem mC:ax ["lasts","rule","fact"] ["lasts","rule"] (aq jd):=⟨rfl,rfl,rfl,by decide +kernel,rfl,by decide +kernel,by decide +kernel⟩
theorem vA (F:cY K "check_call" "check_call" jd f fd) (T:xX K c.rule) (fR:Met P w K mg base c.rule "calls" 1 ["self"] (rZ K c)):aY P w K mg base cS 2 f fd ["lasts","rule"] (AV K c):=by
 refine F.ok mC (fun vs H Q E h=>?_) (fun cx A outer s H vs Q E hr h=>?_)
 ·obtain⟨H0,ll,v,ls,r,rfl,_⟩:=h
  rfl
 obtain⟨H0,ll,v,ls,r,rfl,hl,hR,IG,q⟩:=h
 refine⟨_,(ae (aV (dH (bV (wx (pv 1) fR (hr.mono (by decide)))))
 (ah JR)
 aC)
 (ah (bI aaG rfl (aS (pe_fld (pv 1) rfl)) (aH (i:=2) mC.nd rfl (aaQ rfl))
 (ah (aV (au dO (aw aN (pv 2) aj (fun _ _=>rfl)) (pv 0) (by with_unfolding_all rfl))
 aZ
 aC))))),?_⟩
 obtain⟨a,dx,fs,rfl,na,ha,RF⟩:=id hR
 refine⟨_,rfl,a,dx,fs,rfl,ha,RF.calls,H0,_,r,rfl,hR,_,rfl,?_⟩
 by_cases e:r.take=[]
 ·rw [decide_eq_true e]
  refine bh ?_
  obtain⟨vg,ev,lg,us,rfl,ng,hg,pg⟩:=RF.given
  have zg:=aat pg
  refine⟨_,rfl,a,c.rule,dx,fs,_,rfl,ha,T.cl,T.n5,ev,lg,rfl,⟨_,aB.of hg⟩,bN (K:=K) (a:=lg) (xs:=us) (fun i σ H'=>H'=H∧∃o,σ=[some (.ref ll),some (.ref a),o]) ⟨rfl,none,rfl⟩ (fun i σ H' _ ⟨e,_⟩=>by rw [e];exact aB.of hg) ?_ ?_⟩
  ·rintro i y σ H' hi ⟨rfl,o,rfl⟩
   obtain⟨Jc,ey⟩:=aK hi
   have MF:i<r.put.length:=by omega
   obtain⟨t,t2,et,h1,h2⟩:=paired_at pg i MF Jc
   rw [ey] at et
   subst et
   refine⟨_,rfl,t,_,0,_,rfl,rfl,h1,rfl,_,rfl,ll,_,rfl,.inl (aB.of hl),rfl,j7 _,_,rfl,?_⟩
   rw [oq,decide_eq_true (IG e _ (aas MF))]
   exact bh ⟨rfl,_,rfl⟩
  ·rintro σ H' ⟨rfl,o,rfl⟩
   exact q
 ·rw [decide_eq_false e]
  exact fE q
theorem dy:ax ["rule","said","look","fact","pair"] ["rule"] (aq je):=⟨rfl,rfl,rfl,by decide +kernel,rfl,by decide +kernel,by decide +kernel⟩
theorem vB (F:cY K "said_names" "said_names" je f fd) (T:xX K c.rule) (Ts:AL K c.same) (Tu:AL K c.unlike):aY P w K mg base cS 1 f fd ["rule"] (HE K c):=by
 refine F.ok dy (fun vs H Q E h=>?_) (fun cx A outer s H vs Q E hr h=>?_)
 ·obtain⟨H0,v,r,rfl,_⟩:=h
  rfl
 obtain⟨H0,v,r,rfl,hR,hz,q⟩:=h
 refine⟨_,(ae (aA (i:=1) dy.nd rfl (aaQ rfl) (bF af))
 (ae (bI aaG rfl (aS (pe_fld (pv 0) rfl)) (aH (i:=2) dy.nd rfl (aaQ rfl))
 (ah (a7 (ck aaC abN acs wq (pv 1) (aa (bF (aa (pe_fld (pv 2) rfl) (aa (pe_fld (pv 2) rfl) af))) af)))))
 (ae (bI aaG rfl (aS (pe_fld (pv 0) rfl)) (aH (i:=3) dy.nd rfl (aaQ rfl))
 (ah (a7 (ck aaC abN acs sV (pv 1) (aa (aw aN (pv 3) aj (fun _ _=>rfl)) af)))))
 (ae (bI aaG rfl (aS (pe_fld (pv 0) rfl)) (aH (i:=4) dy.nd rfl (aaQ rfl))
 (ah (a7 (ck aaC abN acs sV (pv 1) (aa (pv 4) af)))))
 (ah (ay (pv 1))))))),?_⟩
 obtain⟨a,dx,fs,rfl,na,ha,RF⟩:=id hR
 obtain⟨vl,el,ll,ul,rfl,nl,hl,pl⟩:=RF.dP
 obtain⟨vg,eg,lg,ug,rfl,ng,hg,pg⟩:=RF.given
 obtain⟨vt,et,lt,ut,rfl,nt,ht,pt⟩:=RF.told
 have hz':=hz
 unfold dB at hz'
 rw [aab,aab] at hz'
 refine⟨(by show 0≤aao;decide),fun ls Rm=>?_⟩
 have s0:=ak Rm (.lst [])
 have zl:=aat pl
 have zg:=aat pg
 have zt:=aat pt
 have Jl:∀b,BX K (c.look b)∧cK K (c.look b) "left"∧cK K (c.look b) "right":=fun b=>by
  cases b with
  | true=>exact⟨Ts.cl,Ts.nL,Ts.nR⟩
  | false=>exact⟨Tu.cl,Tu.nL,Tu.nR⟩
 refine⟨_,rfl,a,c.rule,dx,fs,_,rfl,s0 _ _ ha,T.cl,T.n4,el,ll,rfl,⟨_,aB.of (s0 _ _ hl)⟩,bN (K:=K) (a:=ll) (xs:=ul) (fun i σ H'=>ag H H'∧H' ls=some (.lst (((r.dP.take i).flatMap fun k=>[k.l,k.r]).map tx))∧((r.dP.take i).flatMap fun k=>[k.l,k.r]).length≤(r.dP.flatMap fun k=>[k.l,k.r]).length∧∃o2 o3 o4,σ=[some (.ref a),some (.ref ls),o2,o3,o4])
  ⟨s0,ab,aa3 _,none,none,none,rfl⟩ (fun i σ H' _ ⟨sm,_⟩=>aB.of (sm _ _ hl)) ?_ ?_⟩
 ·rintro i y σ H' hi ⟨sm,hs,hlen,o2,o3,o4,rfl⟩
  obtain⟨qt,ey⟩:=aK hi
  have xg:i<r.dP.length:=by omega
  obtain⟨b,X5,fb,eb,nb,hb,f1,f2,f3,f4⟩:=paired_at pl i xg qt
  rw [ey] at eb
  subst eb
  obtain⟨C1,C2,C3⟩:=Jl r.dP[i].same
  have hb':=sm _ _ hb
  refine⟨_,rfl,.inl ⟨rfl,_,aB.of hs⟩,_,rfl,b,_,X5,fb,_,rfl,hb',C1,C2,f1,_,rfl,b,_,X5,fb,_,rfl,hb',C1,C3,f2,(by show 2≤aao;decide),fun l2 vb=>?_⟩
  have n2:ls≠l2:=aI hs vb
  have sL:upd H' l2 (.lst [tx r.dP[i].l,tx r.dP[i].r]) ls=some (.lst (((r.dP.take i).flatMap fun k=>[k.l,k.r]).map tx)):=by rw [ar n2];exact hs
  have Oh:H l2=none:=sm.free vb
  have e1:(r.dP.take (i+1)).flatMap (fun k=>[k.l,k.r])=(r.dP.take i).flatMap (fun k=>[k.l,k.r])++[r.dP[i].l,r.dP[i].r]:=by
   rw [aaA xg,abG]
   simp
  have e2:=pT (fun k:Lk=>[k.l,k.r]) r.dP (i+1)
  refine⟨ls,l2,_,_,rfl,rfl,sL,ab,(by rw [Lm9];exact sz (by simp only [aad,aaO];omega)),ag.aJ (ag.aJ sm Oh _) Rm _,?_,e2,_,_,_,rfl⟩
  rw [ab,e1,aai]
  rfl
 rintro σ H1 ⟨s1,SE,-,o2,o3,o4,rfl⟩
 have zul:ul.length=r.dP.length:=zl.symm
 rw [zul,aba] at SE
 generalize hA:(r.dP.flatMap fun k=>[k.l,k.r])=LA at SE hz'
 refine⟨_,rfl,a,c.rule,dx,fs,_,rfl,s1 _ _ ha,T.cl,T.n5,eg,lg,rfl,⟨_,aB.of (s1 _ _ hg)⟩,bN (K:=K) (a:=lg) (xs:=ug) (fun i σ H'=>ag H H'∧H' ls=some (.lst ((LA++((r.put.take i).flatMap (·.as))).map tx))∧∃o2 o3 o4,σ=[some (.ref a),some (.ref ls),o2,o3,o4])
  ⟨s1,by rw [acg,List.flatMap_nil,aa8];exact SE,_,_,_,rfl⟩ (fun i σ H' _ ⟨sm,_⟩=>aB.of (sm _ _ hg)) ?_ ?_⟩
 ·rintro i y σ H' hi ⟨sm,hs,o2,o3,o4,rfl⟩
  obtain⟨qt,ey⟩:=aK hi
  have xg:i<r.put.length:=by omega
  obtain⟨t,t2,e3,h1,h2⟩:=paired_at pg i xg qt
  rw [ey] at e3
  subst e3
  have e1:(r.put.take (i+1)).flatMap (·.as)=(r.put.take i).flatMap (·.as)++r.put[i].as:=by
   rw [aaA xg,abG]
   simp
  have e2:=pT (fun f:Fc=>f.as) r.put (i+1)
  rw [e1,aab] at e2
  refine⟨_,rfl,.inl ⟨rfl,_,aB.of hs⟩,_,rfl,t,_,1,_,rfl,rfl,h1.same sm,rfl,ls,t2,_,_,rfl,rfl,hs,h2.same sm,(by rw [Lm9,Lm9,aab];exact sz (by omega)),ag.aJ sm Rm _,?_,_,_,_,rfl⟩
  rw [ab,e1,← aa2,aai (l₁:=LA++_)]
 rintro σ H2 ⟨s2,sL,o2,o3,o4,rfl⟩
 have zug:ug.length=r.put.length:=zg.symm
 rw [zug,aba] at sL
 generalize hB:r.put.flatMap (·.as)=LB at sL hz'
 refine⟨_,rfl,a,c.rule,dx,fs,_,rfl,s2 _ _ ha,T.cl,T.n6,et,lt,rfl,⟨_,aB.of (s2 _ _ ht)⟩,bN (K:=K) (a:=lt) (xs:=ut) (fun i σ H'=>ag H H'∧H' ls=some (.lst ((LA++(LB++((r.tell.take i).flatMap fun p=>[p.1,p.2]))).map tx))∧∃o2 o3 o4,σ=[some (.ref a),some (.ref ls),o2,o3,o4])
  ⟨s2,by rw [acg,List.flatMap_nil,aa8];exact sL,_,_,_,rfl⟩ (fun i σ H' _ ⟨sm,_⟩=>aB.of (sm _ _ ht)) ?_ ?_⟩
 ·rintro i y σ H' hi ⟨sm,hs,o2,o3,o4,rfl⟩
  obtain⟨qt,ey⟩:=aK hi
  have xg:i<r.tell.length:=by omega
  obtain⟨t,e3,h1⟩:=paired_at pt i xg qt
  rw [ey] at e3
  subst e3
  have e1:(r.tell.take (i+1)).flatMap (fun p=>[p.1,p.2])=(r.tell.take i).flatMap (fun p=>[p.1,p.2])++[r.tell[i].1,r.tell[i].2]:=by
   rw [aaA xg,abG]
   simp
  have e2:=pT (fun p:Cs × Cs=>[p.1,p.2]) r.tell (i+1)
  rw [e1,aab] at e2
  refine⟨_,rfl,.inl ⟨rfl,_,aB.of hs⟩,_,rfl,ls,t,_,_,rfl,rfl,hs,h1.same sm,(by rw [Lm9,aab,aab];exact sz (by simp only [aad,aaO] at e2 ⊢;omega)),ag.aJ sm Rm _,?_,_,_,_,rfl⟩
  rw [ab,e1,← aa2,← aa2,← aa2,aai (l₁:=LA++LB++_)]
  rfl
 rintro σ H3 ⟨s3,X6,o2,o3,o4,rfl⟩
 have zut:ut.length=r.tell.length:=zt.symm
 rw [zut,aba] at X6
 refine⟨_,rfl,q _ _ s3 ⟨ls,rfl,Rm,?_⟩⟩
 unfold dB
 rw [hA,hB]
 exact X6
theorem lC:ax ["rule","name"] ["rule"] (aq hV):=⟨rfl,rfl,rfl,by decide +kernel,rfl,by decide +kernel,by decide +kernel⟩
theorem uw (F:cY K "check_names" "check_names" hV f fd) (T:xX K c.rule) (jo:cV P w K mg base "said_names" 1 ["rule"] (HE K c)) (ef:cV P w K mg base "is_great" 1 ["name"] xV):aY P w K mg base cS 2 f fd ["rule"] (AW K c):=by
 refine F.ok lC (fun vs H Q E h=>?_) (fun cx A outer s H vs Q E hr h=>?_)
 ·obtain⟨H0,v,r,rfl,_⟩:=h
  rfl
 obtain⟨H0,v,r,rfl,hR,hz,K3,UP,q⟩:=h
 refine⟨_,(ah (bI aaG rfl (aS (ao jo (hr.mono (by decide)) rfl (aa (pv 0) af))) (aH (i:=1) lC.nd rfl (aaQ rfl))
 (ah (aV (PW.pt (gP (bV (ao ef (hr.mono (by decide)) rfl (aa (pv 1) af))) (fD (au dO (pv 1) (pe_fld (pv 0) rfl) (by with_unfolding_all rfl)))))
 aZ
 aC)))),?_⟩
 refine⟨_,rfl,H0,v,r,rfl,hR,hz,fun u H1 s1 T1=>?_⟩
 obtain⟨l,rfl,Ft,hl⟩:=T1
 obtain⟨a,dx,fs,rfl,na,ha,RF⟩:=id hR
 obtain⟨vn,en,ln,rfl,nn,hn⟩:=RF.names
 refine⟨l,rfl,⟨_,aB.of hl⟩,bN (K:=K) (a:=l) (xs:=(dB r).map tx) (fun i σ H'=>H'=H1∧∃o,σ=[some (.ref a),o]) ⟨rfl,none,rfl⟩ (fun i σ H' _ ⟨e,_⟩=>by rw [e];exact aB.of hl) ?_ ?_⟩
 ·rintro i y σ H' hi ⟨rfl,o,rfl⟩
  obtain⟨qt,ey⟩:=aK hi
  rw [Lm9] at qt
  rw [aa1] at ey
  subst ey
  have hmem:(dB r)[i]∈dB r:=aas qt
  have hlen:=iA (K3 _ hmem)
  refine⟨_,rfl,(dB r)[i],rfl,(fun z=>by rw [z] at hlen;simp at hlen),by omega,_,rfl,?_⟩
  refine df (fun g=>?_) (fun g=>bh ⟨rfl,_,rfl⟩)
  refine⟨_,rfl,_,rfl,a,c.rule,dx,fs,_,rfl,s1 _ _ ha,T.cl,T.n7,en,ln,_,rfl,.inl (aB.of (s1 _ _ hn)),rfl,j7 _,_,rfl,?_⟩
  rw [oq,decide_eq_true (UP _ hmem g)]
  exact bh ⟨rfl,_,rfl⟩
 ·rintro σ H' ⟨rfl,o,rfl⟩
  exact q _ s1
end
section
variable {P:aa4} {w:abu} {K:aaa} {mg:Str→Option aae} {base:Heap} {f:aaD} {fd:abo} {c:Cl}
theorem ic:ax ["kinds","rules","lasts","rule"] ["kinds","rules"] (aq jc):=⟨rfl,rfl,rfl,by decide +kernel,rfl,by decide +kernel,by decide +kernel⟩
theorem vC (F:cY K "whole_book" "whole_book" jc f fd) (T:xX K c.rule) (ie:cV P w K mg base "check_facts" 1 ["kinds","facts"] (AS K)) (ig:cV P w K mg base "check_taken" 1 ["lasts","taken"] (AU K)) (jq:cV P w K mg base "check_call" 2 ["lasts","rule"] (AV K c))
  (ij:cV P w K mg base "check_names" 2 ["rule"] (AW K c)) (Dk:Kf P w K mg base "Book" c.book 1 ["self","kinds","rules"] (rY K c)):aY P w K mg base cS 3 f fd ["kinds","rules"] (D8 K c):=by
 refine F.ok ic (fun vs H Q E h=>?_) (fun cx A outer s H vs Q E hr h=>?_)
 ·obtain⟨H0,lk,lr,ks,rs,kvs,nh,rfl,_⟩:=h
  rfl
 obtain⟨H0,lk,lr,ks,rs,kvs,nh,rfl,I,nd,good,q⟩:=h
 refine⟨_,(ae (fF (i:=2) [] ic.nd rfl (aaQ rfl) rfl (by kernel_rfl) (aS (pv 0)) (fun _ _ _ _ _=>(lZ (bV (aw (r:=rn K) aN (pv 0) aj (fun _ _=>rfl))))) (fun _ _ _ _ _=>(aw (r:=rn K) aN (pv 0) aj (fun _ _=>rfl))))
 (ae (bI aaG rfl (aS (pv 1)) (aH (i:=3) ic.nd rfl (aaQ rfl))
 (ae (a7 (ao ie (hr.mono (by decide)) rfl (aa (pv 0) (aa (aL jW (aL jW (pe_fld (pv 3) rfl) (pe_fld (pv 3) rfl)) (pe_fld (pv 3) rfl)) af))))
 (ae (a7 (ao ig (hr.mono (by decide)) rfl (aa (pv 2) (aa (pe_fld (pv 3) rfl) af))))
 (ae (a7 (ao jq (hr.mono (by decide)) rfl (aa (pv 2) (aa (pv 3) af))))
 (ah (a7 (ao ij (hr.mono (by decide)) rfl (aa (pv 3) af))))))))
 (ah (ay (nV Dk (hr.mono (by decide)) rfl (aa (pv 0) (aa (pv 1) af))))))),?_⟩
 have zk:=aat I.pk
 have zr:=aat I.pr
 refine⟨_,rfl,lk,rfl,⟨_,aB.of I.hk⟩,fun D hD=>?_⟩
 refine l9 (K:=K) (xs:=kvs) ks (·.l) (·.n) (fun _ _ b y=>y=tx b) (fun _ _ _ _ _ _ h=>h) (fun _ _ _ _ _ _ h=>h) (fj (by have:=I.fk;omega)) hD (aB.of I.hk) zk (fun i x b H' R hx hb sm hQ=>?_) (fun i x b H' R hx hb hk sm hQ=>?_) (fun H1 ys s1 hL po=>?_)
 ·obtain⟨hi,ex⟩:=aK hx
  obtain⟨gH,eb⟩:=aK hb
  obtain⟨t,et,ht⟩:=paired_at I.pk i gH hi
  rw [ex] at et
  rw [eb] at ht
  subst et
  exact⟨_,rfl,t,_,2,_,rfl,rfl,ht.same sm,rfl,_,rfl,hQ _ (ag.refl _)⟩
 ·obtain⟨hi,ex⟩:=aK hx
  obtain⟨gH,eb⟩:=aK hb
  obtain⟨t,et,ht⟩:=paired_at I.pk i gH hi
  rw [ex] at et
  rw [eb] at ht
  subst et
  exact⟨_,rfl,t,_,0,_,rfl,rfl,ht.same sm,rfl,hQ _ _ (ag.refl _) rfl⟩
 rw [dF po] at hL
 refine⟨_,rfl,lr,rfl,⟨_,aB.of (s1 _ _ I.hr)⟩,bN (K:=K) (a:=lr) (xs:=nh) (fun i σ H'=>ag H1 H'∧∃o,σ=[some (.ref lk),some (.ref lr),some (.ref D),o]) ⟨ag.refl _,none,rfl⟩ (fun i σ H' _ ⟨sm,_⟩=>aB.of (sm _ _ (s1 _ _ I.hr))) ?_ ?_⟩
 ·rintro i y σ H' hi ⟨sm,o,rfl⟩
  obtain⟨qt,ey⟩:=aK hi
  have Lb:i<rs.length:=by omega
  have sA:=ag.trans s1 sm
  have VM:=paired_at I.pr i Lb qt
  rw [ey] at VM
  have g:=good _ (aas Lb)
  generalize rs[i]=r at VM g
  have hR:=VM.keep (Kp.same sA)
  obtain⟨a,dx,fs,rfl,na,ha,RF⟩:=id hR
  obtain⟨vt,ev,lt,ut,rfl,nt,ht,pt⟩:=RF.taken
  obtain⟨vk,ek,lp,uk,rfl,nk,hk,pk⟩:=RF.kept
  obtain⟨vg,eg,lg,ug,rfl,ng,hg,pg⟩:=RF.given
  have zt:=aat pt
  have zk2:=aat pk
  have zg:=aat pg
  have hfew:=g.Uw
  rw [aab,aab] at hfew
  refine⟨_,rfl,_,rfl,a,c.rule,dx,fs,_,rfl,ha,T.cl,T.n2,ev,_,rfl,a,c.rule,dx,fs,_,rfl,ha,T.cl,T.n3,ek,lt,lp,_,_,rfl,rfl,ht,hk,sz (by omega),fun p1 EE=>?_⟩
  have VN:=ak EE (.lst (ut++uk))
  refine⟨_,rfl,a,c.rule,dx,fs,_,rfl,VN _ _ ha,T.cl,T.n5,eg,p1,lg,_,_,rfl,rfl,ab,VN _ _ hg,sz (by rw [aab];omega),fun p2 Au=>?_⟩
  have MG:=ag.trans VN (ak Au (.lst ((ut++uk)++ug)))
  have sB:=ag.trans sA MG
  refine⟨lk,p2,kvs,_,ks,r.take++r.keep++r.put,rfl,sB _ _ I.hk,L2.Paired.cj I.pk fun _ _ z=>z.keep (H0:=H0) (Kp.same sB),nd,I.fk,ab,?_,g.fits,fun H2 s2=>?_⟩
  ·exact iV (iV (L2.Paired.cj pt fun _ _ z=>z.keep (H0:=H0) (Kp.same MG)) (L2.Paired.cj pk fun _ _ z=>z.keep (H0:=H0) (Kp.same MG))) (L2.Paired.cj pg fun _ _ z=>z.keep (H0:=H0) (Kp.same MG))
  have sC:=ag.trans MG s2
  have X7:=hR.keep (Kp.same sC)
  have jO:=sC _ _ (sm _ _ hL)
  refine⟨_,rfl,_,rfl,a,c.rule,dx,fs,_,rfl,sC _ _ ha,T.cl,T.n2,ev,D,lt,_,_,r.take,rfl,jO,sC _ _ ht,L2.Paired.cj pt fun _ _ z=>z.keep (H0:=H0) (Kp.same sC),g.takes,?_⟩
  refine⟨_,rfl,_,rfl,H0,D,_,_,r,rfl,jO,X7,g.calls,?_⟩
  exact⟨_,rfl,H0,_,r,rfl,X7,g.few,g.names,g.Uv,fun H3 s3=>⟨ag.trans sm (ag.trans sC s3),_,rfl⟩⟩
 ·rintro σ H' ⟨sm,o,rfl⟩
  have sA:=ag.trans s1 sm
  refine⟨_,rfl,_,rfl,fun x dx hx QX U3=>?_⟩
  refine⟨x,dx,_,_,rfl,ab,fun H2 fs h1 h2 h3 kp=>⟨rfl,q x dx fs H2 (fun b o e=>kp b o ?_ (aI (sA _ _ e) hx)) (sA.free hx) h1 h2 h3⟩⟩
  rw [ar (aI (sA _ _ e) hx),ar (aI (sA _ _ e) QX)]
  exact sA _ _ e
theorem fL:ax ["text","kinds","rules","line"] ["text"] (aq kL):=⟨rfl,rfl,rfl,by decide +kernel,rfl,by decide +kernel,by decide +kernel⟩
theorem yT (F:cY K "read_book" "read_book" kL f fd) (jr:cV P w K mg base "told_lines" 2 ["text"] D0) (lG:cV P w K mg base "hear_line" 8 ["kinds","rules","line"] (HC K c)) (js:cV P w K mg base "whole_book" 3 ["kinds","rules"] (D8 K c)) :
  aY P w K mg base cS 9 f fd ["text"] (HF K c):=by
 refine F.ok fL (fun vs H Q E h=>?_) (fun cx A outer s H vs Q E hr h=>?_)
 ·obtain⟨ls,its,rfl,_⟩:=h
  rfl
 obtain⟨ls,its,rfl,h0,hN,hx,B,q⟩:=h
 refine⟨_,(ae (aA (i:=1) fL.nd rfl (aaQ rfl) (bF af))
 (ae (aA (i:=2) fL.nd rfl (aaQ rfl) (bF af))
 (ae (bI aaG rfl (aS (ao jr (hr.mono (by decide)) rfl (aa (pv 0) af))) (aH (i:=3) fL.nd rfl (aaQ rfl))
 (ah (a7 (ao lG (hr.mono (by decide)) rfl (aa (pv 1) (aa (pv 2) (aa (pv 3) af)))))))
 (ah (ay (ao js (hr.mono (by decide)) rfl (aa (pv 1) (aa (pv 2) af)))))))),?_⟩
 refine⟨(by show 0≤aao;decide),fun lk SV=>⟨(by show 0≤aao;decide),fun lr mq=>?_⟩⟩
 have X8:lk≠lr:=fun z=>by rw [← z,ab] at mq;cases mq
 have Rn:H lr=none:=(ak SV _).free mq
 have s0:ag H (upd (upd H lk (.lst [])) lr (.lst [])):=ag.trans (ak SV _) (ak mq _)
 have Ov:upd (upd H lk (.lst [])) lr (.lst []) lk=some (.lst []):=by rw [ar X8];exact ab
 have O1:upd (upd H lk (.lst [])) lr (.lst []) lr=some (.lst []):=ab
 generalize upd (upd H lk (.lst [])) lr (.lst [])=B0 at s0 Ov O1
 refine⟨_,rfl,ls,rfl,h0,hN,hx,fun v H1 s1 T1=>?_⟩
 obtain⟨l,rfl,Ft,hl⟩:=T1
 rw [B.lines] at hl
 have nlk:l≠lk:=fun z=>by rw [z,Ov] at Ft;cases Ft
 have nlr:l≠lr:=fun z=>by rw [z,O1] at Ft;cases Ft
 refine⟨l,rfl,⟨_,aB.of hl⟩,bN (K:=K) (a:=l) (xs:=(its.map (·.1)).map tx) (fun i σ H'=>∃(kvs nh:List V) (o:Option V),σ=[some (tx (cE ls)),some (.ref lk),some (.ref lr),o]∧(∀b o,b≠lk→b≠lr→H1 b=some o→H' b=some o) ∧
   nc K c B0 H' lk lr (jL ((its.take i).map (·.2))) (jM ((its.take i).map (·.2))) kvs nh)
  ⟨[],[],none,rfl,fun _ _ _ _ h=>h,⟨s1 _ _ Ov,.nil,s1 _ _ O1,.nil,X8,⟨_,Ov⟩,⟨_,O1⟩,fun b h=>s1.free h,aa3 _,aa3 _⟩⟩ (fun i σ H' _ ⟨_,_,_,_,k1,_⟩=>aB.of (k1 _ _ nlk nlr hl)) ?_ ?_⟩
 ·rintro i y σ H' hi ⟨kvs,nh,o,rfl,k1,I⟩
  obtain⟨qt,ey⟩:=aK hi
  rw [Lm9,Lm9] at qt
  rw [aa1,aa1] at ey
  subst ey
  have hm:=aas qt
  have JL:=B.ok _ hm
  have UZ:=tL ((its.take i).map (·.2))
  have SM:=tM ((its.take i).map (·.2))
  rw [Lm9,aaF] at UZ SM
  have hfew:=B.few
  have Ro:its[i].1.length≤20000:=by
   have z:its[i].1∈ls:=by
    have z2:its[i].1∈ls.filter told:=by rw [B.lines];exact aah.mpr ⟨_,hm,rfl⟩
    exact(abt.mp z2).1
   have:=pQ ls _ z
   omega
  have Jm:(its.take (i+1)).map (·.2)=(its.take i).map (·.2)++[its[i].2]:=by
   rw [aaA qt,aai]
   rfl
  have VO:its.map (·.2)=(its.take i).map (·.2)++([its[i].2]++(its.drop (i+1)).map (·.2)):=by
   rw [adE,← aaZ (f:=(·.2)) (a:=its[i]) (l:=its.drop (i+1)),← aai,← acY qt,abz]
  refine⟨_,rfl,_,rfl,_,rfl,B0,lk,lr,_,_,kvs,nh,its[i].1,rfl,I,by omega,by omega,Ro,JL.1,?_⟩
  have Rp:=B.nk
  have Rq:=B.nr
  rw [VO] at Rp Rq
  rw [j8,j8] at Rp
  rw [j9,j9] at Rq
  rcases JL with⟨-,N3,SW⟩
  generalize its[i].2=it at N3 SW Jm Rp Rq
  cases it with
  | kind k =>
   refine .inl ⟨k,N3,SW,?_,fun v H2 k2 I2=>⟨kvs++[v],nh,_,rfl,fun b o b1 b2 e=>k2 b o b1 (k1 b o b1 b2 e),?_⟩⟩
   ·intro IG
    rw [aai,aai,abJ] at Rp
    exact Rp.2.2 k.n IG k.n (abT _ (by simp [jL])) rfl
   ·rw [Jm,j8,j9]
    show nc K c B0 H2 lk lr (_++[k]) (_++[]) _ _
    rw [aa8]
    exact I2
  | rule t L =>
   refine .inr ⟨t,L,N3,SW.1,SW.2,?_,fun v H2 k2 I2=>⟨kvs,nh++[v],_,rfl,fun b o b1 b2 e=>k2 b o b2 (k1 b o b1 b2 e),?_⟩⟩
   ·intro IG
    rw [aai,aai,abJ] at Rq
    exact Rq.2.2 t IG t (abT _ (by simp [jM,fm])) rfl
   ·rw [Jm,j8,j9]
    show nc K c B0 H2 lk lr (_++[]) (_++[fm t L]) _ _
    rw [aa8]
    exact I2
 ·rintro σ H' ⟨kvs,nh,o,rfl,k1,I⟩
  rw [Lm9,Lm9,aba] at I
  refine⟨_,rfl,_,rfl,B0,lk,lr,_,_,kvs,nh,rfl,I,B.nk,B.good,fun x dx fs H2 s2 hx h1 h2 h3=>?_⟩
  have sH:ag H H2:=fun b o e=>s2 b o (k1 b o (aI e SV) (aI e Rn) (s1 _ _ (s0 _ _ e)))
  have Rr:∀b,B0 b=none→H b=none:=fun b h=>s0.free h
  refine q _ _ sH ⟨x,dx,fs,rfl,Rr x (I.tu x hx),h1,⟨_,h2,lk,kvs,rfl,SV,s2 _ _ I.hk,L2.Paired.cj I.pk fun _ _ z=>z.keep (H0:=H) (Kp.same s2)⟩,⟨_,h3,lr,nh,rfl,Rn,s2 _ _ I.hr,L2.Paired.cj I.pr fun _ _ z=>gG.bM Rr (z.keep (Kp.same s2))⟩⟩
end
section
variable {P:aa4} {w:abu} {K:aaa} {mg:Str→Option aae} {base:Heap} {f:aaD} {fd:abo} {c:Cl}
theorem qv:ax ["book"] ["book"] (aq ft):=⟨rfl,rfl,rfl,by decide +kernel,rfl,by decide +kernel,by decide +kernel⟩
theorem qw (F:cY K "passing_kinds" "passing_kinds" ft f fd) (T:HB K c.book):aY P w K mg base cS 1 f fd ["book"] (CP K c):=by
 refine F.ok qv (fun vs H Q E h=>?_) (fun cx A outer s H vs Q E hr h=>?_)
 ·obtain⟨v,H0,ks,rs,rfl,_⟩:=h
  rfl
 obtain⟨v,H0,ks,rs,rfl,⟨x,dx,fs,rfl,SU,hx,⟨v1,e1,lk,kvs,rfl,Ov,hk,pk⟩,_⟩,hfew,q⟩:=h
 refine⟨_,(ah (ay (b6 [] rfl (by kernel_rfl) (aS (pe_fld (pv 0) rfl)) (fun _ _ _ _ _=>(lZ (dH (bV (aw (r:=rn K) aN (pv 0) aj (fun _ _=>rfl)))))) (fun _ _ _ _ _=>(aw (r:=rn K) aN (pv 0) aj (fun _ _=>rfl)))))),?_⟩
 have zk:=aat pk
 refine⟨_,rfl,x,c.book,dx,fs,_,rfl,hx,T.cl,T.n1,e1,lk,rfl,⟨_,aB.of hk⟩,fun D hD=>?_⟩
 refine l9 (K:=K) (xs:=kvs) ks (fun k=>!k.l) (·.n) (fun _ _ b y=>y=tx b) (fun _ _ _ _ _ _ h=>h) (fun _ _ _ _ _ _ h=>h) (fj (by omega)) hD (aB.of hk) zk (fun i x b H' R hx hb sm hQ=>?_) (fun i x b H' R hx hb hk sm hQ=>?_) (fun H1 ys s1 hL po=>?_)
 ·obtain⟨hi,ex⟩:=aK hx
  obtain⟨gH,eb⟩:=aK hb
  obtain⟨t,et,ht⟩:=paired_at pk i gH hi
  rw [ex] at et
  rw [eb] at ht
  subst et
  exact⟨_,rfl,t,_,2,_,rfl,rfl,ht.same sm,rfl,_,rfl,hQ _ (ag.refl _)⟩
 ·obtain⟨hi,ex⟩:=aK hx
  obtain⟨gH,eb⟩:=aK hb
  obtain⟨t,et,ht⟩:=paired_at pk i gH hi
  rw [ex] at et
  rw [eb] at ht
  subst et
  exact⟨_,rfl,t,_,0,_,rfl,rfl,ht.same sm,rfl,hQ _ _ (ag.refl _) rfl⟩
 rw [dF po] at hL
 exact q _ _ s1 ⟨D,rfl,hD,hL⟩
theorem qx:ax ["rule","kind","given","taken"] ["rule","kind"] (aq ub):=⟨rfl,rfl,rfl,by decide +kernel,rfl,by decide +kernel,by decide +kernel⟩
theorem FN (F:cY K "effect" "effect" ub f fd) (T:xX K c.rule) (aW:mg "len"=none):aY P w K mg base cS 1 f fd ["rule","kind"] (Mi K c):=by
 refine F.ok qx (fun vs H Q E h=>?_) (fun cx A outer s H vs Q E hr h=>?_)
 ·obtain⟨v,H0,r,z,rfl,_⟩:=h
  rfl
 obtain⟨v,H0,r,z,rfl,⟨a,dx,fs,rfl,na,ha,RF⟩,hf1,K5,q⟩:=h
 obtain⟨vt,ev,lt,ut,rfl,nt,ht,pt⟩:=RF.taken
 obtain⟨vg,eg,lg,ug,rfl,ng,hg,pg⟩:=RF.given
 refine⟨_,(ae (fF (i:=2) [1] qx.nd rfl (aaQ rfl) rfl (by kernel_rfl) (aS (pe_fld (pv 0) rfl)) (fun _ _ _ _ _=>(lZ (au cP (aw (r:=rn K) aN (pv 0) aj (fun _ _=>rfl)) (pv 1) (aF _)))) (fun _ _ _ _ _=>(pv 0)))
 (ae (fF (i:=3) [1] qx.nd rfl (aaQ rfl) rfl (by kernel_rfl) (aS (pe_fld (pv 0) rfl)) (fun _ _ _ _ _=>(lZ (au cP (aw (r:=rn K) aN (pv 0) aj (fun _ _=>rfl)) (pv 1) (aF _)))) (fun _ _ _ _ _=>(pv 0)))
 (ah (ay (aL gQ (aE av rfl aW aaH (aa (pv 2) af)) (aE av rfl aW aaH (aa (pv 3) af))))))),?_⟩
 have zt:=aat pt
 have zg:=aat pg
 have one:∀(fc:Fc) (u:V) (H1:Hp),Fact K H1 fc u→∃t t2,u=.ref t∧b8 K H1 t [tx fc.k,.ref t2]:=fun fc u H1 ⟨t,t2,e,h1,_⟩=>⟨t,t2,e,h1⟩
 refine⟨_,rfl,a,c.rule,dx,fs,_,rfl,ha,T.cl,T.n5,eg,lg,rfl,⟨_,aB.of hg⟩,fun D hD=>?_⟩
 refine l9 (K:=K) (xs:=ug) r.put (fun f=>decide (f.k=z)) id (fun _ _ _ _=>True) (fun _ _ _ _ _ _ h=>h) (fun _ _ _ _ _ _ h=>h) (fj (by omega)) hD (aB.of hg) zg (fun i x b H' R hx hb sm hQ=>?_) (fun i x b H' R hx hb hk sm hQ=>?_) (fun H1 ys s1 hL po=>?_)
 ·obtain⟨hi,ex⟩:=aK hx
  obtain⟨gH,eb⟩:=aK hb
  have hF:=paired_at pg i gH hi
  rw [ex,eb] at hF
  obtain⟨t,t2,et,h1⟩:=one _ _ _ hF
  subst et
  refine⟨_,rfl,t,_,0,_,rfl,rfl,h1.same sm,rfl,_,rfl,rfl,_,rfl,?_⟩
  have z:=hQ _ (ag.refl _)
  rw [← xU] at z
  exact z
 ·exact⟨_,rfl,hQ _ _ (ag.refl _) trivial⟩
 have zy:=aat po
 refine⟨_,rfl,a,c.rule,dx,fs,_,rfl,s1 _ _ ha,T.cl,T.n2,ev,lt,rfl,⟨_,aB.of (s1 _ _ ht)⟩,fun D2 jO=>?_⟩
 refine l9 (K:=K) (xs:=ut) r.take (fun f=>decide (f.k=z)) id (fun _ _ _ _=>True) (fun _ _ _ _ _ _ h=>h) (fun _ _ _ _ _ _ h=>h) (fj (by omega)) jO (aB.of (s1 _ _ ht)) zt (fun i x b H' R hx hb sm hQ=>?_) (fun i x b H' R hx hb hk sm hQ=>?_) (fun H2 ys2 s2 QO po2=>?_)
 ·obtain⟨hi,ex⟩:=aK hx
  obtain⟨gH,eb⟩:=aK hb
  have hF:=paired_at pt i gH hi
  rw [ex,eb] at hF
  obtain⟨t,t2,et,h1⟩:=one _ _ _ hF
  subst et
  refine⟨_,rfl,t,_,0,_,rfl,rfl,h1.same (ag.trans s1 sm),rfl,_,rfl,rfl,_,rfl,?_⟩
  have z:=hQ _ (ag.refl _)
  rw [← xU] at z
  exact z
 ·exact⟨_,rfl,hQ _ _ (ag.refl _) trivial⟩
 have X9:=aat po2
 refine⟨_,rfl,D,_,rfl,.inl (aB.of (s2 _ _ hL)),_,rfl,D2,_,rfl,.inl (aB.of QO),_,_,rfl,rfl,?_⟩
 have e:=q _ (ag.trans s1 s2)
 unfold Ie at e
 rw [Lm9] at zy X9
 rw [zy,X9] at e
 exact e
theorem ux:ax ["book","kinds"] ["book"] (aq qe):=⟨rfl,rfl,rfl,by decide +kernel,rfl,by decide +kernel,by decide +kernel⟩
theorem Dl (F:cY K "effects" "effects" qe f fd) (T:HB K c.book) (cg:cV P w K mg base "passing_kinds" 1 ["book"] (CP K c)) (uy:cV P w K mg base "effect" 1 ["rule","kind"] (Mi K c)):aY P w K mg base cS 4 f fd ["book"] (Ig K c):=by
 refine F.ok ux (fun vs H Q E h=>?_) (fun cx A outer s H vs Q E hr h=>?_)
 ·obtain⟨v,H0,ks,rs,rfl,_⟩:=h
  rfl
 obtain⟨v,H0,ks,rs,rfl,B,hfew,u4,hff,q⟩:=h
 refine⟨_,(ae (aA (i:=1) ux.nd rfl (ad0 rfl) (ao cg (hr.mono (by decide)) rfl (aa (pv 0) af)))
 (ah (ay (HS [1] rfl (by kernel_rfl) (aS (pe_fld (pv 0) rfl)) (fun _ _ _ _ _=>bp) (fun _ _ _ _ _=>(b6 [0] rfl (by kernel_rfl) (HU (K:=K) rfl (pv 1)) (fun _ _ _ _ _=>bp) (fun _ _ _ _ _=>(ao uy (hr.mono (by decide)) rfl (aa (pv 1) (aa (pv 0) af)))))))))),?_⟩
 refine⟨_,rfl,v,H0,ks,rs,rfl,B,hfew,fun u H1 s1 T1=>?_⟩
 obtain⟨lp,rfl,aaj,SX⟩:=T1
 obtain⟨x,dx,fs,rfl,SU,hx,⟨v1,e1,lk,kvs,rfl,Ov,hk,pk⟩,⟨v2,e2,lr,nh,rfl,O1,Rt,pr⟩⟩:=B.keep (Kp.same s1)
 have zr:=aat pr
 have zp:(Bk.passing ks).length≤10000:=by
  unfold Bk.passing
  rw [Lm9]
  exact aa5 (abp _ _) hfew
 refine⟨_,rfl,x,c.book,dx,fs,_,rfl,hx,T.cl,T.n2,e2,lr,rfl,⟨_,aB.of Rt⟩,fun D hD=>?_⟩
 refine bZ (K:=K) (xs:=nh) (f6 ks rs) (fun H0 H b y=>rE H0 H b y) (fun _ _ _ _ _ k h=>h.keep k) (fun _ _ _ _ _ d h=>h.bM d) (fj (by omega)) hD (aB.of Rt) (by unfold f6;rw [Lm9];exact zr) (fun i y b H' R hy hb sm hQ=>?_) (fun H2 ys s2 hL po=>?_)
 ·obtain⟨hi,ey⟩:=aK hy
  obtain⟨gH,eb⟩:=aK hb
  unfold f6 at gH eb
  rw [Lm9] at gH
  rw [aa1] at eb
  have hR:=(paired_at pr i gH hi).keep (Kp.same sm)
  rw [ey] at hR
  have K5:=hff _ (aas gH)
  generalize rs[i]=r at eb hR K5
  refine⟨_,rfl,lp,rfl,⟨_,aB.of (sm _ _ SX)⟩,fun D2 jO=>?_⟩
  refine bZ (K:=K) (xs:=(Bk.passing ks).map tx) ((Bk.passing ks).map (Ie r)) (fun _ _ b y=>y=V.int b) (fun _ _ _ _ _ _ h=>h) (fun _ _ _ _ _ _ h=>h) (fj (by rw [Lm9];omega)) jO (aB.of (sm _ _ SX)) (by rw [Lm9,Lm9]) (fun j z b2 H3 R2 hz vh nF hQ2=>?_) (fun H3 zs s3 K4 po3=>?_)
  ·obtain⟨hj,ez⟩:=aK hz
   obtain⟨hjb,Ya⟩:=aK vh
   rw [Lm9] at hj
   rw [aa1] at ez Ya
   subst ez
   exact⟨_,rfl,_,rfl,y,H0,r,_,rfl,hR.keep (Kp.same nF),K5.1,K5.2,fun H4 s4=>hQ2 _ _ s4 (by rw [← Ya])⟩
  ·rw [paired_ints po3] at K4
   refine hQ _ _ s3 ⟨D2,rfl,jO,?_⟩
   rw [K4,← eb]
 ·exact q _ _ (ag.trans s1 s2) ⟨D,ys,rfl,s1.free hD,hL,L2.Paired.cj po fun _ _ z=>z.bM (fun b h=>s1.free h)⟩
end
section
variable {P:aa4} {w:abu} {K:aaa} {mg:Str→Option aae} {base:Heap} {f:aaD} {fd:abo} {c:Cl}
theorem yU:ax ["_law_script","_law_k"] ["_law_script","_law_k"] (aq kU):=⟨rfl,rfl,rfl,by decide +kernel,rfl,by decide +kernel,by decide +kernel⟩
theorem yV (F:cY K "_law_cell" "_law_cell" kU f fd) (aW:mg "len"=none):aY P w K mg base cS 1 f fd ["_law_script","_law_k"] (HG K):=by
 refine F.ok yU (fun vs H Q E h=>?_) (fun cx A outer s H vs Q E hr h=>?_)
 ·obtain⟨a,ns,k,rfl,_⟩:=h
  rfl
 obtain⟨a,ns,k,rfl,hS,h0,q⟩:=h
 refine⟨_,(ae (aV (au sJ (pv 1) (aE av rfl aW aaH (aa (pv 0) af)) (aF _))
 (ah (ay (aw az (pv 0) (pv 1) (fun _ _=>rfl))))
 aC)
 (ah (ay aj))),?_⟩
 refine⟨_,rfl,_,rfl,a,_,rfl,.inl hS,_,_,rfl,rfl,_,rfl,?_⟩
 refine df (fun c=>?_) (fun c=>?_)
 ·have c':k<(((ns.map V.int).length:Nat):Int):=of_decide_eq_true c
  have hk:k.toNat<ns.length:=by rw [Lm9] at c';omega
  have e:qG (ns.map V.int) k=some (.int ns[k.toNat]):=by
   have z:=bf (xs:=ns.map V.int) (j:=k.toNat) (v:=.int ns[k.toNat]) (by simp [hk])
   rw [show((k.toNat:Nat):Int)=k by omega] at z
   exact z
  exact⟨_,rfl,_,rfl,a,_,k,_,rfl,rfl,hS,e,q _⟩
 ·exact q 0
theorem c7:ax ["_law_cell_here","_law_sizes","_law_number","_law_found","_law_size"] ["_law_cell_here","_law_sizes"] (aq hW):=⟨rfl,rfl,rfl,by decide +kernel,rfl,by decide +kernel,by decide +kernel⟩
theorem uz (F:cY K "_law_digits" "_law_digits" hW f fd):aY P w K mg base cS 1 f fd ["_law_cell_here","_law_sizes"] (Mh K):=by
 refine F.ok c7 (fun vs H Q E h=>?_) (fun cx A outer s H vs Q E hr h=>?_)
 ·obtain⟨cc,l,ms,rfl,_⟩:=h
  rfl
 obtain⟨cc,l,ms,rfl,hS,hfew,Yb,q⟩:=h
 refine⟨_,(ae (aA (i:=2) c7.nd rfl (aaQ rfl) (aL gS (aL GF (aL gS (pv 0) aj) aj) aj))
 (ae (aA (i:=3) c7.nd rfl (aaQ rfl) (bF af))
 (ae (bI aaG rfl (aS (pv 1)) (aH (i:=4) c7.nd rfl (aaQ rfl))
 (ae (a7 (ck aaC aaV aaY bg (pv 3) (aa (aL gS (pv 2) (pv 4)) af)))
 (ah (aA (i:=2) c7.nd rfl (aaQ rfl) (aL rR (pv 2) (pv 4))))))
 (ah (ay (pv 3)))))),?_⟩
 refine⟨_,rfl,_,_,rfl,rfl,(by show(0:Int)<2147483647;decide),_,_,rfl,rfl,.inr ⟨by decide,by decide⟩,_,_,rfl,rfl,(by show(0:Int)<2147483647;decide),?_⟩
 refine⟨(by show 0≤aao;decide),fun p hp=>?_⟩
 refine⟨_,rfl,l,rfl,⟨_,(ak hp _).seq hS⟩,bN (K:=K) (a:=l) (xs:=ms.map V.int) (fun i σ H'=>∃(n:Int) (o:Option V) (ds:List Int),σ=[some (.int cc),some (.ref l),some (.int n),some (.ref p),o]∧ag H H'∧H' p=some (.lst (ds.map V.int))∧Paired (fun m d:Int=>0≤d∧d<m) (ms.take i) ds)
  ⟨_,none,[],rfl,ak hp _,ab,by rw [acg];exact .nil⟩ (fun i σ H' _ ⟨_,_,_,_,sm,_⟩=>sm.seq hS) ?_ ?_⟩
 ·rintro i y σ H' hi ⟨n,o,ds,rfl,sm,hd,pr⟩
  rw [aaq] at hi
  cases hq:ms[i]? with
  | none=>rw [hq] at hi;cases hi
  | some m =>
   rw [hq] at hi
   obtain rfl:V.int m=y:=aaR hi
   obtain⟨nN,em⟩:=aar.mp hq
   have hm:=Yb m (abr hq)
   have zl:=aat pr
   rw [aaF] at zl
   have md:=mid (a:=n) (b:=m) hm.1
   refine⟨_,rfl,.inl ⟨rfl,_,aB.of hd⟩,_,rfl,_,rfl,_,_,rfl,rfl,hm.1,p,_,_,rfl,rfl,hd,fj (by rw [Lm9];omega),?_⟩
   refine⟨_,rfl,_,rfl,_,_,rfl,rfl,⟨by omega,by omega⟩,?_⟩
   refine⟨_,_,ds++[n % m],rfl,ag.aJ sm hp _,?_,?_⟩
   ·rw [ab,aai]
    rfl
   ·rw [aaA nN,em]
    exact pr.snoc md
 ·rintro σ H' ⟨n,o,ds,rfl,sm,hd,pr⟩
  rw [Lm9,aba] at pr
  exact⟨_,rfl,q p ds H' sm hp hd pr⟩
theorem jt:ax ["_law_style","_law_k","_law_size","_law_at"] ["_law_style","_law_k"] (aq kW):=⟨rfl,rfl,rfl,by decide +kernel,rfl,by decide +kernel,by decide +kernel⟩
theorem yW (F:cY K "_law_name" "_law_name" kW f fd):aY P w K mg base cS 1 f fd ["_law_style","_law_k"] Ib:=by
 refine F.ok jt (fun vs H Q E h=>?_) (fun cx A outer s H vs Q E hr h=>?_)
 ·obtain⟨st,k,rfl,_⟩:=h
  rfl
 obtain⟨st,k,rfl,h0,hk,q⟩:=h
 refine⟨_,(ae (aA (i:=2) jt.nd rfl (aaQ rfl) (aL d6 aj (aL gS (pv 0) aj)))
 (ae (aA (i:=3) jt.nd rfl (aaQ rfl) (aL gS (aL rR (pv 0) aj) (pv 2)))
 (ah (ay (aL bW (aL bW (aL Eb aM (pv 3)) (aw pH aM (pv 1) (fun _ _=>rfl))) (aL Eb aM (aL gQ (aL gQ (pv 2) aj) (pv 3)))))))),?_⟩
 have m1:=mid (a:=st) (b:=5) (by decide)
 have m2:=mid (a:=st / 5) (b:=1+st % 5) (by omega)
 refine⟨_,rfl,_,_,rfl,rfl,(by show(0:Int)<5;decide),_,_,rfl,rfl,?_⟩
 refine⟨_,rfl,_,_,rfl,rfl,⟨by decide,by decide⟩,_,rfl,_,_,rfl,rfl,(by show(0:Int)<1+st % 5;omega),?_⟩
 have em:(aac "m")=⟨#[109]⟩:=by decide +kernel
 have e8:(aac "abcdefgh")=S c6:=by decide +kernel
 rw [em,e8]
 refine⟨_,rfl,109,_,rfl,rfl,by omega,by omega,?_⟩
 have OV:qG (S c6).cps.toList (k:Int)=some (c6.getD k 0):=by
  rw [cG]
  exact bf (getD_get hk)
 refine⟨_,rfl,S c6,_,_,rfl,rfl,(by rw [a6];exact sz (by decide)),OV,?_⟩
 have z1:=Int.toNat_of_nonneg m2.1
 have z2:(st / 5 % (1+st % 5)).toNat+(1+st % 5 - 1 - st / 5 % (1+st % 5)).toNat≤4:=by omega
 have qq:=q _ _ rfl rfl z2
 refine⟨_,_,rfl,rfl,?_,?_⟩
 ·rw [a6]
  show _+1≤_
  exact sz (by rw [aaU];omega)
 refine⟨_,rfl,_,_,rfl,rfl,_,rfl,_,_,rfl,rfl,109,_,rfl,rfl,by omega,by omega,?_⟩
 rw [show(⟨#[c6.getD k 0]⟩:Str)=S [c6.getD k 0] from rfl,fW]
 refine⟨_,_,rfl,rfl,?_,?_⟩
 ·rw [a6,a6,aab,aaU,aaU]
  exact sz (by simp only [aad,aaO];omega)
 rw [fW,aa2]
 exact qq
theorem mD:ax ["_law_row","_law_many","_law_number"] ["_law_row","_law_many"] (aq jh):=⟨rfl,rfl,rfl,by decide +kernel,rfl,by decide +kernel,by decide +kernel⟩
theorem vD (F:cY K "_law_whole" "_law_whole" jh f fd) (kib:acd K (.type "int") (.type "bool")=some false) (dW:mg "isinstance"=none) (nK:mg "list"=none) (I0:mg "int"=none) (Ow:mg "bool"=none) (aW:mg "len"=none):aY P w K mg base cS 1 f fd ["_law_row","_law_many"] (A6 K):=by
 refine F.ok mD (fun vs H Q E h=>?_) (fun cx A outer s H vs Q E hr h=>?_)
 ·obtain⟨a,row,n,rfl,_⟩:=h
  rfl
 obtain⟨a,row,n,rfl,ha,hn,q⟩:=h
 refine⟨_,(ae (aV (PW.pt (jS (dH (bV (aE jX rfl dW abX (aa (pv 0) (aa (rP rfl nK PyProof.Rows.Boot.«list» (v:=.ty "list") rfl) af))))) (iM (au eU (aE av rfl aW aaH (aa (pv 0) af)) (pv 1) (aF _)))))
 (ah (ay d5))
 aC)
 (ae (bI aaG rfl (aS (pv 0)) (aH (i:=2) mD.nd rfl (aaQ rfl))
 (ah (aV (PW.pt (jS (dH (bV (aE jX rfl dW abX (aa (pv 2) (aa (rP rfl I0 PyProof.Rows.Boot.«int» (v:=.ty "int") rfl) af))))) (iM (bV (aE jX rfl dW abX (aa (pv 2) (aa (rP rfl Ow PyProof.Rows.boot_bool (v:=.ty "bool") rfl) af)))))))
 (ah (ay d5))
 aC)))
 (ah (ay d5)))),?_⟩
 refine⟨_,rfl,_,"list",_,true,rfl,.lst ha,tN,_,rfl,bh ?_⟩
 refine⟨_,rfl,a,_,rfl,.inl (aB.of ha),_,rfl,rfl,_,rfl,?_⟩
 have z:(!decide (V.int (((row.map V.int).length:Nat):Int)=V.int n))=false:=by
  rw [Lm9,hn]
  simp
 rw [z]
 refine bh ⟨_,rfl,a,rfl,⟨_,aB.of ha⟩,bN (K:=K) (a:=a) (xs:=row.map V.int) (fun i σ H'=>H'=H∧∃o,σ=[some (.ref a),some (.int n),o]) ⟨rfl,none,rfl⟩ (fun i σ H' _ ⟨e,_⟩=>by rw [e];exact aB.of ha) ?_ ?_⟩
 ·rintro i y σ H' hi ⟨rfl,o,rfl⟩
  rw [aaq] at hi
  cases hq:row[i]? with
  | none=>rw [hq] at hi;cases hi
  | some m =>
   rw [hq] at hi
   obtain rfl:V.int m=y:=aaR hi
   refine⟨_,rfl,_,"int",_,true,rfl,.int _,tN,_,rfl,bh ?_⟩
   exact⟨_,rfl,_,"bool",_,false,rfl,.int _,kib,_,rfl,bh ⟨rfl,_,rfl⟩⟩
 ·rintro σ H' ⟨rfl,o,rfl⟩
  exact q
end
section
variable {P:aa4} {w:abu} {K:aaa} {mg:Str→Option aae} {base:Heap} {f:aaD} {fd:abo} {c:Cl}
theorem bH:ax ["_law_script","_law_d","_law_many","_law_rules","_law_at","_law_cell_here","_law_side","_law_row","_law_names"] ["_law_script"] (aq jf):=⟨rfl,rfl,rfl,by decide +kernel,rfl,by decide +kernel,by decide +kernel⟩
theorem vE (F:cY K "_law_sheet" "_law_sheet" jf f fd) (lH:cV P w K mg base "_law_cell" 1 ["_law_script","_law_k"] (HG K)) (eR:cV P w K mg base "_law_digits" 1 ["_law_cell_here","_law_sizes"] (Mh K)) (lJ:cV P w K mg base "_law_name" 1 ["_law_style","_law_k"] Ib)
  (b7:mg "range"=none) (aW:mg "len"=none) (nK:mg "list"=none) (Dm:mg "reversed"=none) (ba:mg "enumerate"=none):aY P w K mg base cS 4 f fd ["_law_script"] (Eh K):=by
 refine F.ok bH (fun vs H Q E h=>?_) (fun cx A outer s H vs Q E hr h=>?_)
 ·obtain⟨a,ns,rfl,_⟩:=h
  rfl
 obtain⟨s0,ns,rfl,hS,hfew,q⟩:=h
 refine⟨_,(ae (aA (i:=1) bH.nd rfl (ad0 rfl) (ao eR (hr.mono (by decide)) rfl (aa (ao lH (hr.mono (by decide)) rfl (aa (pv 0) (aa aj af))) (aa (bF (aa aj (aa aj (aa aj (aa aj (aa aj af)))))) af))))
 (ae (aA (i:=2) bH.nd rfl (aaQ rfl) (aL rR (aL d6 (aw az (pv 1) aj (fun _ _=>rfl)) aj) aj))
 (ae (fF (i:=3) [] bH.nd rfl (aaQ rfl) rfl (by kernel_rfl) (cH rfl b7 (aa (aL rR (aL d6 (aw az (pv 1) aj (fun _ _=>rfl)) aj) aj) af)) (fun _ _ _ _ _=>bp) (fun _ _ _ _ _=>(cX (aa (bF af) (aa (bF af) af)))))
 (ae (bI aaG rfl (fH (dN iO (pv 0) (dM aj) (dM aj)) rfl ba abi) (fS rfl (a8 (aH (i:=4) bH.nd rfl (aaQ rfl)) (a8 (aH (i:=5) bH.nd rfl (aaQ rfl)) dI)))
 (ae (aA (i:=6) bH.nd rfl (aaQ rfl) (ao eR (hr.mono (by decide)) rfl (aa (pv 5) (aa (bF (aa aj (aa aj (aa aj af)))) af))))
 (ah (aV (PW.pt (gP (au jU (pv 2) aj (aF _)) (gP (au jU (aE av rfl aW aaH (aa (pv 3) af)) aj (aF _)) (fD (au jU (aw az (pv 6) aj (fun _ _=>rfl)) aj (aF _))))))
 (ae (aA (i:=7) bH.nd rfl (aaQ rfl) (aw aN (aw az (pv 3) (aL gS (pv 4) (aE av rfl aW aaH (aa (pv 3) af))) (fun _ _=>rfl)) (aw az (pv 6) aj (fun _ _=>rfl)) (fun _ _=>rfl)))
 (ah (a7 (ck aaC abN acs wq (pv 7) (aa (dN iO (bF (aa (aL gS (aw az (pv 6) aj (fun _ _=>rfl)) (pv 2)) af)) iN (dM (aL gQ aj (aE av rfl aW aaH (aa (pv 7) af))))) af)))))
 aC))))
 (ae (fF (i:=8) [1] bH.nd rfl (aaQ rfl) rfl (by kernel_rfl) (cH rfl b7 (aa (pv 2) af)) (fun _ _ _ _ _=>bp) (fun _ _ _ _ _=>(ao lJ (hr.mono (by decide)) rfl (aa (aw (r:=Ck K) az (pv 1) aj (fun _ _=>rfl)) (aa (pv 0) af)))))
 (ae (aV (au cP (aw az (pv 1) aj (fun _ _=>rfl)) aj (aF _))
 (ah (aA (i:=8) bH.nd rfl (aaQ rfl) (CG rfl (pv 8) rfl nK PyProof.Rows.Boot.«list» rfl Dm PyProof.Rows.boot_reversed)))
 aC)
 (ah (ay (cX (aa (pv 8) (aa (aL gS (aw az (pv 1) aj (fun _ _=>rfl)) (aL d6 (pv 2) aj)) (aa (pv 3) af)))))))))))),?_⟩
 refine⟨_,rfl,s0,ns,0,rfl,hS,by decide,fun v0=>⟨by show 5≤aao;decide,fun p5 Yc=>⟨v0,p5,[25,11,6,16,2],rfl,aB.of ab,by decide,by decide,fun d ds H1 s1 hd0 hd pr=>?_⟩⟩⟩
 have s1:=ag.trans (ak Yc _) s1
 have hd0:H d=none:=(ak Yc _).free hd0
 obtain⟨d0,d1,d2,d3,d4,rfl,b0,b1,b2,b3,b4⟩:=KP pr
 refine⟨_,rfl,d,_,1,_,rfl,rfl,aB.of hd,rfl,_,_,rfl,rfl,_,_,rfl,rfl,⟨by decide,by decide⟩,?_⟩
 have mM:0≤(d1+1) / 2∧(d1+1) / 2≤5:=by omega
 refine⟨_,rfl,d,_,3,_,rfl,rfl,aB.of hd,rfl,_,_,rfl,rfl,_,_,rfl,rfl,⟨by decide,by decide⟩,(d3+1) / 2,rfl,by omega,by omega,fun D hD=>?_⟩
 have mN:((d3+1) / 2).toNat≤8:=by omega
 generalize hN:((d3+1) / 2).toNat=N at mN
 refine dz (lo:=0) (n:=N) (fj (by omega)) (fun i ys H'=>ag H1 H'∧H' D=some (.lst ys)∧∃T A R,ys=(aal i).map (fun k=>V.ref (T k))∧Cells H' i T A R∧(∀j u,R j u=[])∧∀j u,j<i→u<2→A j u≠D∧H1 (A j u)=none)
  ⟨ak hD _,ab,fun _=>0,fun _ _=>0,fun _ _=>[],rfl,⟨fun i hi=>absurd hi (by omega),fun i u hi=>absurd hi (by omega),fun i u j v hi=>absurd hi (by omega)⟩,fun _ _=>rfl,fun i u hi=>absurd hi (by omega)⟩ (fun i ys H' p=>⟨p.2.1,?_⟩) (fun i ys H' hi p=>?_) (fun ys H2 p=>?_)
 ·obtain⟨T,A,R,rfl,_⟩:=p.2.2
  rw [Lm9,aax]
  exact aaf _
 ·obtain⟨sm,mn,T,A,R,rfl,C,hR,ap⟩:=p
  refine⟨(by show 0≤aao;decide),fun a ha=>⟨(by show 0≤aao;decide),fun b hb=>⟨(by show 2≤aao;decide),fun t ht=>?_⟩⟩⟩
  have sa:=ak ha (.lst [])
  have sb:=ak hb (.lst [])
  have st:=ak ht (.tup [.ref a,.ref b])
  have sab:=ag.trans sa sb
  have sA:=ag.trans sab st
  have hb0:H' b=none:=sa.free hb
  have aD:a≠D:=fun z=>by rw [z,mn] at ha;cases ha
  have bD:b≠D:=fun z=>by rw [z,mn] at hb0;cases hb0
  have hab:a≠b:=fun z=>by rw [← z,ab] at hb;cases hb
  have C2:=C.snoc sA ha hb0 hab (st _ _ (sb _ _ ab)) (st _ _ ab) ab
  refine⟨sA _ _ mn,ag.aJ (ag.trans sm sA) hD _,ab,_,_,_,Fn.symm,C2.other (sA _ _ mn) (fun j u hj hu=>?_) _,fun j u=>?_,fun j u hj hu=>?_⟩
  ·by_cases e:j=i
   ·simp only [if_pos e]
    by_cases e2:u=0
    ·rw [if_pos e2];exact aD
    ·rw [if_neg e2];exact bD
   ·simp only [if_neg e]
    exact(ap j u (by omega) hu).1
  ·by_cases e:j=i
   ·simp only [if_pos e]
   ·simp only [if_neg e]
    exact hR j u
  ·by_cases e:j=i
   ·simp only [if_pos e]
    by_cases e2:u=0
    ·rw [if_pos e2];exact⟨aD,sm.free ha⟩
    ·rw [if_neg e2];exact⟨bD,sm.free hb0⟩
   ·simp only [if_neg e]
    exact ap j u (by omega) hu
 obtain⟨sm,mn,T,A,R,rfl,C,hR,ap⟩:=p
 have s2:=ag.trans s1 sm
 refine⟨_,rfl,_,rfl,_,rfl,s0,_,rfl,s2.seq hS,fun p hp=>?_⟩
 obtain⟨ms,ems,Yb⟩:=HH ns (some 1) (some 63)
 rw [ems]
 refine⟨p,rfl,⟨_,aB.of ab⟩,?_⟩
 have sp:=ak hp (.lst (ms.map V.int))
 have apd:∀j u,j<N→u<2→A j u≠d∧A j u≠D∧A j u≠p∧H (A j u)=none:=fun j u hj hu=>by
  have z:=ap j u hj hu
  refine⟨fun e=>?_,z.1,fun e=>?_,s1.free z.2⟩
  ·rw [e,hd] at z
   cases z.2
  ·have y:=C.lst j u hj hu
   rw [e,hp] at y
   cases y
 refine fY (K:=K) (a:=p) (xs:=ms.map V.int) (fun i σ H'=>∃o4 o5 o6 o7 R,σ=[some (.ref s0),some (.ref d),some (.int ((d1+1) / 2)),some (.ref D),o4,o5,o6,o7,none]∧ag H H'∧H' d=some (.lst ([d0,d1,d2,d3,d4].map V.int))∧H' D=some (.lst ((aal N).map fun k=>V.ref (T k)))∧H' p=some (.lst (ms.map V.int)) ∧
   Cells H' N T A R∧∀j u,(R j u).length≤4∧∀n∈R j u,n<((d1+1) / 2).toNat)
  ⟨none,none,none,none,R,rfl,ag.trans s2 sp,sp _ _ (sm _ _ hd),sp _ _ mn,ab,C.same sp,fun j u=>by rw [hR];exact⟨by decide,fun _ z=>nomatch z⟩⟩ (fun i σ H' _ ⟨_,_,_,_,_,_,_,_,_,h,_⟩=>aB.of h) ?_ ?_
 ·rintro i y σ H' t hi ⟨o4,o5,o6,o7,R,rfl,sH,hd,mn,O2,C,hR⟩ ht
  rw [aaq] at hi
  cases hq:ms[i]? with
  | none=>rw [hq] at hi;cases hi
  | some m =>
   rw [hq] at hi
   obtain rfl:V.int m=y:=aaR hi
   have st:=ak ht (.tup [.int (i:Int),.int m])
   refine⟨t,_,rfl,b8.of ab,rfl,_,_,rfl,_,_,rfl,rfl,?_⟩
   refine⟨_,rfl,by show 3≤aao;decide,fun p3 Gs=>⟨m,p3,[2,7,5],rfl,aB.of ab,by decide,by decide,fun sd es H3 s3 hs0 VP pr3=>?_⟩⟩
   have s3:=ag.trans (ag.trans st (ak Gs _)) s3
   obtain⟨e0,e1,e2,rfl,c0,c1,c2⟩:=KO pr3
   have jP:∀(σ':St),σ'=[some (.ref s0),some (.ref d),some (.int ((d1+1) / 2)),some (.ref D),some (.int (i:Int)),some (.int m),some (.ref sd),o7,none]→∃o4 o5 o6 o7 R,σ'=[some (.ref s0),some (.ref d),some (.int ((d1+1) / 2)),some (.ref D),o4,o5,o6,o7,none]∧ag H H3∧H3 d=some (.lst ([d0,d1,d2,d3,d4].map V.int))∧H3 D=some (.lst ((aal N).map fun k=>V.ref (T k)))∧H3 p=some (.lst (ms.map V.int)) ∧
    Cells H3 N T A R∧∀j u,(R j u).length≤4∧∀n∈R j u,n<((d1+1) / 2).toNat:=fun σ' e=>⟨_,_,_,_,R,e,ag.trans sH s3,s3 _ _ hd,s3 _ _ mn,s3 _ _ O2,C.same s3,hR⟩
   refine⟨_,rfl,_,_,rfl,rfl,_,rfl,df (fun k1=>?_) (fun k1=>bh (jP _ rfl))⟩
   have k1:(0:Int)<(d1+1) / 2:=of_decide_eq_true k1
   refine⟨_,rfl,D,_,rfl,.inl (aB.of (s3 _ _ mn)),_,_,rfl,rfl,_,rfl,df (fun k2=>?_) (fun k2=>bh (jP _ rfl))⟩
   have k2:(0:Int)<((((aal N).map fun k=>V.ref (T k)).length:Nat):Int):=of_decide_eq_true k2
   have eN:((((aal N).map fun k=>V.ref (T k)).length:Nat):Int)=(N:Int):=by rw [Lm9,aax]
   refine⟨_,rfl,sd,_,1,_,rfl,rfl,aB.of VP,rfl,_,_,rfl,rfl,_,rfl,df (fun k3=>?_) (fun k3=>jP _ rfl)⟩
   have md:=mid (a:=(i:Int)) (b:=((((aal N).map fun k=>V.ref (T k)).length:Nat):Int)) k2
   have md2:=md
   rw [eN] at md2
   have hk:((i:Int) % (N:Int)).toNat<N:=by omega
   have hu:e0.toNat<2:=by omega
   have ha:=dw (n:=N) (T:=T) (j:=(i:Int) % ((((aal N).map fun k=>V.ref (T k)).length:Nat):Int)) md.1 (by rw [← eN];exact md.2)
   have ek:((i:Int) % ((((aal N).map fun k=>V.ref (T k)).length:Nat):Int)).toNat=((i:Int) % (N:Int)).toNat:=by rw [eN]
   rw [ek] at ha
   have C3:=C.same s3
   generalize hkk:((i:Int) % (N:Int)).toNat=k at ha hk
   have al:=NP (A:=fun u=>A k u) (j:=e0) rfl rfl c0.1 c0.2
   have jk:=C3.lst k e0.toNat hk hu
   refine⟨_,rfl,_,rfl,_,rfl,D,_,rfl,.inl (aB.of (s3 _ _ mn)),_,_,rfl,rfl,k2,D,_,_,_,rfl,rfl,aB.of (s3 _ _ mn),ha,_,rfl,sd,_,0,_,rfl,rfl,aB.of VP,rfl,T k,_,e0,_,rfl,rfl,b8.of (C3.tup k hk),al,?_⟩
   refine⟨_,rfl,.inl ⟨rfl,_,aB.of jk⟩,_,rfl,sd,_,2,_,rfl,rfl,aB.of VP,rfl,_,rfl,_,_,rfl,rfl,k1,by show 1≤aao;decide,fun p4 MH=>?_⟩
   have s4:=ak MH (.lst [V.int (e2 % ((d1+1) / 2))])
   have Vr:=(hR k e0.toNat).1
   have em:=mid (a:=e2) (b:=(d1+1) / 2) k1
   refine⟨_,rfl,A k e0.toNat,_,rfl,.inl (aB.of (s4 _ _ jk)),_,_,rfl,rfl,_,rfl,p4,_,rfl,aB.of ab,fun p6 O3=>?_⟩
   have eL:(((nI (R k e0.toNat)).length:Nat):Int)=((R k e0.toNat).length:Nat):=by rw [Lm9]
   have ec:=KQ (v:=V.int (e2 % ((d1+1) / 2))) (k:=4 - (((nI (R k e0.toNat)).length:Nat):Int)) (by rw [eL];omega)
   have e2':V.int (e2 % ((d1+1) / 2))=V.int (((e2 % ((d1+1) / 2)).toNat:Nat):Int):=congrArg V.int (by omega)
   have en:(if (4 - (((nI (R k e0.toNat)).length:Nat):Int))=0 then [] else [V.int (e2 % ((d1+1) / 2))])=nI (if (R k e0.toNat).length=4 then [] else [(e2 % ((d1+1) / 2)).toNat]):=by
    by_cases z:(R k e0.toNat).length=4
    ·rw [if_pos z,if_pos (by rw [eL];omega)]
     rfl
    ·rw [if_neg z,if_neg (by rw [eL];omega),e2']
     rfl
   rw [en] at ec
   have s5:=ak O3 (.lst (gC [V.int (e2 % ((d1+1) / 2))] none (some (4 - (((nI (R k e0.toNat)).length:Nat):Int)))))
   have s6:=ag.trans s4 s5
   have s7:=ag.trans s3 s6
   refine⟨A k e0.toNat,p6,_,_,rfl,rfl,s6 _ _ jk,ab,?_,?_⟩
   ·show(nI (R k e0.toNat)).length+(gC [V.int (e2 % ((d1+1) / 2))] none (some (4 - (((nI (R k e0.toNat)).length:Nat):Int)))).length≤_
    have zL:(nI (R k e0.toNat)).length≤4:=by rw [Lm9];exact Vr
    have z:=jV [V.int (e2 % ((d1+1) / 2))] none (some (4 - (((nI (R k e0.toNat)).length:Nat):Int)))
    rw [abh] at z
    exact sz (by omega)
   have C4:=(C.same s7).write hk hu (R k e0.toNat++(if (R k e0.toNat).length=4 then [] else [(e2 % ((d1+1) / 2)).toNat]))
   have eW:nI (R k e0.toNat)++gC [V.int (e2 % ((d1+1) / 2))] none (some (4 - (((nI (R k e0.toNat)).length:Nat):Int)))=nI (R k e0.toNat++(if (R k e0.toNat).length=4 then [] else [(e2 % ((d1+1) / 2)).toNat])):=by
    rw [ec,← aai]
   rw [← eW] at C4
   obtain⟨n1,n2,n3,n4⟩:=apd k e0.toNat hk hu
   refine⟨_,_,_,_,_,rfl,ag.aJ (ag.trans sH s7) n4 _,?_,?_,?_,C4,fun j u=>?_⟩
   ·rw [ar n1.symm];exact s7 _ _ hd
   ·rw [ar n2.symm];exact s7 _ _ mn
   ·rw [ar n3.symm];exact s7 _ _ O2
   ·by_cases e:j=k∧u=e0.toNat
    ·simp only [if_pos e]
     refine⟨?_,fun n hn=>?_⟩
     ·rw [aab]
      by_cases z:(R k e0.toNat).length=4
      ·rw [if_pos z,z]
       decide
      ·rw [if_neg z,abh]
       omega
     ·rcases aaS.mp hn with hn|hn
      ·exact(hR _ _).2 n hn
      ·by_cases z:(R k e0.toNat).length=4
       ·rw [if_pos z] at hn
        cases hn
       ·rw [if_neg z] at hn
        rw [aaw.mp hn]
        omega
    ·simp only [if_neg e]
     exact hR j u
 rintro σ H4 ⟨o4,o5,o6,o7,R,rfl,sH,hd,mn,O2,C,hR⟩
 refine⟨_,rfl,(d1+1) / 2,rfl,by omega,by omega,fun D2 jO=>?_⟩
 have ma:=mid (a:=d0) (b:=5) (by decide)
 have mb:=mid (a:=d0 / 5) (b:=1+d0 % 5) (by omega)
 obtain⟨na,ena⟩:∃na:Nat,na=(d0 / 5 % (1+d0 % 5)).toNat:=⟨_,rfl⟩
 obtain⟨nb,enb⟩:∃nb:Nat,nb=(1+d0 % 5 - 1 - d0 / 5 % (1+d0 % 5)).toNat:=⟨_,rfl⟩
 have hab:na+nb≤4:=by omega
 refine dz (lo:=0) (n:=((d1+1) / 2).toNat) (fj (by omega)) (fun i ys H'=>ag H4 H'∧H' D2=some (.lst ys)∧ys=((aal i).map (nameOf na nb)).map tx) ⟨ak jO _,ab,rfl⟩ (fun i ys H' p=>⟨p.2.1,?_⟩) (fun i ys H' hi p=>?_) (fun ys H5 p=>?_)
 ·rw [p.2.2,Lm9,Lm9,aax]
  exact aaf _
 ·obtain⟨Ox,Ru,rfl⟩:=p
  refine⟨_,rfl,d,_,0,_,rfl,rfl,aB.of (Ox _ _ hd),rfl,_,rfl,d0,i,(by show [V.int d0,V.int (0+(i:Int))]=[V.int d0,V.int (i:Int)];rw [adg]),b0.1,by omega,fun a b ea eb _=>⟨Ru,ag.aJ Ox jO _,ab,?_⟩⟩
  rw [ea,eb,← ena,← enb,abe,aai,aai]
  rfl
 obtain⟨Ox,Ru,rfl⟩:=p
 have s5:=ag.trans sH Ox
 have C5:=C.same Ox
 have fin:∀(ln:aaD) (zs:List Cs) (H6:Hp),ag H5 H6→H6 ln=some (.lst (zs.map tx))→zs.length=((d1+1) / 2).toNat→zs.Nodup→(∀z∈zs,aQ z=true∧z≠zz)→∀t,H6 t=none→Q (.ref t) (upd H6 t (.tup [.ref ln,.int (d2 % ((d1+1) / 2+1)),.ref D])):=fun ln zs H6 s6 yX Qp hnd hz t ht=>by
  have st:=ak ht (.tup [.ref ln,.int (d2 % ((d1+1) / 2+1)),.ref D])
  have mp:=mid (a:=d2) (b:=(d1+1) / 2+1) (by omega)
  refine q t ln D zs (d2 % ((d1+1) / 2+1)).toNat ((aal N).map fun i=>(R i 0,R i 1)) _ _ (ag.trans (ag.trans s5 s6) st) ?_ (st _ _ yX) (st _ _ (s6 _ _ (Ox _ _ mn))) ((C5.same (ag.trans s6 st)).paired) ?_
  ·rw [ab,Int.toNat_of_nonneg mp.1]
  ·refine⟨by omega,by omega,by rw [Lm9,aax];exact mN,hnd,fun z h=>(hz z h).1,fun z h=>(hz z h).2,fun r hr=>?_⟩
   obtain⟨i,_,rfl⟩:=aah.mp hr
   rw [Qp]
   exact⟨(hR i 0).1,(hR i 1).1,(hR i 0).2,(hR i 1).2⟩
 have zl:((aal ((d1+1) / 2).toNat).map (nameOf na nb)).length=((d1+1) / 2).toNat:=by rw [Lm9,aax]
 have zn:((aal ((d1+1) / 2).toNat).map (nameOf na nb)).Nodup:=rD fun i j hi hj e=>Ic (by omega) (by omega) e
 have zg:∀z∈((aal ((d1+1) / 2).toNat).map (nameOf na nb)),aQ z=true∧z≠zz:=fun z hz=>by
  obtain⟨k,hk,rfl⟩:=aah.mp hz
  have hk:=aaz.mp hk
  exact⟨CO (by omega) hab,KN (by omega)⟩
 generalize ((aal ((d1+1) / 2).toNat).map (nameOf na nb))=zs at Ru zl zn zg
 have OZ:=Ox _ _ hd
 refine⟨_,rfl,d,_,4,_,rfl,rfl,aB.of OZ,rfl,rfl,_,rfl,df (fun k=>?_) (fun k=>?_)⟩
 ·refine⟨_,rfl,D2,_,rfl,aB.of Ru,fun p7 hp7=>?_⟩
  have s7:=ak hp7 (.lst ((zs.map tx).reverse))
  refine⟨_,rfl,_,rfl,d,_,2,_,rfl,rfl,aB.of (s7 _ _ OZ),rfl,_,rfl,_,_,rfl,rfl,_,_,rfl,rfl,(by show(0:Int)<(d1+1) / 2+1;omega),_,rfl,by show 3≤aao;decide,fun t ht=>?_⟩
  exact fin p7 zs.reverse _ s7 (by rw [ab,List.map_reverse]) (by rw [ac6,zl]) (Fo zn) (fun z hz=>zg z (List.mem_reverse.mp hz)) t ht
 ·refine⟨_,rfl,_,rfl,d,_,2,_,rfl,rfl,aB.of OZ,rfl,_,rfl,_,_,rfl,rfl,_,_,rfl,rfl,(by show(0:Int)<(d1+1) / 2+1;omega),_,rfl,by show 3≤aao;decide,fun t ht=>?_⟩
  exact fin D2 zs _ (ag.refl _) Ru zl zn zg t ht
end
section
variable {P:aa4} {w:abu} {K:aaa} {mg:Str→Option aae} {base:Heap} {f:aaD} {fd:abo} {c:Cl}
theorem cB:ax ["_law_names","_law_place","_law_rules","_law_lines_here","_law_number","_law_rule","_law_parts"] ["_law_names","_law_place","_law_rules"] (aq jg):=⟨rfl,rfl,rfl,by decide +kernel,rfl,by decide +kernel,by decide +kernel⟩
theorem vF (F:cY K "_law_lines" "_law_lines" jg f fd) (aW:mg "len"=none) (Rv:mg "str"=none) (ba:mg "enumerate"=none):aY P w K mg base cS 1 f fd ["_law_names","_law_place","_law_rules"] (A7 K):=by
 refine F.ok cB (fun vs H Q E h=>?_) (fun cx A outer s H vs Q E hr h=>?_)
 ·obtain⟨ln,lr,zs,place,rs,us,rfl,_⟩:=h
  rfl
 obtain⟨ln,lr,zs,place,rs,us,rfl,yX,mq,pr,T,q⟩:=h
 refine⟨_,(ae (fF (i:=3) [] cB.nd rfl (aaQ rfl) rfl (by kernel_rfl) (aS (pv 0)) (fun _ _ _ _ _=>bp) (fun _ _ _ _ _=>(aL bW (aL bW aM (pv 0)) aM)))
 (ae (aA (i:=3) cB.nd rfl (aaQ rfl) (aL jW (aL jW (dN iO (pv 3) iN (dM (pv 1))) (bF (aa aM af))) (dN iO (pv 3) (dM (pv 1)) iN)))
 (ae (bI aaG rfl (fH (pv 2) rfl ba abi) (fS rfl (a8 (aH (i:=4) cB.nd rfl (aaQ rfl)) (a8 (aH (i:=5) cB.nd rfl (aaQ rfl)) dI)))
 (ae (aA (i:=6) cB.nd rfl (aaQ rfl) (bF (aa (aL bW aM (aw az (aL jW (pv 0) (bF (aa aM af))) aj (fun _ _=>rfl))) af)))
 (ae (aV (au jU (aE av rfl aW aaH (aa (aw aN (pv 5) aj (fun _ _=>rfl)) af)) aj (aF _))
 (ae (aA (i:=6) cB.nd rfl (aaQ rfl) (bF (aa (aL bW aM (ck abP acN acO rT aM (aa (b6 [0] rfl (by kernel_rfl) (aS (aw aN (pv 5) aj (fun _ _=>rfl))) (fun _ _ _ _ _=>bp) (fun _ _ _ _ _=>(aw (r:=Ck K) az (pv 1) (pv 0) (fun _ _=>rfl)))) af))) af)))
 (ah (aV (au cP (aL gS (pv 4) aj) aj (aF _))
 (ah (a7 (ck aaC aaV aaY bg (pv 6) (aa (aL bW aM (aw az (pv 0) (aL gQ (aE av rfl aW aaH (aa (pv 0) af)) aj) (fun _ _=>rfl))) af))))
 aC)))
 aC)
 (ae (aV (PW.pt (gP (au jU (aE av rfl aW aaH (aa (aw aN (pv 5) aj (fun _ _=>rfl)) af)) aj (aF _)) (fD (au jU (aE av rfl aW aaH (aa (aw aN (pv 5) aj (fun _ _=>rfl)) af)) aj (aF _)))))
 (ah (a7 (ck aaC aaV aaY bg (pv 6) (aa (aL bW aM (ck abP acN acO rT aM (aa (b6 [0] rfl (by kernel_rfl) (aS (aw aN (pv 5) aj (fun _ _=>rfl))) (fun _ _ _ _ _=>bp) (fun _ _ _ _ _=>(aw (r:=Ck K) az (pv 1) (pv 0) (fun _ _=>rfl)))) af))) af))))
 aC)
 (ae (aV (PW.pt (gP (au cP (aE av rfl aW aaH (aa (aw aN (pv 5) aj (fun _ _=>rfl)) af)) aj (aF _)) (fD (au jU (aE av rfl aW aaH (aa (aw aN (pv 5) aj (fun _ _=>rfl)) af)) aj (aF _)))))
 (ah (a7 (ck aaC aaV aaY bg (pv 6) (aa aM af))))
 aC)
 (ah (a7 (ck aaC aaV aaY bg (pv 3) (aa (aL bW (aL bW (aL bW aM (fO xE rfl Rv PyProof.Rows.Boot.«str» (aa (pv 4) af))) aM) (ck abP acN acO rT aM (aa (pv 6) af))) af)))))))))
 (ah (ay (ck abP acN acO rT aM (aa (pv 3) af))))))),?_⟩
 have aav:=T.few
 have Yd:=T.pl
 have zr:=aat pr
 have z8:=T.many
 have e_p:(aac "passing ")=S (bU++[32]):=by decide +kernel
 have e_0:(aac " 0")=S [32,48]:=by decide +kernel
 have e_z:(aac "lasting zz 0")=S (bK Qs):=by decide +kernel
 have VQ:(aac "zz")=S zz:=by decide +kernel
 have yY:(aac "keep ")=S (wordAt 1++[32]):=by decide +kernel
 have Jn:(aac "take ")=S (wordAt 0++[32]):=by decide +kernel
 have MI:(aac "put ")=S (wordAt 3++[32]):=by decide +kernel
 have Oy:(aac "put zz")=S (aR (3,[zz])):=by decide +kernel
 have Lc:(aac ", ")=S [44,32]:=by decide +kernel
 have Ld:(aac "; ")=S [59,32]:=by decide +kernel
 have BA:(aac "rule r")=S (fV++[32,114]):=by decide +kernel
 have FO:(aac ": ")=S [58,32]:=by decide +kernel
 have Rw:(aac "\n")=⟨#[10]⟩:=by decide +kernel
 refine⟨_,rfl,ln,rfl,⟨_,aB.of yX⟩,fun D hD=>?_⟩
 refine bZ (K:=K) (xs:=zs.map tx) (zs.map fun z=>bK (kdOf z)) (fun _ _ b y=>y=tx b) (fun _ _ _ _ _ _ h=>h) (fun _ _ _ _ _ _ h=>h) (fj (by rw [Lm9];omega)) hD (aB.of yX) (by rw [Lm9,Lm9]) (fun i y b H' R hy hb sm hQ=>?_) (fun H1 ys s1 hL po=>?_)
 ·obtain⟨hi,ey⟩:=aK hy
  obtain⟨gH,eb⟩:=aK hb
  rw [Lm9] at hi
  rw [aa1] at ey eb
  subst ey
  have hl:=(cz (T.sm _ (aas hi))).2
  rw [e_p,e_0]
  refine⟨_,rfl,_,_,rfl,rfl,?_,_,_,rfl,rfl,?_,hQ _ _ (ag.refl _) ?_⟩
  ·rw [a6,a6]
   exact sz (by simp only [aab,aad,aaO];omega)
  ·rw [fW,a6,a6]
   exact sz (by simp only [aab,aad,aaO];omega)
  ·rw [fW,fW,← eb]
   rfl
 rw [dF po] at hL
 have lK:((zs.map fun z=>bK (kdOf z)).map tx).length=zs.length:=by rw [Lm9,Lm9]
 refine⟨_,rfl,_,rfl,_,rfl,D,_,rfl,aB.of hL,fun p hp=>?_⟩
 rw [Ih (by rw [lK];exact Yd)]
 rw [e_z]
 refine⟨by show 1≤aao;decide,fun p2 Au=>?_⟩
 have sA:=ag.trans (ak hp (.lst (((zs.map fun z=>bK (kdOf z)).map tx).take place))) (ak Au (.lst [V.str (S (bK Qs))]))
 refine⟨p,p2,_,_,rfl,rfl,ak Au _ _ _ ab,ab,?_,fun p3 Gs=>?_⟩
 ·rw [aaF,abh]
  exact sz (by omega)
 refine⟨_,rfl,_,rfl,_,rfl,D,_,rfl,aB.of (ak Gs _ _ _ (sA _ _ hL)),fun p4 MH=>?_⟩
 rw [nY (by rw [lK];exact Yd)]
 refine⟨p3,p4,_,_,rfl,rfl,ak MH _ _ _ ab,ab,?_,fun LL Jo=>?_⟩
 ·rw [aab,aaF,abh,aa9]
  exact sz (by omega)
 have eK:(((zs.map fun z=>bK (kdOf z)).map tx).take place++[V.str (S (bK Qs))])++((zs.map fun z=>bK (kdOf z)).map tx).drop place=((nO zs place).map bK).map tx:=by
  unfold nO
  simp only [aai,List.map_take,afi,abf,aaZ,acv,afs]
 rw [eK]
 have sB:ag H _:=ag.trans (ag.trans s1 (ag.trans (ag.trans sA (ak Gs _)) (ak MH _))) (ak Jo (.lst (((nO zs place).map bK).map tx)))
 have Rx:=(ag.trans s1 (ag.trans (ag.trans sA (ak Gs _)) (ak MH _))).free Jo
 have kl:(nO zs place).length≤6:=by
  unfold nO
  simp only [aab,Lm9,aaF,aa9,aad,aaO]
  omega
 refine⟨_,rfl,lr,rfl,⟨_,aB.of (sB _ _ mq)⟩,fY (K:=K) (a:=lr) (xs:=us) (fun i σ H'=>∃o4 o5 o6,σ=[some (.ref ln),some (.int (place:Int)),some (.ref lr),some (.ref LL),o4,o5,o6]∧ag H H'∧H' LL=some (.lst (((nO zs place).map bK++dt zs rs i).map tx)))
  ⟨none,none,none,rfl,sB,by rw [ab];unfold dt;rw [List.range_zero,acv,aa8]⟩ (fun i σ H' _ ⟨_,_,_,_,sm,_⟩=>aB.of (sm _ _ mq)) ?_ ?_⟩
 ·rintro i y σ H' t hi ⟨o4,o5,o6,rfl,sH,Jo⟩ ht
  obtain⟨qt,ey⟩:=aK hi
  have FI:i<rs.length:=by omega
  obtain⟨tt,a,b,Ye,JN,ha,hb⟩:=paired_at pr i FI qt
  rw [ey] at Ye
  subst Ye
  have ok:=T.ok _ (aas FI)
  have hget:rs.getD i ([],[])=rs[i]:=by rw [Gd9,Ge9 FI];rfl
  have hstep:dt zs rs (i+1)=dt zs rs i++[tU zs i rs[i]]:=by
   unfold dt
   rw [abe,aai,← hget]
   rfl
  generalize rs[i]=r at JN ha hb ok hstep
  have st:=ak ht (.tup [.int (i:Int),.ref tt])
  have sI:=ag.trans sH st
  refine⟨t,_,rfl,b8.of ab,rfl,_,_,rfl,_,_,rfl,rfl,?_⟩
  have OV:=Ij (zs:=zs) VQ
  have hX:=cz (qT T.sm)
  refine⟨_,rfl,by show 1≤aao;decide,fun p1 EE=>⟨ln,p1,_,_,rfl,rfl,ak EE _ _ _ (sI _ _ yX),ab,by rw [Lm9,abh];exact sz (by omega),fun p2 Au=>⟨p2,_,0,_,rfl,rfl,aB.of ab,OV,_,_,rfl,rfl,?_,by show 1≤aao;decide,fun pp O2=>?_⟩⟩⟩
  ·rw [yY,a6,a6]
   exact sz (by simp only [aab,aad,aaO];have:=(iY 1).2.2;omega)
  have e1:(aac "keep "++S ((zs++[zz]).getD 0 []))=S (aR (1,[(zs++[zz]).getD 0 []])):=me (ns:=[(zs++[zz]).getD 0 []]) yY
  rw [e1]
  have s3:=ag.trans (ak EE (.lst [V.str (aac "zz")])) (ag.trans (ak Au (.lst (zs.map tx++[V.str (aac "zz")]))) (ak O2 (.lst [V.str (S (aR (1,[(zs++[zz]).getD 0 []])))])))
  have n3:upd H' t (.tup [.int (i:Int),.ref tt]) pp=none:=(ag.trans (ak EE (.lst [V.str (aac "zz")])) (ak Au (.lst (zs.map tx++[V.str (aac "zz")])))).free O2
  have h3:∀H3,H3=upd (upd (upd (upd H' t (.tup [.int (i:Int),.ref tt])) p1 (.lst [V.str (aac "zz")])) p2 (.lst (zs.map tx++[V.str (aac "zz")]))) pp (.lst [V.str (S (aR (1,[(zs++[zz]).getD 0 []])))])→ag (upd H' t (.tup [.int (i:Int),.ref tt])) H3∧H3 pp=some (.lst (([((1:Nat),[(zs++[zz]).getD 0 []])].map aR).map tx)):=fun H3 e=>by
   rw [e]
   exact⟨s3,ab⟩
  generalize hG:upd (upd (upd (upd H' t (.tup [.int (i:Int),.ref tt])) p1 (.lst [V.str (aac "zz")])) p2 (.lst (zs.map tx++[V.str (aac "zz")]))) pp (.lst [V.str (S (aR (1,[(zs++[zz]).getD 0 []])))])=H3
  obtain⟨s3,Gs⟩:=h3 H3 hG.symm
  have s4:=ag.trans st s3
  have s5:=ag.trans sH s4
  have VR:H' pp=none:=st.free n3
  have VS:i<8:=by omega
  obtain⟨f1,f2⟩:=UK VS
  have hR:=wW (i:=i) T.sm ok
  have pOk:=iC (i:=i) T.sm ok
  obtain⟨g1,g2,g3⟩:=Ik pOk
  have lR:(dt zs rs i).length=i:=by unfold dt;rw [Lm9,aax]
  refine⟨_,rfl,tt,_,0,_,rfl,rfl,JN.same s5,rfl,a,_,rfl,.inl (aB.of (s5 _ _ ha)),_,_,rfl,rfl,_,rfl,?_⟩
  by_cases c1:r.1=[]
  ·refine df (fun k=>absurd (of_decide_eq_true k) (NT c1)) (fun k=>?_)
   refine⟨_,rfl,tt,_,0,_,rfl,rfl,JN.same s5,rfl,a,_,rfl,.inl (aB.of (s5 _ _ ha)),_,_,rfl,rfl,_,rfl,df (fun k=>absurd (of_decide_eq_true k) (NT c1)) (fun k=>bh ?_)⟩
   refine⟨_,rfl,tt,_,0,_,rfl,rfl,JN.same s5,rfl,a,_,rfl,.inl (aB.of (s5 _ _ ha)),rfl,_,rfl,df (fun k=>?_) (fun k=>absurd (len0.trans (decide_eq_true c1)) k)⟩
   refine⟨_,rfl,tt,_,1,_,rfl,rfl,JN.same s5,rfl,b,_,rfl,.inl (aB.of (s5 _ _ hb)),_,_,rfl,rfl,_,rfl,br (H0:=H3) (fun H4=>ag H' H4∧H4 pp=some (.lst (((aU zs i r).map aR).map tx))) (fun k next=>?_) (fun k=>?_) (fun H4 hc=>?_)⟩
   ·have k:r.2≠[]:=wX (of_decide_eq_true k)
    refine⟨_,rfl,.inl ⟨rfl,_,aB.of Gs⟩,pp,_,_,rfl,rfl,Gs,fj (by show 1≤_;decide),next _ ⟨ag.aJ s4 VR _,?_⟩⟩
    rw [ab,Oy]
    unfold aU
    rw [if_pos c1,if_neg k]
    rfl
   ·have k:r.2=[]:=abq fun z=>k (decide_eq_true (KR z))
    refine⟨s4,?_⟩
    unfold aU
    rw [if_pos c1,if_pos k]
    exact Gs
   ·obtain⟨s6,O3⟩:=hc
    have Ry:aek (aac "; ") (((aU zs i r).map aR).map S)=S (cu [59,32] ((aU zs i r).map aR)):=by rw [Ld,sh]
    have VT:=Ei VS (aU zs i r) BA f1 FO Ry
    have hLp:LL≠pp:=fun e=>by rw [← e,Jo] at VR;cases VR
    refine⟨_,rfl,.inl ⟨rfl,_,aB.of (s6 _ _ Jo)⟩,_,rfl,_,rfl,f2,_,_,rfl,rfl,?_,_,_,rfl,rfl,?_,rfl,_,rfl,_,pp,((aU zs i r).map aR).map S,rfl,rfl,.inl (aB.of (by rw [← tV];exact O3)),?_,_,_,rfl,rfl,?_,LL,_,_,rfl,rfl,s6 _ _ Jo,?_,?_⟩
    ·rw [BA,f1,a6,a6]
     exact sz (by simp only [aab,aad,aaO];omega)
    ·rw [BA,f1,FO,fW,a6,a6]
     exact sz (by simp only [aab,aad,aaO];omega)
    ·rw [Ld,a6]
     simp only [aad,aaO]
     omega
    ·rw [BA,f1,FO,Ry,fW,fW,a6,a6]
     exact sz (by simp only [aab,aad,aaO];omega)
    ·rw [Lm9,aab,Lm9,lR]
     exact fj (by omega)
    ·refine⟨_,_,_,rfl,ag.aJ (ag.trans sH s6) Rx _,?_⟩
     rw [ab,VT,hstep,← aa2,aai (l₂:=[tU zs i r])]
     rfl
  ·refine df (fun _=>?_) (fun k=>absurd (decide_eq_true (KR c1)) k)
   obtain⟨w1,w2,w3⟩:=Mj T.sm ok.m1 ok.l1
   refine⟨rfl,_,rfl,tt,_,0,_,rfl,rfl,JN.same s5,rfl,a,rfl,⟨_,aB.of (s5 _ _ ha)⟩,fun D2 jO=>?_⟩
   refine bZ (K:=K) (xs:=nI r.1) (nm zs r.1) (fun _ _ b y=>y=tx b) (fun _ _ _ _ _ _ h=>h) (fun _ _ _ _ _ _ h=>h) (fj (by rw [Lm9];have:=ok.l1;omega)) jO (aB.of (s5 _ _ ha)) (by unfold nm;rw [Lm9,Lm9]) (fun j y b H4 R hy hb sm hQ=>?_) (fun H4 ys s6 Yf po4=>?_)
   ·obtain⟨n,hn,rfl,rfl⟩:=Im hy hb
    have eE:=ok.m1 n hn
    exact⟨_,rfl,_,rfl,ln,_,_,_,rfl,rfl,aB.of (sm _ _ (s5 _ _ yX)),xZ (by omega) (by omega),hQ _ _ (ag.refl _) rfl⟩
   rw [dF po4] at Yf
   have Ry:aek (aac ", ") ((nm zs r.1).map S)=S (cu [44,32] (nm zs r.1)):=by rw [Lc,sh]
   refine⟨_,D2,(nm zs r.1).map S,rfl,rfl,.inl (aB.of (by rw [← tV];exact Yf)),?_,_,_,rfl,rfl,?_,by show 1≤aao;decide,fun qq Yg=>?_⟩
   ·rw [Lc,a6]
    simp only [aad,aaO]
    omega
   ·rw [Jn,Ry,a6,a6]
    have:=(iY 0).2.2
    exact sz (by simp only [aab,aad,aaO];omega)
   have e_t:aac "take "++aek (aac ", ") ((nm zs r.1).map S)=S (aR (0,nm zs r.1)):=by rw [Ry];exact me Jn
   rw [e_t]
   have Yh:H' qq=none:=(ag.trans s4 s6).free Yg
   have s7:=ag.trans (ag.trans s4 s6) (ak Yg (.lst [V.str (S (aR (0,nm zs r.1)))]))
   have h7:upd H4 qq (.lst [V.str (S (aR (0,nm zs r.1)))]) qq=some (.lst (([((0:Nat),nm zs r.1)].map aR).map tx)):=ab
   generalize upd H4 qq (.lst [V.str (S (aR (0,nm zs r.1)))])=H7 at s7 h7
   have h0:0<zs.length:=by
    obtain⟨x,t,e⟩:=acT c1
    exact acD (aa3 _) (ok.m1 x (by rw [e];simp))
   refine⟨_,rfl,_,_,rfl,rfl,(by show(0:Int)<2;decide),rfl,_,rfl,br (H0:=H7) (fun H8=>ag H' H8∧H8 qq=some (.lst (([((0:Nat),nm zs r.1)]++(if i % 2=1 then [(1,[zs.getD (zs.length - 1) []])] else [])).map aR |>.map tx))) (fun k next=>?_) (fun k=>?_) (fun H8 hc=>?_)⟩
   ·have k:i % 2=1:=of_decide_eq_true (Il.symm.trans k)
    have s8:=ag.trans sH s7
    have hx:=cz (tX T.sm h0)
    have UY:qG (zs.map tx) ((((zs.map tx).length:Nat):Int) - 1)=some (tx (zs.getD (zs.length - 1) [])):=by
     have z:=xZ (zs:=zs) (i:=(((zs.map tx).length:Nat):Int) - 1) (by rw [Lm9];omega) (by rw [Lm9];omega)
     rw [z,Lm9]
     congr 3
     omega
    refine⟨_,rfl,.inl ⟨rfl,_,aB.of h7⟩,_,rfl,_,rfl,ln,_,rfl,.inl (aB.of (s8 _ _ yX)),_,_,rfl,rfl,ln,_,_,_,rfl,rfl,aB.of (s8 _ _ yX),UY,_,_,rfl,rfl,?_,qq,_,_,rfl,rfl,h7,fj (by show 1≤_;decide),next _ ⟨ag.aJ s7 Yh _,?_⟩⟩
    ·rw [yY,a6,a6]
     have:=(iY 1).2.2
     exact sz (by simp only [aab,aad,aaO];omega)
    ·have e_k:aac "keep "++S (zs.getD (zs.length - 1) [])=S (aR (1,[zs.getD (zs.length - 1) []])):=me (ns:=[zs.getD (zs.length - 1) []]) yY
     rw [ab,if_pos k,e_k]
     rfl
   ·have k:¬ i % 2=1:=fun z=>k (Il.trans (decide_eq_true z))
    refine⟨s7,?_⟩
    rw [if_neg k,aa8]
    exact h7
   obtain⟨s8,h8⟩:=hc
   have s9:=ag.trans sH s8
   refine⟨_,rfl,tt,_,0,_,rfl,rfl,JN.same s9,rfl,a,_,rfl,.inl (aB.of (s9 _ _ ha)),_,_,rfl,rfl,_,rfl,df (fun _=>?_) (fun k=>absurd (decide_eq_true (KR c1)) k)⟩
   refine⟨_,rfl,tt,_,1,_,rfl,rfl,JN.same s9,rfl,b,_,rfl,.inl (aB.of (s9 _ _ hb)),_,_,rfl,rfl,_,rfl,br (H0:=H8) (fun H9=>ag H' H9∧H9 qq=some (.lst (((aU zs i r).map aR).map tx))) (fun k next=>?_) (fun k=>?_) (fun H9 hc=>?_)⟩
   ·have k:r.2≠[]:=wX (of_decide_eq_true k)
    obtain⟨y1,y2,y3⟩:=Mj T.sm ok.m2 ok.l2
    refine⟨_,rfl,.inl ⟨rfl,_,aB.of h8⟩,rfl,_,rfl,tt,_,1,_,rfl,rfl,JN.same s9,rfl,b,rfl,⟨_,aB.of (s9 _ _ hb)⟩,fun D3 FP=>?_⟩
    refine bZ (K:=K) (xs:=nI r.2) (nm zs r.2) (fun _ _ b y=>y=tx b) (fun _ _ _ _ _ _ h=>h) (fun _ _ _ _ _ _ h=>h) (fj (by rw [Lm9];have:=ok.l2;omega)) FP (aB.of (s9 _ _ hb)) (by unfold nm;rw [Lm9,Lm9]) (fun j y b H4 R hy hb sm hQ=>?_) (fun H10 ys Oz Rz VU=>?_)
    ·obtain⟨n,hn,rfl,rfl⟩:=Im hy hb
     have eE:=ok.m2 n hn
     exact⟨_,rfl,_,rfl,ln,_,_,_,rfl,rfl,aB.of (sm _ _ (s9 _ _ yX)),xZ (by omega) (by omega),hQ _ _ (ag.refl _) rfl⟩
    rw [dF VU] at Rz
    have RA:aek (aac ", ") ((nm zs r.2).map S)=S (cu [44,32] (nm zs r.2)):=by rw [Lc,sh]
    refine⟨_,D3,(nm zs r.2).map S,rfl,rfl,.inl (aB.of (by rw [← tV];exact Rz)),?_,_,_,rfl,rfl,?_,qq,_,_,rfl,rfl,Oz _ _ h8,?_,next _ ⟨ag.aJ (ag.trans s8 Oz) Yh _,?_⟩⟩
    ·rw [Lc,a6]
     simp only [aad,aaO]
     omega
    ·rw [MI,RA,a6,a6]
     have:=(iY 3).2.2
     exact sz (by simp only [aab,aad,aaO];omega)
    ·by_cases z:i % 2=1
     ·rw [if_pos z];exact fj (by show 2≤_;decide)
     ·rw [if_neg z];exact fj (by show 1≤_;decide)
    ·rw [ab,RA,me MI]
     unfold aU
     rw [if_neg c1,if_neg k,aai (l₂:=[(3,nm zs r.2)]),aai (l₂:=[(3,nm zs r.2)].map aR)]
     rfl
   ·have k:r.2=[]:=abq fun z=>k (decide_eq_true (KR z))
    refine⟨s8,?_⟩
    unfold aU
    rw [if_neg c1,if_pos k,aa8]
    exact h8
   obtain⟨Oz,QS⟩:=hc
   have Yi:=ag.trans sH Oz
   refine⟨_,rfl,tt,_,0,_,rfl,rfl,JN.same Yi,rfl,a,_,rfl,.inl (aB.of (Yi _ _ ha)),rfl,_,rfl,df (fun k=>absurd (of_decide_eq_true (len0.symm.trans k)) c1) (fun _=>bh ?_)⟩
   have RB:aek (aac "; ") (((aU zs i r).map aR).map S)=S (cu [59,32] ((aU zs i r).map aR)):=by rw [Ld,sh]
   have VT:=Ei VS (aU zs i r) BA f1 FO RB
   refine⟨_,rfl,.inl ⟨rfl,_,aB.of (Oz _ _ Jo)⟩,_,rfl,_,rfl,f2,_,_,rfl,rfl,?_,_,_,rfl,rfl,?_,rfl,_,rfl,_,qq,((aU zs i r).map aR).map S,rfl,rfl,.inl (aB.of (by rw [← tV];exact QS)),?_,_,_,rfl,rfl,?_,LL,_,_,rfl,rfl,Oz _ _ Jo,?_,?_⟩
   ·rw [BA,f1,a6,a6]
    exact sz (by simp only [aab,aad,aaO];omega)
   ·rw [BA,f1,FO,fW,a6,a6]
    exact sz (by simp only [aab,aad,aaO];omega)
   ·rw [Ld,a6]
    simp only [aad,aaO]
    omega
   ·rw [BA,f1,FO,RB,fW,fW,a6,a6]
    exact sz (by simp only [aab,aad,aaO];omega)
   ·rw [Lm9,aab,Lm9,lR]
    exact fj (by omega)
   ·refine⟨_,_,_,rfl,ag.aJ (ag.trans sH Oz) Rx _,?_⟩
    rw [ab,VT,hstep,← aa2,aai (l₂:=[tU zs i r])]
    rfl
 ·rintro σ H' ⟨o4,o5,o6,rfl,sH,Jo⟩
  rw [← zr] at Jo
  have lR:(dt zs rs rs.length).length=rs.length:=by unfold dt;rw [Lm9,aax]
  have hle:∀x∈cI zs place rs,x.length≤250:=A8 T
  have QT:(cI zs place rs).length≤14:=by
   unfold cI
   rw [aab,Lm9,lR]
   omega
  have z:=r6 (as:=cI zs place rs) (B:=250) hle
  refine⟨rfl,_,rfl,_,LL,(cI zs place rs).map S,rfl,rfl,.inl (aB.of (by rw [← tV];exact Jo)),?_,?_⟩
  ·rw [Rw,Lm9]
   show _+_ * 1≤_
   omega
  ·rw [Rw,KA,Ea]
   exact q _ sH
end
section
variable {P:aa4} {w:abu} {K:aaa} {mg:Str→Option aae} {base:Heap} {f:aaD} {fd:abo} {c:Cl}
theorem fw:ax ["_law_names","_law_rules","_law_table","_law_rule"] ["_law_names","_law_rules"] (aq gj):=⟨rfl,rfl,rfl,by decide +kernel,rfl,by decide +kernel,by decide +kernel⟩
theorem rK (F:cY K "_law_effects" "_law_effects" gj f fd) (aW:mg "len"=none) (b7:mg "range"=none):aY P w K mg base cS 1 f fd ["_law_names","_law_rules"] (Ml K):=by
 refine F.ok fw (fun vs H Q E h=>?_) (fun cx A outer s H vs Q E hr h=>?_)
 ·obtain⟨ln,lr,zs,rs,us,rfl,_⟩:=h
  rfl
 obtain⟨ln,lr,zs,rs,us,rfl,hn,hl,pr,hz,US,h4,q⟩:=h
 refine⟨_,(ae (aA (i:=2) fw.nd rfl (aaQ rfl) (bF af))
 (ae (bI aaG rfl (aS (pv 1)) (aH (i:=3) fw.nd rfl (ad0 rfl))
 (ah (aV (au cP (aE av rfl aW aaH (aa (aw aN (pv 3) aj (fun _ _=>rfl)) af)) aj (aF _))
 (ah (a7 (ck aaC aaV aaY bg (pv 2) (aa (aL xK (bF (aa aj af)) (aE av rfl aW aaH (aa (pv 0) af))) af))))
 (ah (a7 (ck aaC aaV aaY bg (pv 2) (aa (b6 [3] rfl (by kernel_rfl) (cH rfl b7 (aa (aE av rfl aW aaH (aa (pv 0) af)) af)) (fun _ _ _ _ _=>bp) (fun _ _ _ _ _=>(aL gQ (id (α:=PE _ _ (T4 K "list" (CH K) _ _)) (ck aaC adn aer AZ (aw (r:=rn K) aN (pv 1) aj (fun _ _=>rfl)) (aa (pv 0) af))) (id (α:=PE _ _ (T4 K "list" (CH K) _ _)) (ck aaC adn aer AZ (aw (r:=rn K) aN (pv 1) aj (fun _ _=>rfl)) (aa (pv 0) af)))))) af)))))))
 (ah (ay (pv 2))))),?_⟩
 refine⟨(by show 0≤aao;decide),fun D hD=>?_⟩
 have zu:=aat pr
 have sD:=ak hD (.lst [])
 refine⟨_,rfl,lr,rfl,⟨_,aB.of (sD _ _ hl)⟩,bN (K:=K) (a:=lr) (xs:=us) (fun i σ H'=>∃(o:Option V) (vs:List V),σ=[some (.ref ln),some (.ref lr),some (.ref D),o]∧ag H H'∧H' D=some (.lst vs)∧Paired (rE H H') ((rs.take i).map (gD zs.length)) vs∧∀v∈vs,v≠.ref D)
  ⟨none,[],rfl,sD,ab,by rw [acg];exact .nil,fun _ h=>nomatch h⟩ (fun i σ H' _ ⟨_,_,_,sm,_⟩=>aB.of (sm _ _ hl)) ?_ ?_⟩
 ·rintro i y σ H' hi ⟨o,vs,rfl,sm,mn,po,ap⟩
  obtain⟨qt,ey⟩:=aK hi
  have Lb:i<rs.length:=by omega
  have hR:=(paired_at pr i Lb qt).same sm
  rw [ey] at hR
  have h4i:=h4 _ (aas Lb)
  have ts:rs.take (i+1)=rs.take i++[rs[i]]:=by rw [abY,Ge9 Lb];rfl
  generalize rs[i]=r at hR h4i ts
  obtain⟨t,a,b,rfl,ht,ha,hb⟩:=hR
  have zo:=aat po
  rw [Lm9,aaF] at zo
  have step:∀(H2:Hp) (p:aaD) (o:Option V),ag H' H2→H' p=none→H2 p=some (.lst ((gD zs.length r).map V.int))→∃(o':Option V) (vs':List V),[some (V.ref ln),some (.ref lr),some (.ref D),o]=[some (.ref ln),some (.ref lr),some (.ref D),o']∧ag H (upd H2 D (.lst (vs++[.ref p])))∧(upd H2 D (.lst (vs++[.ref p]))) D=some (.lst vs')∧Paired (rE H (upd H2 D (.lst (vs++[.ref p])))) ((rs.take (i+1)).map (gD zs.length)) vs'∧∀v∈vs',v≠.ref D:=by
   intro H2 p o s2 VW hp
   have pD:p≠D:=fun z=>by rw [z,mn] at VW;cases VW
   refine⟨o,_,rfl,ag.aJ (ag.trans sm s2) hD _,ab,?_,fun v hv=>?_⟩
   ·rw [ts,aai]
    refine adz ?_ ⟨p,rfl,sm.free VW,by rw [ar pD];exact hp⟩
    refine cZ po fun row v hv hI=>?_
    obtain⟨a1,rfl,n1,h1⟩:=hI
    exact⟨a1,rfl,n1,by rw [ar fun z=>ap _ hv (by rw [z])];exact s2 _ _ h1⟩
   ·rcases aaS.mp hv with hv|hv
    ·exact ap v hv
    ·rw [aaw.mp hv]
     exact fun z=>pD (V.ref.inj z)
  refine⟨_,rfl,t,_,0,_,rfl,rfl,ht,rfl,a,_,rfl,.inl (aB.of ha),rfl,_,rfl,?_⟩
  refine df (fun k=>?_) (fun k=>?_)
  ·have e1:r.1=[]:=of_decide_eq_true (len0.symm.trans k)
   refine⟨_,rfl,.inl ⟨rfl,_,aB.of mn⟩,(by show 1≤aao;decide),fun p hp=>?_⟩
   have sp:=ak hp (.lst [V.int 0])
   refine⟨_,rfl,ln,_,rfl,.inl (aB.of (sp _ _ (sm _ _ hn))),p,_,_,rfl,rfl,ab,by rw [Lm9];omega,by rw [Lm9];omega,?_,fun p2 Au=>?_⟩
   ·rw [Lm9]
    exact sz (by show 1 * _≤_;omega)
   ·have MG:=ak Au (.lst (aam ((((zs.map tx).length:Nat):Int)).toNat [V.int 0]).flatten)
    refine⟨D,_,_,rfl,rfl,MG _ _ (sp _ _ mn),fj (by omega),step _ p2 _ (ag.trans sp MG) (sp.free Au) ?_⟩
    rw [ab,Iw,Lm9]
    unfold gD
    rw [if_pos e1]
    rfl
  ·have e1:¬ r.1=[]:=fun z=>k (len0.trans (decide_eq_true z))
   refine⟨_,rfl,.inl ⟨rfl,_,aB.of mn⟩,_,rfl,ln,_,rfl,.inl (aB.of (sm _ _ hn)),?_⟩
   refine⟨_,rfl,by rw [Lm9];omega,by rw [Lm9];omega,fun D2 jO=>?_⟩
   have en:((((zs.map tx).length:Nat):Int)).toNat=zs.length:=by rw [Lm9];omega
   rw [en]
   refine dz (lo:=0) (n:=zs.length) (fj (by omega)) (fun i ys H2=>ag H' H2∧H2 D2=some (.lst ys)∧ys=((aal i).map fun k=>(r.2.count k:Int) - (r.1.count k:Int)).map V.int) ⟨ak jO _,ab,rfl⟩ (fun i ys H2 p=>⟨p.2.1,by rw [p.2.2];simp⟩) (fun k ys H2 hk p=>?_) (fun ys H2 p=>?_)
   ·obtain⟨s2,FP,rfl⟩:=p
    have e0:(0:Int)+(k:Int)=(k:Int):=by omega
    rw [e0]
    refine⟨_,rfl,t,_,1,_,rfl,rfl,ht.same s2,rfl,.inl ⟨rfl,_,aB.of (s2 _ _ hb)⟩,_,rfl,b,_,_,rfl,rfl,aB.of (s2 _ _ hb),rfl,En _,_,rfl,t,_,0,_,rfl,rfl,ht.same s2,rfl,.inl ⟨rfl,_,aB.of (s2 _ _ ha)⟩,_,rfl,a,_,_,rfl,rfl,aB.of (s2 _ _ ha),rfl,En _,_,_,rfl,rfl,?_⟩
    rw [Bb,Bb]
    refine⟨FP,ag.aJ s2 jO _,ab,?_⟩
    rw [abe,aai,aai]
    rfl
   ·obtain⟨s2,FP,rfl⟩:=p
    refine⟨D,_,_,rfl,rfl,s2 _ _ mn,fj (by omega),step _ D2 _ s2 jO ?_⟩
    rw [FP]
    unfold gD
    rw [if_neg e1]
 ·rintro σ H' ⟨o,vs,rfl,sm,mn,po,ap⟩
  rw [← zu,aba] at po
  exact⟨_,rfl,q _ _ sm ⟨D,vs,rfl,hD,mn,po⟩⟩
end
section
variable {P:aa4} {w:abu} {K:aaa} {mg:Str→Option aae} {base:Heap} {f:aaD} {fd:abo} {c:Cl}
theorem dD:ax ["row","found","number","rest","later"] ["row"] (aq qb):=⟨rfl,rfl,rfl,by decide +kernel,rfl,by decide +kernel,by decide +kernel⟩
theorem Dn (F:cY K "divisor" "divisor" qb f fd) (RC:mg "abs"=none):aY P w K mg base cS 1 f fd ["row"] Mm:=by
 refine F.ok dD (fun vs H Q E h=>?_) (fun cx A outer s H vs Q E hr h=>?_)
 ·obtain⟨a,r,rfl,_⟩:=h
  rfl
 obtain⟨a,r,rfl,ha,q⟩:=h
 refine⟨_,(ae (aA (i:=1) dD.nd rfl (aaQ rfl) aj)
 (ae (bI aaG rfl (aS (pv 0)) (aH (i:=2) dD.nd rfl (aaQ rfl))
 (ae (aA (i:=3) dD.nd rfl (aaQ rfl) (aE GI rfl RC PyProof.Rows.boot_abs (aa (pv 2) af)))
 (ah (iu aaG (au eU (pv 3) aj (aF _))
 (ae (aA (i:=4) dD.nd rfl (aaQ rfl) (aL gS (pv 1) (pv 3)))
 (ae (aA (i:=1) dD.nd rfl (aaQ rfl) (pv 3))
 (ah (aA (i:=3) dD.nd rfl (aaQ rfl) (pv 4)))))))))
 (ah (ay (pv 1))))),?_⟩
 refine⟨_,rfl,a,rfl,⟨_,aB.of ha⟩,bN (K:=K) (a:=a) (xs:=r.map V.int) (fun i σ H'=>H'=H∧∃o2 o3 o4,σ=[some (.ref a),some (.int (((r.take i).foldl (fun f n=>acp f n.natAbs) 0:Nat):Int)),o2,o3,o4])
  ⟨rfl,none,none,none,rfl⟩ (fun i σ H' _ ⟨e,_⟩=>by rw [e];exact aB.of ha) ?_ ?_⟩
 ·rintro i y σ H' hi ⟨rfl,o2,o3,o4,rfl⟩
  obtain⟨nN,ey⟩:=aK hi
  rw [Lm9] at nN
  rw [aa1] at ey
  subst ey
  have ts:(r.take (i+1)).foldl (fun f n=>acp f n.natAbs) 0=acp ((r.take i).foldl (fun f n=>acp f n.natAbs) 0) r[i].natAbs:=by
   rw [abY,Ge9 nN]
   show(r.take i++[r[i]]).foldl _ 0=_
   rw [ab1]
   rfl
  generalize (r.take i).foldl (fun f n=>acp f n.natAbs) 0=g at ts
  have ea:(if r[i]<0 then -r[i] else r[i])=((r[i].natAbs:Nat):Int):=by split <;> omega
  refine⟨_,rfl,_,rfl,?_⟩
  rw [ea]
  refine GD (fun σ H2=>H2=H'∧∃(a1 b1:Nat) (o4:Option V),σ=[some (.ref a),some (.int (a1:Int)),some (.int r[i]),some (.int (b1:Int)),o4]∧acp a1 b1=acp g r[i].natAbs) (fun(σ:St) _=>match σ[3]? with|some (some (V.int b))=>b.toNat|_=>0) ⟨rfl,g,r[i].natAbs,o4,rfl,rfl⟩ ?_ ?_
  ·rintro σ H2 ⟨rfl,a1,b1,o4,rfl,eg⟩
   refine⟨_,rfl,rfl,_,rfl,df (fun k=>?_) (fun k=>?_)⟩
   ·have hb:b1≠0:=fun z=>by
     rw [z] at k
     cases k
    have hp:(0:Int)<(b1:Int):=by omega
    refine⟨_,rfl,_,rfl,_,_,rfl,rfl,hp,_,rfl,_,rfl,⟨rfl,b1,a1 % b1,_,rfl,?_⟩,?_⟩
    ·rw [← eg,Nat.gcd_comm b1,← Nat.gcd_rec,Nat.gcd_comm]
    ·show((a1:Int) % (b1:Int)).toNat<(b1:Int).toNat
     have:=Nat.mod_lt a1 (adp hb)
     omega
   ·have hb:b1=0:=by
     by_cases z:b1=0
     ·exact z
     ·exact absurd (by rw [decide_eq_false fun y=>z (by have:=V.int.inj y;omega)];rfl) k
    refine⟨rfl,some (.int r[i]),some (.int (b1:Int)),o4,?_⟩
    rw [ts,← eg,hb,ad2]
  ·rintro σ H2 Q1 Q2 hm ⟨x,e1,h1,b,e2,h2⟩
   exact⟨x,e1,h1,b,e2,hm _ _ h2⟩
 ·rintro σ H' ⟨rfl,o2,o3,o4,rfl⟩
  rw [Lm9,aba]
  exact⟨_,rfl,q⟩
end
section
variable {P:aa4} {w:abu} {K:aaa} {mg:Str→Option aae} {base:Heap} {f:aaD} {fd:abo} {c:Cl}
theorem uA:ax ["row","common"] ["row"] (aq qc):=⟨rfl,rfl,rfl,by decide +kernel,rfl,by decide +kernel,by decide +kernel⟩
theorem Dp (F:cY K "slimmed" "slimmed" qc f fd) (qy:cV P w K mg base "divisor" 1 ["row"] Mm) (nK:mg "list"=none):aY P w K mg base cS 2 f fd ["row"] CZ:=by
 refine F.ok uA (fun vs H Q E h=>?_) (fun cx A outer s H vs Q E hr h=>?_)
 ·obtain⟨a,r,B,rfl,_⟩:=h
  rfl
 obtain⟨a,r,B,rfl,ha,hb,hB,hl,q⟩:=h
 refine⟨_,(ae (aA (i:=1) uA.nd rfl (ad0 rfl) (ao qy (hr.mono (by decide)) rfl (aa (pv 0) af)))
 (ae (aV (au cP (pv 1) aj (aF _))
 (ah (ay (fO xJ rfl nK PyProof.Rows.Boot.«list» (aa (pv 0) af))))
 aC)
 (ah (ay (b6 [1] rfl (by kernel_rfl) (aS (pv 0)) (fun _ _ _ _ _=>bp) (fun _ _ _ _ _=>(aL A2 (pv 0) (pv 1)))))))),?_⟩
 refine⟨_,rfl,a,r,rfl,ha,_,rfl,rfl,_,rfl,df (fun k=>?_) (fun k=>?_)⟩
 ·have e:La.cF r=0:=by
   have:=V.int.inj (of_decide_eq_true k)
   omega
  refine⟨_,rfl,a,_,rfl,.inl (aB.of ha),fun l hl=>q l _ (ak hl _) hl ?_⟩
  rw [ab]
  unfold La.slim
  rw [if_pos e]
 ·have e:¬ La.cF r=0:=fun z=>k (decide_eq_true (by rw [z];rfl))
  have hg:=La.N1 hb
  refine⟨_,rfl,a,rfl,⟨_,aB.of ha⟩,fun D hD=>?_⟩
  refine bZ (K:=K) (xs:=r.map V.int) (r.map fun(n:Int)=>n / ((La.cF r:Nat):Int)) (fun _ _ b y=>y=V.int b) (fun _ _ _ _ _ _ h=>h) (fun _ _ _ _ _ _ h=>h) (fj (by rw [Lm9];omega)) hD (aB.of ha) (by rw [Lm9,Lm9]) (fun i x b H2 R hx vh s2 hQ=>?_) (fun H2 zs s2 hL po=>?_)
  ·obtain⟨hi,ex⟩:=aK hx
   obtain⟨gH,eb⟩:=aK vh
   rw [aa1] at ex eb
   subst ex
   exact⟨_,rfl,_,rfl,_,_,rfl,rfl,⟨by omega,.inr (lg hg (by omega) (by decide))⟩,hQ _ _ (ag.refl _) (by rw [← eb])⟩
  ·rw [paired_ints po] at hL
   refine q D _ s2 hD ?_
   unfold La.slim
   rw [hL,if_neg e]
theorem Jp:ax ["times","row","other_times","other"] ["times","row","other_times","other"] (aq yp):=⟨rfl,rfl,rfl,by decide +kernel,rfl,by decide +kernel,by decide +kernel⟩
theorem Jq (F:cY K "mixed" "mixed" yp f fd) (RD:mg "zip"=none):aY P w K mg base cS 1 f fd ["times","row","other_times","other"] Er:=by
 refine F.ok Jp (fun vs H Q E h=>?_) (fun cx A outer s H vs Q E hr h=>?_)
 ·obtain⟨a,b,u,v,x,y,B,rfl,_⟩:=h
  rfl
 obtain⟨a,b,u,v,x,y,B,rfl,hu,hv,hl,hz,ha,hb,bx,byy,hB,q⟩:=h
 refine⟨_,(ah (ay (HV ["one","two"] [0,2] rfl (by kernel_rfl) (NL (pv 1) (pv 3) rfl RD PyProof.Rows.boot_zip rfl rfl) (fun _ _ _ _ _=>(id (α:=PG _ _ (JT K 2 (sG (jD 0) (sG (jD 1) JS)))) (fS rfl (a8 (aH (i:=0) (by exact(show(["one","two","times","other_times"]:List Str).Nodup by decide +kernel)) rfl (aaQ rfl)) (a8 (aH (i:=1) (by exact(show(["one","two","times","other_times"]:List Str).Nodup by decide +kernel)) rfl (aaQ rfl)) dI))))) (fun _ _ _ _ _=>bp) (fun _ _ _ _ _=>(aL d6 (aL sf (pv 2) (pv 0)) (aL sf (pv 3) (pv 1))))))),?_⟩
 refine⟨_,rfl,_,rfl,u,v,rfl,rfl,⟨_,aB.of hu⟩,⟨_,aB.of hv⟩,fun D hD=>?_⟩
 refine Iy (K:=K) (xs:=x.map V.int) (ys:=y.map V.int) x.length (by rw [Lm9]) (by rw [Lm9,hl]) (fj (by omega)) (fun i zs τ H'=>∃o0 o1,τ=[o0,o1,some (.int a),some (.int b)]∧ag H H'∧H' D=some (.lst zs)∧zs=(La.sj a (x.take i) b (y.take i)).map V.int)
  ⟨none,none,rfl,ak hD _,ab,by rw [acg];rfl⟩ (fun i zs τ H' ⟨_,_,_,sm,_⟩=>⟨aB.of (sm _ _ hu),aB.of (sm _ _ hv)⟩) (fun i zs τ H' ⟨_,_,_,_,h,e⟩=>⟨h,?_⟩) (fun i zs τ H' t v1 u1 hi p hv1 Yj ht=>?_) (fun zs τ H' p=>?_)
 ·unfold La.sj at e
  rw [e,Lm9,Lm9,List.length_zip,aaF]
  omega
 ·obtain⟨o0,o1,rfl,sm,mn,rfl⟩:=p
  have JK:i<y.length:=by omega
  rw [aaq,Ge9 hi] at hv1
  rw [aaq,Ge9 JK] at Yj
  obtain rfl:V.int x[i]=v1:=aaR hv1
  obtain rfl:V.int y[i]=u1:=aaR Yj
  have st:=ak ht (.tup [V.int x[i],V.int y[i]])
  refine⟨t,_,rfl,b8.of ab,rfl,_,_,rfl,_,_,rfl,rfl,?_⟩
  refine⟨_,rfl,_,rfl,_,_,rfl,rfl,⟨lg ha (by omega) (by decide),lg (bx _ (aas hi)) (by omega) (by decide)⟩,_,rfl,_,rfl,_,_,rfl,rfl,⟨lg hb (by omega) (by decide),lg (byy _ (aas JK)) (by omega) (by decide)⟩,_,_,rfl,rfl,st _ _ mn,_,_,rfl,ag.aJ (ag.trans sm st) hD _,ab,?_⟩
  unfold La.sj
  rw [abY,abY,Ge9 hi,Ge9 JK,aeQ (by rw [aaF,aaF];omega),aai,aai]
  rfl
 ·obtain⟨o0,o1,rfl,sm,mn,rfl⟩:=p
  rw [aba,hl,aba] at mn
  exact q D _ sm hD mn
theorem Dq:ax ["row","other","place"] ["row","other","place"] (aq qd):=⟨rfl,rfl,rfl,by decide +kernel,rfl,by decide +kernel,by decide +kernel⟩
theorem Dr (F:cY K "cleared" "cleared" qd f fd) (eo:cV P w K mg base "slimmed" 2 ["row"] CZ) (yZ:cV P w K mg base "mixed" 1 ["times","row","other_times","other"] Er):aY P w K mg base cS 3 f fd ["row","other","place"] Mn:=by
 refine F.ok Dq (fun vs H Q E h=>?_) (fun cx A outer s H vs Q E hr h=>?_)
 ·obtain⟨u,v,row,lead,p,B,rfl,_⟩:=h
  rfl
 obtain⟨u,v,row,lead,p,B,rfl,hu,hv,hl,hp,hz,br,bl,hB,q⟩:=h
 refine⟨_,(ah (ay (ao eo (hr.mono (by decide)) rfl (aa (ao yZ (hr.mono (by decide)) rfl (aa (aw az (pv 1) (pv 2) (fun _ _=>rfl)) (aa (pv 0) (aa (aL gQ aj (aw az (pv 0) (pv 2) (fun _ _=>rfl))) (aa (pv 1) af))))) af)))),?_⟩
 have gd:∀(r:List Int),p<r.length→qG (r.map V.int) (p:Int)=some (V.int (r.getD p 0)):=fun r h=>bf (by rw [aaq,Ge9 h,Gd9,Ge9 h];rfl)
 refine⟨_,rfl,_,rfl,v,_,_,_,rfl,rfl,aB.of hv,gd lead (by omega),_,rfl,_,rfl,_,rfl,u,_,_,_,rfl,rfl,aB.of hu,gd row hp,_,_,rfl,rfl,_,rfl,_,_,u,v,row,lead,B,rfl,hu,hv,hl,hz,bl.at p,La.nu (br.at p),br,bl,by omega,fun p1 H1 s1 n1 h1=>?_⟩
 refine⟨p1,_,2 * B+1,rfl,h1,La.CY (bl.at p) (La.nu (br.at p)) br bl,by omega,?_,fun p2 H2 s2 n2 h2=>q p2 H2 (ag.trans s1 s2) (s1.free n2) h2⟩
 rw [La.sk rfl hl.symm]
 exact hz
end
section
variable {P:aa4} {w:abu} {K:aaa} {mg:Str→Option aae} {base:Heap} {f:aaD} {fd:abo} {c:Cl}
theorem gK:ax ["_law_row","_law_numbers","_law_total","_law_at"] ["_law_row","_law_numbers"] (aq nD):=⟨rfl,rfl,rfl,by decide +kernel,rfl,by decide +kernel,by decide +kernel⟩
theorem BB (F:cY K "_law_sum" "_law_sum" nD f fd) (b7:mg "range"=none) (aW:mg "len"=none):aY P w K mg base cS 1 f fd ["_law_row","_law_numbers"] CV:=by
 refine F.ok gK (fun vs H Q E h=>?_) (fun cx A outer s H vs Q E hr h=>?_)
 ·obtain⟨a,b,xs,ys,rfl,_⟩:=h
  rfl
 obtain⟨a,b,xs,ys,rfl,ha,hb,hl,hz,hs,q⟩:=h
 refine⟨_,(ae (aA (i:=2) gK.nd rfl (aaQ rfl) aj)
 (ae (bI aaG rfl (cH rfl b7 (aa (aE av rfl aW aaH (aa (pv 0) af)) af)) (aH (i:=3) gK.nd rfl (aaQ rfl))
 (ah (aA (i:=2) gK.nd rfl (aaQ rfl) (aL d6 (pv 2) (aL GF (aw az (pv 0) (pv 3) (fun _ _=>rfl)) (aw az (pv 1) (pv 3) (fun _ _=>rfl)))))))
 (ah (ay (pv 2))))),?_⟩
 refine⟨_,rfl,a,_,rfl,.inl (aB.of ha),_,rfl,by rw [Lm9];omega,by rw [Lm9];omega,?_⟩
 have en:((((xs.map V.int).length:Nat):Int)).toNat=xs.length:=by rw [Lm9];omega
 rw [en]
 refine lW (lo:=0) (n:=xs.length) (fun i σ H'=>H'=H∧∃o3,σ=[some (.ref a),some (.ref b),some (.int (dot (xs.take i) (ys.take i))),o3]) ⟨rfl,none,by rw [acg];rfl⟩ ?_ ?_
 ·rintro i σ H' hi ⟨rfl,o3,rfl⟩
  have JK:i<ys.length:=by omega
  have i1:qG (xs.map V.int) (0+(i:Int))=some (V.int xs[i]):=by rw [adg];exact bf (by rw [aaq,Ge9 hi];rfl)
  have i2:qG (ys.map V.int) (0+(i:Int))=some (V.int ys[i]):=by rw [adg];exact bf (by rw [aaq,Ge9 JK];rfl)
  refine⟨_,rfl,_,rfl,_,rfl,a,_,_,_,rfl,rfl,aB.of ha,i1,_,rfl,_,rfl,b,_,_,_,rfl,rfl,aB.of hb,i2,_,_,rfl,rfl,.inl (hs _ (aas hi)),_,_,rfl,rfl,rfl,some (.int (0+(i:Int))),?_⟩
  rw [Iz hi JK]
  rfl
 ·rintro σ H' ⟨rfl,o3,rfl⟩
  rw [aba,hl,aba]
  exact⟨_,rfl,q _ (ag.refl _)⟩
end
section
variable {P:aa4} {w:abu} {K:aaa} {mg:Str→Option aae} {base:Heap} {f:aaD} {fd:abo} {c:Cl}
theorem mE:ax ["rows","place","width","sums"] ["rows","place","width"] (aq i6):=⟨rfl,rfl,rfl,by decide +kernel,rfl,by decide +kernel,by decide +kernel⟩
theorem vG (F:cY K "table_line" "table_line" i6 f fd) (b7:mg "range"=none):aY P w K mg base cS 1 f fd ["rows","place","width"] Mt:=by
 refine F.ok mE (fun vs H Q E h=>?_) (fun cx A outer s H vs Q E hr h=>?_)
 ·obtain⟨l,us,E,k,w,rfl,_⟩:=h
  rfl
 obtain⟨l,us,E,k,w,rfl,hl,pr,hE,hk,hz,hw,q⟩:=h
 refine⟨_,(ae (fF (i:=3) [1] mE.nd rfl (aaQ rfl) rfl (by kernel_rfl) (cH rfl b7 (aa (pv 2) af)) (fun _ _ _ _ _=>bp) (fun _ _ _ _ _=>(Af (au cP (pv 0) (pv 1) (aF _)) aj aj)))
 (ah (ay (aL jW (b6 [1] rfl (by kernel_rfl) (aS (pv 0)) (fun _ _ _ _ _=>bp) (fun _ _ _ _ _=>(aL gQ aj (aw (r:=Ck K) az (pv 0) (pv 1) (fun _ _=>rfl))))) (pv 3))))),?_⟩
 refine⟨_,rfl,_,rfl,by omega,by omega,fun D hD=>?_⟩
 rw [show((w:Nat):Int).toNat=w by omega]
 refine dz (lo:=0) (n:=w) (fj (by omega)) (fun i ys H2=>ag H H2∧H2 D=some (.lst ys)∧ys=((aal i).map fun o=>if o=k then (1:Int) else 0).map V.int) ⟨ak hD _,ab,rfl⟩ (fun i ys H2 p=>⟨p.2.1,by rw [p.2.2];simp⟩) (fun o ys H2 ho p=>?_) (fun ys H2 p=>?_)
 ·obtain⟨s2,jO,rfl⟩:=p
  rw [show(0:Int)+(o:Int)=(o:Int) by omega]
  have fin:∀x:Int,x=(if o=k then (1:Int) else 0)→ag H (upd H2 D (.lst ((((aal o).map fun o=>if o=k then (1:Int) else 0).map V.int)++[V.int x])))∧(upd H2 D (.lst ((((aal o).map fun o=>if o=k then (1:Int) else 0).map V.int)++[V.int x]))) D=some (.lst ((((aal o).map fun o=>if o=k then (1:Int) else 0).map V.int)++[V.int x]))∧((((aal o).map fun o=>if o=k then (1:Int) else 0).map V.int)++[V.int x])=((aal (o+1)).map fun o=>if o=k then (1:Int) else 0).map V.int:=fun x hx=>by
   refine⟨ag.aJ s2 hD _,ab,?_⟩
   rw [abe,aai,aai,hx]
   rfl
  refine⟨_,rfl,_,rfl,rfl,_,rfl,df (fun e=>?_) (fun e=>?_)⟩
  ·have e:o=k:=by
    have:=V.int.inj (of_decide_eq_true e)
    omega
   exact⟨jO,fin 1 (by rw [if_pos e])⟩
  ·have e:¬ o=k:=fun z=>e (decide_eq_true (by rw [z]))
   exact⟨jO,fin 0 (by rw [if_neg e])⟩
 ·obtain⟨s2,jO,rfl⟩:=p
  have zu:=aat pr
  refine⟨_,rfl,l,rfl,⟨_,aB.of (s2 _ _ hl)⟩,fun D2 FP=>?_⟩
  refine bZ (K:=K) (xs:=us) (E.map fun r=>0 - r.getD k 0) (fun _ _ b y=>y=V.int b) (fun _ _ _ _ _ _ h=>h) (fun _ _ _ _ _ _ h=>h) (fj (by omega)) FP (aB.of (s2 _ _ hl)) (by rw [Lm9];exact zu) (fun i x b H3 R hx hb s3 hQ=>?_) (fun H3 zs s3 hL po=>?_)
  ·obtain⟨hi,ex⟩:=aK hx
   obtain⟨gH,eb⟩:=aK hb
   rw [Lm9] at gH
   rw [aa1] at eb
   have hR:=paired_at pr i gH hi
   have mq:=hE _ (aas gH)
   rw [ex] at hR
   obtain⟨a,rfl,ha⟩:=hR
   generalize E[i]=r at mq ha eb
   have gd:qG (r.map V.int) (k:Int)=some (V.int (r.getD k 0)):=bf (by rw [aaq,Ge9 (by omega),Gd9,Ge9 (by omega)];rfl)
   refine⟨_,rfl,_,rfl,a,_,_,_,rfl,rfl,aB.of (s3 _ _ (s2 _ _ ha)),gd,_,_,rfl,rfl,hQ _ _ (ag.refl _) (by rw [← eb])⟩
  ·rw [paired_ints po] at hL
   refine⟨_,rfl,D2,D,_,_,rfl,rfl,hL,s3 _ _ jO,(by rw [Lm9,Lm9,Lm9,Lm9,aax];exact sz (by omega)),fun p hp=>?_⟩
   have RE:=ag.trans s2 s3
   refine q p _ (ag.trans RE (ak hp _)) (RE.free hp) ?_
   rw [ab,← aai]
   rfl
theorem gu:ax ["goal","column","number"] ["goal"] (aq g6):=⟨rfl,rfl,rfl,by decide +kernel,rfl,by decide +kernel,by decide +kernel⟩
theorem uB (F:cY K "first_above" "first_above" g6 f fd) (ba:mg "enumerate"=none):aY P w K mg base cS 1 f fd ["goal"] QI:=by
 refine F.ok gu (fun vs H Q E h=>?_) (fun cx A outer s H vs Q E hr h=>?_)
 ·obtain⟨a,g,rfl,_⟩:=h
  rfl
 obtain⟨a,g,rfl,ha,hl,q⟩:=h
 refine⟨_,(ae (bI aaG rfl (fH (pv 0) rfl ba abi) (fS rfl (a8 (aH (i:=1) gu.nd rfl (aaQ rfl)) (a8 (aH (i:=2) gu.nd rfl (aaQ rfl)) dI)))
 (ah (aV (au jU (pv 2) aj (aF _))
 (ah (ay (pv 1)))
 aC)))
 (ah (ay sF))),?_⟩
 refine⟨_,rfl,a,rfl,⟨_,aB.of ha⟩,fY (K:=K) (a:=a) (xs:=g.map V.int) (fun i σ H'=>∃o1 o2,σ=[some (.ref a),o1,o2]∧ag H H'∧∀j,j<i→g.getD j 0≤0)
  ⟨none,none,rfl,ag.refl _,fun j hj=>absurd hj (by omega)⟩ (fun i σ H' _ ⟨_,_,_,sm,_⟩=>aB.of (sm _ _ ha)) ?_ ?_⟩
 ·rintro i y σ H' t hi ⟨o1,o2,rfl,sm,hz⟩ ht
  obtain⟨nN,ey⟩:=aK hi
  rw [Lm9] at nN
  rw [aa1] at ey
  subst ey
  have st:=ak ht (.tup [.int (i:Int),.int g[i]])
  have eg:g.getD i 0=g[i]:=by rw [Gd9,Ge9 nN];rfl
  refine⟨t,_,rfl,b8.of ab,rfl,_,_,rfl,_,_,rfl,rfl,?_⟩
  refine⟨_,rfl,_,_,rfl,rfl,_,rfl,df (fun k=>?_) (fun k=>?_)⟩
  ·have hp:0<g.getD i 0:=by rw [eg];exact of_decide_eq_true k
   refine⟨_,rfl,?_⟩
   have y:=q _ (ag.trans sm st)
   rw [La.QH nN hp hz] at y
   exact y
  ·have hp:g.getD i 0≤0:=by
    rw [eg]
    exact afr.mp fun z=>k (decide_eq_true z)
   exact⟨_,_,rfl,ag.trans sm st,fun j hj=>by
    by_cases z:j=i
    ·rw [z];exact hp
    ·exact hz j (by omega)⟩
 ·rintro σ H' ⟨o1,o2,rfl,sm,hz⟩
  rw [Lm9] at hz
  have y:=q _ sm
  rw [La.Oa hz] at y
  exact y
theorem gv:ax ["lines","basis","column","found","place","line"] ["lines","basis","column"] (aq qg):=⟨rfl,rfl,rfl,by decide +kernel,rfl,by decide +kernel,by decide +kernel⟩
theorem Ds (F:cY K "leaving" "leaving" qg f fd) (ba:mg "enumerate"=none):aY P w K mg base cS 1 f fd ["lines","basis","column"] QJ:=by
 refine F.ok gv (fun vs H Q E h=>?_) (fun cx A outer s H vs Q E hr h=>?_)
 ·obtain⟨l,b,us,L,bs,col,n,rfl,_⟩:=h
  rfl
 obtain⟨l,b,us,L,bs,col,n,rfl,hl,pr,hb,U0,hz,hL,hc,q⟩:=h
 refine⟨_,(ae (aA (i:=3) gv.nd rfl (aaQ rfl) sF)
 (ae (bI aaG rfl (fH (pv 0) rfl ba abi) (fS rfl (a8 (aH (i:=4) gv.nd rfl (aaQ rfl)) (a8 (aH (i:=5) gv.nd rfl (aaQ rfl)) dI)))
 (ah (aV (PW.pt (gP (au jU (aw az (pv 5) (pv 2) (fun _ _=>rfl)) aj (aF _)) (fD (PW.pt (jS (au Ca (pv 3) sF (aF _)) (iM (au sJ (aw az (pv 1) (pv 4) (fun _ _=>rfl)) (aw az (pv 1) (pv 3) (fun _ _=>rfl)) (aF _))))))))
 (ah (aA (i:=3) gv.nd rfl (aaQ rfl) (pv 4)))
 aC)))
 (ah (ay (pv 3))))),?_⟩
 have zu:=aat pr
 refine⟨_,rfl,l,rfl,⟨_,aB.of hl⟩,fY (K:=K) (a:=l) (xs:=us) (fun i σ H'=>∃o1 o2,σ=[some (.ref l),some (.ref b),some (.int (col:Int)),some (Fw ((aal i).foldl (La.BZ L bs col) none)),o1,o2]∧ag H H')
  ⟨none,none,rfl,ag.refl _⟩ (fun i σ H' _ ⟨_,_,_,sm⟩=>aB.of (sm _ _ hl)) ?_ ?_⟩
 ·rintro i y σ H' t hi ⟨o1,o2,rfl,sm⟩ ht
  obtain⟨nN,ey⟩:=aK hi
  have xg:i<L.length:=by omega
  have hR:=paired_at pr i xg nN
  rw [ey] at hR
  obtain⟨a,rfl,ha⟩:=hR
  have yX:=hL _ (aas xg)
  have VX:La.li L i=L[i]:=by show L.getD i []=_;rw [Gd9,Ge9 xg];rfl
  have hf:=La.sr (L:=L) (b:=bs) (col:=col) i
  have st:=ak ht (.tup [.int (i:Int),.ref a])
  have nF:=ag.trans sm st
  rw [abe,ab1]
  generalize (aal i).foldl (La.BZ L bs col) none=o at hf ⊢
  have O4:∀j,j<L.length→qG (gc bs) (j:Int)=some (V.int ((La.bz bs j:Nat):Int)):=fun j hj=>bf (by
   show(bs.map fun(n:Nat)=>V.int (n:Int))[j]?=some (V.int ((bs.getD j 0:Nat):Int))
   rw [aaq,Ge9 (by omega),Gd9,Ge9 (by omega)];rfl)
  have gd:qG (L[i].map V.int) (col:Int)=some (V.int ((La.li L i).getD col 0)):=bf (by rw [VX,aaq,Ge9 (by omega),Gd9,Ge9 (by omega)];rfl)
  refine⟨t,_,rfl,b8.of ab,rfl,_,_,rfl,_,_,rfl,rfl,?_⟩
  refine⟨_,rfl,_,rfl,a,_,_,_,rfl,rfl,aB.of (nF _ _ ha),gd,_,_,rfl,rfl,_,rfl,?_⟩
  have jP:¬ (0<(La.li L i).getD col 0∧∀c,o=some c→La.bz bs i<La.bz bs c)→∃o1' VY,([some (V.ref l),some (V.ref b),some (V.int (col:Int)),some (Fw o),some (V.int (i:Int)),some (V.ref a)]:St)=[some (V.ref l),some (V.ref b),some (V.int (col:Int)),some (Fw (adK (La.BZ L bs col) o [i])),o1',VY]∧ag H (upd H' t (.tup [.int (i:Int),.ref a])):=fun z=>by
   refine⟨some (V.int (i:Int)),some (V.ref a),?_,nF⟩
   have e:adK (La.BZ L bs col) o [i]=o:=by show La.BZ L bs col o i=o;unfold La.BZ;rw [if_neg z]
   rw [e]
  have go:(0<(La.li L i).getD col 0∧∀c,o=some c→La.bz bs i<La.bz bs c)→∃o1' VY,([some (V.ref l),some (V.ref b),some (V.int (col:Int)),some (V.int (i:Int)),some (V.int (i:Int)),some (V.ref a)]:St)=[some (V.ref l),some (V.ref b),some (V.int (col:Int)),some (Fw (adK (La.BZ L bs col) o [i])),o1',VY]∧ag H (upd H' t (.tup [.int (i:Int),.ref a])):=fun z=>by
   refine⟨some (V.int (i:Int)),some (V.ref a),?_,nF⟩
   have e:adK (La.BZ L bs col) o [i]=some i:=by show La.BZ L bs col o i=some i;unfold La.BZ;rw [if_pos z]
   rw [e]
   rfl
  refine df (fun k=>?_) (fun k=>?_)
  ·have k:0<(La.li L i).getD col 0:=of_decide_eq_true k
   refine⟨_,rfl,rfl,_,rfl,?_⟩
   cases o with
   | none=>exact⟨_,rfl,go ⟨k,fun c e=>nomatch e⟩⟩
   | some c =>
    have Xq:=hf.1
    refine⟨_,rfl,_,rfl,b,_,_,_,rfl,rfl,aB.of (nF _ _ hb),O4 i xg,_,rfl,_,rfl,b,_,_,_,rfl,rfl,aB.of (nF _ _ hb),O4 c (by omega),_,_,rfl,rfl,_,rfl,df (fun k2=>?_) (fun k2=>?_)⟩
    ·have k2:=of_decide_eq_true k2
     exact⟨_,rfl,go ⟨k,fun d e=>by cases e;omega⟩⟩
    ·exact jP fun z=>k2 (decide_eq_true (by have:=z.2 c rfl;omega))
  ·exact jP fun z=>k (decide_eq_true z.1)
 ·rintro σ H' ⟨o1,o2,rfl,sm⟩
  rw [← zu]
  exact⟨_,rfl,q _ sm⟩
end
section
variable {P:aa4} {w:abu} {K:aaa} {mg:Str→Option aae} {base:Heap} {f:aaD} {fd:abo} {c:Cl}
theorem dG:ax ["lines","basis","column","count","times","place","line","grown"] ["lines","basis","column","count"] (aq uc):=⟨rfl,rfl,rfl,by decide +kernel,rfl,by decide +kernel,by decide +kernel⟩
theorem FQ (F:cY K "way_on" "way_on" uc f fd) (ba:mg "enumerate"=none) (b7:mg "range"=none):aY P w K mg base cS 1 f fd ["lines","basis","column","count"] Mu:=by
 refine F.ok dG (fun vs H Q E h=>?_) (fun cx A outer s H vs Q E hr h=>?_)
 ·obtain⟨l,b,us,T,s,cnt,n,w,L0,g0,rfl,_⟩:=h
  rfl
 obtain⟨l,b,us,T,s,cnt,n,w,L0,g0,rfl,hl,pr,hb,t,hB,hs,DS,Xr,hn,hw,q⟩:=h
 have hu:=An hr
 refine⟨_,(ae (aA (i:=4) dG.nd rfl (aaQ rfl) aj)
 (ae (bI aaG rfl (fH (pv 0) rfl ba abi) (fS rfl (a8 (aH (i:=5) dG.nd rfl (aaQ rfl)) (a8 (aH (i:=6) dG.nd rfl (aaQ rfl)) dI)))
 (ah (aA (i:=4) dG.nd rfl (aaQ rfl) (aL sf (pv 4) (aw az (pv 6) (aw az (pv 1) (pv 5) (fun _ _=>rfl)) (fun _ _=>rfl))))))
 (ae (aA (i:=7) dG.nd rfl (ad0 rfl) (Kq (Ha (pv 2) (pv 4) Ko) rfl rfl (by decide) (by decide)))
 (ae (bI aaG rfl (fH (pv 0) rfl ba abi) (fS rfl (a8 (aH (i:=5) dG.nd rfl (aaQ rfl)) (a8 (aH (i:=6) dG.nd rfl (aaQ rfl)) dI)))
 (ah (xP hu (pv 7) (aw az (pv 1) (pv 5) (fun _ _=>rfl)) (aL gQ aj (aL sf (aw az (pv 6) (pv 2) (fun _ _=>rfl)) (aL A2 (pv 4) (aw az (pv 6) (aw az (pv 1) (pv 5) (fun _ _=>rfl)) (fun _ _=>rfl))))) rfl)))
 (ah (ay (b6 [7] rfl (by kernel_rfl) (cH rfl b7 (aa (pv 3) af)) (fun _ _ _ _ _=>bp) (fun _ _ _ _ _=>(iz hu (pv 1) (pv 0) aj ⟨rfl,rfl,rfl,rfl⟩))))))))),?_⟩
 have zu:=aat pr
 have hLl:T.L.length=w:=t.ll
 have O4:∀j,j<w→qG (gc T.b) (j:Int)=some (V.int ((La.bz T.b j:Nat):Int)):=fun j hj=>bf (by
  have:=t.bl
  show(T.b.map fun(n:Nat)=>V.int (n:Int))[j]?=some (V.int ((T.b.getD j 0:Nat):Int))
  rw [aaq,Ge9 (by omega),Gd9,Ge9 (by omega)];rfl)
 have RG:∀i (hi:i<us.length),∃a,us[i]=.ref a∧H a=some (.lst ((La.li T.L i).map V.int)):=fun i hi=>by
  have hR:=paired_at pr i (by omega) hi
  obtain⟨a,e,ha⟩:=hR
  refine⟨a,e,?_⟩
  rw [ha]
  show _=some (HO.lst ((T.L.getD i []).map V.int))
  rw [Gd9,Ge9 (by omega)]
  rfl
 have VZ:∀i j,i<w→j<n→qG ((La.li T.L i).map V.int) (j:Int)=some (V.int ((La.li T.L i).getD j 0)):=fun i j hi hj=>bf (by
  have:=t.Gm hi
  rw [aaq,Ge9 (by omega),Gd9,Ge9 (by omega)];rfl)
 have bd:∀i j,i<w→((La.li T.L i).getD j 0).natAbs≤2 ^ 95:=fun i j hi=>(hB _ (La.dC (by omega))).at j
 refine⟨_,rfl,l,rfl,⟨_,aB.of hl⟩,fY (K:=K) (a:=l) (xs:=us) (fun i σ H'=>∃o1 o2 o3,σ=[some (.ref l),some (.ref b),some (.int (s:Int)),some (.int (cnt:Int)),some (.int ((aal i).foldl (fun t i=>t * (La.li T.L i).getD (La.bz T.b i) 0) 1)),o1,o2,o3]∧ag H H'∧((aal i).foldl (fun t i=>t * (La.li T.L i).getD (La.bz T.b i) 0) 1).natAbs≤2 ^ (95 * i))
  ⟨none,none,none,rfl,ag.refl _,aaf _⟩ (fun i σ H' _ ⟨_,_,_,_,sm,_⟩=>aB.of (sm _ _ hl)) ?_ ?_⟩
 ·rintro i y σ H' t2 hi ⟨o1,o2,o3,rfl,sm,Gq⟩ ht
  obtain⟨nN,ey⟩:=aK hi
  obtain⟨a,ea,ha⟩:=RG i nN
  rw [ea] at ey
  subst ey
  have xh:i<w:=by omega
  have st:=ak ht (.tup [.int (i:Int),.ref a])
  have nF:=ag.trans sm st
  rw [abe,ab1]
  generalize (aal i).foldl (fun t i=>t * (La.li T.L i).getD (La.bz T.b i) 0) 1=tm at Gq ⊢
  have b1:=bd i (La.bz T.b i) xh
  refine⟨t2,_,rfl,b8.of ab,rfl,_,_,rfl,_,_,rfl,rfl,?_⟩
  refine⟨_,rfl,_,rfl,_,rfl,_,rfl,b,_,_,_,rfl,rfl,aB.of (nF _ _ hb),O4 i xh,a,_,_,_,rfl,rfl,aB.of (nF _ _ ha),VZ i _ xh (t.bn i xh),_,_,rfl,rfl,⟨lg Gq (by omega) (by decide),lg b1 (by decide) (by decide)⟩,?_⟩
  refine⟨_,_,_,rfl,nF,?_⟩
  show(tm * (La.li T.L i).getD (La.bz T.b i) 0).natAbs≤_
  rw [abZ,Nat.mul_add,aep]
  exact acZ Gq b1
 ·rintro σ H1 ⟨o1,o2,o3,rfl,sm,Gq⟩
  rw [← zu] at Gq ⊢
  have eT:(aal T.L.length).foldl (fun t i=>t * (La.li T.L i).getD (La.bz T.b i) 0) 1=La.bS T.L T.b:=rfl
  rw [eT] at Gq ⊢
  have ht:=t.times
  intro G hG
  have Yk:95 * T.L.length≤475:=by omega
  replace Gq:(La.bS T.L T.b).natAbs≤2 ^ 475:=aa5 Gq (abU (by decide) Yk)
  refine⟨_,rfl,_,rfl,ab,[(ac3 (s:Int),V.int (La.bS T.L T.b))],rfl,(by show 1≤15;decide),?_⟩
  have V0:=sm.free hG
  have sg:=ag.aJ (ag.aJ sm V0 (.dK [])) V0 (.dK (dq [] [(ac3 (s:Int),V.int (La.bS T.L T.b))]))
  refine⟨_,rfl,l,rfl,⟨_,aB.of (sg _ _ hl)⟩,fY (K:=K) (a:=l) (xs:=us) (fun i σ H'=>∃(o1 o2:Option V) (kvs:List (Key × V)),σ=[some (.ref l),some (.ref b),some (.int (s:Int)),some (.int (cnt:Int)),some (.int (La.bS T.L T.b)),o1,o2,some (.ref G)]∧ag H H'∧H' G=some (.dK kvs)∧kvs.length≤i+1∧bc kvs (ac3 (s:Int))=some (.int (La.bS T.L T.b)) ∧
   (∀k,k<i→bc kvs (ac3 ((La.bz T.b k:Nat):Int))=some (.int (0 - (La.li T.L k).getD s 0 * (La.bS T.L T.b / (La.li T.L k).getD (La.bz T.b k) 0))))∧∀j:Nat,j≠s→(∀k,k<i→La.bz T.b k≠j)→bc kvs (ac3 (j:Int))=none)
   ⟨_,_,_,rfl,sg,ab,aaf _,cn rfl,fun k hk=>absurd hk (by omega),fun j hj _=>cq (p:=(ac3 (s:Int),V.int (La.bS T.L T.b))) fun e=>hj (by have:=aeg e;omega)⟩ (fun i σ H' _ ⟨_,_,_,_,sm,_⟩=>aB.of (sm _ _ hl)) ?_ ?_⟩
  ·rintro i y σ H' t2 hi ⟨o1,o2,kvs,rfl,sm,SY,Qj,V1,ME,S0⟩ ka
   obtain⟨nN,ey⟩:=aK hi
   obtain⟨a,ea,ha⟩:=RG i nN
   rw [ea] at ey
   subst ey
   have xh:i<w:=by omega
   have st:=ak ka (.tup [.int (i:Int),.ref a])
   have nF:=ag.trans sm st
   have hd:=t.dg i xh
   have hq:(La.bS T.L T.b / (La.li T.L i).getD (La.bz T.b i) 0).natAbs≤2 ^ 475:=by
    obtain⟨c,hc⟩:=ht.2 i xh
    rw [hc,abK _ (by omega)]
    refine aa5 ?_ Gq
    rw [hc,abZ]
    exact adv _ (by omega)
   refine⟨t2,_,rfl,b8.of ab,rfl,_,_,rfl,_,_,rfl,rfl,?_⟩
   refine⟨_,rfl,_,rfl,a,_,_,_,rfl,rfl,aB.of (nF _ _ ha),VZ i s xh hs,_,rfl,_,rfl,_,rfl,_,rfl,b,_,_,_,rfl,rfl,aB.of (nF _ _ hb),O4 i xh,a,_,_,_,rfl,rfl,aB.of (nF _ _ ha),VZ i _ xh (t.bn i xh),_,_,rfl,rfl,⟨hd,.inr (lg (bd i _ xh) (by decide) (by decide))⟩,_,_,rfl,rfl,⟨lg (bd i s xh) (by decide) (by decide),lg hq (by decide) (by decide)⟩,_,_,rfl,rfl,?_⟩
   refine⟨_,rfl,_,rfl,_,rfl,b,_,_,_,rfl,rfl,aB.of (nF _ _ hb),O4 i xh,G,_,rfl,Cu.k (k:=ac3 ((La.bz T.b i:Nat):Int)) (st _ _ SY) (fj (by omega)),?_⟩
   refine⟨_,_,_,rfl,ag.aJ nF V0 _,ab,aa5 (fg ..) (by omega),?_,fun k hk=>?_,fun j hj hne=>?_⟩
   ·rw [nZ,if_neg fun e=>DS i xh (by have:=aeg e;omega)]
    exact V1
   ·by_cases z:k=i
    ·subst z
     rw [nZ,if_pos rfl]
    ·rw [nZ,if_neg fun e=>z (t.inj (by omega) xh (by have:=aeg e;omega))]
     exact ME k (by omega)
   ·rw [nZ,if_neg fun e=>hne i (by omega) (by have:=aeg e;omega)]
    exact S0 j hj fun k hk=>hne k (by omega)
  ·rintro σ H2 ⟨o1,o2,kvs,rfl,nF,SY,_,V1,ME,S0⟩
   rw [← zu,hLl] at ME S0
   have vat:∀j,j<n→(bc kvs (ac3 ((j:Nat):Int))).getD (V.int 0)=V.int ((La.cv n T.L T.b s).getD j 0):=fun j hj=>by
    by_cases e:j=s
    ·rw [e,V1,La.oB hs]
     rfl
    ·by_cases vh:∃k,k<w∧La.bz T.b k=j
     ·obtain⟨k,hk,rfl⟩:=vh
      rw [ME k hk,t.tZ hk e]
      rfl
     ·rw [S0 j e fun k hk z=>vh ⟨k,hk,z⟩,La.oC hj e fun k hk z=>vh ⟨k,by omega,z⟩]
      rfl
   clear Gq Yk
   refine⟨_,rfl,_,rfl,by omega,by omega,fun D hD=>?_⟩
   rw [show((cnt:Nat):Int).toNat=cnt by omega]
   refine dz (lo:=0) (n:=cnt) (fj (by omega)) (fun i ys H3=>ag H2 H3∧H3 D=some (.lst ys)∧ys=((La.cv n T.L T.b s).take i).map V.int) ⟨ak hD _,ab,rfl⟩ (fun i ys H3 p=>⟨p.2.1,by rw [p.2.2,Lm9,aaF];omega⟩) (fun j ys H3 hj p=>?_) (fun ys H3 p=>?_)
   ·obtain⟨s3,FP,rfl⟩:=p
    rw [show(0:Int)+(j:Int)=(j:Int) by omega]
    refine⟨_,rfl,G,rfl,.inl ⟨_,.inl (s3 _ _ SY)⟩,_,rfl,_,iy.k (k:=ac3 (j:Int)) (s3 _ _ SY),FP,ag.aJ s3 hD _,ab,?_⟩
    rw [vat j (by omega),abY,aai,Gd9,Ge9 (by rw [La.dj];omega)]
    rfl
   ·obtain⟨s3,FP,rfl⟩:=p
    exact q D _ (ag.trans nF s3) (nF.free hD) FP
end
section
variable {P:aa4} {w:abu} {K:aaa} {mg:Str→Option aae} {base:Heap} {f:aaD} {fd:abo} {c:Cl}
theorem aX:ax ["rows","width","count","lines","basis","goal","column","chosen","pivot"] ["rows","width"] (aq d8):=⟨rfl,rfl,rfl,by decide +kernel,rfl,by decide +kernel,by decide +kernel⟩
theorem oO (F:cY K "falls_or_round" "falls_or_round" d8 f fd) (ju:cV P w K mg base "table_line" 1 ["rows","place","width"] Mt) (ik:cV P w K mg base "first_above" 1 ["goal"] QI) (qz:cV P w K mg base "leaving" 1 ["lines","basis","column"] QJ) (uC:cV P w K mg base "way_on" 1 ["lines","basis","column","count"] Mu) (eo:cV P w K mg base "slimmed" 2 ["row"] CZ) (mj:cV P w K mg base "cleared" 3 ["row","other","place"] Mn)
  (aW:mg "len"=none) (b7:mg "range"=none) (ba:mg "enumerate"=none):aY P w K mg base cS 4 f fd ["rows","width"] Mv:=by
 refine F.ok aX (fun vs H Q E h=>?_) (fun cx A outer s H vs Q E hr h=>?_)
 ·obtain⟨l,us,E,w,rfl,_⟩:=h
  rfl
 obtain⟨l,us,E,w,rfl,hl,pr,hE,hB,hz,hw,q⟩:=h
 refine⟨_,(ae (aA (i:=2) aX.nd rfl (ad0 rfl) (aE av rfl aW aaH (aa (pv 0) af)))
 (ae (fF (i:=3) [0,1] aX.nd rfl (aaQ rfl) rfl (by kernel_rfl) (cH rfl b7 (aa (pv 1) af)) (fun _ _ _ _ _=>bp) (fun _ _ _ _ _=>(ao ju (hr.mono (by decide)) rfl (aa (pv 1) (aa (pv 0) (aa (pv 2) af))))))
 (ae (fF (i:=4) [2] aX.nd rfl (aaQ rfl) rfl (by kernel_rfl) (cH rfl b7 (aa (pv 1) af)) (fun _ _ _ _ _=>bp) (fun _ _ _ _ _=>(aL d6 (pv 1) (pv 0))))
 (ae (aA (i:=5) aX.nd rfl (aaQ rfl) (aL jW (aL xK (bF (aa aj af)) (pv 2)) (aL xK (bF (aa aj af)) (pv 1))))
 (ah (iu aaG (bV d5)
 (ae (aA (i:=6) aX.nd rfl (ad0 rfl) (ao ik (hr.mono (by decide)) rfl (aa (pv 5) af)))
 (ae (aV (au Ca (pv 6) sF (aF _))
 (ah (ay (cX (aa aM (aa (ao eo (hr.mono (by decide)) rfl (aa (b6 [] rfl (by kernel_rfl) (aS (dN iO (pv 5) (dM (pv 2)) iN)) (fun _ _ _ _ _=>bp) (fun _ _ _ _ _=>(aL gQ aj (pv 0)))) af)) af)))))
 aC)
 (ae (aA (i:=7) aX.nd rfl (ad0 rfl) (ao qz (hr.mono (by decide)) rfl (aa (pv 3) (aa (pv 4) (aa (pv 6) af)))))
 (ae (aV (au Ca (pv 7) sF (aF _))
 (ah (ay (cX (aa aM (aa (ao eo (hr.mono (by decide)) rfl (aa (ao uC (hr.mono (by decide)) rfl (aa (pv 3) (aa (pv 4) (aa (pv 6) (aa (pv 2) af))))) af)) af)))))
 aC)
 (ae (aA (i:=8) aX.nd rfl (ad0 rfl) (aw az (pv 3) (pv 7) (fun _ _=>rfl)))
 (ae (aA (i:=5) aX.nd rfl (aaQ rfl) (ao mj (hr.mono (by decide)) rfl (aa (pv 5) (aa (pv 8) (aa (pv 6) af)))))
 (ae (Bt (i:=3) ["place","line"] [7,8,6] aX.nd rfl (aaQ rfl) rfl (by kernel_rfl) (fH (pv 3) rfl ba abi) (fun _ _ _ _ _=>(id (α:=PG _ _ (JT K 2 (sG (jD 0) (sG (jD 1) JS)))) (fS rfl (a8 (aH (i:=0) (by exact(show(["place","line","chosen","pivot","column"]:List Str).Nodup by decide +kernel)) rfl (aaQ rfl)) (a8 (aH (i:=1) (by exact(show(["place","line","chosen","pivot","column"]:List Str).Nodup by decide +kernel)) rfl (aaQ rfl)) dI))))) (fun _ _ _ _ _=>bp) (fun _ _ _ _ _=>(Af (au cP (pv 0) (pv 2) (aF _)) (pv 3) (ao mj (hr.mono (by decide)) rfl (aa (pv 1) (aa (pv 3) (aa (pv 4) af)))))))
 (ah (B6 (pv 6) (GA (pv 4) (pv 7) set_list)))))))))))))))),?_⟩
 have zu:=aat pr
 refine⟨_,rfl,l,_,rfl,.inl (aB.of hl),?_⟩
 refine⟨_,rfl,_,rfl,by omega,by omega,fun ll RH=>?_⟩
 rw [← zu,show((w:Nat):Int).toNat=w by omega]
 refine dz (lo:=0) (n:=w) (fj (by omega)) (fun i ys H2=>ag H H2∧H2 ll=some (.lst ys)∧Paired (fun r v=>ki H2 r v∧v≠.ref ll) ((aal i).map (La.mv E w)) ys) ⟨ak RH _,ab,.nil⟩ (fun i ys H2 p=>⟨p.2.1,by rw [← aat p.2.2,Lm9,aax];exact aaf _⟩) (fun k ys H2 hk p=>?_) (fun ys H2 p=>?_)
 ·obtain⟨s2,jO,po⟩:=p
  rw [show(0:Int)+(k:Int)=(k:Int) by omega]
  refine⟨_,rfl,_,rfl,_,rfl,l,us,E,k,w,rfl,s2 _ _ hl,L2.Paired.cj pr fun _ _ h=>h.same s2,hE,hk,by omega,by omega,fun p H3 s3 n3 h3=>⟨s3 _ _ jO,ag.aJ (ag.trans s2 s3) RH _,ab,?_⟩⟩
  have pl:p≠ll:=fun z=>by rw [z,jO] at n3;cases n3
  rw [abe,aai]
  refine adz (cZ po fun r v hv h=>?_) ⟨⟨p,rfl,by rw [ar pl];exact h3⟩,fun z=>pl (V.ref.inj z)⟩
  obtain⟨⟨a,rfl,ha⟩,hne⟩:=h
  exact⟨⟨a,rfl,by rw [ar fun z=>hne (by rw [z])];exact s3 _ _ ha⟩,hne⟩
 ·obtain⟨s2,QT,po⟩:=p
  refine⟨_,rfl,_,rfl,by omega,by omega,fun bb Dt=>?_⟩
  rw [show((w:Nat):Int).toNat=w by omega]
  refine dz (lo:=0) (n:=w) (fj (by omega)) (fun i zs H3=>ag H2 H3∧H3 bb=some (.lst zs)∧zs=gc (La.IM E.length i)) ⟨ak Dt _,ab,rfl⟩ (fun i zs H3 p=>⟨p.2.1,by rw [p.2.2];simp [gc,La.IM]⟩) (fun k zs H3 hk p=>?_) (fun zs H3 p=>?_)
  ·obtain⟨s3,FP,rfl⟩:=p
   rw [show(0:Int)+(k:Int)=(k:Int) by omega]
   refine⟨_,rfl,_,rfl,_,_,rfl,rfl,FP,ag.aJ s3 Dt _,ab,?_⟩
   unfold gc La.IM
   rw [abe,aai,aai]
   rfl
  ·obtain⟨s3,PM,rfl⟩:=p
   refine⟨(by show 1≤aao;decide),fun p1 EE=>?_⟩
   refine⟨_,rfl,p1,_,_,rfl,rfl,ab,by omega,by omega,sz (by show 1 * _≤_;omega),fun p2 Au=>?_⟩
   refine⟨(by show 1≤aao;decide),fun p3 Gs=>?_⟩
   refine⟨_,rfl,p3,_,_,rfl,rfl,ab,by omega,by omega,sz (by show 1 * _≤_;omega),fun p4 MH=>?_⟩
   have x1:=ak EE (.lst [V.int 1])
   have x2:=ak Au (.lst (aam (((E.length:Nat):Int)).toNat [V.int 1]).flatten)
   have x3:=ak Gs (.lst [V.int 0])
   have x4:=ak MH (.lst (aam (((w:Nat):Int)).toNat [V.int 0]).flatten)
   refine⟨p2,p4,_,_,rfl,rfl,x4 _ _ (x3 _ _ ab),ab,?_,fun gg V2=>?_⟩
   ·rw [t9,t9,Lm9,Lm9,aaU,aaU]
    exact sz (by omega)
   have x5:=ak V2 (.lst ((aam (((E.length:Nat):Int)).toNat [V.int 1]).flatten++(aam (((w:Nat):Int)).toNat [V.int 0]).flatten))
   have RJ:=ag.trans (ag.trans (ag.trans x1 x2) (ag.trans x3 x4)) x5
   have sA:=ag.trans (ag.trans s2 s3) RJ
   have Yl:H bb=none:=s2.free Dt
   have RK:ll≠bb:=fun z=>by rw [← z,QT] at Dt;cases Dt
   have RL:=RJ _ _ PM
   have Ym:gg≠bb:=fun z=>by
    have:=(ag.trans (ag.trans x1 x2) (ag.trans x3 x4)) _ _ PM
    rw [← z,V2] at this
    cases this
   refine⟨Mw H l E w,⟨_,0,ll,bb,gg,ys,_,_,_,rfl,fun k hk=>absurd hk (by omega),rfl,sA,Yl,RJ _ _ (s3 _ _ QT),RK,?_,RL,?_,Ym⟩,?_⟩
   ·refine cZ po fun r v hv h=>?_
    obtain⟨⟨a,rfl,ha⟩,_⟩:=h
    exact⟨⟨a,rfl,RJ _ _ (s3 _ _ ha)⟩,fun z=>by rw [V.ref.inj z,Dt] at ha;cases ha⟩
   ·rw [ab,t9,t9,← aai]
    show _=some (HO.lst ((La.nP E.length w).map V.int))
    unfold La.nP
    rw [show((E.length:Nat):Int).toNat=E.length by omega,show((w:Nat):Int).toNat=w by omega]
   clear RL Ym RK Yl sA RJ x5 x4 x3 x2 x1 V2 EE Au Gs MH PM Dt s3 QT po s2
   rintro m' σ H' ⟨m,ll,bb,gg,ys,o6,o7,o8,rfl,wn,rfl,I⟩
   have t:=La.kj wn m (aaf _)
   have few:=La.oH wn
   have RM:=La.Bo wn
   have O5:=La.C8 hB hw t
   have V3:=La.t7 hB hw t RM
   generalize eT:La.pZ (La.T0 E w) m=T at t RM O5 V3 I
   refine⟨_,rfl,?_⟩
   refine fE ⟨fun σ' H2=>∃m',m'<(E.length+w) ^ w - m∧Mw H l E w m' σ' H2,fun σ' H2 z=>z,?_⟩
   refine⟨_,rfl,gg,T.g,rfl,I.hg,by rw [t.gl];omega,fun H1 s1=>?_⟩
   have I:=I.same s1
   refine⟨_,rfl,rfl,_,rfl,?_⟩
   cases e1:La.fa T.g with
   | none =>
    have uD:=La.p8 wn (by rw [eT];exact .inl e1)
    rw [eT] at uD
    have eb:La.mw E w=true:=by unfold La.mw;rw [uD,e1];rfl
    have er:La.km E w=La.qV E.length T.g:=by unfold La.km;rw [uD,e1]
    rw [eb,er] at q
    refine⟨_,rfl,_,rfl,_,rfl,gg,_,rfl,aB.of I.hg,fun g2 Ur=>?_⟩
    rw [nY (by rw [Lm9,t.gl];omega),← afi]
    have x1:=ak Ur (.lst ((T.g.drop E.length).map V.int))
    refine⟨g2,rfl,⟨_,aB.of ab⟩,fun D hD=>?_⟩
    refine bZ (K:=K) (xs:=(T.g.drop E.length).map V.int) ((T.g.drop E.length).map fun n=>0 - n) (fun _ _ b y=>y=V.int b) (fun _ _ _ _ _ _ h=>h) (fun _ _ _ _ _ _ h=>h) (fj (by rw [Lm9,aa9,t.gl];omega)) hD (aB.of ab) (by rw [Lm9,Lm9]) (fun i x b H3 R hx hb s3 hQ=>?_) (fun H3 zs s3 hL po=>?_)
    ·obtain⟨hi,ex⟩:=aK hx
     obtain⟨gH,eb⟩:=aK hb
     rw [aa1] at ex eb
     subst ex
     exact⟨_,rfl,_,_,rfl,rfl,hQ _ _ (ag.refl _) (by rw [← eb])⟩
    ·rw [paired_ints po] at hL
     refine⟨D,_,95,rfl,hL,fun x hx=>?_,by decide,by rw [Lm9,aa9,t.gl];omega,fun p H4 s4 n4 h4=>?_⟩
     ·obtain⟨y,hy,rfl⟩:=aah.mp hx
      exact La.nu (V3 y (ach hy))
     ·have sA:=ag.trans I.sm (ag.trans x1 (ag.trans s3 s4))
      have sB:=ag.trans I.sm (ag.trans x1 s3)
      refine⟨(by show 2≤aao;decide),fun t2 ka=>?_⟩
      have x5:=ak ka (.tup [gJ true,.ref p])
      exact q t2 p _ (ag.trans sA x5) (sA.free ka) (sB.free n4) ab (x5 _ _ h4)
   | some s =>
    have hs:s<E.length+w:=by rw [← t.gl];exact(La.fJ e1).1
    have DS:∀i,i<w→La.bz T.b i≠s:=fun i hi e=>by
     have h1:=t.gz i hi
     have h2:=(La.fJ e1).2.1
     rw [e] at h1
     omega
    refine⟨_,rfl,_,rfl,_,rfl,ll,bb,ys,T.L,T.b,s,E.length+w,rfl,I.hl,L2.Paired.cj I.po fun _ _ h=>h.1,I.hb,by rw [t.ll];exact t.bl,by rw [t.ll];omega,t.ln,hs,fun H2 s2=>?_⟩
    have I:=I.same s2
    refine⟨_,rfl,rfl,_,rfl,?_⟩
    cases e2:La.lv T.L T.b s with
    | none =>
     have uD:=La.p8 wn (by rw [eT];exact .inr ⟨s,e1,e2⟩)
     rw [eT] at uD
     have eb:La.mw E w=false:=by unfold La.mw;rw [uD,e1];rfl
     have er:La.km E w=La.g5 E.length (E.length+w) T s:=by unfold La.km;rw [uD,e1]
     rw [eb,er] at q
     refine⟨_,rfl,_,rfl,_,rfl,_,rfl,ll,bb,ys,T,s,E.length,E.length+w,w,_,_,rfl,I.hl,L2.Paired.cj I.po fun _ _ h=>h.1,I.hb,t,O5,hs,DS,by omega,by omega,hw,fun p H3 s3 n3 h3=>?_⟩
     refine⟨p,_,570,rfl,h3,fun x hx=>La.N9 t O5 hw hs x (acU hx),by decide,by rw [aaF,La.dj];omega,fun p2 H4 s4 n4 h4=>?_⟩
     have sB:=ag.trans I.sm s3
     have sA:=ag.trans sB s4
     refine⟨(by show 2≤aao;decide),fun t2 ka=>?_⟩
     have x5:=ak ka (.tup [gJ false,.ref p2])
     exact q t2 p2 _ (ag.trans sA x5) (sA.free ka) (sB.free n4) ab (x5 _ _ h4)
    | some c =>
     obtain⟨b1,b2,_⟩:=La.oF e2
     have Mp:c<w:=by rw [← t.ll];exact b1
     have zy:=aat I.po
     have RG:∀i (hi:i<ys.length),∃a,ys[i]=.ref a∧H2 a=some (.lst ((La.li T.L i).map V.int))∧a≠bb:=fun i hi=>by
      obtain⟨⟨a,e,ha⟩,hne⟩:=paired_at I.po i (by omega) hi
      refine⟨a,e,?_,fun z=>hne (by rw [e,z])⟩
      rw [ha]
      show _=some (HO.lst ((T.L.getD i []).map V.int))
      rw [Gd9,Ge9 (by omega)]
      rfl
     have Yn:c<ys.length:=by omega
     obtain⟨a,ea,ha,hab⟩:=RG c Yn
     refine⟨_,rfl,_,rfl,ll,_,_,_,rfl,rfl,aB.of I.hl,bf (by rw [Ge9 Yn,ea]),?_⟩
     refine⟨_,rfl,_,rfl,_,rfl,gg,a,T.g,La.li T.L c,s,95,rfl,I.hg,ha,by rw [t.gl,t.Gm Mp],by rw [t.gl];exact hs,by rw [t.gl];omega,V3,O5 _ (La.dC b1),by decide,fun g2 H3 s3 n3 h3=>?_⟩
     have J:=I.same s3
     refine⟨_,rfl,ll,rfl,⟨_,aB.of J.hl⟩,fun D hD=>?_⟩
     have RN:D≠bb:=fun z=>by rw [z,J.hb] at hD;cases hD
     have yX:∀i,i<w→(La.li T.L i).length=E.length+w:=fun i hi=>t.Gm hi
     refine xc (K:=K) (a:=ll) (xs:=ys) (fj (by rw [← zy,t.ll];omega)) (fun i zs τ H4=>∃o0 o1,τ=[o0,o1,some (.int (c:Int)),some (.ref a),some (.int (s:Int))]∧ag H3 H4∧H4 D=some (.lst zs)∧Paired (fun r v=>ki H4 r v∧v≠.ref bb∧v≠.ref D) ((La.z9 T.L c s).take i) zs)
      ⟨none,none,rfl,ak hD _,ab,by rw [acg];exact .nil⟩ (fun i zs τ H4 ⟨_,_,_,s4,_⟩=>aB.of (s4 _ _ J.hl)) (fun i zs τ H4 ⟨_,_,_,s4,h4,po⟩=>⟨h4,by rw [← aat po,aaF];omega⟩) (fun i zs τ H4 t2 v p hv ka=>?_) (fun zs τ H4 p=>?_)
     ·obtain⟨o0,o1,rfl,s4,h4,po⟩:=p
      obtain⟨hi,ev⟩:=aK hv
      obtain⟨ai,eai,hai,aaJ⟩:=RG i hi
      rw [eai] at ev
      subst ev
      have xh:i<w:=by rw [← t.ll];omega
      have st:=ak ka (.tup [.int (i:Int),.ref ai])
      have ts:(La.z9 T.L c s).take (i+1)=(La.z9 T.L c s).take i++[if i=c then La.li T.L c else La.Bc (La.li T.L c) s (La.li T.L i)]:=by
       have Qc:i<(La.z9 T.L c s).length:=by unfold La.z9;rw [Lm9,aax];omega
       rw [abY,Ge9 Qc,← La.Mo (by omega)]
       show _=_++[(La.z9 T.L c s).getD i []]
       rw [Gd9,Ge9 Qc]
       rfl
      have step:∀(H5:Hp) (v:V),ag (upd H4 t2 (.tup [.int (i:Int),.ref ai])) H5→ki H5 (if i=c then La.li T.L c else La.Bc (La.li T.L c) s (La.li T.L i)) v→v≠.ref bb→v≠.ref D→H5 D=some (.lst zs)∧∃o0 o1,([some (V.int (i:Int)),some (V.ref ai),some (.int (c:Int)),some (.ref a),some (.int (s:Int))]:St)=[o0,o1,some (.int (c:Int)),some (.ref a),some (.int (s:Int))]∧ag H3 (upd H5 D (.lst (zs++[v])))∧(upd H5 D (.lst (zs++[v]))) D=some (.lst (zs++[v]))∧Paired (fun r v'=>ki (upd H5 D (.lst (zs++[v]))) r v'∧v'≠.ref bb∧v'≠.ref D) ((La.z9 T.L c s).take (i+1)) (zs++[v]):=fun H5 v s5 hR h1 h2=>by
       refine⟨s5 _ _ (st _ _ h4),_,_,rfl,ag.aJ (ag.trans s4 (ag.trans st s5)) hD _,ab,?_⟩
       have keep:∀r v',v'≠V.ref D→ki H5 r v'→ki (upd H5 D (.lst (zs++[v]))) r v':=fun r v' hne ⟨x,e,hx⟩=>⟨x,e,by rw [ar fun z=>hne (by rw [e,z])];exact hx⟩
       rw [ts]
       exact adz (cZ po fun r v' hv h=>⟨keep r v' h.2.2 ((h.1.same st).same s5),h.2⟩) ⟨keep _ _ h2 hR,h1,h2⟩
      refine⟨t2,_,rfl,b8.of ab,rfl,_,_,rfl,_,_,rfl,rfl,?_⟩
      refine⟨_,rfl,_,rfl,rfl,_,rfl,df (fun k=>?_) (fun k=>?_)⟩
      ·have k:i=c:=by
        have:=V.int.inj (of_decide_eq_true k)
        omega
       refine⟨_,rfl,step _ (.ref a) (ag.refl _) ?_ (fun z=>hab (V.ref.inj z)) fun z=>?_⟩
       ·rw [if_pos k]
        exact⟨a,rfl,st _ _ (s4 _ _ (s3 _ _ ha))⟩
       ·rw [← V.ref.inj z,s3 _ _ ha] at hD
        cases hD
      ·have k:¬ i=c:=fun z=>k (decide_eq_true (by rw [z]))
       have vc:=ag.trans s4 st
       refine⟨_,rfl,_,rfl,_,rfl,ai,a,La.li T.L i,La.li T.L c,s,95,rfl,vc _ _ (s3 _ _ hai),vc _ _ (s3 _ _ ha),by rw [yX i xh,yX c Mp],by rw [yX i xh];exact hs,by rw [yX i xh];omega,O5 _ (La.dC (by omega)),O5 _ (La.dC b1),by decide,fun p H5 s5 n5 h5=>?_⟩
       refine step H5 (.ref p) s5 ?_ (fun z=>?_) fun z=>?_
       ·rw [if_neg k]
        exact⟨p,rfl,h5⟩
       ·rw [V.ref.inj z,vc _ _ J.hb] at n5
        cases n5
       ·rw [V.ref.inj z,st _ _ h4] at n5
        cases n5
     ·obtain⟨o0,o1,rfl,s4,h4,po⟩:=p
      have J4:=J.same s4
      have hpl:(La.z9 T.L c s).length=ys.length:=by unfold La.z9;rw [Lm9,aax];exact zy
      rw [ab6 (by omega)] at po
      have U0:c<T.b.length:=by rw [t.bl];exact Mp
      refine⟨_,rfl,_,rfl,_,rfl,bb,_,_,_,rfl,rfl,J4.hb,IU (by show c<(T.b.map _).length;rw [Lm9];exact U0),?_⟩
      obtain⟨Yo,e5⟩:=La.xa wn (by rw [eT];exact e1) (by rw [eT];exact e2)
      have aaK:=La.oH Yo
      rw [eT] at e5
      refine⟨(E.length+w) ^ w - (m+1),by omega,m+1,D,bb,g2,zs,_,_,_,rfl,Yo,rfl,?_⟩
      rw [e5]
      refine⟨ag.aJ J4.sm J4.nb _,J4.nb,by rw [ar RN];exact h4,RN,cZ po fun r v hv h=>?_,?_,?_,fun z=>?_⟩
      ·obtain⟨⟨x,rfl,hx⟩,h1,h2⟩:=h
       exact⟨⟨x,rfl,by rw [ar fun z=>h1 (by rw [z])];exact hx⟩,h1⟩
      ·rw [ab]
       show some (HO.lst ((gc T.b).set c (V.int (s:Int))))=some (HO.lst (gc (T.b.set c s)))
       unfold gc
       rw [List.map_set]
      ·rw [ar fun z=>?_]
       ·exact s4 _ _ h3
       ·rw [z,I.hb] at n3
        cases n3
      ·rw [z,I.hb] at n3
       cases n3
end
section
variable {P:aa4} {w:abu} {K:aaa} {mg:Str→Option aae} {base:Heap} {f:aaD} {fd:abo} {c:Cl}
theorem dE:ax ["book","rows","taking","answer","numbers","place","number"] ["book"] (aq qf):=⟨rfl,rfl,rfl,by decide +kernel,rfl,by decide +kernel,by decide +kernel⟩
theorem Du (F:cY K "weights" "weights" qf f fd) (T:HB K c.book) (qC:cV P w K mg base "effects" 4 ["book"] (Ig K c)) (cg:cV P w K mg base "passing_kinds" 1 ["book"] (CP K c)) (fR:Met P w K mg base c.rule "calls" 1 ["self"] (rZ K c)) (eB:cV P w K mg base "falls_or_round" 4 ["rows","width"] Mv)
  (aW:mg "len"=none) (ba:mg "enumerate"=none):aY P w K mg base cS 5 f fd ["book"] (IY K c):=by
 refine F.ok dE (fun vs H Q E h=>?_) (fun cx A outer s H vs Q E hr h=>?_)
 ·obtain⟨v,H0,ks,rs,rfl,_⟩:=h
  rfl
 obtain⟨v,H0,ks,rs,rfl,B,Yp,US,O6,hw,q⟩:=h
 refine⟨_,(ae (aA (i:=1) dE.nd rfl (ad0 rfl) (ao qC (hr.mono (by decide)) rfl (aa (pv 0) af)))
 (ae (Bt (i:=2) ["number","rule"] [] dE.nd rfl (aaQ rfl) rfl (by kernel_rfl) (fH (pe_fld (pv 0) rfl) rfl ba abi) (fun _ _ _ _ _=>(id (α:=PG _ _ (JT K 2 (sG (jD 0) (sG (jD 1) JS)))) (fS rfl (a8 (aH (i:=0) (by exact(show(["number","rule"]:List Str).Nodup by decide +kernel)) rfl (aaQ rfl)) (a8 (aH (i:=1) (by exact(show(["number","rule"]:List Str).Nodup by decide +kernel)) rfl (aaQ rfl)) dI))))) (fun _ _ _ _ _=>(lZ (dH (bV (wx (pv 1) fR (hr.mono (by decide))))))) (fun _ _ _ _ _=>(pv 0)))
 (ae (aA (i:=3) dE.nd rfl (aaQ rfl) (ao eB (hr.mono (by decide)) rfl (aa (b6 [1] rfl (by kernel_rfl) (aS (pv 2)) (fun _ _ _ _ _=>bp) (fun _ _ _ _ _=>(aw (r:=Ck K) az (pv 1) (pv 0) (fun _ _=>rfl)))) (aa (aE av rfl aW aaH (aa (ao cg (hr.mono (by decide)) rfl (aa (pv 0) af)) af)) af))))
 (ae (aV (au cP (aw aN (pv 3) aj (fun _ _=>rfl)) aM (aF _))
 (ah (ay (pv 3)))
 aC)
 (ae (aA (i:=4) dE.nd rfl (aaQ rfl) (aL xK (bF (aa aj af)) (aE av rfl aW aaH (aa (pv 1) af))))
 (ae (bI aaG rfl (fH (pv 2) rfl ba abi) (fS rfl (a8 (aH (i:=5) dE.nd rfl (aaQ rfl)) (a8 (aH (i:=6) dE.nd rfl (aaQ rfl)) dI)))
 (ah (B6 (aw az (aw aN (pv 3) aj (fun _ _=>rfl)) (pv 5) (fun _ _=>rfl)) (GA (pv 4) (pv 6) set_list))))
 (ah (ay (cX (aa aM (aa (pv 4) af))))))))))),?_⟩
 refine⟨_,rfl,v,H0,ks,rs,rfl,B,Yp,by omega,fun r hr=>by have:=O6 r hr;omega,fun u H1 s1 TE=>?_⟩
 obtain⟨lt,ws,rfl,nlt,eE,pw⟩:=TE
 have B1:=B.keep (Kp.same s1)
 obtain⟨x,dx,fs,rfl,SU,hx,⟨v1,e1,lk,kvs,rfl,Ov,hk,pk⟩,⟨v2,e2,lr,nh,rfl,O1,Rt,pr⟩⟩:=id B1
 have zr:=aat pr
 have zw:=aat pw
 have lD:(f6 ks rs).length=rs.length:=by unfold f6;rw [Lm9]
 have lF:(aP rs).length=rs.length:=by unfold aP;rw [Lm9]
 refine⟨_,rfl,x,c.book,dx,fs,_,rfl,hx,T.cl,T.n2,e2,lr,rfl,⟨_,aB.of Rt⟩,fun D hD=>?_⟩
 refine xc (K:=K) (a:=lr) (xs:=nh) (fj (by omega)) (fun i zs τ H2=>∃o0 o1,τ=[o0,o1]∧ag H1 H2∧H2 D=some (.lst zs)∧zs=gc ((aal i).filter fun i=>(aP rs).getD i false))
  ⟨none,none,rfl,ak hD _,ab,rfl⟩ (fun i zs τ H2 ⟨_,_,_,s2,_⟩=>aB.of (s2 _ _ Rt)) (fun i zs τ H2 ⟨_,_,_,s2,h2,e⟩=>⟨h2,by
   rw [e]
   show(List.map _ _).length≤i
   rw [Lm9]
   have:=abp (fun i=>(aP rs).getD i false) (aal i)
   rw [aax] at this
   exact this⟩) (fun i zs τ H2 t2 y p hy ka=>?_) (fun zs τ H2 p=>?_)
 ·obtain⟨o0,o1,rfl,s2,h2,rfl⟩:=p
  obtain⟨hi,ey⟩:=aK hy
  have Lb:i<rs.length:=by omega
  have hR:=(paired_at pr i Lb hi).keep (Kp.same s2)
  rw [ey] at hR
  have st:=ak ka (.tup [.int (i:Int),y])
  have hR:=hR.keep (Kp.same st)
  have eF:(aP rs).getD i false = !decide (rs[i].take=[]):=by
   unfold aP
   rw [Gd9,aaq,Ge9 Lb]
   rfl
  generalize rs[i]=r at hR eF
  obtain⟨a,da,fa,rfl,na,ha,RF⟩:=id hR
  refine⟨t2,_,rfl,b8.of ab,rfl,_,_,rfl,_,_,rfl,rfl,?_⟩
  refine⟨_,rfl,a,da,fa,rfl,ha,RF.calls,H0,_,r,rfl,hR,_,rfl,?_⟩
  by_cases e:r.take=[]
  ·rw [decide_eq_true e]
   refine⟨_,_,rfl,ag.trans s2 st,st _ _ h2,?_⟩
   rw [abe,abD]
   show gc _=gc (_++afD _ [i])
   rw [ads (by rw [eF,decide_eq_true e];decide),List.filter_nil,aa8]
  ·rw [decide_eq_false e]
   refine⟨_,rfl,st _ _ h2,_,_,rfl,ag.aJ (ag.trans s2 st) hD _,ab,?_⟩
   rw [abe,abD]
   show gc _++_=gc (_++afD _ [i])
   rw [adq (by rw [eF,decide_eq_false e];rfl),List.filter_nil]
   unfold gc
   rw [aai]
   rfl
 ·obtain⟨o0,o1,rfl,s2,h2,rfl⟩:=p
  have eI:((aal nh.length).filter fun i=>(aP rs).getD i false)=La.idx (aP rs):=by unfold La.idx;rw [lF,zr]
  rw [eI] at h2
  have IG:∀j∈La.idx (aP rs),j<rs.length:=fun j hj=>by rw [← lF];exact(La.IV hj).1
  have lI:(La.idx (aP rs)).length≤rs.length:=by
   rw [La.ym (aP rs) rs lF.symm]
   exact La.yo _ _
  have lN:(gc (La.idx (aP rs))).length=(La.idx (aP rs)).length:=by unfold gc;rw [Lm9]
  refine⟨_,rfl,D,rfl,⟨_,aB.of h2⟩,fun D2 jO=>?_⟩
  refine bZ (K:=K) (xs:=gc (La.idx (aP rs))) ((La.idx (aP rs)).map fun i=>(f6 ks rs).getD i []) (fun _ _ b y=>ki H1 b y) (fun _ _ _ _ _ _ h=>h) (fun _ _ _ _ _ _ h=>h) (fj (by omega)) jO (aB.of h2) (by rw [Lm9,lN]) (fun i y b H3 R hy hb s3 hQ=>?_) (fun H3 ys s3 hL po=>?_)
  ·obtain⟨hi,ey⟩:=aK hy
   obtain⟨gH,eb⟩:=aK hb
   rw [lN] at hi
   rw [aa1] at eb
   have ey:y=V.int (((La.idx (aP rs))[i]:Nat):Int):=by
    unfold gc at hy
    rw [aaq,Ge9 hi] at hy
    exact(aaR hy).symm
   have hj:=IG _ (aas hi)
   generalize (La.idx (aP rs))[i]=j at ey eb hj
   subst ey
   obtain⟨a,ea,_,ha⟩:=paired_at pw j (by omega) (by omega)
   refine⟨_,rfl,_,rfl,lt,_,_,_,rfl,rfl,aB.of (s3 _ _ (s2 _ _ eE)),bf (by rw [Ge9 (by omega),ea]),hQ _ _ (ag.refl _) ⟨a,rfl,?_⟩⟩
   rw [ha,← eb,Gd9,Ge9 (by omega)]
   rfl
  ·rw [La.yl _ _ (by omega)] at po
   have Le:=ag.trans s2 s3
   refine⟨_,rfl,.ref x,H0,ks,rs,rfl,B1.keep (Kp.same Le),Yp,fun u H4 s4 TX=>?_⟩
   obtain⟨lp,rfl,nlp,SX⟩:=TX
   have V4:=ag.trans Le s4
   have lE:=La.yo (aP rs) (f6 ks rs)
   have PY:∀r∈f6 ks rs,r.length=(Bk.passing ks).length:=fun r hr=>by
    unfold f6 at hr
    obtain⟨r0,_,rfl⟩:=aah.mp hr
    rw [Lm9]
   have RN:∀r∈f6 ks rs,La.Bd 2 r:=fun e he y hy=>by
    unfold f6 at he
    obtain⟨r,hr,rfl⟩:=aah.mp he
    obtain⟨z,_,rfl⟩:=aah.mp hy
    have h:=O6 r hr
    unfold Ie
    have a1:=abp (fun f:Fc=>decide (f.k=z)) r.put
    have a2:=abp (fun f:Fc=>decide (f.k=z)) r.take
    omega
   refine⟨lp,_,rfl,.inl (aB.of SX),D2,ys,La.iK (aP rs) (f6 ks rs),(Bk.passing ks).length,(by rw [Lm9];rfl),s4 _ _ hL,L2.Paired.cj po fun _ _ h=>h.same V4,fun r hr=>PY r (La.eO hr),fun r hr=>RN r (La.eO hr),by omega,hw,fun t p H5 s5 nt np ht hp=>?_⟩
   have Yq:=ag.trans V4 s5
   refine⟨_,rfl,t,_,0,_,rfl,rfl,b8.of ht,rfl,rfl,_,rfl,?_⟩
   have V5:=ag.trans s1 Yq
   have Yr:=ag.trans s1 V4
   cases eb:La.mw (La.iK (aP rs) (f6 ks rs)) (Bk.passing ks).length with
   | true =>
    rw [eb] at ht q
    have z1:decide (gJ true=V.str (aac "falls"))=true:=by decide +kernel
    rw [z1]
    refine fE ⟨_,rfl,q t p _ V5 (Yr.free nt) (Yr.free np) ht ?_⟩
    unfold La.told
    rw [if_pos eb]
    exact hp
   | false =>
    rw [eb] at ht q
    have z1:decide (gJ false=V.str (aac "falls"))=false:=by decide +kernel
    rw [z1]
    have et:La.told (aP rs) (f6 ks rs) (Bk.passing ks).length=La.jN (aP rs) (La.km (La.iK (aP rs) (f6 ks rs)) (Bk.passing ks).length):=by
     unfold La.told
     rw [if_neg (by rw [eb];decide)]
    rw [et] at q
    have RR:=La.xb (E:=La.iK (aP rs) (f6 ks rs)) (fun r hr=>PY r (La.eO hr)) (fun r hr=>RN r (La.eO hr)) hw eb
    have lY:(La.km (La.iK (aP rs) (f6 ks rs)) (Bk.passing ks).length).length=(La.idx (aP rs)).length:=by rw [RR.len,La.ym (aP rs) (f6 ks rs) (by omega)]
    generalize La.km (La.iK (aP rs) (f6 ks rs)) (Bk.passing ks).length=Y at hp q lY
    refine bh ?_
    refine⟨(by show 1≤aao;decide),fun p1 EE=>?_⟩
    have x1:=ak EE (.lst [V.int 0])
    refine⟨_,rfl,lt,_,rfl,.inl (aB.of (x1 _ _ (Yq _ _ eE))),p1,_,_,rfl,rfl,ab,by omega,by omega,sz (by show 1 * _≤_;omega),fun nn V6=>?_⟩
    have x2:=ak V6 (.lst (aam (((ws.length:Nat):Int)).toNat [V.int 0]).flatten)
    have Ys:=ag.trans x1 x2
    have s06:=ag.trans V5 x1
    have n0:H nn=none:=s06.free V6
    have h2n:=Ys _ _ (s5 _ _ (s4 _ _ (s3 _ _ h2)))
    refine⟨_,rfl,D,rfl,⟨_,aB.of h2n⟩,fY (K:=K) (a:=D) (xs:=gc (La.idx (aP rs))) (fun i σ H'=>∃(o5 o6:Option V) (X:List Int),σ=[some (.ref x),some (.ref lt),some (.ref D),some (.ref t),some (.ref nn),o5,o6]∧ag H5 H'∧H' nn=some (.lst (X.map V.int))∧X.length=rs.length∧∀j,X.getD j 0=if j∈(La.idx (aP rs)).take i then (La.jN (aP rs) Y).getD j 0 else 0)
     ⟨_,_,aam rs.length 0,rfl,Ys,?_,aaU ..,fun j=>?_⟩ (fun i σ H' _ ⟨_,_,_,_,s6,_⟩=>aB.of (s6 _ _ (s5 _ _ (s4 _ _ (s3 _ _ h2))))) ?_ ?_⟩
    ·rw [ab,t9,show((ws.length:Nat):Int).toNat=rs.length by omega]
    ·rw [if_neg (by rw [acg];exact fun h=>nomatch h),Gd9,abW]
     split <;> rfl
    ·rintro i y σ H' t2 hi ⟨o5,o6,X,rfl,s6,hX,lX,V7⟩ ka
     have nN:i<(La.idx (aP rs)).length:=by
      have:=(aK hi).1
      omega
     have ey:V.int (((La.idx (aP rs))[i]:Nat):Int)=y:=by
      unfold gc at hi
      rw [aaq,Ge9 nN] at hi
      exact aaR hi
     have hj:=IG _ (aas nN)
     have tk:(La.idx (aP rs)).take (i+1)=(La.idx (aP rs)).take i++[(La.idx (aP rs))[i]]:=by rw [abY,Ge9 nN];rfl
     have DO:=La.kq (aP rs) Y i nN
     rw [Gd9 (l:=La.idx (aP rs)),Ge9 nN] at DO
     have DO:(La.jN (aP rs) Y).getD (La.idx (aP rs))[i] 0=Y.getD i 0:=DO
     generalize (La.idx (aP rs))[i]=j at ey hj tk DO
     subst ey
     have st:=ak ka (.tup [.int (i:Int),.int (j:Int)])
     have s7:=ag.trans s6 st
     refine⟨t2,_,rfl,b8.of ab,rfl,_,_,rfl,_,_,rfl,rfl,?_⟩
     refine⟨_,rfl,t,_,1,_,rfl,rfl,b8.of (s7 _ _ ht),rfl,_,rfl,p,_,_,_,rfl,rfl,aB.of (s7 _ _ hp),bf (v:=V.int (Y.getD i 0)) (by rw [aaq,Ge9 (by omega),Gd9,Ge9 (by omega)];rfl),_,rfl,_,rfl,nn,_,_,_,rfl,rfl,st _ _ hX,IU (by rw [Lm9];omega),?_⟩
     have n5:H5 nn=none:=x1.free V6
     refine⟨_,_,X.set j (Y.getD i 0),rfl,ag.aJ s7 n5 _,by rw [ab,List.map_set],by rw [aeK];exact lX,fun k=>?_⟩
     rw [tk]
     by_cases e:k=j
     ·subst e
      rw [if_pos (aaT _ (aaw.mpr rfl)),DO,Gd9,aee,if_pos rfl,if_pos (by omega)]
      rfl
     ·rw [Gd9,aee,if_neg (abB e),← Gd9,V7 k]
      by_cases z:k∈(La.idx (aP rs)).take i
      ·rw [if_pos z,if_pos (abT _ z)]
      ·rw [if_neg z,if_neg fun h=>?_]
       rcases aaS.mp h with h|h
       ·exact z h
       ·exact e (aaw.mp h)
    ·rintro σ H' ⟨o5,o6,X,rfl,s6,hX,lX,V7⟩
     have eX:X=La.jN (aP rs) Y:=La.so (by rw [lX,La.iH,lF]) fun j=>by
      rw [V7 j,lN,aba]
      by_cases z:j∈La.idx (aP rs)
      ·rw [if_pos z]
      ·rw [if_neg z]
       refine(La.kn ?_).symm
       cases e:(aP rs).getD j false with
       | false=>rfl
       | true =>
        refine absurd (abt.mpr ⟨aaz.mpr ?_,e⟩) z
        refine Nat.not_le.mp fun h=>?_
        rw [Gd9,acM h] at e
        cases e
     rw [eX] at hX
     have Yt:=ag.trans V5 s6
     refine⟨_,rfl,(by show 2≤aao;decide),fun t2 ka=>?_⟩
     have x7:=ak ka (.tup [gJ false,.ref nn])
     exact q t2 nn _ (ag.trans Yt x7) (Yt.free ka) n0 ab (x7 _ _ hX)
end
section
variable {P:aa4} {w:abu} {K:aaa} {mg:Str→Option aae} {base:Heap} {f:aaD} {fd:abo} {c:Cl}
theorem jG:ax ["_law_row","_law_number"] ["_law_row"] (aq gk):=⟨rfl,rfl,rfl,by decide +kernel,rfl,by decide +kernel,by decide +kernel⟩
theorem rL (F:cY K "_law_bounded" "_law_bounded" gk f fd):aY P w K mg base cS 1 f fd ["_law_row"] Mx:=by
 refine F.ok jG (fun vs H Q E h=>?_) (fun cx A outer s H vs Q E hr h=>?_)
 ·obtain⟨a,r,rfl,_⟩:=h
  rfl
 obtain⟨a,r,rfl,ha,hp,hb,q⟩:=h
 refine⟨_,(ae (bI aaG rfl (aS (pv 0)) (aH (i:=1) jG.nd rfl (aaQ rfl))
 (ah (aV (PW.pt (jS (au sJ (pv 1) aj (aF _)) (iM (au LX (pv 1) (aL M0 aj aj) (aF _)))))
 (ah (ay d5))
 aC)))
 (ah (ay d5))),?_⟩
 refine⟨_,rfl,a,rfl,⟨_,aB.of ha⟩,bN (K:=K) (a:=a) (xs:=r.map V.int) (fun i σ H'=>H'=H∧∃o,σ=[some (.ref a),o]) ⟨rfl,none,rfl⟩ (fun i σ H' _ ⟨e,_⟩=>by rw [e];exact aB.of ha) ?_ ?_⟩
 ·rintro i y σ H' hi ⟨rfl,o,rfl⟩
  obtain⟨nN,ey⟩:=aK hi
  rw [Lm9] at nN
  rw [aa1] at ey
  subst ey
  have h1:=hp _ (aas nN)
  have h2:=hb _ (aas nN)
  refine⟨_,rfl,_,_,rfl,rfl,_,rfl,?_⟩
  rw [decide_eq_false (by omega)]
  refine bh ⟨_,rfl,_,_,rfl,rfl,⟨by decide,by decide,by decide⟩,_,_,rfl,rfl,_,rfl,?_⟩
  have e60:(10:Int) ^ Int.toNat 60=1000000000000000000000000000000000000000000000000000000000000:=by decide +kernel
  have e95:(2:Nat) ^ 95=39614081257132168796771975168:=by decide +kernel
  rw [e95] at h2
  rw [decide_eq_false (by rw [e60];omega)]
  exact bh ⟨rfl,_,rfl⟩
 ·rintro σ H' ⟨rfl,o,rfl⟩
  exact q
theorem mF:ax ["_law_table","_law_rules","_law_row","_law_at"] ["_law_table","_law_rules","_law_row"] (aq ji):=⟨rfl,rfl,rfl,by decide +kernel,rfl,by decide +kernel,by decide +kernel⟩
theorem vH (F:cY K "_law_falls" "_law_falls" ji f fd) (eC:cV P w K mg base "_law_sum" 1 ["_law_row","_law_numbers"] CV) (b7:mg "range"=none) (aW:mg "len"=none):aY P w K mg base cS 2 f fd ["_law_table","_law_rules","_law_row"] (Br K):=by
 refine F.ok mF (fun vs H Q E h=>?_) (fun cx A outer s H vs Q E hr h=>?_)
 ·obtain⟨lt,lr,a,ws,us,D,rs,w,W,rfl,_⟩:=h
  rfl
 obtain⟨lt,lr,a,ws,us,D,rs,w,W,rfl,T,ha,F2,q⟩:=h
 refine⟨_,(ae (bI aaG rfl (cH rfl b7 (aa (aE av rfl aW aaH (aa (pv 1) af)) af)) (aH (i:=3) mF.nd rfl (aaQ rfl))
 (ah (aV (PW.pt (gP (au jU (aE av rfl aW aaH (aa (aw aN (aw az (pv 1) (pv 3) (fun _ _=>rfl)) aj (fun _ _=>rfl)) af)) aj (aF _)) (fD (au LX (ao eC (hr.mono (by decide)) rfl (aa (aw az (pv 0) (pv 3) (fun _ _=>rfl)) (aa (pv 2) af))) aj (aF _)))))
 (ah (ay d5))
 aC)))
 (ah (ay d5))),?_⟩
 have zu:=aat T.pu
 have few:=T.few
 refine⟨_,rfl,lr,_,rfl,.inl (aB.of T.mq),_,rfl,by omega,by omega,lW (lo:=0) (n:=((us.length:Nat):Int).toNat) (fun i σ H'=>∃o,σ=[some (.ref lt),some (.ref lr),some (.ref a),o]∧ag H H') ⟨none,rfl,ag.refl _⟩ ?_ ?_⟩
 ·rintro i σ H' hi ⟨o,rfl,sm⟩
  rw [adg]
  have qt:i<us.length:=by omega
  have FI:i<rs.length:=by omega
  have T':=T.same sm
  have eF:=IZ FI
  have hf:=F2.fall i (by rw [T.lD];exact FI)
  obtain⟨t0,a1,b1,e0,FE,RO,hb1⟩:=paired_at T'.pu i FI qt
  have zw:=aat T.pw
  have S1:i<D.length:=by rw [T.lD];exact FI
  obtain⟨ad,ed,RP⟩:=paired_at T'.pw i S1 (by omega)
  have RQ:=T.lw _ (aas S1)
  have Yu:=T.sm _ (aas S1)
  have VX:La.li D i=D[i]:=by show D.getD i []=_;rw [Gd9,Ge9 S1];rfl
  rw [VX] at hf
  generalize D[i]=row at RP RQ Yu hf
  generalize rs[i]=r at eF RO hb1
  have RS:(nI r.1).length=r.1.length:=by unfold nI;rw [Lm9]
  refine⟨_,rfl,_,rfl,lr,_,_,_,rfl,rfl,aB.of T'.mq,bf (by rw [Ge9 qt,e0]),t0,_,0,_,rfl,rfl,FE,rfl,a1,_,rfl,.inl (aB.of RO),_,_,rfl,rfl,_,rfl,?_⟩
  by_cases e:r.1=[]
  ·rw [decide_eq_false (by rw [RS,e];decide)]
   exact bh ⟨_,rfl,sm⟩
  ·have Fu:0<r.1.length:=ada.mpr e
   rw [decide_eq_true (by rw [RS];omega)]
   have QK:=T.QK
   refine fE ⟨_,rfl,_,rfl,lt,_,_,_,rfl,rfl,aB.of T'.eE,bf (by rw [Ge9 (by omega),ed]),_,rfl,ad,a,row,W,rfl,RP,sm _ _ ha,by rw [RQ,F2.len],by omega,Yu,fun H2 s2=>⟨_,_,rfl,rfl,_,rfl,?_⟩⟩
   have hd:Bk.dot row W<0:=hf (by rw [eF,decide_eq_false e];rfl)
   rw [decide_eq_false (by omega)]
   exact bh ⟨_,rfl,ag.trans sm s2⟩
 ·rintro σ H' ⟨o,rfl,sm⟩
  exact q _ sm
theorem il:ax ["_law_table","_law_rules","_law_row","_law_many","_law_at"] ["_law_table","_law_rules","_law_row","_law_many"] (aq jj):=⟨rfl,rfl,rfl,by decide +kernel,rfl,by decide +kernel,by decide +kernel⟩
theorem vI (F:cY K "_law_round" "_law_round" jj f fd) (eC:cV P w K mg base "_law_sum" 1 ["_law_row","_law_numbers"] CV) (b7:mg "range"=none) (aW:mg "len"=none) (RT:mg "max"=none):aY P w K mg base cS 2 f fd ["_law_table","_law_rules","_law_row","_law_many"] (Bs K):=by
 refine F.ok il (fun vs H Q E h=>?_) (fun cx A outer s H vs Q E hr h=>?_)
 ·obtain⟨lt,lr,a,ws,us,D,rs,w,Y,rfl,_⟩:=h
  rfl
 obtain⟨lt,lr,a,ws,us,D,rs,w,Y,rfl,T,ha,R2,q⟩:=h
 refine⟨_,(ae (aV (au cP (aE Fx rfl RT PyProof.Rows.boot_max (aa (pv 2) af)) aj (aF _))
 (ah (ay d5))
 aC)
 (ae (bI aaG rfl (cH rfl b7 (aa (aE av rfl aW aaH (aa (pv 1) af)) af)) (aH (i:=4) il.nd rfl (ad0 rfl))
 (ah (aV (PW.pt (gP (au cP (aE av rfl aW aaH (aa (aw aN (aw az (pv 1) (pv 4) (fun _ _=>rfl)) aj (fun _ _=>rfl)) af)) aj (aF _)) (fD (au eU (aw az (pv 2) (pv 4) (fun _ _=>rfl)) aj (aF _)))))
 (ah (ay d5))
 aC)))
 (ae (bI aaG rfl (cH rfl b7 (aa (pv 3) af)) (aH (i:=4) il.nd rfl (ad0 rfl))
 (ah (aV (au sJ (ao eC (hr.mono (by decide)) rfl (aa (b6 [4] rfl (by kernel_rfl) (aS (pv 0)) (fun _ _ _ _ _=>bp) (fun _ _ _ _ _=>(aw (r:=Ck K) az (pv 0) (pv 1) (fun _ _=>rfl)))) (aa (pv 2) af))) aj (aF _))
 (ah (ay d5))
 aC)))
 (ah (ay d5))))),?_⟩
 have zu:=aat T.pu
 have zw:=aat T.pw
 have few:=T.few
 have QK:=T.QK
 have lD:=T.lD
 obtain⟨y0,S2,ny0⟩:=R2.some
 refine⟨_,rfl,a,Y,rfl,rfl,aB.of ha,(fun z=>by rw [z] at S2;cases S2),fun mx U6 V8=>?_⟩
 have hmp:0<mx:=by
  have h1:=V8 y0 S2
  have h2:=R2.pos y0 S2
  omega
 refine⟨rfl,_,rfl,?_⟩
 rw [decide_eq_false fun e=>by have:=V.int.inj e;omega]
 refine bh ?_
 refine⟨_,rfl,lr,_,rfl,.inl (aB.of T.mq),_,rfl,by omega,by omega,lW (lo:=0) (n:=((us.length:Nat):Int).toNat) (fun i σ H'=>∃o,σ=[some (.ref lt),some (.ref lr),some (.ref a),some (.int (w:Int)),o]∧H'=H) ⟨_,rfl,rfl⟩ ?_ ?_⟩
 ·rintro i σ H' hi ⟨o,rfl,rfl⟩
  rw [adg]
  have qt:i<us.length:=by omega
  have FI:i<rs.length:=by omega
  have eF:=IZ FI
  have hoff:=R2.off i
  obtain⟨t0,a1,b1,e0,FE,RO,hb1⟩:=paired_at T.pu i FI qt
  generalize rs[i]=r at eF RO hb1
  have RS:(nI r.1).length=r.1.length:=by unfold nI;rw [Lm9]
  refine⟨_,rfl,_,rfl,lr,_,_,_,rfl,rfl,aB.of T.mq,bf (by rw [Ge9 qt,e0]),t0,_,0,_,rfl,rfl,FE,rfl,a1,_,rfl,.inl (aB.of RO),rfl,_,rfl,?_⟩
  by_cases e:r.1=[]
  ·rw [decide_eq_true (by rw [RS,e];rfl)]
   have hY0:=hoff (by rw [eF,decide_eq_true e];rfl)
   have lY:=R2.len
   refine fE ⟨_,rfl,_,rfl,a,_,_,_,rfl,rfl,aB.of ha,bf (v:=V.int (Y.getD i 0)) (by rw [aaq,Ge9 (by omega),Gd9,Ge9 (by omega)];rfl),rfl,_,rfl,?_⟩
   rw [hY0]
   exact bh ⟨_,rfl,rfl⟩
  ·have Fu:0<r.1.length:=ada.mpr e
   rw [decide_eq_false fun z=>by have:=V.int.inj z;rw [RS] at this;omega]
   exact bh ⟨_,rfl,rfl⟩
 ·rintro σ H' ⟨o,rfl,rfl⟩
  refine⟨_,rfl,_,rfl,by omega,by omega,lW (lo:=0) (n:=((w:Nat):Int).toNat) (fun i σ H2=>∃o,σ=[some (.ref lt),some (.ref lr),some (.ref a),some (.int (w:Int)),o]∧ag H' H2) ⟨_,rfl,ag.refl _⟩ ?_ ?_⟩
  ·rintro k σ H2 hk ⟨o,rfl,sm⟩
   rw [adg]
   have hkw:k<w:=by omega
   have T':=T.same sm
   refine⟨_,rfl,lt,rfl,⟨_,aB.of T'.eE⟩,fun X hX=>?_⟩
   refine bZ (K:=K) (xs:=ws) (D.map (·.getD k 0)) (fun _ _ b y=>y=V.int b) (fun _ _ _ _ _ _ h=>h) (fun _ _ _ _ _ _ h=>h) (fj (by omega)) hX (aB.of T'.eE) (by rw [Lm9];exact zw) (fun i x b H3 R hx hb s3 hQ=>?_) (fun H3 zs s3 hL po=>?_)
   ·obtain⟨hi,ex⟩:=aK hx
    obtain⟨gH,eb⟩:=aK hb
    rw [Lm9] at gH
    rw [aa1] at eb
    obtain⟨ad,ed,RP⟩:=paired_at T'.pw i gH hi
    have RQ:=T.lw _ (aas gH)
    rw [ex] at ed
    subst ed
    generalize D[i]=row at RQ RP eb
    exact⟨_,rfl,_,rfl,ad,_,_,_,rfl,rfl,aB.of (s3 _ _ RP),bf (v:=V.int (row.getD k 0)) (by rw [aaq,Ge9 (by omega),Gd9,Ge9 (by omega)];rfl),hQ _ _ (ag.refl _) (by rw [← eb])⟩
   ·rw [paired_ints po] at hL
    have RE:=ag.trans sm s3
    refine⟨_,rfl,X,a,_,Y,rfl,hL,RE _ _ ha,by rw [Lm9,R2.len],by rw [Lm9];omega,fun i hi=>?_,fun H4 s4=>⟨_,_,rfl,rfl,_,rfl,?_⟩⟩
    ·obtain⟨row,jk,rfl⟩:=aah.mp hi
     have RQ:=T.lw _ jk
     refine T.sm row jk _ ?_
     rw [Gd9,Ge9 (by omega)]
     exact aas _
    ·have hd:0≤Bk.dot (D.map (·.getD k 0)) Y:=R2.keep k hkw
     rw [decide_eq_false (by omega)]
     exact bh ⟨_,rfl,ag.trans RE s4⟩
  ·rintro σ H2 ⟨o,rfl,sm⟩
   exact q _ sm
end
section
variable {P:aa4} {w:abu} {K:aaa} {mg:Str→Option aae} {base:Heap} {f:aaD} {fd:abo} {c:Cl}
theorem y4:ax ["_law_table","_law_rules","_law_found","_law_many"] ["_law_table","_law_rules","_law_found","_law_many"] (aq kY):=⟨rfl,rfl,rfl,by decide +kernel,rfl,by decide +kernel,by decide +kernel⟩
theorem y6 (F:cY K "_law_told" "_law_told" kY f fd) (fM:cV P w K mg base "_law_whole" 1 ["_law_row","_law_many"] (A6 K)) (dX:cV P w K mg base "_law_bounded" 1 ["_law_row"] Mx) (jv:cV P w K mg base "_law_falls" 2 ["_law_table","_law_rules","_law_row"] (Br K)) (jw:cV P w K mg base "_law_round" 2 ["_law_table","_law_rules","_law_row","_law_many"] (Bs K))
  (dW:mg "isinstance"=none) (yw:mg "tuple"=none) (aW:mg "len"=none):aY P w K mg base cS 3 f fd ["_law_table","_law_rules","_law_found","_law_many"] (EC K):=by
 refine F.ok y4 (fun vs H Q E h=>?_) (fun cx A outer s H vs Q E hr h=>?_)
 ·obtain⟨lt,lr,t,a,ws,us,D,rs,w,R,b,rfl,_⟩:=h
  rfl
 obtain⟨lt,lr,t,a,ws,us,D,rs,w,R,b,rfl,T,ht,ha,hF,hR,q⟩:=h
 refine⟨_,(ae (aV (PW.pt (jS (dH (bV (aE xY rfl dW abX (aa (pv 2) (aa (rP rfl yw PyProof.Rows.Boot.«tuple» (v:=.ty "tuple") rfl) af))))) (iM (au eU (aE av rfl aW aaH (aa (pv 2) af)) aj (aF _)))))
 (ah (ay d5))
 aC)
 (ae (aV (au cP (aw aN (pv 2) aj (fun _ _=>rfl)) aM (aF _))
 (ah (ay (mZ (ao fM (hr.mono (by decide)) rfl (aa (aw aN (pv 2) aj (fun _ _=>rfl)) (aa (pv 3) af))) (mZ (ao dX (hr.mono (by decide)) rfl (aa (aw aN (pv 2) aj (fun _ _=>rfl)) af)) (mY (ao jv (hr.mono (by decide)) rfl (aa (pv 0) (aa (pv 1) (aa (aw aN (pv 2) aj (fun _ _=>rfl)) af)))))))))
 aC)
 (ae (aV (PW.pt (jS (au eU (aw aN (pv 2) aj (fun _ _=>rfl)) aM (aF _)) (iM (dH (bV (ao fM (hr.mono (by decide)) rfl (aa (aw aN (pv 2) aj (fun _ _=>rfl)) (aa (aE av rfl aW aaH (aa (pv 1) af)) af))))))))
 (ah (ay d5))
 aC)
 (ah (ay (mZ (ao dX (hr.mono (by decide)) rfl (aa (aw aN (pv 2) aj (fun _ _=>rfl)) af)) (mY (ao jw (hr.mono (by decide)) rfl (aa (pv 0) (aa (pv 1) (aa (aw aN (pv 2) aj (fun _ _=>rfl)) (aa (pv 3) af)))))))))))),?_⟩
 have zu:=aat T.pu
 refine⟨_,rfl,t,_,"tuple",true,rfl,b8.of ht,tN,_,rfl,bh ?_⟩
 refine⟨_,rfl,t,_,rfl,.inr (b8.of ht),rfl,_,rfl,?_⟩
 refine bh ?_
 refine⟨_,rfl,t,_,0,_,rfl,rfl,b8.of ht,rfl,rfl,_,rfl,?_⟩
 cases b with
 | true =>
  have z1:decide (gJ true=V.str (aac "falls"))=true:=by decide +kernel
  rw [z1]
  have F2:=hF rfl
  refine fE ?_
  refine⟨_,rfl,t,_,1,_,rfl,rfl,b8.of ht,rfl,_,rfl,a,R,_,rfl,ha,by rw [F2.len],?_⟩
  exact⟨true,rfl,fE ⟨_,rfl,t,_,1,_,rfl,rfl,b8.of ht,rfl,a,R,rfl,ha,F2.pos,F2.bd,true,rfl,fE ⟨_,rfl,_,rfl,_,rfl,t,_,1,_,rfl,rfl,b8.of ht,rfl,lt,lr,a,ws,us,D,rs,w,R,rfl,T,ha,F2,fun H2 s2=>q H2 s2⟩⟩⟩
 | false =>
  have z1:decide (gJ false=V.str (aac "falls"))=false:=by decide +kernel
  rw [z1]
  have R2:=hR rfl
  refine bh ?_
  have z2:(!decide (gJ false=V.str (aac "round")))=false:=by decide +kernel
  refine⟨_,rfl,t,_,0,_,rfl,rfl,b8.of ht,rfl,rfl,_,rfl,?_⟩
  rw [z2]
  refine bh ?_
  refine⟨_,rfl,t,_,1,_,rfl,rfl,b8.of ht,rfl,_,rfl,lr,_,rfl,.inl (aB.of T.mq),a,R,_,rfl,ha,by rw [R2.len,T.lD,zu],_,rfl,?_⟩
  refine bh ?_
  exact⟨_,rfl,t,_,1,_,rfl,rfl,b8.of ht,rfl,a,R,rfl,ha,R2.pos,R2.bd,true,rfl,fE ⟨_,rfl,_,rfl,_,rfl,t,_,1,_,rfl,rfl,b8.of ht,rfl,_,rfl,lt,lr,a,ws,us,D,rs,w,R,rfl,T,ha,R2,fun H2 s2=>q H2 s2⟩⟩
end
section
variable {P:aa4} {w:abu} {K:aaa} {mg:Str→Option aae} {base:Heap} {f:aaD} {fd:abo} {c:Cl}
theorem lM:ax ["_law_script","_law_names","_law_place","_law_rules","_law_book","_law_table","_law_first","_law_again"] ["_law_script"] (aq oJ):=⟨rfl,rfl,rfl,by decide +kernel,rfl,by decide +kernel,by decide +kernel⟩
theorem OA (F:cY K "law" "law" oJ f fd) (jx:cV P w K mg base "_law_sheet" 4 ["_law_script"] (Eh K)) (lO:cV P w K mg base "read_book" 9 ["text"] (HF K c)) (jy:cV P w K mg base "_law_lines" 1 ["_law_names","_law_place","_law_rules"] (A7 K)) (gw:cV P w K mg base "_law_effects" 1 ["_law_names","_law_rules"] (Ml K))
  (ml:cV P w K mg base "weights" 5 ["book"] (IY K c)) (gM:cV P w K mg base "_law_told" 3 ["_law_table","_law_rules","_law_found","_law_many"] (EC K)) (aW:mg "len"=none):aY P w K mg base cS 10 f fd ["_law_script"] (D9 K):=by
 refine F.ok lM (fun vs H Q E h=>?_) (fun cx A outer s H vs Q E hr h=>?_)
 ·obtain⟨a,ns,rfl,_⟩:=h
  rfl
 obtain⟨s0,ns,rfl,hS,DS,q⟩:=h
 refine⟨_,(ae (B6 (ao jx (hr.mono (by decide)) rfl (aa (pv 0) af)) (fS rfl (a8 (aH (i:=1) lM.nd rfl (aaQ rfl)) (a8 (aH (i:=2) lM.nd rfl (aaQ rfl)) (a8 (aH (i:=3) lM.nd rfl (aaQ rfl)) dI)))))
 (ae (aA (i:=4) lM.nd rfl (aaQ rfl) (ao lO (hr.mono (by decide)) rfl (aa (ao jy (hr.mono (by decide)) rfl (aa (pv 1) (aa (pv 2) (aa (pv 3) af)))) af)))
 (ae (aA (i:=5) lM.nd rfl (aaQ rfl) (ao gw (hr.mono (by decide)) rfl (aa (pv 1) (aa (pv 3) af))))
 (ae (aA (i:=6) lM.nd rfl (aaQ rfl) (ao ml (hr.mono (by decide)) rfl (aa (pv 4) af)))
 (ae (aV (dH (bV (ao gM (hr.mono (by decide)) rfl (aa (pv 5) (aa (pv 3) (aa (pv 6) (aa (aE av rfl aW aaH (aa (pv 1) af)) af)))))))
 (ah (ay d5))
 aC)
 (ae (a7 (ck aaC aaV aaY bg (aw aN (pv 6) aj (fun _ _=>rfl)) (aa aj af)))
 (ae (a7 (Nb aaC aeA PySem.F.type_list_reverse Co (aw aN (pv 6) aj (fun _ _=>rfl))))
 (ae (aA (i:=7) lM.nd rfl (aaQ rfl) (ao ml (hr.mono (by decide)) rfl (aa (pv 4) af)))
 (ah (ay (mZ (eG cP (aw aN (pv 7) aj (fun _ _=>rfl)) (aw aN (pv 6) aj (fun _ _=>rfl)) (aF _)) (mY (ao gM (hr.mono (by decide)) rfl (aa (pv 5) (aa (pv 3) (aa (pv 7) (aa (aE av rfl aW aaH (aa (pv 1) af)) af))))))))))))))))),?_⟩
 refine⟨_,rfl,s0,ns,rfl,hS,DS,fun t ln lr zs place rs us H1 s1 ht yX mq pr T=>?_⟩
 refine⟨t,_,rfl,b8.of ht,rfl,_,_,rfl,_,_,rfl,_,_,rfl,rfl,?_⟩
 refine⟨_,rfl,_,rfl,_,rfl,ln,lr,zs,place,rs,us,rfl,yX,mq,pr,T,fun H2 s2=>?_⟩
 have hfew:=T.few
 have Jr:=T.many
 have lR:(dt zs rs rs.length).length=rs.length:=by unfold dt;rw [Lm9,aax]
 have lK:(nO zs place).length=zs.length+1:=by
  unfold nO
  rw [aab,aab,Lm9,Lm9,aaF,aa9]
  have:=T.pl
  show _+1+_=_
  omega
 have lL:(cI zs place rs).length=zs.length+1+rs.length:=by unfold cI;rw [aab,Lm9,lK,lR]
 have hJ:=AY (cI zs place rs) 250 (A8 T)
 refine⟨cI zs place rs,vi zs place rs,rfl,fun e=>?_,fun l hl=>KG (Iv T KH (by decide) (by decide) (by decide) (by decide) l hl),?_,KW T,fun bk H3 s3 B=>?_⟩
 ·rw [e] at lL
  have lL:0=zs.length+1+rs.length:=lL
  omega
 ·rw [lL] at hJ
  have:(zs.length+1+rs.length) * (250+1)≤14 * 251:=acZ (by omega) (by omega)
  omega
 rw [(ye zs place rs).1,(ye zs place rs).2] at B
 have Le:=ag.trans s2 s3
 refine⟨_,rfl,_,rfl,ln,lr,zs,rs,us,rfl,Le _ _ yX,Le _ _ mq,L2.Paired.cj pr fun _ _ z=>z.same Le,hfew,Jr,fun r hr=>⟨(T.ok r hr).l1,(T.ok r hr).l2⟩,fun du H4 s4 TD=>?_⟩
 obtain⟨ld,ws,rfl,nld,hld,pd⟩:=TD
 have RU:=s4 _ _ (Le _ _ yX)
 have B4:=B.keep (Kp.same s4)
 have zd:=aat pd
 rw [Lm9] at zd
 have lRs:(Ej zs rs).length=rs.length:=by unfold Ej;rw [Lm9,aax]
 have O6:∀r∈Ej zs rs,r.put.length≤4∧r.take.length≤4:=fun r hr=>by
  unfold Ej at hr
  obtain⟨i,hi,rfl⟩:=aah.mp hr
  have hP:=iC (i:=i) T.sm (tY T (aaz.mp hi))
  show(fm (cN i) ((aU zs i (rowAt rs i)).map gY)).put.length≤_∧(fm (cN i) ((aU zs i (rowAt rs i)).map gY)).take.length≤_
  rw [fI]
  have z3:=(f7 (n:=3) hP).1
  have z0:=(f7 (n:=0) hP).1
  show((dR 3 _).map bare).length≤_∧((dR 0 _).map bare).length≤_
  rw [Lm9,Lm9]
  exact⟨by omega,by omega⟩
 have eD:f6 (nO zs place) (Ej zs rs)=rs.map (gD zs.length):=(KZ T).symm
 have Lf:∀row∈rs.map (gD zs.length),row.length=zs.length:=fun row jk=>by
  obtain⟨r,_,rfl⟩:=aah.mp jk
  unfold gD
  split <;> simp
 have RV:∀row∈rs.map (gD zs.length),row.length=zs.length∧∀i∈row,sm i:=fun row jk=>⟨Lf row jk,fun i hi=>by
  rw [← eD] at jk
  obtain⟨r,hr,rfl⟩:=aah.mp jk
  obtain⟨z,_,rfl⟩:=aah.mp hi
  have h:=O6 r hr
  exact NY (by omega) (by omega)⟩
 have Yv:∀e∈rs.map (gD zs.length),La.Bd 2 e:=fun e he x hx=>by
  rw [← eD] at he
  obtain⟨r,hr,rfl⟩:=aah.mp he
  obtain⟨z,_,rfl⟩:=aah.mp hx
  have h:=O6 r hr
  unfold Ie
  have a1:=abp (fun f:Fc=>decide (f.k=z)) r.put
  have a2:=abp (fun f:Fc=>decide (f.k=z)) r.take
  omega
 have Yw:Bk.passing (nO zs place)=zs:=Em zs place
 have eF:aP (Ej zs rs)=B2 rs:=takes_all
 have lD:(rs.map (gD zs.length)).length=rs.length:=Lm9 ..
 have Yx:(rs.map (gD zs.length)).length=(B2 rs).length:=by rw [lD];unfold B2;rw [Lm9]
 have Yy:C9 K H4 ld lr ws us (rs.map (gD zs.length)) rs zs.length:=⟨hld,L2.Paired.cj pd fun _ _ z=>z.row,s4 _ _ (Le _ _ mq),L2.Paired.cj pr fun _ _ z=>(z.same Le).same s4,lD,Lf,fun r hr=>(RV r hr).2,Jr,hfew⟩
 have S3:∀(H':Hp) (Q':VK),ag H4 H'→Ob H' Q' (La.mw (La.iK (B2 rs) (rs.map (gD zs.length))) zs.length) (La.told (B2 rs) (rs.map (gD zs.length)) zs.length)→IY K c [bk] H' Q' E:=fun H' Q' sm hq=>by
  refine⟨bk,H2,nO zs place,Ej zs rs,rfl,B4.keep (Kp.same sm),by omega,by omega,O6,by rw [Yw];exact hfew,?_⟩
  rw [eF,eD,Yw]
  exact hq
 have hF:=fun h=>La.Oc (w:=zs.length) Yx Lf Yv hfew h
 have hR:=fun h=>La.Od (w:=zs.length) Yx Lf Yv hfew h
 generalize La.mw (La.iK (B2 rs) (rs.map (gD zs.length))) zs.length=b at S3 hF hR
 have RX:(La.told (B2 rs) (rs.map (gD zs.length)) zs.length).length≤8:=by
  cases b with
  | true=>rw [(hF rfl).len];omega
  | false=>rw [(hR rfl).len,lD];exact Jr
 generalize La.told (B2 rs) (rs.map (gD zs.length)) zs.length=R at S3 hF hR RX
 refine⟨_,rfl,S3 _ _ (ag.refl _) fun t1 p1 H5 s5 nt1 Yz Fh EE=>?_⟩
 refine⟨_,rfl,_,rfl,_,rfl,_,rfl,ln,_,rfl,.inl (aB.of (s5 _ _ RU)),ld,lr,t1,p1,ws,us,_,rs,zs.length,R,b,(by rw [Lm9];rfl),Yy.same s5,Fh,EE,hF,hR,fun H6 s6=>⟨_,rfl,bh ?_⟩⟩
 have YA:=s6 _ _ Fh
 have O3:=s6 _ _ EE
 have s46:=ag.trans s5 s6
 have SR:t1≠p1:=fun z=>by rw [z,EE] at Fh;cases Fh
 refine⟨_,rfl,t1,_,1,_,rfl,rfl,b8.of YA,rfl,.inl ⟨rfl,_,aB.of O3⟩,p1,_,_,rfl,rfl,O3,fj (by rw [Lm9];omega),?_⟩
 have s47:=ag.aJ s46 Yz (.lst (R.map V.int++[V.int 5]))
 have YB:upd H6 p1 (.lst (R.map V.int++[V.int 5])) t1=some (.tup [gJ b,.ref p1]):=by rw [ar SR];exact YA
 refine⟨_,rfl,t1,_,1,_,rfl,rfl,b8.of YB,rfl,.inl ⟨rfl,_,aB.of ab⟩,p1,_,rfl,rfl,ab,?_⟩
 have YC:=ag.aJ s47 Yz (.lst (R.map V.int++[V.int 5]).reverse)
 refine⟨_,rfl,S3 _ _ YC fun t2 p2 H8 s8 nt2 np2 ka Au=>?_⟩
 have YD:=ag.trans YC s8
 have ht8:H8 t1=some (.tup [gJ b,.ref p1]):=s8 _ _ (by rw [ar SR];exact YB)
 refine⟨_,rfl,t2,_,0,_,rfl,rfl,b8.of ka,rfl,_,rfl,t1,_,0,_,rfl,rfl,b8.of ht8,rfl,rfl,_,rfl,?_⟩
 rw [show decide (gJ b=gJ b)=true from decide_eq_true rfl]
 exact fE ⟨_,rfl,_,rfl,_,rfl,_,rfl,ln,_,rfl,.inl (aB.of (YD _ _ RU)),ld,lr,t2,p2,ws,us,_,rs,zs.length,R,b,(by rw [Lm9];rfl),Yy.same YD,ka,Au,hF,hR,fun H9 s9=>q _⟩
end
end fq
namespace fq
open PySem L2 eJ Bk
open PySem.W (nsIn findIn keepIn mg_of isFn mroIn)
set_option maxHeartbeats 4000000
def bJ (K:aaa) (x:Str) (st:Stmt) (f:aaD) (fd:abo):Prop:=nsIn K aaX x=some (some (.ref f))∧cY K x x st f fd
section
variable {P:aa4} {w:abu} {K:aaa} {mg:Str→Option aae} {base h:Heap} {x:Str} {k:Nat} {ps:List Str} {sp:Sp} {f:aaD} {fd:abo} {st:Stmt}
def MJ (ps:List Str) (x:Str) (st:Stmt):Prop:=∀(kV doc pm:aae) (an:Option aaD) (cx ct:aae) (us:List aae),us.length=ps.length→bindArgs (acu x x (iQ st) (gE st) (aq st) .none kV doc pm an cx ct) ⟨us,[]⟩=pure (ps.zip us)
theorem OB (X:K.In h) (G:h.Ns aaX mg) (F:bJ K x st f fd) (o:aY P w K mg base cS k f fd ps sp) (b:MJ ps x st):cV P w K mg base x k ps sp:=⟨_,_,o,F.2.binds b,F.2.2,mg_of X G F.1⟩
theorem b0 {Pr:List aae→Prop} (h:Pr []):∀us:List aae,us.length=0→Pr us:=fun us e=>by cases us;exact h;cases e
theorem bC {n:Nat} {Pr:List aae→Prop} (h:∀q us,us.length=n→Pr (q::us)):∀us:List aae,us.length=n+1→Pr us:=fun us e=>by
 cases us
 ·cases e
 ·exact h _ _ (Nat.succ.inj e)
theorem b1 {Pr:List aae→Prop} (h:∀u0,Pr [u0]):∀us:List aae,us.length=1→Pr us:=bC fun q=>b0 (h q)
theorem b2 {Pr:List aae→Prop} (h:∀u0 u1,Pr [u0,u1]):∀us:List aae,us.length=2→Pr us:=bC fun q=>b1 (h q)
theorem b3 {Pr:List aae→Prop} (h:∀u0 u1 u2,Pr [u0,u1,u2]):∀us:List aae,us.length=3→Pr us:=bC fun q=>b2 (h q)
theorem b4 {Pr:List aae→Prop} (h:∀u0 u1 u2 u3,Pr [u0,u1,u2,u3]):∀us:List aae,us.length=4→Pr us:=bC fun q=>b3 (h q)
end
theorem all_mk {l:aeL} {w:abu} {K:aaa} {h:Heap} {mg:Str→Option aae} {fa dY cw cC dZ f_0 f_1 f_2 f_3 f_4 f_5 f_6 f_7 f_8 f_9 V9 Wa Wb Wc Wd We Wf Wg Wh Wi Wj Wk Wl Wm Wn Wo Wq Wr Ws Wt Wu Wv Ww Wx Wy Wz WA WB WC WD WE WG WH WI WJ WK WL WM WN WO WQ WR WS WT WU WV OC eS ip gx ir:aaD} (X:K.In h) (G:h.Ns aaX mg) (hfa:mg "law"=some (.ref fa))
  {uE FT rM Dv Js Dw uF FU uG FV y7 vJ BC Jt oP BD BE y8 y9 BF BG Dx zb BH vK vL zc zi vM zj BI rN Ju FW BJ vN BK zm zq zx uH FX FY Lg FZ Dy zA vO F0 Jv qD F3 uI zB zC BL vP vQ uJ vR:abo} {OD Jw:Option aaD} {OE:Array (Option aae)} {OG Jy Jz JA Dz JB:aae}
  {zD zE xi xj oQ lP:Tok}
  {jz jA uK:aaD}
  {uL uM uN uO uP uQ uR DA DB DC DD DE:Tok}
  {mG mH xk:Nat}
  {vS vT F4:Array (Option aae)}
  (Lh:nsIn K aaX "Same"=some (some (.ref dY)))
  (F5:nsIn K aaX "Unlike"=some (some (.ref cw)))
  (Li:nsIn K aaX "Rule"=some (some (.ref cC)))
  (Lj:nsIn K aaX "Book"=some (some (.ref dZ)))
  (RY:nsIn K aaX "law"=some (some (.ref OC)))
  (zF:findIn K (.ref dY) "__init__"=some (some (.ref eS)))
  (uS:findIn K (.ref cw) "__init__"=some (some (.ref eS)))
  (zG:findIn K (.ref cC) "__init__"=some (some (.ref ip)))
  (vU:findIn K (.ref cC) "calls"=some (some (.ref gx)))
  (zH:findIn K (.ref dZ) "__init__"=some (some (.ref ir)))
  (mI:isFn K (.ref eS)=true)
  (vV:isFn K (.ref ip)=true)
  (uT:isFn K (.ref gx)=true)
  (vW:isFn K (.ref ir)=true)
  (lQ:bJ K "is_name_sign" gf f_0 uE)
  (xl:bJ K "is_name" qh f_1 FT)
  (jH:bJ K "is_small_word" fu f_2 rM)
  (uU:bJ K "name_end" nB f_3 Dv)
  (BM:bJ K "pieces" ud f_4 Js)
  (uV:bJ K "piece_at" nC f_5 Dw)
  (lS:bJ K "arguments_at" gi f_6 uF)
  (xm:bJ K "fact_at" qi f_7 FU)
  (lT:bJ K "row_of_facts" gh f_8 uG)
  (xo:bJ K "is_told" qj f_9 FV)
  (oR:bJ K "told_lines" i7 V9 y7)
  (mJ:bJ K "line_pieces" g9 Wa vJ)
  (qW:bJ K "read_kind" ku Wb BC)
  (BN:bJ K "parted" ue Wc Jt)
  (gN:bJ K "check_two_names" dS Wd oP)
  (qX:bJ K "read_look" kC We BD)
  (qY:bJ K "read_pair" kE Wf BE)
  (oS:bJ K "read_looks" i8 Wg y8)
  (oT:bJ K "read_pairs" i9 Wh y9)
  (qZ:bJ K "read_part" kz Wi BF)
  (q0:bJ K "read_rule" ky Wj BG)
  (uW:bJ K "is_great" nA Wk Dx)
  (oU:bJ K "open_names" jb Wl zb)
  (q5:bJ K "hear_line" kO Wm BH)
  (mK:bJ K "check_facts" g7 Wn vK)
  (mO:bJ K "check_taken" g8 Wo vL)
  (oV:bJ K "check_call" jd Wq zc)
  (oW:bJ K "said_names" je Wr zi)
  (mP:bJ K "check_names" hV Ws vM)
  (oX:bJ K "whole_book" jc Wt zj)
  (rb:bJ K "read_book" kL Wu BI)
  (jI:bJ K "passing_kinds" ft Wv rN)
  (BO:bJ K "effect" ub Ww Ju)
  (xq:bJ K "effects" qe Wx FW)
  (rf:bJ K "_law_cell" kU Wy BJ)
  (mQ:bJ K "_law_digits" hW Wz vN)
  (rg:bJ K "_law_name" kW WA BK)
  (oY:bJ K "_law_whole" jh WB zm)
  (oZ:bJ K "_law_sheet" jf WC zq)
  (o9:bJ K "_law_lines" jg WD zx)
  (lU:bJ K "_law_effects" gj WE uH)
  (xr:bJ K "divisor" qb WG FX)
  (xt:bJ K "slimmed" qc WH FY)
  (EF:bJ K "mixed" yp WI Lg)
  (xu:bJ K "cleared" qd WJ FZ)
  (uX:bJ K "_law_sum" nD WK Dy)
  (pb:bJ K "table_line" i6 WL zA)
  (mS:bJ K "first_above" g6 WM vO)
  (xw:bJ K "leaving" qg WN F0)
  (BP:bJ K "way_on" uc WO Jv)
  (iJ:bJ K "falls_or_round" d8 WQ qD)
  (xx:bJ K "weights" qf WR F3)
  (lV:bJ K "_law_bounded" gk WS uI)
  (pe:bJ K "_law_falls" ji WT zB)
  (ph:bJ K "_law_round" jj WU zC)
  (rh:bJ K "_law_told" kY WV BL)
  (RZ:K.lookup OC=some ⟨OG,OD,.func (acu "law" "law" (iQ oJ) (gE oJ) (aq oJ) .none Jy Jz JA Jw Dz JB),OE⟩)
  (R0:ad7 K Dz "law"=true)
  (R1:keepIn K (.ref OC)=true)
  (mT:cY K "__init__" "Look.__init__" kr eS vP)
  (mU:cY K "__init__" "Rule.__init__" kI ip vQ)
  (gy:cY K "calls" "Rule.calls" ja gx uJ)
  (mV:cY K "__init__" "Book.__init__" kJ ir vR)
  (Ll:abS K dY afd=true)
  (Lm:ab0 K dY=true)
  (Ln:acj K dY=true)
  (Lo:findIn K (.ref dY) "__setattr__"=some (some (.builtin "object.__setattr__")))
  (Lp:acI K dY=true)
  (Lq:keepIn K (.ref dY)=true)
  (BQ:findIn K (.ref dY) "left"=some none)
  (zI:findIn K (.ref dY) "right"=some none)
  (S4:findIn K (.ref dY) "__class__"=some (some (.builtin "object.__class__")))
  (S5:mroIn K dY (.type "object")=some true)
  (F6:abS K cw afd=true)
  (F7:ab0 K cw=true)
  (F8:acj K cw=true)
  (F9:findIn K (.ref cw) "__setattr__"=some (some (.builtin "object.__setattr__")))
  (Ga:acI K cw=true)
  (Gb:keepIn K (.ref cw)=true)
  (vX:findIn K (.ref cw) "left"=some none)
  (uY:findIn K (.ref cw) "right"=some none)
  (O7:findIn K (.ref cw) "__class__"=some (some (.builtin "object.__class__")))
  (O8:mroIn K cw (.type "object")=some true)
  (Lr:abS K cC afd=true)
  (Ls:ab0 K cC=true)
  (Lu:acj K cC=true)
  (Lv:findIn K (.ref cC) "__setattr__"=some (some (.builtin "object.__setattr__")))
  (Lw:acI K cC=true)
  (Lx:keepIn K (.ref cC)=true)
  (zJ:findIn K (.ref cC) "title"=some none)
  (zK:findIn K (.ref cC) "taken"=some none)
  (BR:findIn K (.ref cC) "kept"=some none)
  (zM:findIn K (.ref cC) "looks"=some none)
  (zN:findIn K (.ref cC) "given"=some none)
  (BS:findIn K (.ref cC) "told"=some none)
  (zO:findIn K (.ref cC) "names"=some none)
  (S6:findIn K (.ref cC) "__class__"=some (some (.builtin "object.__class__")))
  (S7:mroIn K cC (.type "object")=some true)
  (Ly:abS K dZ afd=true)
  (Lz:ab0 K dZ=true)
  (LC:acj K dZ=true)
  (LD:findIn K (.ref dZ) "__setattr__"=some (some (.builtin "object.__setattr__")))
  (LF:acI K dZ=true)
  (LG:keepIn K (.ref dZ)=true)
  (zP:findIn K (.ref dZ) "kinds"=some none)
  (zQ:findIn K (.ref dZ) "rules"=some none)
  (S8:findIn K (.ref dZ) "__class__"=some (some (.builtin "object.__class__")))
  (S9:mroIn K dZ (.type "object")=some true)
  (hn:afl K (.builtin "object.__class__") "__get__"=some (some (.builtin "getset_descriptor.__get__")))
  (TN:PySem.W.takesIn K (.builtin "object.__class__")=some true)
  (LH:nsIn K aaX "GREAT"=some (some (.str pN zD)))
  (LI:nsIn K aaX "SMALL"=some (some (.str gU zE)))
  (Gd:nsIn K aaX "FIGURES"=some (some (.str Kv xi)))
  (Ge:nsIn K aaX "LONGEST"=some (some (.int 12 xj)))
  (zR:nsIn K aaX "LINE_MARKS"=some (some (.str AK oQ)))
  (BU:nsIn K aaX "RULE_WORD"=some (some (.str (S fV) lP)))
  (R3:nsIn K aaX "abs"=some none)
  (R4:nsIn K aaX "all"=some none)
  (OH:nsIn K aaX "bool"=some none)
  (OI:nsIn K aaX "dict"=some none)
  (BV:nsIn K aaX "enumerate"=some none)
  (R5:nsIn K aaX "int"=some none)
  (zS:nsIn K aaX "isinstance"=some none)
  (R6:nsIn K aaX "len"=some none)
  (OJ:nsIn K aaX "list"=some none)
  (R7:nsIn K aaX "max"=some none)
  (LJ:nsIn K aaX "range"=some none)
  (DF:nsIn K aaX "reversed"=some none)
  (R8:nsIn K aaX "str"=some none)
  (LK:nsIn K aaX "tuple"=some none)
  (R9:nsIn K aaX "zip"=some none)
  (zT:afy K aaX "KIND_WORDS"=some (some (.ref jz)))
  (zU:K.lookup jz=some ⟨.type "tuple",none,.seq #[abL "passing" uL,abL "lasting" uM] mG,vS⟩)
  (zV:afy K aaX "PART_WORDS"=some (some (.ref jA)))
  (pj:K.lookup jA=some ⟨.type "tuple",none,.seq #[abL "take" uN,abL "keep" uO,abL "look" uP,abL "put" uQ,abL "tell" uR] mH,vT⟩)
  (JC:afy K aaX "COUNTS"=some (some (.ref uK)))
  (JD:K.lookup uK=some ⟨.type "tuple",none,.seq #[abL "0" DA,abL "1" DB,abL "2" DC,abL "3" DD,abL "4" DE] xk,F4⟩)
  : ∃fd:abo,(∀(s:aak) (v:aae),BindsTo s fd ⟨[v],[]⟩ [("_law_script",v)])∧∀base:Heap,K.In base→base.Ns aaX mg→aY l.prog w K mg base cS 10 fa fd ["_law_script"] (D9 K):=by
 have e:=hfa.symm.trans (mg_of X G RY)
 cases e
 have Sa:=Cq (st:=oJ) RZ R0 R1
 have mW:=mT.binds (ps:=["self","left","right"]) fun _ _ _ _ _ _=>b3 fun _ _ _=>rfl
 have vY:=mU.binds (ps:=["self","title","parts"]) fun _ _ _ _ _ _=>b3 fun _ _ _=>rfl
 have uZ:=gy.binds (ps:=["self"]) fun _ _ _ _ _ _=>b1 fun _=>rfl
 have vZ:=mV.binds (ps:=["self","kinds","rules"]) fun _ _ _ _ _ _=>b3 fun _ _ _=>rfl
 have LM:=mg_of X G Lh
 have Gf:=mg_of X G F5
 have LN:=mg_of X G Li
 have LO:=mg_of X G Lj
 have Sb:=abg X G R3
 have Sd:=abg X G R4
 have OK:=abg X G OH
 have OL:=abg X G OI
 have dc:=abg X G BV
 have MK:=abg X G R5
 have pq:=abg X G zS
 have dk:=abg X G R6
 have zW:=abg X G OJ
 have Se:=abg X G R7
 have gO:=abg X G LJ
 have DG:=abg X G DF
 have Sf:=abg X G R8
 have EG:=abg X G LK
 have Sg:=abg X G R9
 have EH:=mg_of X G LH
 have EI:=mg_of X G LI
 have Gg:=mg_of X G Gd
 have Gh:=mg_of X G Ge
 have zX:=mg_of X G zR
 have rj:=mg_of X G BU
 refine⟨acu "law" "law" (iQ oJ) (gE oJ) (aq oJ) .none Jy Jz JA Jw Dz JB,fun s v=>.of_eq rfl,fun base _ _=>?_⟩
 have cl {x:Str} {k:Nat} {ps:List Str} {sp:Sp} {f:aaD} {fd:abo} {st:Stmt} (F:bJ K x st f fd) (o:aY l.prog w K mg base cS k f fd ps sp) (b:MJ ps x st):=OB X G F o b
 let cc:Cl:=⟨dY,cw,cC,dZ⟩
 have JE:AL K cc.same:=⟨⟨Ll,Lm,Ln,Lo⟩,BQ,zI⟩
 have BW:AL K cc.unlike:=⟨⟨F6,F7,F8,F9⟩,vX,uY⟩
 have jB:xX K cc.rule:=⟨⟨Lr,Ls,Lu,Lv⟩,zJ,zK,BR,zM,zN,BS,zO⟩
 have zY:HB K cc.book:=⟨⟨Ly,Lz,LC,LD⟩,zP,zQ⟩
 have zZ:=afk X G zT
 have v8:∀H:Hp,b8 K H jz [tx [112,97,115,115,105,110,103],tx [108,97,115,116,105,110,103]]:=fun H=>.inr ⟨_,_,mG,zU,rfl,rfl,(by show 2≤aao;decide),rfl,.cons (fo (by decide +kernel)) (.cons (fo (by decide +kernel)) (.nil))⟩
 have z6:=afk X G zV
 have v9:∀H:Hp,b8 K H jA [tx [116,97,107,101],tx [107,101,101,112],tx [108,111,111,107],tx [112,117,116],tx [116,101,108,108]]:=fun H=>.inr ⟨_,_,mH,pj,rfl,rfl,(by show 5≤aao;decide),rfl,.cons (fo (by decide +kernel)) (.cons (fo (by decide +kernel)) (.cons (fo (by decide +kernel)) (.cons (fo (by decide +kernel)) (.cons (fo (by decide +kernel)) (.nil)))))⟩
 have JF:=afk X G JC
 have Gi:∀H:Hp,b8 K H uK [tx [48],tx [49],tx [50],tx [51],tx [52]]:=fun H=>.inr ⟨_,_,xk,JD,rfl,rfl,(by show 5≤aao;decide),rfl,.cons (fo (by decide +kernel)) (.cons (fo (by decide +kernel)) (.cons (fo (by decide +kernel)) (.cons (fo (by decide +kernel)) (.cons (fo (by decide +kernel)) (.nil)))))⟩
 have cJ:=cl lQ (rG lQ.2 EI ⟨zE,rfl⟩ EH ⟨zD,rfl⟩ Gg ⟨xi,rfl⟩) fun _ _ _ _ _ _=>b1 fun _=>rfl
 have cR:=cl xl (Dd xl.2 cJ dk Sd Gh ⟨xj,rfl⟩) fun _ _ _ _ _ _=>b1 fun _=>rfl
 have bq:=cl jH (qm jH.2 cR EI ⟨zE,rfl⟩) fun _ _ _ _ _ _=>b1 fun _=>rfl
 have nE:=cl uU (Bu uU.2 cJ dk) fun _ _ _ _ _ _=>b2 fun _ _=>rfl
 have uj:=cl BM (FD BM.2 nE dk) fun _ _ _ _ _ _=>b2 fun _ _=>rfl
 have bw:=cl uV (Bw uV.2 dk) fun _ _ _ _ _ _=>b2 fun _ _=>rfl
 have gm:=cl lS (rH lS.2 bw cR EG) fun _ _ _ _ _ _=>b2 fun _ _=>rfl
 have qo:=cl xm (De xm.2 bw bq gm) fun _ _ _ _ _ _=>b2 fun _ _=>rfl
 have gn:=cl lT (rJ lT.2 qo dk) fun _ _ _ _ _ _=>b1 fun _=>rfl
 have qp:=cl xo (Df xo.2) fun _ _ _ _ _ _=>b1 fun _=>rfl
 have jr:=cl oR (vo oR.2 qp) fun _ _ _ _ _ _=>b1 fun _=>rfl
 have ib:=cl mJ (ui mJ.2 uj zX ⟨oQ,rfl⟩) fun _ _ _ _ _ _=>b1 fun _=>rfl
 have lz:=cl qW (yA qW.2 bq dk MK zZ v8 JF Gi) fun _ _ _ _ _ _=>b1 fun _=>rfl
 have dU:=cl BN (FF BN.2) fun _ _ _ _ _ _=>b2 fun _ _=>rfl
 have bP:=cl gN (nJ gN.2 cR dk) fun _ _ _ _ _ _=>b1 fun _=>rfl
 have mX:aY l.prog w K mg base cS 1 _ _ ["self","left","right"] (iU K):=yF mT
 have Dg:Kf l.prog w K mg base "Same" dY 1 ["self","left","right"] (iU K):=⟨_,_,⟨Lp,zF,mI,Lq⟩,mX,mW,LM⟩
 have um:Kf l.prog w K mg base "Unlike" cw 1 ["self","left","right"] (iU K):=⟨_,_,⟨Ga,uS,mI,Gb⟩,mX,mW,Gf⟩
 have la:=cl qX (yH (c:=cc) qX.2 bP JE BW Dg um) fun _ _ _ _ _ _=>b1 fun _=>rfl
 have lh:=cl qY (yJ qY.2 bP) fun _ _ _ _ _ _=>b1 fun _=>rfl
 have jl:=cl oS (vq (c:=cc) oS.2 dU la) fun _ _ _ _ _ _=>b1 fun _=>rfl
 have jm:=cl oT (vw oT.2 dU lh) fun _ _ _ _ _ _=>b1 fun _=>rfl
 have lj:=cl qZ (yL (c:=cc) qZ.2 jl jm gn) fun _ _ _ _ _ _=>b2 fun _ _=>rfl
 have ly:=cl q0 (yM (c:=cc) q0.2 bw bq dU lj rj ⟨lP,rfl⟩ z6 v9 ⟨_,pj,rfl,rfl⟩) fun _ _ _ _ _ _=>b1 fun _=>rfl
 have ef:=cl uW (By uW.2 EH ⟨zD,rfl⟩) fun _ _ _ _ _ _=>b1 fun _=>rfl
 have jn:=cl oU (vx oU.2 ef zW) fun _ _ _ _ _ _=>b1 fun _=>rfl
 have wa:aY l.prog w K mg base cS 3 _ _ ["self","title","parts"] (rW K cc):=yP (c:=cc) mU jB jn
 have Dj:Kf l.prog w K mg base "Rule" cC 3 ["self","title","parts"] (rW K cc):=⟨_,_,⟨Lw,zG,vV,Lx⟩,wa,vY,LN⟩
 have fR:Met l.prog w K mg base cC "calls" 1 ["self"] (rZ K cc):=⟨_,_,jB.cl,⟨vU,uT,gy.2⟩,vz (c:=cc) gy jB dk,uZ⟩
 have wb:aY l.prog w K mg base cS 1 _ _ ["self","kinds","rules"] (rY K cc):=yR (c:=cc) mV zY
 have Dk:Kf l.prog w K mg base "Book" dZ 1 ["self","kinds","rules"] (rY K cc):=⟨_,_,⟨LF,zH,vW,LG⟩,wb,vZ,LO⟩
 have lG:=cl q5 (yS (c:=cc) q5.2 jB ib ly lz Dj rj ⟨lP,rfl⟩) fun _ _ _ _ _ _=>b3 fun _ _ _=>rfl
 have ie:=cl mK (uq mK.2 OL dk) fun _ _ _ _ _ _=>b2 fun _ _=>rfl
 have ig:=cl mO (uu mO.2) fun _ _ _ _ _ _=>b2 fun _ _=>rfl
 have jq:=cl oV (vA (c:=cc) oV.2 jB fR) fun _ _ _ _ _ _=>b2 fun _ _=>rfl
 have jo:=cl oW (vB (c:=cc) oW.2 jB JE BW) fun _ _ _ _ _ _=>b1 fun _=>rfl
 have ij:=cl mP (uw (c:=cc) mP.2 jB jo ef) fun _ _ _ _ _ _=>b1 fun _=>rfl
 have js:=cl oX (vC (c:=cc) oX.2 jB ie ig jq ij Dk) fun _ _ _ _ _ _=>b2 fun _ _=>rfl
 have lO:=cl rb (yT (c:=cc) rb.2 jr lG js) fun _ _ _ _ _ _=>b1 fun _=>rfl
 have cg:=cl jI (qw (c:=cc) jI.2 zY) fun _ _ _ _ _ _=>b1 fun _=>rfl
 have uy:=cl BO (FN (c:=cc) BO.2 jB dk) fun _ _ _ _ _ _=>b2 fun _ _=>rfl
 have qC:=cl xq (Dl (c:=cc) xq.2 zY cg uy) fun _ _ _ _ _ _=>b1 fun _=>rfl
 have lH:=cl rf (yV rf.2 dk) fun _ _ _ _ _ _=>b2 fun _ _=>rfl
 have eR:=cl mQ (uz mQ.2) fun _ _ _ _ _ _=>b2 fun _ _=>rfl
 have lJ:=cl rg (yW rg.2) fun _ _ _ _ _ _=>b2 fun _ _=>rfl
 have fM:=cl oY (vD oY.2 x8 pq zW MK OK dk) fun _ _ _ _ _ _=>b2 fun _ _=>rfl
 have jx:=cl oZ (vE oZ.2 lH eR lJ gO dk zW DG dc) fun _ _ _ _ _ _=>b1 fun _=>rfl
 have jy:=cl o9 (vF o9.2 dk Sf dc) fun _ _ _ _ _ _=>b3 fun _ _ _=>rfl
 have gw:=cl lU (rK lU.2 dk gO) fun _ _ _ _ _ _=>b2 fun _ _=>rfl
 have qy:=cl xr (Dn xr.2 Sb) fun _ _ _ _ _ _=>b1 fun _=>rfl
 have eo:=cl xt (Dp xt.2 qy zW) fun _ _ _ _ _ _=>b1 fun _=>rfl
 have yZ:=cl EF (Jq EF.2 Sg) fun _ _ _ _ _ _=>b4 fun _ _ _ _=>rfl
 have mj:=cl xu (Dr xu.2 eo yZ) fun _ _ _ _ _ _=>b3 fun _ _ _=>rfl
 have eC:=cl uX (BB uX.2 gO dk) fun _ _ _ _ _ _=>b2 fun _ _=>rfl
 have ju:=cl pb (vG pb.2 gO) fun _ _ _ _ _ _=>b3 fun _ _ _=>rfl
 have ik:=cl mS (uB mS.2 dc) fun _ _ _ _ _ _=>b1 fun _=>rfl
 have qz:=cl xw (Ds xw.2 dc) fun _ _ _ _ _ _=>b3 fun _ _ _=>rfl
 have uC:=cl BP (FQ BP.2 dc gO) fun _ _ _ _ _ _=>b4 fun _ _ _ _=>rfl
 have eB:=cl iJ (oO iJ.2 ju ik qz uC eo mj dk gO dc) fun _ _ _ _ _ _=>b2 fun _ _=>rfl
 have ml:=cl xx (Du (c:=cc) xx.2 zY qC cg fR eB dk dc) fun _ _ _ _ _ _=>b1 fun _=>rfl
 have dX:=cl lV (rL lV.2) fun _ _ _ _ _ _=>b1 fun _=>rfl
 have jv:=cl pe (vH pe.2 eC gO dk) fun _ _ _ _ _ _=>b3 fun _ _ _=>rfl
 have jw:=cl ph (vI ph.2 eC gO dk Se) fun _ _ _ _ _ _=>b4 fun _ _ _ _=>rfl
 have gM:=cl rh (y6 rh.2 fM dX jv jw pq EG dk) fun _ _ _ _ _ _=>b4 fun _ _ _ _=>rfl
 exact OA (c:=cc) Sa jx lO jy gw ml gM dk
theorem walk {l:aeL} {q:aa4} {loose:List Str} {XP:(Str→Option aae)→Heap→Prop} {YP:abu→Heap→Prop} {d:DefRec} {K:Params→aaa} (hn:l.most=some 63) (PL:d.params.defaults=[])
  (hY:∀(w:abu) (h:Heap),YP w h→(K w.params).In h)
  (F:∀(w:abu) (mg:Str→Option aae) (fa:aaD) (h:Heap),(K w.params).In h→h.Ns aaX mg→mg d.name=some (.ref fa) →
   ∃fd:abo,(∀(s:aak) (u:aae),BindsTo s fd ⟨[u],[]⟩ [("_law_script",u)])∧∀base:Heap,(K w.params).In base→base.Ns aaX mg→aY l.prog w (K w.params) mg base cS 10 fa fd ["_law_script"] (D9 (K w.params))) :
  PySem.W.WalkO q loose XP YP l.row.toRowW d [] (fun f vs=>PySem.call f vs) :=
 L2.Ke (n:=63) (k:=10) (x:="_law_script") (CX:=fun _=>cS) (sp:=fun w=>D9 (K w.params)) hn (by decide) PL ⟨rfl,by decide,by decide,rfl⟩ hY F (fun _ _ a ns hl _ hS=>⟨a,ns,rfl,hS,hl,fun _=>rfl⟩) fun _ _ _ _ _ z=>z
end fq
open PySem PySem.W PyProof.Rows
def PySem.W.Fast.tw9844941818785563503:Nat:=0
def PySem.W.Fast.tw13733995777064313116:Nat:=0
def PySem.W.Fast.tw7721664435994570764:Nat:=0
def PySem.W.Fast.tw6886268142768041816:Nat:=0
def PySem.W.Fast.tw5392390010392602969:Nat:=0
def PySem.W.Fast.tw15622735406652914328:Nat:=0
def PySem.W.Fast.tw8856320198320594648:Nat:=0
def PySem.W.Fast.tw1048414527700103283:Nat:=0
def PySem.W.Fast.tw10930770014162114409:Nat:=0
def PySem.W.Fast.tw17008360561238286714:Nat:=0
def PySem.W.Fast.tw8775565890845433736:Nat:=0
def PySem.W.Fast.tw5921256693342764248:Nat:=0
def PySem.W.Fast.tw18245920008749949769:Nat:=0
def PySem.W.Fast.tw3069881124006854108:Nat:=0
def PySem.W.Fast.tw11073445173828270478:Nat:=0
def PySem.W.Fast.tw8385766682966080129:Nat:=0
def PySem.W.Fast.tw2353986258346221077:Nat:=0
def PySem.W.Fast.tw10338072753041001856:Nat:=0
def PySem.W.Fast.tw9467956792424322403:Nat:=0
def PySem.W.Fast.tw1268344341096069367:Nat:=0
def PySem.W.Fast.tw9028305339311852847:Nat:=0
def PySem.W.Fast.tw897374427046750343:Nat:=0
def PySem.W.Fast.tw6730253648616684456:Nat:=0
def PySem.W.Fast.tw14833285188943420181:Nat:=0
def PySem.W.Fast.tw13238992458204380396:Nat:=0
def PySem.W.Fast.tw6791955359648402347:Nat:=0
def PySem.W.Fast.tw16428157291934626300:Nat:=0
def PySem.W.Fast.tw11745349938109615906:Nat:=0
def PySem.W.Fast.tw17415800760384147706:Nat:=0
def PySem.W.Fast.tw7918675135524305803:Nat:=0
def PySem.W.Fast.tw10707749795338797691:Nat:=0
def PySem.W.Fast.tw3142253576888241599:Nat:=0
def PySem.W.Fast.tw940098337657458334:Nat:=0
def PySem.W.Fast.tw8990939402731616160:Nat:=0
def PySem.W.Fast.tw3613012955826087087:Nat:=0
def PySem.W.Fast.tw8251246830108691809:Nat:=0
def PySem.W.Fast.tw10077391494467006345:Nat:=0
def PySem.W.Fast.tw16886814946065300922:Nat:=0
def PySem.W.Fast.tw10777161415118994536:Nat:=0
def PySem.W.Fast.tw1355897305532666422:Nat:=0
def PySem.W.Fast.tw815733233748926655:Nat:=0
def PySem.W.Fast.tw17648951077589072226:Nat:=0
def PySem.W.Fast.tw15538852837960431466:Nat:=0
def PySem.W.Fast.tw9767663754493427355:Nat:=0
def PySem.W.Fast.tw1241979054313155365:Nat:=0
def PySem.W.Fast.tw6360114891761352954:Nat:=0
def PySem.W.Fast.tw4697047893549211520:Nat:=0
def PySem.W.Fast.tw8011572773854505093:Nat:=0
def PySem.W.Fast.tw16819092408133463421:Nat:=0
def PySem.W.Fast.tw5133461008753115272:Nat:=0
def PySem.W.Fast.tw14753878455832610741:Nat:=0
def PySem.W.Fast.tw7003428416849212865:Nat:=0
def PySem.W.Fast.tw14723325298236842658:Nat:=0
def PySem.W.Fast.tw6907533811558158828:Nat:=0
def PySem.W.Fast.tw12514964664801655411:Nat:=0
def PySem.W.Fast.tw9037575119990580317:Nat:=0
def PySem.W.Fast.tw2353912935135084294:Nat:=0
def PySem.W.Fast.tw5854372042431501909:Nat:=0
def PySem.W.Fast.tw10994514549064184509:Nat:=0
def PySem.W.Fast.tw18220932537351845477:Nat:=0
def PySem.W.Fast.tw11129899441145857479:Nat:=0
def PySem.W.Fast.tw11608816992897320070:Nat:=0
def PySem.W.Fast.tw3057650181798008022:Nat:=0
def PySem.W.Fast.tw12506112438937011964:Nat:=0
def PySem.W.Fast.tw12252710985045454449:Nat:=0
def PySem.W.Fast.tw295826621739090138:Nat:=0
def PySem.W.Fast.tw12692053506722608855:Nat:=0
def PySem.W.Fast.tw7217338549998209422:Nat:=0
def PySem.W.Fast.tw4277428696305464784:Nat:=0
def PySem.W.Fast.tw4992652960722672164:Nat:=0
def PySem.W.Fast.tw6120218603621461291:Nat:=0
def PySem.W.Fast.tw1788497109754485614:Nat:=0
def PySem.W.Fast.tw15802232900450913098:Nat:=0
def PySem.W.Fast.tw225951078245565440:Nat:=0
def PySem.W.Fast.tw14488889415859442892:Nat:=0
def PySem.W.Fast.tw9425018734997996394:Nat:=0
def PySem.W.Fast.tw5920214226139277165:Nat:=0
def PySem.W.Fast.tw12523163981623468335:Nat:=0
def PySem.W.Fast.tw13923302413435208579:Nat:=0
def PySem.W.Fast.tw13523761156982401606:Nat:=0
def PySem.W.Fast.tw4137189607498841316:Nat:=0
def PySem.W.Fast.tw5442642145222101286:Nat:=0
def PySem.W.Fast.tw14999353898082056365:Nat:=0
def PySem.W.Fast.tw9692924253370687331:Nat:=0
def PySem.W.Fast.tw16626969975208771238:Nat:=0
def PySem.W.Fast.tw16754351366107364273:Nat:=0
def PySem.W.Fast.tw13686156328943152718:Nat:=0
def PySem.W.Fast.tw6455654763906497580:Nat:=0
def PySem.W.Fast.tw341415218155324477:Nat:=0
def PySem.W.Fast.tw2383990590228417333:Nat:=0
def PySem.W.Fast.tw10581033741784281766:Nat:=0
def PySem.W.Fast.tw8068863003243972940:Nat:=0
def PySem.W.Fast.tw8551080921923288842:Nat:=0
def PySem.W.Fast.tw14654603590785840153:Nat:=0
def PySem.W.Fast.tw3575747037022243871:Nat:=0
def PySem.W.Fast.tw14213933106538971953:Nat:=0
def PySem.W.Fast.tw17771655150907341396:Nat:=0
def PySem.W.Fast.tw9489944750876934406:Nat:=0
def PySem.W.Fast.tw6463484310378720413:Nat:=0
def PySem.W.Fast.tw15666968040918675274:Nat:=0
def PySem.W.Fast.tw16410503710314217120:Nat:=0
def PySem.W.Fast.tw17891940387393888481:Nat:=0
def PySem.W.Fast.tw12150715552383626531:Nat:=0
def PySem.W.Fast.tw16670092646239464570:Nat:=0
def PySem.W.Fast.tw667638711953221497:Nat:=0
def PySem.W.Fast.tw675806862902880498:Nat:=0
def PySem.W.Fast.tw12828937745430711375:Nat:=0
def PySem.W.Fast.tw15735671022769508264:Nat:=0
def PySem.W.Fast.tw2765732959108801286:Nat:=0
def PySem.W.Fast.tw16904302587893616495:Nat:=0
def PySem.W.Fast.tw4429985805656651761:Nat:=0
def PySem.W.Fast.tw5645139678014283944:Nat:=0
def PySem.W.Fast.tw10468944266088699273:Nat:=0
def PySem.W.Fast.tw5223664539382250878:Nat:=0
def PySem.W.Fast.tw13778594917444601208:Nat:=0
def PySem.W.Fast.tw1225065854366594922:Nat:=0
def PySem.W.Fast.tw13215457771092679298:Nat:=0
def PySem.W.Fast.tw3294436223208609706:Nat:=0
def PySem.W.Fast.tw8853087947861797286:Nat:=0
def PySem.W.Fast.tw14569619610328296367:Nat:=0
def PySem.W.Fast.tw17800529832965089667:Nat:=0
def PySem.W.Fast.tw8303938055760127818:Nat:=0
def PySem.W.Fast.tw9785974113218056247:Nat:=0
def PySem.W.Fast.tw14719001099169318176:Nat:=0
def PySem.W.Fast.tw14466852127355337468:Nat:=0
def PySem.W.Fast.tw12091703011705780570:Nat:=0
def PySem.W.Fast.tw5989330548152155115:Nat:=0
def PySem.W.Fast.tw14533149798145033766:Nat:=0
def PySem.W.Fast.tw18285827615215822787:Nat:=0
def PySem.W.Fast.tw8165642663819867278:Nat:=0
def PySem.W.Fast.tw2085888356635706135:Nat:=0
def PySem.W.Fast.tw12061384928624982641:Nat:=0
def PySem.W.Fast.tw1563945827114821970:Nat:=0
def PySem.W.Fast.tw12805600135180794168:Nat:=0
def PySem.W.Fast.tw13849379934541941640:Nat:=0
def PySem.W.Fast.tw11205819058992442689:Nat:=0
def PySem.W.Fast.tw8452299286927214716:Nat:=0
def PySem.W.Fast.tw11038954062830545181:Nat:=0
def PySem.W.Fast.tw6077203349724025108:Nat:=0
def PySem.W.Fast.tw422998101318238410:Nat:=0
def PySem.W.Fast.tw4946922124828132048:Nat:=0
def PySem.W.Fast.tw13695873654995961769:Nat:=0
def PySem.W.Fast.tw7044585945062110002:Nat:=0
def PySem.W.Fast.tw14015485368851270081:Nat:=0
def PySem.W.Fast.tw11787210196517348016:Nat:=0
def PySem.W.Fast.tw11101483577129239450:Nat:=0
def PySem.W.Fast.tw8119205056787292722:Nat:=0
def PySem.W.Fast.tw16970906669015492491:Nat:=0
def PySem.W.Fast.tw6328173054406830010:Nat:=0
def PySem.W.Fast.tw13374798828575992327:Nat:=0
def PySem.W.Fast.tw7098995239196488775:Nat:=0
def PySem.W.Fast.tw17344423658589449138:Nat:=0
def PySem.W.Fast.tw5010546988304206272:Nat:=0
def PySem.W.Fast.tw783830508540966247:Nat:=0
def PySem.W.Fast.tw11567532999256457295:Nat:=0
def PySem.W.Fast.tw4058692633189092665:Nat:=0
def PySem.W.Fast.tw13795913904546549512:Nat:=0
def PySem.W.Fast.tw14169098665544437674:Nat:=0
def PySem.W.Fast.tw9949443338427193534:Nat:=0
def PySem.W.Fast.tw3405120057559423437:Nat:=0
def PySem.W.Fast.tw13336040396892839769:Nat:=0
def PySem.W.Fast.tw10150335045478976323:Nat:=0
def PySem.W.Fast.tw11075962436525534206:Nat:=0
def PySem.W.Fast.tw6554727945267594225:Nat:=0
def PySem.W.Fast.tw13046184697623762194:Nat:=0
def PySem.W.Fast.tw12492503043701899728:Nat:=0
def PySem.W.Fast.tw6808263650367309794:Nat:=0
def PySem.W.Fast.tw8767131183669055671:Nat:=0
def PySem.W.Fast.tw12821857088871000988:Nat:=0
def PySem.W.Fast.tw8043557908001949648:Nat:=0
def PySem.W.Fast.tw1019647386130322154:Nat:=0
def PySem.W.Fast.tw3080941844618340169:Nat:=0
def PySem.W.Fast.tw12682840014798126200:Nat:=0
def PySem.W.Fast.tw12892973337310581847:Nat:=0
def PySem.W.Fast.tw6437929306156415761:Nat:=0
def PySem.W.Fast.tw6826160046789107214:Nat:=0
def PySem.W.Fast.tw10521070327348872537:Nat:=0
def PySem.W.Fast.tw10702131395897814330:Nat:=0
def PySem.W.Fast.tw18201364161551295955:Nat:=0
def PySem.W.Fast.tw12946735256418233155:Nat:=0
def PySem.W.Fast.tw1830100327471713725:Nat:=0
def PySem.W.Fast.tw9934390908746073935:Nat:=0
def PySem.W.Fast.tw15448698881430105511:Nat:=0
def PySem.W.Fast.tw14248227839568972014:Nat:=0
def PySem.W.Fast.tw6637545150400103908:Nat:=0
def PySem.W.Fast.tw10517524446898047525:Nat:=0
def PySem.W.Fast.tw9817765927540977172:Nat:=0
def PySem.W.Fast.tw18395646968213548790:Nat:=0
def PySem.W.Fast.tw15200552105503707012:Nat:=0
def PySem.W.Fast.tw18028836658888839719:Nat:=0
def PySem.W.Fast.tw4100272306519886555:Nat:=0
def PySem.W.Fast.tw9475244158049698602:Nat:=0
def PySem.W.Fast.tw13768516298770344686:Nat:=0
def PySem.W.Fast.tw12042545369360842295:Nat:=0
def PySem.W.Fast.tw17916115829241188118:Nat:=0
def PySem.W.Fast.tw4895096544787453112:Nat:=0
def PySem.W.Fast.tw15084868892574586619:Nat:=0
def PySem.W.Fast.tw3602893920585124392:Nat:=0
def PySem.W.Fast.tw9271854476227952876:Nat:=0
def PySem.W.Fast.tw17155990683167275767:Nat:=0
def PySem.W.Fast.tw11488593908324610654:Nat:=0
def PySem.W.Fast.tw151190650850304393:Nat:=0
def PySem.W.Fast.tw11649011135989930998:Nat:=0
def PySem.W.Fast.tw9976685905513100795:Nat:=0
def PySem.W.Fast.tw13538560785757433749:Nat:=0
def PySem.W.Fast.tw3492813071121242954:Nat:=0
def PySem.W.Fast.tw18078951241652007822:Nat:=0
def PySem.W.Fast.tw9537555800688378740:Nat:=0
def PySem.W.Fast.tw2494316503178676342:Nat:=0
def PySem.W.Fast.tw11952019339037533485:Nat:=0
def PySem.W.Fast.tw11244069549319933701:Nat:=0
def PySem.W.Fast.tw12223415293242758076:Nat:=0
def PySem.W.Fast.tw8939034206701385662:Nat:=0
def PySem.W.Fast.tw6884815541828283678:Nat:=0
def PySem.W.Fast.tw5857774003332676931:Nat:=0
def PySem.W.Fast.tw16153313073803696596:Nat:=0
def PySem.W.Fast.tw10799011320212417809:Nat:=0
def PySem.W.Fast.tw8181952622317442335:Nat:=0
def PySem.W.Fast.tw13198482218539368496:Nat:=0
def PySem.W.Fast.tw9577922864252357745:Nat:=0
def PySem.W.Fast.tw704788996184011034:Nat:=0
def PySem.W.Fast.tw15077398551503097805:Nat:=0
def PySem.W.Fast.tw12749234217796448162:Nat:=0
def PySem.W.Fast.tw10736198211526298054:Nat:=0
def PySem.W.Fast.tw16887033977173537305:Nat:=0
def PySem.W.Fast.tw4578987936056177073:Nat:=0
def PySem.W.Fast.tw6292436083033503596:Nat:=0
def PySem.W.Fast.tw11519222198120322664:Nat:=0
def PySem.W.Fast.tw11382883191780169646:Nat:=0
def PySem.W.Fast.tw13588140654796744201:Nat:=0
def PySem.W.Fast.tw1440250267760844477:Nat:=0
def PySem.W.Fast.tw15448665419283327552:Nat:=0
def PySem.W.Fast.tw136662769761321858:Nat:=0
def PySem.W.Fast.tw1739523487918743750:Nat:=0
def PySem.W.Fast.tw1707703733996224873:Nat:=0
def PySem.W.Fast.tw16348793976274254255:Nat:=0
def PySem.W.Fast.tw18011449640515461590:Nat:=0
def PySem.W.Fast.tw34474596924811287:Nat:=0
def PySem.W.Fast.tw6871556266173811742:Nat:=0
def PySem.W.Fast.tw7332383290477278776:Nat:=0
def PySem.W.Fast.tw1614461722389759006:Nat:=0
def PySem.W.Fast.tw297469591848469114:Nat:=0
def PySem.W.Fast.tw6797883356590770531:Nat:=0
def PySem.W.Fast.tw3394620514937651669:Nat:=0
def PySem.W.Fast.tw2498174409834255838:Nat:=0
def PySem.W.Fast.tw3782511689386598214:Nat:=0
def PySem.W.Fast.tw970682767855862575:Nat:=0
def PySem.W.Fast.tw12252140269253057706:Nat:=0
def PySem.W.Fast.tw6863415004582646173:Nat:=0
def PySem.W.Fast.tw6197130633192255260:Nat:=0
def PySem.W.Fast.tw18231590597342198836:Nat:=0
def PySem.W.Fast.tw9005724740757400285:Nat:=0
def PySem.W.Fast.tw7257977383693286953:Nat:=0
def PySem.W.Fast.tw12511192617922268768:Nat:=0
def PySem.W.Fast.tw17565063945726286453:Nat:=0
def PySem.W.Fast.tw13405087948833841691:Nat:=0
def PySem.W.Fast.tw2651641924209669019:Nat:=0
def PySem.W.Fast.tw9144148328821410110:Nat:=0
def PySem.W.Fast.tw10884166481923167020:Nat:=0
def PySem.W.Fast.tw15543578551874681689:Nat:=0
def PySem.W.Fast.tw5833326445392723701:Nat:=0
def PySem.W.Fast.tw14673825934073688718:Nat:=0
def PySem.W.Fast.tw7094478165365622501:Nat:=0
def PySem.W.Fast.tw5821753016114359398:Nat:=0
def PySem.W.Fast.tw584396478709926184:Nat:=0
def PySem.W.Fast.tw9457735806248259459:Nat:=0
def PySem.W.Fast.tw7019700160357298031:Nat:=0
def PySem.W.Fast.tw17949435081317128160:Nat:=0
def PySem.W.Fast.tw13775246218306125851:Nat:=0
def PySem.W.Fast.tw11144407012679879439:Nat:=0
def PySem.W.Fast.tw9003719033006296907:Nat:=0
def PySem.W.Fast.tw8505563424872808183:Nat:=0
def PySem.W.Fast.tw8553680627150501222:Nat:=0
def PySem.W.Fast.tw15622522783067891928:Nat:=0
def PySem.W.Fast.tw9096268987104656424:Nat:=0
def PySem.W.Fast.tw8352455069499335171:Nat:=0
def PySem.W.Fast.tw5601492815110066962:Nat:=0
def PySem.W.Fast.tw5932879889914408452:Nat:=0
def PySem.W.Fast.tw1737258866340242678:Nat:=0
def PySem.W.Fast.tw16689935286754097900:Nat:=0
def PySem.W.Fast.tw9771662295928788792:Nat:=0
def PySem.W.Fast.tw17419009950954375094:Nat:=0
def PySem.W.Fast.tw2525346791624235855:Nat:=0
def PySem.W.Fast.tw4791224346264564185:Nat:=0
def PySem.W.Fast.tw13899616279621076011:Nat:=0
def PySem.W.Fast.tw3353852347245962750:Nat:=0
def PySem.W.Fast.tw15709678579208792769:Nat:=0
def PySem.W.Fast.tw6482587983984753336:Nat:=0
def PySem.W.Fast.tw9858422575961304506:Nat:=0
def PySem.W.Fast.tw15484771628217110204:Nat:=0
def PySem.W.Fast.tw1833855506646331983:Nat:=0
def PySem.W.Fast.tw14387597401471480472:Nat:=0
def PySem.W.Fast.tw7887656331472129869:Nat:=0
def PySem.W.Fast.tw9939466069276715359:Nat:=0
def PySem.W.Fast.tw17475065482307940679:Nat:=0
def PySem.W.Fast.tw9561574931147091921:Nat:=0
def PySem.W.Fast.tw12519150083149599002:Nat:=0
def PySem.W.Fast.tw10736302290350999004:Nat:=0
def PySem.W.Fast.tw11609914909910815480:Nat:=0
def PySem.W.Fast.tw5936267342513253538:Nat:=0
def PySem.W.Fast.tw11152916142686848568:Nat:=0
def PySem.W.Fast.tw7744189329611135444:Nat:=0
def PySem.W.Fast.tw834397321157743879:Nat:=0
def PySem.W.Fast.tw18351311801863631138:Nat:=0
def PySem.W.Fast.tw2465102891102235020:Nat:=0
def PySem.W.Fast.tw1590918199248057206:Nat:=0
def PySem.W.Fast.tw5867571622578773023:Nat:=0
def PySem.W.Fast.tw18280226849484654709:Nat:=0
def PySem.W.Fast.tw16258296189914283539:Nat:=0
def PySem.W.Fast.tw4796613469714951753:Nat:=0
def PySem.W.Fast.tw1624061517714320336:Nat:=0
def PySem.W.Fast.tw15340787381054259316:Nat:=0
def PySem.W.Fast.tw17320606155648425487:Nat:=0
def PySem.W.Fast.tw4831364330862281200:Nat:=0
def PySem.W.Fast.tw2783484387092686983:Nat:=0
def PySem.W.Fast.tw5226417577896957932:Nat:=0
def PySem.W.Fast.tw6050122447715575732:Nat:=0
def PySem.W.Fast.tw17192465576647321766:Nat:=0
def PySem.W.Fast.tw6604720312321903247:Nat:=0
def PySem.W.Fast.tw16278555652132123204:Nat:=0
def PySem.W.Fast.tw18315027422318728496:Nat:=0
def PySem.W.Fast.tw14987877320272936160:Nat:=0
def PySem.W.Fast.tw18107701761180074922:Nat:=0
def PySem.W.Fast.tw17343249043603344324:Nat:=0
def PySem.W.Fast.tw427871269778543917:Nat:=0
def PySem.W.Fast.tw15641898159896161152:Nat:=0
def PySem.W.Fast.tw8831936829848887456:Nat:=0
def PySem.W.Fast.tw9861939871549424537:Nat:=0
def PySem.W.Fast.tw14542838107688934439:Nat:=0
def PySem.W.Fast.tw8429494235428368325:Nat:=0
def PySem.W.Fast.tw12756411178175464537:Nat:=0
def PySem.W.Fast.tw6676571043760630443:Nat:=0
def PySem.W.Fast.tw17328924478583627299:Nat:=0
def PySem.W.Fast.tw14754945402739425010:Nat:=0
def PySem.W.Fast.tw680846921301622888:Nat:=0
def PySem.W.Fast.tw4002087829390047910:Nat:=0
def PySem.W.Fast.tw86668802605540495:Nat:=0
def PySem.W.Fast.tw2091673361294409016:Nat:=0
def PySem.W.Fast.tw238345914157155279:Nat:=0
def PySem.W.Fast.tw8247254968855534557:Nat:=0
def PySem.W.Fast.tw11996068212584796921:Nat:=0
def PySem.W.Fast.tw593144618611219484:Nat:=0
def PySem.W.Fast.tw13602490528087058895:Nat:=0
def PySem.W.Fast.tw7785471793409774859:Nat:=0
def PySem.W.Fast.tw16141842608748059957:Nat:=0
def PySem.W.Fast.tw14461773054194680921:Nat:=0
def PySem.W.Fast.tw3952354267236868143:Nat:=0
def PySem.W.Fast.tw13206875456238878480:Nat:=0
def PySem.W.Fast.tw3157600124483787959:Nat:=0
def PySem.W.Fast.tw5354666311249972388:Nat:=0
def PySem.W.Fast.tw16797581520278297863:Nat:=0
def PySem.W.Fast.tw9537085929838791103:Nat:=0
def PySem.W.Fast.tw4032600113088692634:Nat:=0
def PySem.W.Fast.tw10150038826151399714:Nat:=0
def PySem.W.Fast.tw14962160629729557443:Nat:=0
def PySem.W.Fast.tw15164298025319645821:Nat:=0
def PySem.W.Fast.tw5051684596152777181:Nat:=0
def PySem.W.Fast.tw12156976518239284769:Nat:=0
def PySem.W.Fast.tw9927490650187708890:Nat:=0
def PySem.W.Fast.tw9098207031906825551:Nat:=0
def PySem.W.Fast.tw459114303016896835:Nat:=0
def PySem.W.Fast.tw295269210786915907:Nat:=0
def PySem.W.Fast.tw12453803428452139449:Nat:=0
def PySem.W.Fast.tw14162391492206080351:Nat:=0
def PySem.W.Fast.tw697355883594458584:Nat:=0
def PySem.W.Fast.tw687704226656373352:Nat:=0
def PySem.W.Fast.tw2391358397046626737:Nat:=0
def PySem.W.Fast.tw17666486626089040903:Nat:=0
def PySem.W.Fast.tw7219105350587351692:Nat:=0
def PySem.W.Fast.tw14244723430257742942:Nat:=0
def PySem.W.Fast.tw8514606672408497159:Nat:=0
def PySem.W.Fast.tw12394427091882326135:Nat:=0
def PySem.W.Fast.tw9830491544511964049:Nat:=0
def PySem.W.Fast.tw10771367618669975170:Nat:=0
def PySem.W.Fast.tw3101134945554329497:Nat:=0
def PySem.W.Fast.tw17035504863940738591:Nat:=0
def PySem.W.Fast.tw450249171996665471:Nat:=0
def PySem.W.Fast.tw15973346662618607051:Nat:=0
def PySem.W.Fast.tw5864069028908487369:Nat:=0
def PySem.W.Fast.tw1527724592526261221:Nat:=0
def PySem.W.Fast.tw10270621629425542803:Nat:=0
def PySem.W.Fast.tw10530762503897975498:Nat:=0
def PySem.W.Fast.tw7604757813898391900:Nat:=0
def PySem.W.Fast.tw13932702556660772646:Nat:=0
def PySem.W.Fast.tw6656295149162498974:Nat:=0
def PySem.W.Fast.tw7654697663042675867:Nat:=0
def PySem.W.Fast.tw8119919401186583577:Nat:=0
def PySem.W.Fast.tw12971171865012245002:Nat:=0
def PySem.W.Fast.tw15041622869550219832:Nat:=0
def PySem.W.Fast.tw10828212651471308163:Nat:=0
def PySem.W.Fast.tw9012595896239597799:Nat:=0
def PySem.W.Fast.tw17557905062226643879:Nat:=0
def PySem.W.Fast.tw11623112322064026493:Nat:=0
def PySem.W.Fast.tw13612601302545067108:Nat:=0
def PySem.W.Fast.tw17896711523655569395:Nat:=0
def PySem.W.Fast.tw652267894029213867:Nat:=0
def PySem.W.Fast.tw3585308882446349082:Nat:=0
def PySem.W.Fast.tw185311843215023034:Nat:=0
def PySem.W.Fast.tw4880682448929361193:Nat:=0
def PySem.W.Fast.tw8095154135242611431:Nat:=0
def PySem.W.Fast.tw9758162691691375464:Nat:=0
def PySem.W.Fast.tw10592304656613671476:Nat:=0
def PySem.W.Fast.tw14930492008410563149:Nat:=0
def PySem.W.Fast.tw287409988973484359:Nat:=0
def PySem.W.Fast.tw160709892091822003:Nat:=0
def PySem.W.Fast.tw3874327743774766519:Nat:=0
def PySem.W.Fast.tw2116743352059784548:Nat:=0
def PySem.W.Fast.tw10536824274787777315:Nat:=0
def PySem.W.Fast.tw17292473629775694820:Nat:=0
def PySem.W.Fast.tw17441137531235104897:Nat:=0
def PySem.W.Fast.tw6485507004874167163:Nat:=0
def PySem.W.Fast.tw10439718065271339652:Nat:=0
def PySem.W.Fast.tw12793841297719068475:Nat:=0
def PySem.W.Fast.tw13154894329627486235:Nat:=0
def PySem.W.Fast.tw3675734751562008411:Nat:=0
def PySem.W.Fast.tw8192568095104759109:Nat:=0
def PySem.W.Fast.tw3690479553405286241:Nat:=0
def PySem.W.Fast.tw1098055422339537959:Nat:=0
def PySem.W.Fast.tw11894085794017210706:Nat:=0
def PySem.W.Fast.tw9694426497045157384:Nat:=0
def PySem.W.Fast.tw2443362772391263544:Nat:=0
def PySem.W.Fast.tw7244722432858472866:Nat:=0
def PySem.W.Fast.tw8933202506662435274:Nat:=0
def PySem.W.Fast.tw16748237370991398672:Nat:=0
def PySem.W.Fast.tw11872570481956749163:Nat:=0
def PySem.W.Fast.tw17290246166437267891:Nat:=0
def PySem.W.Fast.tw2653816369827577772:Nat:=0
def PySem.W.Fast.tw13407954715298245571:Nat:=0
def PySem.W.Fast.tw12156983818238901821:Nat:=0
def PySem.W.Fast.tw6706791622065896493:Nat:=0
def PySem.W.Fast.tw17138705890499851930:Nat:=0
def PySem.W.Fast.tw8971174596446043352:Nat:=0
def PySem.W.Fast.tw6058509937503139402:Nat:=0
def PySem.W.Fast.tw2720463931281219894:Nat:=0
def PySem.W.Fast.tw15896006917807663279:Nat:=0
def PySem.W.Fast.tw2514656408019871052:Nat:=0
def PySem.W.Fast.tw5281626432012194985:Nat:=0
def PySem.W.Fast.tw14300257295585226630:Nat:=0
def PySem.W.Fast.tw1876977645859004186:Nat:=0
def PySem.W.Fast.tw11288357336883757137:Nat:=0
def PySem.W.Fast.tw9679242916016109362:Nat:=0
def PySem.W.Fast.tw9952446469166588318:Nat:=0
def PySem.W.Fast.tw12653413341175864834:Nat:=0
def PySem.W.Fast.tw8322555157094642601:Nat:=0
def PySem.W.Fast.tw8394786789060128049:Nat:=0
def PySem.W.Fast.tw3798688223591713613:Nat:=0
def PySem.W.Fast.tw4700554644182827261:Nat:=0
def PySem.W.Fast.tw15244551034227845171:Nat:=0
def PySem.W.Fast.tw10655942993892593502:Nat:=0
def PySem.W.Fast.tw3169664544863996098:Nat:=0
def PySem.W.Fast.tw538182088828522013:Nat:=0
def PySem.W.Fast.tw6624365352192716445:Nat:=0
def PySem.W.Fast.tw8283036649839999617:Nat:=0
def PySem.W.Fast.tw9257477585142540935:Nat:=0
def PySem.W.Fast.tw11370973876310611267:Nat:=0
def PySem.W.Fast.tw17359014762838221049:Nat:=0
def PySem.W.Fast.tw7916251840892278236:Nat:=0
def PySem.W.Fast.tw4385407423646595705:Nat:=0
def PySem.W.Fast.tw10978449638000511648:Nat:=0
def PySem.W.Fast.tw17742944857494418697:Nat:=0
def PySem.W.Fast.tw9521473510616151846:Nat:=0
def PySem.W.Fast.tw9797549359860146342:Nat:=0
def PySem.W.Fast.tw4678009246193016142:Nat:=0
def PySem.W.Fast.tw12818579654601982267:Nat:=0
def PySem.W.Fast.tw7017783857231603469:Nat:=0
def PySem.W.Fast.tw17761824763196744457:Nat:=0
def PySem.W.Fast.tw3059035908131416761:Nat:=0
def PySem.W.Fast.tw11254275864093408747:Nat:=0
def PySem.W.Fast.tw10698671635687485782:Nat:=0
def PySem.W.Fast.tw3559309164016288096:Nat:=0
def PySem.W.Fast.tw12698323652982337373:Nat:=0
def PySem.W.Fast.tw480567487972075030:Nat:=0
def PySem.W.Fast.tw17072059019670701095:Nat:=0
def PySem.W.Fast.tw7164499111372866307:Nat:=0
def PySem.W.Fast.tw6767267969724529820:Nat:=0
def PySem.W.Fast.tw11292135945975967332:Nat:=0
def PySem.W.Fast.tw14130832838284374887:Nat:=0
def PySem.W.Fast.tw9319124787062998715:Nat:=0
def PySem.W.Fast.tw10422914008959866953:Nat:=0
def PySem.W.Fast.tw11408203384349998792:Nat:=0
def PySem.W.Fast.tw7940764240393171260:Nat:=0
def PySem.W.Fast.tw4601136378279346849:Nat:=0
def PySem.W.Fast.tw10722225700991113522:Nat:=0
def PySem.W.Fast.tw4094262225667247999:Nat:=0
def PySem.W.Fast.tw17543326152682283791:Nat:=0
def PySem.W.Fast.tw12452214907315968780:Nat:=0
def PySem.W.Fast.tw763508501890991951:Nat:=0
def PySem.W.Fast.tw1321429216194458766:Nat:=0
def PySem.W.Fast.tw5395419332890394095:Nat:=0
def PySem.W.Fast.tw5731607936495846188:Nat:=0
def PySem.W.Fast.tw11335030231159896028:Nat:=0
def PySem.W.Fast.tw2553878279588334609:Nat:=0
def PySem.W.Fast.tw9591302178588406208:Nat:=0
def PySem.W.Fast.tw14056538965382109766:Nat:=0
def PySem.W.Fast.tw18316945900837595183:Nat:=0
def PySem.W.Fast.tw3807942951716065282:Nat:=0
def PySem.W.Fast.tw17351925554315127278:Nat:=0
def PySem.W.Fast.tw18051661327122293432:Nat:=0
def PySem.W.Fast.tw15579441944634767135:Nat:=0
def PySem.W.Fast.tw1003718218183672508:Nat:=0
def PySem.W.Fast.tw6782556662686860117:Nat:=0
def PySem.W.Fast.tw12638383091750900878:Nat:=0
def PySem.W.Fast.tw13718821700622362926:Nat:=0
def PySem.W.Fast.tw13543699624403450206:Nat:=0
def PySem.W.Fast.tw14679330175693479700:Nat:=0
def PySem.W.Fast.tw17253258008215002420:Nat:=0
def PySem.W.Fast.tw10452948339594088189:Nat:=0
def PySem.W.Fast.tw1186287754766868385:Nat:=0
def PySem.W.Fast.tw18245120411966101165:Nat:=0
def PySem.W.Fast.tw17656968939816354804:Nat:=0
def PySem.W.Fast.tw625097746871931890:Nat:=0
def PySem.W.Fast.tw10716202196537603746:Nat:=0
def PySem.W.Fast.tw14759094629149272275:Nat:=0
def PySem.W.Fast.tw11885992665054768618:Nat:=0
def PySem.W.Fast.tw14751827749836477354:Nat:=0
def PySem.W.Fast.tw1916669907966501165:Nat:=0
def PySem.W.Fast.tw6354530207378376526:Nat:=0
def PySem.W.Fast.tw5506016672914879983:Nat:=0
def PySem.W.Fast.tw4333758961700968652:Nat:=0
def PySem.W.Fast.tw8404542347703564996:Nat:=0
def PySem.W.Fast.tw5415121532886734998:Nat:=0
def PySem.W.Fast.tw13918793118132990197:Nat:=0
def PySem.W.Fast.tw16589382254848477888:Nat:=0
def PySem.W.Fast.tw11386315981398297230:Nat:=0
def PySem.W.Fast.tw12240849164882053674:Nat:=0
def PySem.W.Fast.tw14499557432866139699:Nat:=0
def PySem.W.Fast.tw774706188585850610:Nat:=0
def PySem.W.Fast.tw15107777125904337197:Nat:=0
def PySem.W.Fast.tw16221484506827657097:Nat:=0
def PySem.W.Fast.tw5196200408285154219:Nat:=0
def PySem.W.Fast.tw13111417712062837914:Nat:=0
def PySem.W.Fast.tw15905356200468386849:Nat:=0
def PySem.W.Fast.tw7061584064262580242:Nat:=0
def PySem.W.Fast.tw18332437336818866647:Nat:=0
def PySem.W.Fast.tw8377553559754785490:Nat:=0
def PySem.W.Fast.tw13772015783411948943:Nat:=0
def PySem.W.Fast.tw5276063610300253678:Nat:=0
def PySem.W.Fast.tw12113777948719379812:Nat:=0
def PySem.W.Fast.tw1780857786142577367:Nat:=0
def PySem.W.Fast.tw14240064918434228221:Nat:=0
def PySem.W.Fast.tw4633327900751111066:Nat:=0
def PySem.W.Fast.tw8657671175999243401:Nat:=0
def PySem.W.Fast.tw4606772569248431631:Nat:=0
def PySem.W.Fast.tw8868080868992387642:Nat:=0
def PySem.W.Fast.tw12319651470426877754:Nat:=0
def PySem.W.Fast.tw9323629150399913686:Nat:=0
def PySem.W.Fast.tw18191032138794917039:Nat:=0
def PySem.W.Fast.tw13685785446335645137:Nat:=0
def PySem.W.Fast.tw901960508526430013:Nat:=0
def PySem.W.Fast.tw8289327566568251004:Nat:=0
def PySem.W.Fast.tw15866536412526751839:Nat:=0
def PySem.W.Fast.tw18064016792403967935:Nat:=0
def PySem.W.Fast.tw698576062137762737:Nat:=0
def PySem.W.Fast.tw11307927403959372431:Nat:=0
def PySem.W.Fast.tw13848712729151910276:Nat:=0
def PySem.W.Fast.tw14003290178440447479:Nat:=0
def PySem.W.Fast.tw827847149411957632:Nat:=0
def PySem.W.Fast.tw3901939267766058725:Nat:=0
def PySem.W.Fast.tw12310892731392231987:Nat:=0
def PySem.W.Fast.tw1761021374885663776:Nat:=0
def PySem.W.Fast.tw5167059244921612425:Nat:=0
def PySem.W.Fast.tw4553653358857087899:Nat:=0
def PySem.W.Fast.tw1655065964721440818:Nat:=0
def PySem.W.Fast.tw7668583785017097640:Nat:=0
def PySem.W.Fast.tw15403458727473270897:Nat:=0
def PySem.W.Fast.tw5002262695005916693:Nat:=0
def PySem.W.Fast.tw8904724394127134225:Nat:=0
def PySem.W.Fast.tw6005440947892653813:Nat:=0
def PySem.W.Fast.tw1512518880236779670:Nat:=0
def PySem.W.Fast.tw17765283301255909082:Nat:=0
def PySem.W.Fast.tw8037845448615577442:Nat:=0
def PySem.W.Fast.tw3485296993037419641:Nat:=0
def PySem.W.Fast.tw7936286098104004528:Nat:=0
def PySem.W.Fast.tw5710689934575868682:Nat:=0
def PySem.W.Fast.tw1212965735574339944:Nat:=0
def PySem.W.Fast.tw11577676170886088649:Nat:=0
def PySem.W.Fast.tw2875340859991019696:Nat:=0
def PySem.W.Fast.tw8070592586951914103:Nat:=0
def PySem.W.Fast.tw3658302657778994745:Nat:=0
def PySem.W.Fast.tw4496264500863260105:Nat:=0
def PySem.W.Fast.tw9075860236058161527:Nat:=0
def PySem.W.Fast.tw12556166991155575189:Nat:=0
def PySem.W.Fast.tw16839296763587284851:Nat:=0
def PySem.W.Fast.tw16272430468524483871:Nat:=0
def PySem.W.Fast.tw6080282645148626398:Nat:=0
def PySem.W.Fast.tw4460438885361754942:Nat:=0
def PySem.W.Fast.tw16656598687643480623:Nat:=0
def PySem.W.Fast.tw4839249403178797355:Nat:=0
def PySem.W.Fast.tw18219652545497710004:Nat:=0
def PySem.W.Fast.tw1523543052579549061:Nat:=0
def PySem.W.Fast.tw16928545788601912818:Nat:=0
def PySem.W.Fast.tw2811201871475013667:Nat:=0
def PySem.W.Fast.tw3176944771931534364:Nat:=0
def PySem.W.Fast.tw10355884388712484804:Nat:=0
def PySem.W.Fast.tw6955148448116520738:Nat:=0
set_option maxRecDepth 100000 in
set_option maxHeartbeats 0 in
theorem PySem.Challenge.cw_poolrules_k34_weights_or_a_round_holds : PySem.Challenge.rw_poolrules_k34_weights_or_a_round.Holds := by
 w_on;o_law;k_head;(case hw=>w_witness2)
 k_fill
 refine fq.walk (l:=PySem.Challenge.rw_poolrules_k34_weights_or_a_round) rfl rfl (fun w h Y=>PySem.W.kIn_of Y) ?F
 case F =>
  intro w mg fa h KX G hmg
  refine' fq.all_mk KX G hmg ..
  all_goals first|k_is|exact L2.Cq (by k_is) (by k_is) (by k_is)|exact⟨by k_is,L2.Cq (by k_is) (by k_is) (by k_is)⟩|skip
